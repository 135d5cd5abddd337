/- Bytes read as items, plainly: what is written is read, what is read was written. -/
import Derived.Test.YteafbfhojhpbgaaDerT
namespace Go.Proofs.Yteafbfhojhpbgaa
open Go.ChangeShapes Go.WideShapes Go.ChangeAt Go.RowKit Gs
set_option linter.unusedVariables false

theorem rawG_go {b : List Int} {k cc : Nat} (h0 : hdS b = (k, cc, 0)) (h8 : k + cc ≤ 8192) (hm : k + cc ≤ b.length) :
    rawG b = if b[0]?.getD 0 = 48 then (match rawL ((b.drop k).take cc) with | some l => .ok (.mk 48 [] l) (k + cc) | none => .bad 71) else .ok (.mk (b[0]?.getD 0) ((b.drop k).take cc) []) (k + cc) := by
  have ho : (hdS b).2.2 = 0 := by rw [h0]
  rw [rawG, dif_pos ho, if_neg (by rw [h0]; simp only []; omega), dif_neg (by rw [h0]; simp only []; omega)]
  simp only [h0]
  rfl
theorem hdS_enc (t : Int) (ht : isTag t = true) (cc : Nat) (hc : cc ≤ 8192) (rest : List Int) : hdS (t :: (lenB cc ++ rest)) = (1 + (lenB cc).length, cc, 0) := by
  have e : hdS (t :: (lenB cc ++ rest)) = hdR (lenB cc ++ rest) := if_pos ht
  rw [e]
  unfold lenB
  by_cases h1 : cc < 128
  · rw [if_pos h1]
    show hdN (cc : Int) rest = _
    unfold hdN
    rw [if_pos (by omega)]
    simp
  rw [if_neg h1]
  by_cases h2 : cc < 256
  · rw [if_pos h2]
    show hdN 129 ((cc : Int) :: rest) = _
    unfold hdN
    rw [if_neg (by omega), if_pos rfl]
    show (if (cc : Int) < 128 then ((0, 0, 71) : Nat × Nat × Int) else (3, (cc : Int).toNat, 0)) = _
    rw [if_neg (by omega)]
    simp
  · rw [if_neg h2]
    show hdN 130 (((cc / 256 % 256 : Nat) : Int) :: ((cc % 256 : Nat) : Int) :: rest) = _
    unfold hdN
    rw [if_neg (by omega), if_neg (by omega), if_pos rfl]
    show (if 256 * ((cc / 256 % 256 : Nat) : Int) + ((cc % 256 : Nat) : Int) < 256 then ((0, 0, 71) : Nat × Nat × Int) else (4, (256 * ((cc / 256 % 256 : Nat) : Int) + ((cc % 256 : Nat) : Int)).toNat, 0)) = _
    have e2 : 256 * ((cc / 256 % 256 : Nat) : Int) + ((cc % 256 : Nat) : Int) = (cc : Int) := by omega
    rw [e2, if_neg (by omega)]
    simp
theorem tag_mod {t : Int} (h : isTag t = true) : t % 256 = t := by
  rcases isTag_cases h with rfl | rfl | rfl | rfl | rfl <;> rfl
theorem form_tag {x : It} (h : x.form = true) : isTag x.tag = true := by
  rw [form_is, Bool.and_eq_true] at h
  exact okB_tag h.1
theorem form_leaf {x : It} (h : x.form = true) (ht : x.tag ≠ 48) : x.l = [] := by
  rw [form_is, Bool.and_eq_true, if_neg ht] at h
  exact List.length_eq_zero_iff.1 (of_decide_eq_true h.2)
theorem form_seq {x : It} (h : x.form = true) (ht : x.tag = 48) : x.b = [] ∧ ∀ y ∈ x.l, y.form = true := by
  rw [form_is, Bool.and_eq_true, if_pos ht, ht, okB_48] at h
  exact ⟨List.length_eq_zero_iff.1 (of_decide_eq_true h.1), forms_all.1 h.2⟩
theorem encs_mem_le {l : List It} {x : It} (h : x ∈ l) : x.enc.length ≤ (encs l).length := by
  induction l with
  | nil => simp at h
  | cons y r ih =>
    rw [encs, List.length_append]
    rcases List.mem_cons.1 h with rfl | h
    · omega
    · have := ih h; omega

/-- What is written is read, whatever stands behind it. -/
theorem rawG_enc : ∀ x : It, x.form = true → x.enc.length ≤ 8192 → ∀ tail, rawG (x.enc ++ tail) = .ok x x.enc.length := by
  refine it_ind fun x ih hf hl tail => ?_
  have htag := form_tag hf
  have hcl : x.cont ≤ 8192 := by rw [enc_len] at hl; omega
  have hE : x.enc ++ tail = x.tag :: (lenB x.cont ++ ((x.b ++ encs x.l) ++ tail)) := by
    rw [enc_is, tag_mod htag]
    show x.tag :: (lenB x.cont ++ (x.b ++ encs x.l) ++ tail) = _
    rw [List.append_assoc]
  have hct : (x.b ++ encs x.l).length = x.cont := by rw [List.length_append]; rfl
  have h0 : hdS (x.enc ++ tail) = (1 + (lenB x.cont).length, x.cont, 0) := by rw [hE]; exact hdS_enc x.tag htag x.cont hcl _
  have hlen : 1 + (lenB x.cont).length + x.cont = x.enc.length := (enc_len x).symm
  rw [rawG_go h0 (by omega) (by rw [List.length_append]; omega)]
  have hb0 : (x.enc ++ tail)[0]?.getD 0 = x.tag := by rw [hE]; simp
  have hD : ((x.enc ++ tail).drop (1 + (lenB x.cont).length)).take x.cont = x.b ++ encs x.l := by
    rw [hE, show 1 + (lenB x.cont).length = (lenB x.cont).length + 1 by omega, List.drop_succ_cons, List.drop_left, ← hct, List.take_left]
  rw [hb0, hD, hlen]
  by_cases ht : x.tag = 48
  · rw [if_pos ht]
    obtain ⟨hb, hfl⟩ := form_seq hf ht
    have hll : ∀ y ∈ x.l, y.enc.length ≤ 8192 := fun y hy => by
      have := encs_mem_le hy
      have : x.cont = x.b.length + (encs x.l).length := rfl
      omega
    have hL : ∀ l : List It, (∀ y ∈ l, y ∈ x.l) → rawL (encs l) = some l := by
      intro l
      induction l with
      | nil => intro _; rw [encs]; exact rawL_nil
      | cons y r ihr =>
        intro hm
        have hy := hm y (by simp)
        have g := ih y hy (hfl y hy) (hll y hy) (encs r)
        have hne : encs (y :: r) ≠ [] := by
          rw [encs, enc_is]; simp
        rw [show encs (y :: r) = y.enc ++ encs r by rw [encs]] at hne ⊢
        rw [rawL_ok hne g, List.drop_left, ihr (fun z hz => hm z (by simp [hz]))]
        rfl
    rw [hb, List.nil_append, hL x.l (fun y hy => hy)]
    show GR.ok (.mk 48 [] x.l) x.enc.length = _
    have hx : It.mk 48 [] x.l = x := by
      have e := It.eta x
      rw [ht, hb] at e
      exact e.symm
    rw [hx]
  · rw [if_neg ht]
    have hl0 := form_leaf hf ht
    rw [hl0]
    show GR.ok (.mk x.tag (x.b ++ encs []) []) x.enc.length = _
    rw [show encs [] = [] by rw [encs], List.append_nil]
    have hx : It.mk x.tag x.b [] = x := by
      have e := It.eta x
      rw [hl0] at e
      exact e.symm
    rw [hx]

theorem hdS_back {b : List Int} (hb : ∀ x ∈ b, 0 ≤ x ∧ x < 256) {k cc : Nat} (h0 : hdS b = (k, cc, 0)) : ∃ t rest, isTag t = true ∧ b = t :: (lenB cc ++ rest) ∧ k = 1 + (lenB cc).length ∧ cc ≤ 65535 := by
  rcases b with _ | ⟨t, r⟩
  · cases h0
  by_cases ht : isTag t = true
  · have e : hdS (t :: r) = hdR r := if_pos ht
    rw [e] at h0
    rcases r with _ | ⟨n, r⟩
    · cases h0
    have hn := hb n (by simp)
    change hdN n r = _ at h0
    unfold hdN at h0
    by_cases h1 : n < 128
    · rw [if_pos h1] at h0
      injection h0 with a b'
      injection b' with b' _
      subst a b'
      refine ⟨t, r, ht, ?_, ?_, by omega⟩
      · have : lenB n.toNat = [n] := by unfold lenB; rw [if_pos (by omega)]; congr 1; omega
        rw [this]; rfl
      · rw [lenB_len, if_pos (by omega)]
    rw [if_neg h1] at h0
    by_cases h2 : n = 129
    · rw [if_pos h2] at h0
      rcases r with _ | ⟨a, r⟩
      · cases h0
      have ha := hb a (by simp)
      change (if a < 128 then ((0, 0, 71) : Nat × Nat × Int) else (3, a.toNat, 0)) = _ at h0
      by_cases h3 : a < 128
      · rw [if_pos h3] at h0; cases h0
      · rw [if_neg h3] at h0
        injection h0 with a' b'
        injection b' with b' _
        subst a' b'
        refine ⟨t, r, ht, ?_, ?_, by omega⟩
        · have : lenB a.toNat = [129, a] := by
            unfold lenB; rw [if_neg (by omega), if_pos (by omega)]; congr 2; omega
          rw [this, h2]; rfl
        · rw [lenB_len, if_neg (by omega), if_pos (by omega)]
    rw [if_neg h2] at h0
    by_cases h3 : n = 130
    · rw [if_pos h3] at h0
      rcases r with _ | ⟨a, _ | ⟨d, r⟩⟩
      · cases h0
      · cases h0
      have ha := hb a (by simp)
      have hd := hb d (by simp)
      change (if 256 * a + d < 256 then ((0, 0, 71) : Nat × Nat × Int) else (4, (256 * a + d).toNat, 0)) = _ at h0
      by_cases h4 : 256 * a + d < 256
      · rw [if_pos h4] at h0; cases h0
      · rw [if_neg h4] at h0
        injection h0 with a' b'
        injection b' with b' _
        subst a' b'
        refine ⟨t, r, ht, ?_, ?_, by omega⟩
        · have e1 : (((256 * a + d).toNat / 256 % 256 : Nat) : Int) = a := by omega
          have e2 : (((256 * a + d).toNat % 256 : Nat) : Int) = d := by omega
          have : lenB (256 * a + d).toNat = [130, a, d] := by
            unfold lenB; rw [if_neg (by omega), if_neg (by omega), e1, e2]
          rw [this, h3]; rfl
        · rw [lenB_len, if_neg (by omega), if_neg (by omega)]
    · rw [if_neg h3] at h0; cases h0
  · have e : hdS (t :: r) = (0, 0, 71) := if_neg ht
    rw [e] at h0; cases h0

/-- What is read was written; it is as heavy as its bytes at most. -/
theorem raw_back : ∀ (N : Nat) (b : List Int), b.length ≤ N → (∀ x ∈ b, 0 ≤ x ∧ x < 256) →
    (∀ x n, rawG b = .ok x n → x.enc = b.take n ∧ x.wt ≤ n ∧ x.wf) ∧ (∀ l, rawL b = some l → encs l = b ∧ wts l ≤ b.length ∧ wfs l)
  | N, b, hN, hb => by
    have G : ∀ x n, rawG b = .ok x n → x.enc = b.take n ∧ x.wt ≤ n ∧ x.wf := by
      intro x n h
      have hk := rawG_ok h
      obtain ⟨k, cc, e0, h0⟩ : ∃ k cc e0, hdS b = (k, cc, e0) := ⟨_, _, _, rfl⟩
      have he0 : e0 = 0 := by have := hk.1; rw [h0] at this; exact this
      subst he0
      have hn : n = k + cc := by have := hk.2.1; rw [h0] at this; exact this
      obtain ⟨t, rest, ht, hbe, hke, _⟩ := hdS_back hb h0
      have hlb := lenB_pos cc
      rw [rawG_go h0 (by omega) (by omega)] at h
      have hb0 : b[0]?.getD 0 = t := by rw [hbe]; simp
      rw [hb0] at h
      have hD : (b.drop k).take cc = rest.take cc := by
        rw [hbe, hke, show 1 + (lenB cc).length = (lenB cc).length + 1 by omega, List.drop_succ_cons, List.drop_left]
      have hrl : cc ≤ rest.length := by
        have := hk.2.2.1
        rw [hbe, List.length_cons, List.length_append] at this
        omega
      have hT : b.take n = t :: (lenB cc ++ rest.take cc) := by
        rw [hbe, hn, hke, show 1 + (lenB cc).length + cc = ((lenB cc).length + cc) + 1 by omega, List.take_succ_cons, List.take_length_add_append]
      have hctl : (rest.take cc).length = cc := by rw [List.length_take]; omega
      have hcb : ∀ x ∈ rest.take cc, 0 ≤ x ∧ x < 256 := fun x hx => hb x (by rw [hbe]; simp [List.mem_of_mem_take hx])
      have htb := hb t (by rw [hbe]; simp)
      rw [hD] at h
      by_cases h48 : t = 48
      · rw [if_pos h48] at h
        have hlt : (rest.take cc).length < b.length := by rw [hbe, List.length_cons, List.length_append, hctl]; omega
        obtain ⟨_, R⟩ := raw_back (N - 1) (rest.take cc) (by omega) hcb
        cases hr : rawL (rest.take cc) with
        | none => rw [hr] at h; cases h
        | some l =>
          rw [hr] at h
          injection h with hx hn2
          obtain ⟨R1, R2, R3⟩ := R l hr
          subst hx
          have hcont : ([] : List Int).length + (encs l).length = cc := by rw [R1, hctl]; simp
          refine ⟨?_, ?_, ?_⟩
          · rw [hT, It.enc, hcont, R1, h48]; rfl
          · rw [It.wt, hn]; rw [hctl] at R2; simp only [List.length_nil]; omega
          · rw [It.wf]; exact ⟨⟨by omega, by omega⟩, fun x hx => by simp at hx, R3⟩
      · rw [if_neg h48] at h
        injection h with hx hn2
        subst hx
        have hcont : (rest.take cc).length + (encs []).length = cc := by rw [show encs [] = [] by rw [encs], hctl]; simp
        refine ⟨?_, ?_, ?_⟩
        · rw [hT, It.enc, hcont, tag_mod ht, show encs [] = [] by rw [encs], List.append_nil]
        · rw [It.wt, hn, wts, hctl]; omega
        · rw [It.wf]; exact ⟨⟨by omega, by omega⟩, hcb, by rw [wfs]; trivial⟩
    refine ⟨G, fun l h => ?_⟩
    by_cases hne : b = []
    · subst hne
      rw [rawL_nil] at h
      injection h with h
      subst h
      exact ⟨by rw [encs], by simp [wts], by rw [wfs]; trivial⟩
    · cases hr : rawG b with
      | bad e => rw [rawL_bad hne hr] at h; cases h
      | ok x n =>
        have hk := rawG_ok hr
        rw [rawL_ok hne hr] at h
        cases hl : rawL (b.drop n) with
        | none => rw [hl] at h; cases h
        | some r =>
          rw [hl] at h
          injection h with h
          subst h
          obtain ⟨G1, G2, G3⟩ := G x n hr
          obtain ⟨_, R⟩ := raw_back (N - 1) (b.drop n) (by rw [List.length_drop]; omega) (fun y hy => hb y (List.mem_of_mem_drop hy))
          obtain ⟨R1, R2, R3⟩ := R r hl
          refine ⟨?_, ?_, ?_⟩
          · rw [encs, G1, R1, List.take_append_drop]
          · rw [wts]; rw [List.length_drop] at R2; omega
          · rw [wfs]; exact ⟨G3, R3⟩
  termination_by N b => b.length
  decreasing_by
    all_goals (try rw [List.length_drop]); omega
end Go.Proofs.Yteafbfhojhpbgaa
