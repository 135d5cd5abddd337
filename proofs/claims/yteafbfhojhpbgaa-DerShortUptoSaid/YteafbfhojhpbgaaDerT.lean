/- Bytes read as items, all of them: the program's own. -/
import Derived.Test.YteafbfhojhpbgaaDerS
namespace Go.Proofs.Yteafbfhojhpbgaa
open Go.ChangeShapes Go.WideShapes Go.ChangeAt Go.RowKit Gs
set_option linter.unusedVariables false

theorem rawG_err {b : List Int} {e : Int} (h : rawG b = .bad e) : e = 70 ∨ e = 71 := by
  rw [rawG] at h
  by_cases h0 : (hdS b).2.2 = 0
  · rw [dif_pos h0] at h
    by_cases h1 : 8192 < (hdS b).1 + (hdS b).2.1
    · rw [if_pos h1] at h; cases h; exact .inr rfl
    rw [if_neg h1] at h
    by_cases h3 : b.length < (hdS b).1 + (hdS b).2.1
    · rw [dif_pos h3] at h; cases h; exact .inl rfl
    rw [dif_neg h3] at h
    split at h
    · split at h
      · cases h
      · cases h; exact .inr rfl
    · cases h
  · rw [dif_neg h0] at h
    cases h
    exact (hdS_bad h0).2
def sliceLen : Value → Nat | .slice _ n _ => n | _ => 0
theorem rawL_bad {b : List Int} {e : Int} (h : b ≠ []) (g : rawG b = .bad e) : rawL b = none := by rw [rawL_cons h, g]
theorem rawL_ok {b : List Int} {x : It} {n : Nat} (h : b ≠ []) (g : rawG b = .ok x n) : rawL b = (rawL (b.drop n)).map (x :: ·) := by
  have := (rawG_ok g).2.2.2.2
  rw [rawL_cons h, g]
  show (rawL (b.drop (max 1 n))).map (x :: ·) = _
  rw [show max 1 n = n by omega]

/-- What stands of a row of items that is read. -/
structure Mid (b : List Int) (w wr : World) (b' : List Int) (A' : Option Addr) (c' : Nat) (vl : Value) (acc : List It) : Prop where
  cap : b'.length ≤ c'
  max : c' ≤ maxLen
  si : SI wr w.heap.size .u8 A' b'
  by_ : ∀ x ∈ b', 0 ≤ x ∧ x < 256
  len : acc.length + b'.length ≤ b.length
  own : OwnIt wr w.heap.size w.heap.size vl acc
  raw : rawL b = (rawL b').map (acc ++ ·)
  bel : Below w.heap.size w wr
theorem Mid.step {b : List Int} {w wr w' : World} {b' : List Int} {A' : Option Addr} {c' : Nat} {vl vl' : Value} {acc : List It} (h : Mid b w wr b' A' c' vl acc) {x : It} {n : Nat} (hne : b' ≠ []) (g : rawG b' = .ok x n)
    (hb : Below w.heap.size wr w') (ho : OwnIt w' w.heap.size w.heap.size vl' (acc ++ [x])) : Mid b w w' (b'.drop n) (if c' = n then A' else A'.map (·.add n)) (c' - n) vl' (acc ++ [x]) := by
  have hn := rawG_ok g
  refine ⟨by rw [List.length_drop]; have := h.cap; omega, by have := h.max; omega, (h.si.below hb).cut n h.cap, fun y hy => h.by_ y (List.mem_of_mem_drop hy), ?_, ho, ?_, h.bel.trans hb⟩
  · have := h.len
    rw [List.length_append, List.length_drop]
    simp only [List.length_cons, List.length_nil]
    omega
  · rw [h.raw, rawL_ok hne g, Option.map_map]
    congr 1
    funext l
    simp

set_option maxRecDepth 100000 in
set_option maxHeartbeats 8000000 in
theorem getAll_from (b : List Int) (hb : ∀ x ∈ b, 0 ≤ x ∧ x < 256) (hl : b.length ≤ 100000) (hG : ∀ b', (∀ x ∈ b', 0 ≤ x ∧ x < 256) → b'.length ≤ b.length → GetOf b') : GetAllOf b := by
  intro A c w hbc hc hs
  have M0 := Lib.hid (show Mid b w w b A c (.slice none 0 0) [] from ⟨hbc, hc, hs, hb, by simp, OwnIt.nil _ _ _, by simp, Below.refl _ _⟩)
  have HG := Lib.hid hG
  have HL := Lib.hid hl
  obtain ⟨m, hm⟩ : ∃ m, b.length = m := ⟨_, rfl⟩
  have HM := Lib.hid hm
  rw [hm]
  clear hb hl hG hbc hc hs hm
  go_enter Try.func74, Try.ntmps74
  go_wp2_with fail
  go_loopw [0, 4] (fun vb vl wr => ∃ b' A' c' acc, vb = .slice A' b'.length c' ∧ Mid b w wr b' A' c' vl acc) (fun vb _ _ => sliceLen vb)
  case atStart => exact ⟨b, A, c, [], by rw [HM.out], M0.out⟩
  case round =>
    obtain ⟨b', A', c', acc, rfl, hmid⟩ := hrel
    have HMid := Lib.hid hmid
    have hz := hmid.bel.size
    rcases hb' : b' with _ | ⟨t, r⟩
    · subst hb'
      have HA := Lib.hid (show rawL b = some acc by rw [hmid.raw, rawL_nil]; simp)
      clear hmid
      go_wp2_with fail
      go_ret2
      exact ⟨by rw [HA.out]; exact ⟨_, rfl, HMid.out.own⟩, HMid.out.bel⟩
    · have hne : b' ≠ [] := by rw [hb']; simp
      rw [← hb']
      have hlen : 0 < b'.length := List.length_pos_iff.2 hne
      clear hb'
      have PG := Lib.hid (HG.out b' hmid.by_ (by have := hmid.len; omega) A' c' wr hmid.cap hmid.max (fun j hj => by
        obtain ⟨ad, e, h1, h2⟩ := hmid.si j hj
        exact ⟨ad, e, by omega, h2⟩))
      have HR := Lib.hid (And.intro hne (Eq.refl (rawG b')))
      have hcap := hmid.cap
      clear hmid hne
      obtain ⟨k, hk⟩ : ∃ k, b'.length = k := ⟨_, rfl⟩
      rw [hk] at PG hlen hcap ⊢
      have hklen : (0 : Int) < (k : Int) := by omega
      have HK := Lib.hid hk
      clear hk
      cases hr : rawG b' with
      | bad e =>
        rw [hr] at PG HR
        have HA := Lib.hid (show rawL b = none by rw [HMid.out.raw, rawL_bad HR.out.1 hr]; rfl)
        have HE := Lib.hid (show e = 70 ∨ e = 71 from rawG_err hr)
        have he : (e == 0) = false := beq_eq_false_iff_ne.2 (by have := HE.out; omega)
        clear hr
        go_wp2_with fail
        refine PG.out.mono ?_; rintro _ w2 ⟨h, b2⟩
        obtain rfl : _ = _ := h
        have B2 := Lib.hid (HMid.out.bel.trans (b2.mono hz))
        clear b2
        go_wp2_with fail
        go_ret2
        exact ⟨by rw [HA.out]; rfl, B2.out.alloc B2.out.size _⟩
      | ok x n =>
        rw [hr] at PG HR
        have hn := rawG_ok hr
        have hnk : n ≤ k := by have := HK.out; omega
        have hnc : n ≤ c' := by omega
        have hn0 : 0 < n := by omega
        have HRr := Lib.hid hr
        clear hr hn
        go_wp2_with fail
        refine PG.out.mono ?_; rintro _ w2 ⟨⟨A1, c1, A2, c2, rfl, hit⟩, b2⟩
        have HIt := Lib.hid hit
        have B2 := Lib.hid b2
        have B3 := Lib.hid (b2.alloc b2.size (.cells #[.int .i64 x.tag, .slice A1 x.b.length c1, .slice A2 x.l.length c2] 25))
        clear hit b2
        have hzz := B3.out.size
        have T2 : ItR (w2.alloc (.cells #[.int .i64 x.tag, .slice A1 x.b.length c1, .slice A2 x.l.length c2] 25)) (fun g => w.heap.size ≤ g ∧ g < (w2.alloc (.cells #[.int .i64 x.tag, .slice A1 x.b.length c1, .slice A2 x.l.length c2] 25)).heap.size ∧ _ ≠ some g) x (.slice A1 x.b.length c1) (.slice A2 x.l.length c2) :=
          (HIt.out.keep (fun p hp => World.cell?_alloc_lt _ _ p hp.2)).more (fun g hg => ⟨by omega, by have := hg.2; simp; omega, fun e => by have := HMid.out.own.lt g e; omega⟩)
        have T1 := HMid.out.own.below B3.out
        have T3 : acc.length ≤ 1000000000 := by have := HMid.out.len; have := HL.out; omega
        have T4 : w.heap.size ≤ (w2.alloc (.cells #[.int .i64 x.tag, .slice A1 x.b.length c1, .slice A2 x.l.length c2] 25)).heap.size := by omega
        have HT := Lib.hid (And.intro T1 (And.intro T2 (And.intro T3 T4)))
        clear T1 T2 T3 T4 hzz
        by_cases hcn : c' = n
        · go_wp2_with (at_builtin; refine wpList_append_it (by rfl) _ _ (by rfl) w.heap.size w.heap.size _ acc x _ _ (by rfl) HT.out.1 HT.out.2.1 (w2.heap.size + 1) 1 (by simp) (by rfl) HT.out.2.2.1 HT.out.2.2.2 ?_; intro v4 w4 o4 b4 f4; have HO4 := Lib.hid o4; have HB4 := Lib.hid ((B3.out.mono hz).trans b4); clear o4 b4 f4)
          go_roundw
          case rel =>
            have hst := HMid.out.step HR.out.1 HRr.out HB4.out HO4.out
            rw [if_pos hcn] at hst
            exact ⟨_, _, _, _, by rw [List.length_drop, HK.out, show c' - n = 0 by omega], hst⟩
          case measure => simp [sliceLen]; omega
        · go_wp2_with (at_builtin; refine wpList_append_it (by rfl) _ _ (by rfl) w.heap.size w.heap.size _ acc x _ _ (by rfl) HT.out.1 HT.out.2.1 (w2.heap.size + 1) 1 (by simp) (by rfl) HT.out.2.2.1 HT.out.2.2.2 ?_; intro v4 w4 o4 b4 f4; have HO4 := Lib.hid o4; have HB4 := Lib.hid ((B3.out.mono hz).trans b4); clear o4 b4 f4)
          go_roundw
          case rel =>
            have hst := HMid.out.step HR.out.1 HRr.out HB4.out HO4.out
            rw [if_neg hcn] at hst
            exact ⟨_, _, _, _, by rw [List.length_drop, HK.out], hst⟩
          case measure => simp [sliceLen]; omega

theorem hdS_size {b : List Int} (hb : ∀ x ∈ b, 0 ≤ x ∧ x < 256) : (hdS b).1 + (hdS b).2.1 ≤ 1000000 := by
  have hN : ∀ n r, (∀ x ∈ n :: r, 0 ≤ x ∧ x < 256) → (hdN n r).1 + (hdN n r).2.1 ≤ 1000000 := by
    intro n r h
    have h0 := h n (by simp)
    unfold hdN
    by_cases h1 : n < 128
    · rw [if_pos h1]; simp; omega
    rw [if_neg h1]
    by_cases h2 : n = 129
    · rw [if_pos h2]
      rcases r with _ | ⟨a, r⟩
      · simp [hdA]
      · have ha := h a (by simp)
        show (if a < 128 then ((0, 0, 71) : Nat × Nat × Int) else (3, a.toNat, 0)).1 + (if a < 128 then ((0, 0, 71) : Nat × Nat × Int) else (3, a.toNat, 0)).2.1 ≤ _
        split <;> simp <;> omega
    rw [if_neg h2]
    by_cases h3 : n = 130
    · rw [if_pos h3]
      rcases r with _ | ⟨a, _ | ⟨c, r⟩⟩
      · simp [hdB]
      · simp [hdB]
      · have ha := h a (by simp)
        have hc := h c (by simp)
        show (if 256 * a + c < 256 then ((0, 0, 71) : Nat × Nat × Int) else (4, (256 * a + c).toNat, 0)).1 + (if 256 * a + c < 256 then ((0, 0, 71) : Nat × Nat × Int) else (4, (256 * a + c).toNat, 0)).2.1 ≤ _
        split <;> simp <;> omega
    · rw [if_neg h3]; simp
  rcases b with _ | ⟨t, _ | ⟨n, r⟩⟩
  · simp [hdS]
  · show (if isTag t = true then hdR [] else ((0, 0, 71) : Nat × Nat × Int)).1 + (if isTag t = true then hdR [] else ((0, 0, 71) : Nat × Nat × Int)).2.1 ≤ _
    split <;> simp [hdR]
  · show (if isTag t = true then hdN n r else ((0, 0, 71) : Nat × Nat × Int)).1 + (if isTag t = true then hdN n r else ((0, 0, 71) : Nat × Nat × Int)).2.1 ≤ _
    split
    · exact hN n r (fun x hx => hb x (List.mem_cons_of_mem _ hx))
    · simp

/-- What is read at the beginning of bytes. -/
theorem get_any : ∀ (N : Nat) (b : List Int), b.length ≤ N → N ≤ 100000 → (∀ x ∈ b, 0 ≤ x ∧ x < 256) → GetOf b
  | N, b, hN, hM, hb => by
    intro A c w hbc hc hs
    obtain ⟨k, cc, e0, h0⟩ : ∃ k cc e0, hdS b = (k, cc, e0) := ⟨_, _, _, rfl⟩
    have hsz := hdS_size hb
    rw [h0] at hsz
    simp only at hsz
    have hbl : b.length ≤ 100000 := by omega
    by_cases he : e0 = 0
    · subst he
      have ho : (hdS b).2.2 = 0 := by rw [h0]
      have hok := hdS_ok ho
      rw [h0] at hok
      simp only at hok
      by_cases h8 : 8192 < k + cc
      · have e : rawG b = .bad 71 := by
          rw [rawG, dif_pos ho, if_pos (by rw [h0]; exact h8)]
        rw [e]
        exact get_bad b hb hbl k cc 0 71 h0 (.inr (.inl ⟨rfl, h8, rfl⟩)) hsz A c w hbc hc hs
      by_cases hm : b.length < k + cc
      · have e : rawG b = .bad 70 := by
          rw [rawG, dif_pos ho, if_neg (by rw [h0]; exact h8), dif_pos (by rw [h0]; exact hm)]
        rw [e]
        exact get_bad b hb hbl k cc 0 70 h0 (.inr (.inr ⟨rfl, h8, hm, rfl⟩)) hsz A c w hbc hc hs
      by_cases ht : b[0]?.getD 0 = 48
      · have e : rawG b = (match rawL ((b.drop k).take cc) with | some l => .ok (.mk 48 [] l) (k + cc) | none => .bad 71) := by
          rw [rawG, dif_pos ho, if_neg (by rw [h0]; exact h8), dif_neg (by rw [h0]; exact hm), if_pos ht]
          simp only [h0]
          rfl
        rw [e]
        have hlt : ((b.drop k).take cc).length < b.length := by
          have : 0 < b.length := List.length_pos_iff.2 hok.2.2.1
          rw [List.length_take, List.length_drop]; omega
        have hbt : ∀ x ∈ (b.drop k).take cc, 0 ≤ x ∧ x < 256 := fun x hx => hb x (List.mem_of_mem_drop (List.mem_of_mem_take hx))
        exact get_seq b hb hbl k cc 48 h0 (by omega) ht rfl (getAll_from _ hbt (by omega) (fun b' hb' hl' => get_any (N - 1) b' (by omega) (by omega) hb')) (by omega) (by omega) A c w hbc hc hs
      · have e : rawG b = .ok (.mk (b[0]?.getD 0) ((b.drop k).take cc) []) (k + cc) := by
          rw [rawG, dif_pos ho, if_neg (by rw [h0]; exact h8), dif_neg (by rw [h0]; exact hm), if_neg ht]
          simp only [h0]
        rw [e]
        exact get_leaf b hb hbl k cc _ h0 (by omega) rfl hok.2.2.2 ht (by omega) (by omega) A c w hbc hc hs
    · have hne : ¬ (hdS b).2.2 = 0 := by rw [h0]; exact he
      have e : rawG b = .bad e0 := by rw [rawG, dif_neg hne, h0]
      rw [e]
      exact get_bad b hb hbl k cc e0 e0 h0 (.inl ⟨he, rfl⟩) hsz A c w hbc hc hs
  termination_by N b => b.length
  decreasing_by omega
end Go.Proofs.Yteafbfhojhpbgaa
