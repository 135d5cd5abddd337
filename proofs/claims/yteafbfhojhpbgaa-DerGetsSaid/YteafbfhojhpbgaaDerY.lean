/- What stands ahead of an item's content: the document's own. -/
import Derived.Test.YteafbfhojhpbgaaDerX
namespace Go.Proofs.Yteafbfhojhpbgaa
open Go.ChangeShapes Go.WideShapes Go.ChangeAt Go.RowKit Gs
set_option linter.unusedVariables false

theorem add_block (ad : Addr) (o : Nat) : (ad.add o).block = ad.block := by cases o <;> rfl
theorem si_drop0 {w : World} {B : Nat} {A : Option Addr} {xs : List Int} (h : SI w B .u8 A xs) (o : Nat) {t : Int} {r : List Int} (e : xs.drop o = t :: r) : ∃ ad, A = some ad ∧ ad.block < B ∧ o < xs.length ∧ w.cell? (ad.add o) = some (.int .u8 t) := by
  have hl : o < xs.length := by
    have := congrArg List.length e
    rw [List.length_drop] at this
    simp at this
    omega
  obtain ⟨ad, rfl, hb, hc⟩ := si_at h o hl
  have e2 : xs[o] = t := by
    have := congrArg (fun l => l[0]?) e
    simp only [List.getElem?_drop, Nat.add_zero, List.getElem?_cons_zero] at this
    rw [List.getElem?_eq_getElem hl] at this
    exact Option.some.inj this
  rw [e2] at hc
  exact ⟨ad, rfl, hb, hl, hc⟩
theorem drop_next {xs : List Int} {o : Nat} {t : Int} {r : List Int} (e : xs.drop o = t :: r) : xs.drop (o + 1) = r := by
  rw [← List.drop_drop, e]; rfl
/-- What the document's head answers. -/
def hv (b : List Int) (o : Nat) : Value := .agg #[.int .i64 (if (hdS b).2.2 = 0 then b[0]?.getD 0 else 0), .int .i64 ((hdS b).2.1 : Nat), .int .i64 (if (hdS b).2.2 = 0 then ((o + (hdS b).1 : Nat) : Int) else 0), .int .i64 (hdS b).2.2]

theorem hv_bad {b : List Int} {o : Nat} {e : Int} (h : hdS b = (0, 0, e)) (he : e ≠ 0) : hv b o = .agg #[.int .i64 0, .int .i64 0, .int .i64 0, .int .i64 e] := by
  unfold hv; rw [h]; simp only []; rw [if_neg he, if_neg he]; rfl
theorem hv_ok {b : List Int} {o k cc : Nat} (h : hdS b = (k, cc, 0)) : hv b o = .agg #[.int .i64 (b[0]?.getD 0), .int .i64 cc, .int .i64 ((o + k : Nat) : Int), .int .i64 0] := by
  unfold hv; rw [h]; simp only [if_true]

set_option maxRecDepth 100000 in
set_option maxHeartbeats 8000000 in
theorem head_any (xs : List Int) (hx : ∀ x ∈ xs, 0 ≤ x ∧ x < 256) (o : Nat) (b : List Int) (hb : xs.drop o = b) (A : Option Addr) (m c : Nat) (hm : xs.length = m) (h9 : m ≤ 1000000) (ho : o ≤ m) (w : World) (hs : SI w w.heap.size .u8 A xs) :
    Calls Try.prog 75 #[.slice A m c, .int .i64 o] w fun e w' => e = .returned (hv b o) ∧ Below w.heap.size w w' := by
  have D0 := Lib.hid (Below.refl w.heap.size w)
  have D1 := Lib.hid ((Below.refl w.heap.size w).alloc (Nat.le_refl _) (.cells #[.int .i64 0, .int .i64 0, .int .i64 0, .int .i64 0] 84))
  have hlen : m = o + b.length := by have := congrArg List.length hb; rw [List.length_drop] at this; omega
  have hbb : ∀ x ∈ b, 0 ≤ x ∧ x < 256 := fun x hxb => hx x (by rw [← hb] at hxb; exact List.mem_of_mem_drop hxb)
  rcases b with _ | ⟨t, r⟩
  · rw [hv_bad (e := 70) rfl (by omega)]
    simp at hlen
    subst hlen
    clear hs hb hx hbb hm
    have q1 : decide ((m : Int) ≤ (m : Int)) = true := decide_eq_true (by omega)
    go_enter Try.func75, Try.ntmps75
    go_wp2_with fail
    refine bodyPost_ret (v := .agg #[.int .i64 0, .int .i64 0, .int .i64 0, .int .i64 70]) (by simp [results, Try.results75, go_sem]) rfl ⟨rfl, D0.out.alloc D0.out.size _⟩
  obtain ⟨ad, rfl, had, hlt, c0⟩ := si_drop0 hs o hb
  have hb1 := drop_next hb
  have c0 := (D1.out.cell (p := ad.add o) (by rw [add_block]; exact had)).trans c0
  have ht0 : 0 ≤ t := (hbb t (by simp)).1
  have ht1 : t < 256 := (hbb t (by simp)).2
  have q1 : decide ((m : Int) ≤ (o : Int)) = false := decide_eq_false (by omega)
  have hom : (o : Int) < (m : Int) := by omega
  by_cases ht : isTag t = true
  · have HE : hdS (t :: r) = hdR r := if_pos ht
    have hT : t = 1 ∨ t = 2 ∨ t = 4 ∨ t = 12 ∨ t = 48 := of_decide_eq_true ht
    have hz : ∀ v, decide (t = v) = decide (t = v) := fun _ => rfl
    rcases r with _ | ⟨n, r⟩
    · have q2 : decide ((m : Int) ≤ (o : Int) + 1) = true := decide_eq_true (by simp at hlen; omega)
      rw [hv_bad (e := 70) HE (by omega)]
      clear hs hb hx hbb hm hb1 ht HE hlen
      rcases hT with rfl | rfl | rfl | rfl | rfl
      all_goals
        go_enter Try.func75, Try.ntmps75
        go_wp2_with fail
        refine bodyPost_ret (v := .agg #[.int .i64 0, .int .i64 0, .int .i64 0, .int .i64 70]) (by simp [results, Try.results75, go_sem]) rfl ⟨rfl, D0.out.alloc D0.out.size _⟩
    obtain ⟨ad', e', _, hlt2, c1⟩ := si_drop0 hs (o + 1) hb1
    cases e'
    have c1 := (D1.out.cell (p := ⟨ad.block, ad.off + (o + 1), none⟩) had).trans c1
    have hb2 := drop_next hb1
    have q2 : decide ((m : Int) ≤ (o : Int) + 1) = false := decide_eq_false (by omega)
    have hom2 : (o : Int) + 1 < (m : Int) := by omega
    have hn0 : 0 ≤ n := (hbb n (by simp)).1
    have hn1 : n < 256 := (hbb n (by simp)).2
    by_cases hn : n < 128
    · have HE2 : hdS (t :: n :: r) = (2, n.toNat, 0) := HE.trans (if_pos hn)
      have q3 : decide (n < 128) = true := decide_eq_true hn
      rw [hv_ok HE2, show ((n.toNat : Nat) : Int) = n by omega]
      clear hs hb hx hbb hm hb1 ht HE HE2 hlen hb2
      rcases hT with rfl | rfl | rfl | rfl | rfl
      all_goals
        go_enter Try.func75, Try.ntmps75
        go_wp2_with fail
        first | exact bodyPost_ret (v := .agg #[.int .i64 1, .int .i64 n, .int .i64 ((o : Int) + 2), .int .i64 0]) (by simp [results, Try.results75, go_sem]) rfl ⟨rfl, D0.out.alloc D0.out.size _⟩ | exact bodyPost_ret (v := .agg #[.int .i64 2, .int .i64 n, .int .i64 ((o : Int) + 2), .int .i64 0]) (by simp [results, Try.results75, go_sem]) rfl ⟨rfl, D0.out.alloc D0.out.size _⟩ | exact bodyPost_ret (v := .agg #[.int .i64 4, .int .i64 n, .int .i64 ((o : Int) + 2), .int .i64 0]) (by simp [results, Try.results75, go_sem]) rfl ⟨rfl, D0.out.alloc D0.out.size _⟩ | exact bodyPost_ret (v := .agg #[.int .i64 12, .int .i64 n, .int .i64 ((o : Int) + 2), .int .i64 0]) (by simp [results, Try.results75, go_sem]) rfl ⟨rfl, D0.out.alloc D0.out.size _⟩ | exact bodyPost_ret (v := .agg #[.int .i64 48, .int .i64 n, .int .i64 ((o : Int) + 2), .int .i64 0]) (by simp [results, Try.results75, go_sem]) rfl ⟨rfl, D0.out.alloc D0.out.size _⟩
    have HE2 : hdS (t :: n :: r) = hdN n r := HE
    have q3 : decide (n < 128) = false := decide_eq_false hn
    by_cases h129 : n = 129
    · subst h129
      rcases r with _ | ⟨a, r⟩
      · rw [hv_bad (e := 70) HE2 (by omega)]
        have q4 : decide ((m : Int) < (o : Int) + 2 + 129 - 128) = true := decide_eq_true (by simp at hlen; omega)
        have q4' : decide ((m : Int) < (o : Int) + 3) = true := decide_eq_true (by simp at hlen; omega)
        clear hs hb hx hbb hm hb1 ht HE HE2 hlen hb2 hn
        rcases hT with rfl | rfl | rfl | rfl | rfl
        all_goals
          go_enter Try.func75, Try.ntmps75
          go_wp2_with fail
          refine bodyPost_ret (v := .agg #[.int .i64 0, .int .i64 0, .int .i64 0, .int .i64 70]) (by simp [results, Try.results75, go_sem]) rfl ⟨rfl, D0.out.alloc D0.out.size _⟩
      obtain ⟨ad', e', _, hlt3, c2⟩ := si_drop0 hs (o + 2) hb2
      cases e'
      have c2 := (D1.out.cell (p := ⟨ad.block, ad.off + (o + 2), none⟩) had).trans c2
      have hom3 : (o : Int) + 2 < (m : Int) := by omega
      have ha0 : 0 ≤ a := (hbb a (by simp)).1
      have ha1 : a < 256 := (hbb a (by simp)).2
      have q4 : decide ((m : Int) < (o : Int) + 2 + 129 - 128) = false := decide_eq_false (by omega)
      have q4' : decide ((m : Int) < (o : Int) + 3) = false := decide_eq_false (by omega)
      by_cases ha : a < 128
      · have HE3 : hdS (t :: 129 :: a :: r) = (0, 0, 71) := HE2.trans (if_pos ha)
        rw [hv_bad HE3 (by omega)]
        have q5 : decide (a < 128) = true := decide_eq_true ha
        clear HE3
        clear hs hb hx hbb hm hb1 ht HE HE2 hlen hb2 hn
        rcases hT with rfl | rfl | rfl | rfl | rfl
        all_goals
          go_enter Try.func75, Try.ntmps75
          go_wp2_with fail
          refine bodyPost_ret (v := .agg #[.int .i64 0, .int .i64 0, .int .i64 0, .int .i64 71]) (by simp [results, Try.results75, go_sem]) rfl ⟨rfl, D0.out.alloc D0.out.size _⟩
      · have HE3 : hdS (t :: 129 :: a :: r) = (3, a.toNat, 0) := HE2.trans (if_neg ha)
        rw [hv_ok HE3, show ((a.toNat : Nat) : Int) = a by omega, show ((o + 3 : Nat) : Int) = (o : Int) + 2 + 129 - 128 by omega]
        have q5 : decide (a < 128) = false := decide_eq_false ha
        clear HE3
        clear hs hb hx hbb hm hb1 ht HE HE2 hlen hb2 hn
        rcases hT with rfl | rfl | rfl | rfl | rfl
        all_goals
          go_enter Try.func75, Try.ntmps75
          go_wp2_with fail
          first | exact bodyPost_ret (v := .agg #[.int .i64 1, .int .i64 a, .int .i64 ((o : Int) + 2 + 129 - 128), .int .i64 0]) (by simp [results, Try.results75, go_sem]) rfl ⟨rfl, D0.out.alloc D0.out.size _⟩ | exact bodyPost_ret (v := .agg #[.int .i64 2, .int .i64 a, .int .i64 ((o : Int) + 2 + 129 - 128), .int .i64 0]) (by simp [results, Try.results75, go_sem]) rfl ⟨rfl, D0.out.alloc D0.out.size _⟩ | exact bodyPost_ret (v := .agg #[.int .i64 4, .int .i64 a, .int .i64 ((o : Int) + 2 + 129 - 128), .int .i64 0]) (by simp [results, Try.results75, go_sem]) rfl ⟨rfl, D0.out.alloc D0.out.size _⟩ | exact bodyPost_ret (v := .agg #[.int .i64 12, .int .i64 a, .int .i64 ((o : Int) + 2 + 129 - 128), .int .i64 0]) (by simp [results, Try.results75, go_sem]) rfl ⟨rfl, D0.out.alloc D0.out.size _⟩ | exact bodyPost_ret (v := .agg #[.int .i64 48, .int .i64 a, .int .i64 ((o : Int) + 2 + 129 - 128), .int .i64 0]) (by simp [results, Try.results75, go_sem]) rfl ⟨rfl, D0.out.alloc D0.out.size _⟩
    by_cases h130 : n = 130
    · subst h130
      rcases r with _ | ⟨a, _ | ⟨d, r⟩⟩
      · rw [hv_bad (e := 70) HE2 (by omega)]
        have q4 : decide ((m : Int) < (o : Int) + 2 + 130 - 128) = true := decide_eq_true (by simp at hlen; omega)
        clear hs hb hx hbb hm hb1 ht HE HE2 hlen hb2 hn
        rcases hT with rfl | rfl | rfl | rfl | rfl
        all_goals
          go_enter Try.func75, Try.ntmps75
          go_wp2_with fail
          refine bodyPost_ret (v := .agg #[.int .i64 0, .int .i64 0, .int .i64 0, .int .i64 70]) (by simp [results, Try.results75, go_sem]) rfl ⟨rfl, D0.out.alloc D0.out.size _⟩
      · rw [hv_bad (e := 70) HE2 (by omega)]
        have q4 : decide ((m : Int) < (o : Int) + 2 + 130 - 128) = true := decide_eq_true (by simp at hlen; omega)
        clear hs hb hx hbb hm hb1 ht HE HE2 hlen hb2 hn
        rcases hT with rfl | rfl | rfl | rfl | rfl
        all_goals
          go_enter Try.func75, Try.ntmps75
          go_wp2_with fail
          refine bodyPost_ret (v := .agg #[.int .i64 0, .int .i64 0, .int .i64 0, .int .i64 70]) (by simp [results, Try.results75, go_sem]) rfl ⟨rfl, D0.out.alloc D0.out.size _⟩
      obtain ⟨ad', e', _, hlt3, c2⟩ := si_drop0 hs (o + 2) hb2
      cases e'
      have hb3 := drop_next hb2
      obtain ⟨ad', e', _, hlt4, c3⟩ := si_drop0 hs (o + 3) hb3
      cases e'
      have c2 := (D1.out.cell (p := ⟨ad.block, ad.off + (o + 2), none⟩) had).trans c2
      have c3 := (D1.out.cell (p := ⟨ad.block, ad.off + (o + 3), none⟩) had).trans c3
      have hom3 : (o : Int) + 2 < (m : Int) := by omega
      have hom4 : (o : Int) + 3 < (m : Int) := by omega
      have ha0 : 0 ≤ a := (hbb a (by simp)).1
      have ha1 : a < 256 := (hbb a (by simp)).2
      have hd0 : 0 ≤ d := (hbb d (by simp)).1
      have hd1 : d < 256 := (hbb d (by simp)).2
      have q4 : decide ((m : Int) < (o : Int) + 2 + 130 - 128) = false := decide_eq_false (by omega)
      clear hb3
      by_cases ha : 256 * a + d < 256
      · have HE3 : hdS (t :: 130 :: a :: d :: r) = (0, 0, 71) := HE2.trans (if_pos ha)
        rw [hv_bad HE3 (by omega)]
        have q5 : decide (256 * a + d < 256) = true := decide_eq_true ha
        clear HE3
        clear hs hb hx hbb hm hb1 ht HE HE2 hlen hb2 hn
        rcases hT with rfl | rfl | rfl | rfl | rfl
        all_goals
          go_enter Try.func75, Try.ntmps75
          go_wp2_with fail
          refine bodyPost_ret (v := .agg #[.int .i64 0, .int .i64 0, .int .i64 0, .int .i64 71]) (by simp [results, Try.results75, go_sem]) rfl ⟨rfl, D0.out.alloc D0.out.size _⟩
      · have HE3 : hdS (t :: 130 :: a :: d :: r) = (4, (256 * a + d).toNat, 0) := HE2.trans (if_neg ha)
        rw [hv_ok HE3, show (((256 * a + d).toNat : Nat) : Int) = 256 * a + d by omega, show ((o + 4 : Nat) : Int) = (o : Int) + 2 + 130 - 128 by omega]
        have q5 : decide (256 * a + d < 256) = false := decide_eq_false ha
        clear HE3
        clear hs hb hx hbb hm hb1 ht HE HE2 hlen hb2 hn
        rcases hT with rfl | rfl | rfl | rfl | rfl
        all_goals
          go_enter Try.func75, Try.ntmps75
          go_wp2_with fail
          first | exact bodyPost_ret (v := .agg #[.int .i64 1, .int .i64 (256 * a + d), .int .i64 ((o : Int) + 2 + 130 - 128), .int .i64 0]) (by simp [results, Try.results75, go_sem]) rfl ⟨rfl, D0.out.alloc D0.out.size _⟩ | exact bodyPost_ret (v := .agg #[.int .i64 2, .int .i64 (256 * a + d), .int .i64 ((o : Int) + 2 + 130 - 128), .int .i64 0]) (by simp [results, Try.results75, go_sem]) rfl ⟨rfl, D0.out.alloc D0.out.size _⟩ | exact bodyPost_ret (v := .agg #[.int .i64 4, .int .i64 (256 * a + d), .int .i64 ((o : Int) + 2 + 130 - 128), .int .i64 0]) (by simp [results, Try.results75, go_sem]) rfl ⟨rfl, D0.out.alloc D0.out.size _⟩ | exact bodyPost_ret (v := .agg #[.int .i64 12, .int .i64 (256 * a + d), .int .i64 ((o : Int) + 2 + 130 - 128), .int .i64 0]) (by simp [results, Try.results75, go_sem]) rfl ⟨rfl, D0.out.alloc D0.out.size _⟩ | exact bodyPost_ret (v := .agg #[.int .i64 48, .int .i64 (256 * a + d), .int .i64 ((o : Int) + 2 + 130 - 128), .int .i64 0]) (by simp [results, Try.results75, go_sem]) rfl ⟨rfl, D0.out.alloc D0.out.size _⟩
    · have HE3 : hdS (t :: n :: r) = (0, 0, 71) := HE2.trans (by unfold hdN; rw [if_neg hn, if_neg h129, if_neg h130])
      rw [hv_bad HE3 (by omega)]
      have v1 := decide_eq_false h129
      have v2 := decide_eq_false h130
      have v3 : (n == 129) = false := by simpa using h129
      have v4 : (n == 130) = false := by simpa using h130
      have v5 : (n != 129) = true := by simpa using h129
      have v6 : (n != 130) = true := by simpa using h130
      clear HE3
      clear hs hb hx hbb hm hb1 ht HE HE2 hlen hb2 hn
      rcases hT with rfl | rfl | rfl | rfl | rfl
      all_goals
        go_enter Try.func75, Try.ntmps75
        go_wp2_with fail
        refine bodyPost_ret (v := .agg #[.int .i64 0, .int .i64 0, .int .i64 0, .int .i64 71]) (by simp [results, Try.results75, go_sem]) rfl ⟨rfl, D0.out.alloc D0.out.size _⟩
  · have HE : hdS (t :: r) = (0, 0, 71) := if_neg ht
    have hT : ¬ (t = 1 ∨ t = 2 ∨ t = 4 ∨ t = 12 ∨ t = 48) := fun h => ht (decide_eq_true h)
    have t1 : ¬ t = 1 := by omega
    have u1 := decide_eq_false t1
    have v1 : (t == 1) = false := by simpa using t1
    have x1 : (t != 1) = true := by simpa using t1
    have t2 : ¬ t = 2 := by omega
    have u2 := decide_eq_false t2
    have v2 : (t == 2) = false := by simpa using t2
    have x2 : (t != 2) = true := by simpa using t2
    have t4 : ¬ t = 4 := by omega
    have u4 := decide_eq_false t4
    have v4 : (t == 4) = false := by simpa using t4
    have x4 : (t != 4) = true := by simpa using t4
    have t12 : ¬ t = 12 := by omega
    have u12 := decide_eq_false t12
    have v12 : (t == 12) = false := by simpa using t12
    have x12 : (t != 12) = true := by simpa using t12
    have t48 : ¬ t = 48 := by omega
    have u48 := decide_eq_false t48
    have v48 : (t == 48) = false := by simpa using t48
    have x48 : (t != 48) = true := by simpa using t48
    rw [hv_bad HE (by omega)]
    clear hs hb hx hbb hm hb1 ht HE hT hlen
    go_enter Try.func75, Try.ntmps75
    go_wp2_with fail
    refine bodyPost_ret (v := .agg #[.int .i64 0, .int .i64 0, .int .i64 0, .int .i64 71]) (by simp [results, Try.results75, go_sem]) rfl ⟨rfl, D0.out.alloc D0.out.size _⟩
end Go.Proofs.Yteafbfhojhpbgaa
