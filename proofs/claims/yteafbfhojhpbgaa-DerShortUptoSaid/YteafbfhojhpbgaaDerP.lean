/- What stands ahead of an item's content: the program's own. -/
import Derived.Test.YteafbfhojhpbgaaDerGetMath
import Derived.Test.YteafbfhojhpbgaaDerO
namespace Go.Proofs.Yteafbfhojhpbgaa
open Go.ChangeShapes Go.WideShapes Go.ChangeAt Go.RowKit Gs
set_option linter.unusedVariables false

theorem lenB_len (n : Nat) : (lenB n).length = if n < 128 then 1 else if n < 256 then 2 else 3 := by
  unfold lenB
  split
  · rfl
  · split <;> rfl
theorem si_at2 {w : World} {B : Nat} {k : IntKind} {ad : Addr} {xs : List Int} (h : SI w B k (some ad) xs) (j : Nat) (hj : j < xs.length) : w.cell? ⟨ad.block, ad.off + j, none⟩ = some (.int k xs[j]) ∨ j = 0 := by
  rcases Nat.eq_zero_or_pos j with h0 | h0
  · exact .inr h0
  · obtain ⟨ad', e, _, hc⟩ := si_at h j hj
    cases e
    left
    have : ad.add j = ⟨ad.block, ad.off + j, none⟩ := by unfold Addr.add; rw [if_neg (by omega)]
    rw [← this]; exact hc

set_option maxRecDepth 100000 in
set_option maxHeartbeats 8000000 in
theorem getLong_one (t n a : Int) (r : List Int) (ha : 0 ≤ a ∧ a < 256) (ad : Addr) (m c : Nat) (hm : (t :: n :: a :: r).length = m) (hmc : m ≤ c) (hc : c ≤ maxLen) (w : World) (hs : SI w w.heap.size .u8 (some ad) (t :: n :: a :: r)) :
    Calls Try.prog 80 #[.slice (some ad) m c, .int .i64 1] w fun e w' => e = .returned (.tuple #[.int .i64 (hdA (a :: r)).1, .int .i64 (hdA (a :: r)).2.1, .int .i64 (hdA (a :: r)).2.2]) ∧ Below w.heap.size w w' := by
  have c2 := (si_at2 hs 2 (by simp)).resolve_right (by omega)
  have hm3 : 3 ≤ m := by rw [← hm]; simp
  have hmx : m ≤ 9223372036854775807 := by unfold maxLen at hc; omega
  have D0 := Lib.hid (Below.refl w.heap.size w)
  have PL := Lib.hid (fun W => lengthOf_any a.toNat (by omega) W)
  have HL := Lib.hid (lenB_len a.toNat)
  have hta : ((a.toNat : Nat) : Int) = a := by omega
  rw [hta] at PL
  have o1 : bits .or .i64 0 a = a := by have := or_i64 0 a (by omega) (by omega) ha.1 ha.2; simpa using this
  have hA : hdA (a :: r) = if a < 128 then (0, 0, 71) else (3, a.toNat, 0) := rfl
  have c2 : w.cell? ⟨ad.block, ad.off + 2, none⟩ = some (.int .u8 a) := by simpa using c2
  have q1 : decide ((m : Int) < 3) = false := decide_eq_false (by omega)
  have h2m : (2 : Int) ≤ (m : Int) := by omega
  have h3m : (3 : Int) ≤ (m : Int) := by omega
  clear hs hm
  go_enter Try.func80, Try.ntmps80
  go_wp2_with fail
  refine wp_loop_rounds 2 ?_
  rw [rounds_succ]
  go_wp2_with fail
  rw [rounds_succ]
  go_wp2_with fail
  refine (PL.out _).mono ?_; rintro _ w2 ⟨⟨v2, rfl, ho⟩, b⟩
  obtain ⟨A2, c2', rfl, _, _, _, _⟩ := own_sliceB ho
  have B2 := Lib.hid b
  clear ho b
  have HA := Lib.hid hA
  clear hA
  by_cases h : a < 128
  · have e1 : (lenB a.toNat).length = 1 := by rw [HL.out, if_pos (by omega)]
    rw [e1]
    have HA2 := Lib.hid (HA.out.trans (if_pos h))
    clear h e1
    go_wp2_with fail
    refine bodyPost_ret (v := .tuple #[.int .i64 0, .int .i64 0, .int .i64 71]) (by simp [results, Try.results80, go_sem]) rfl ⟨by rw [HA2.out]; rfl, B2.out⟩
  · have e1 : (lenB a.toNat).length = 2 := by rw [HL.out, if_neg (by omega), if_pos (by omega)]
    rw [e1]
    have HA2 := Lib.hid (HA.out.trans (if_neg h))
    have HT := Lib.hid hta
    clear h e1 hta
    go_wp2_with fail
    refine bodyPost_ret (v := .tuple #[.int .i64 3, .int .i64 a, .int .i64 0]) (by simp [results, Try.results80, go_sem]) rfl ⟨by rw [HA2.out]; simp only []; rw [HT.out]; rfl, B2.out⟩

set_option maxRecDepth 100000 in
set_option maxHeartbeats 8000000 in
theorem getLong_two (t n a d : Int) (r : List Int) (ha : 0 ≤ a ∧ a < 256) (hd : 0 ≤ d ∧ d < 256) (ad : Addr) (m c : Nat) (hm : (t :: n :: a :: d :: r).length = m) (hmc : m ≤ c) (hc : c ≤ maxLen) (w : World) (hs : SI w w.heap.size .u8 (some ad) (t :: n :: a :: d :: r)) :
    Calls Try.prog 80 #[.slice (some ad) m c, .int .i64 2] w fun e w' => e = .returned (.tuple #[.int .i64 (hdB (a :: d :: r)).1, .int .i64 (hdB (a :: d :: r)).2.1, .int .i64 (hdB (a :: d :: r)).2.2]) ∧ Below w.heap.size w w' := by
  have c2 := (si_at2 hs 2 (by simp)).resolve_right (by omega)
  have c3 := (si_at2 hs 3 (by simp)).resolve_right (by omega)
  have hm3 : 4 ≤ m := by rw [← hm]; simp
  have hmx : m ≤ 9223372036854775807 := by unfold maxLen at hc; omega
  have D0 := Lib.hid (Below.refl w.heap.size w)
  have PL := Lib.hid (fun W => lengthOf_any (256 * a + d).toNat (by omega) W)
  have HL := Lib.hid (lenB_len (256 * a + d).toNat)
  have hta : (((256 * a + d).toNat : Nat) : Int) = 256 * a + d := by omega
  rw [hta] at PL
  have o1 : bits .or .i64 0 a = a := by have := or_i64 0 a (by omega) (by omega) ha.1 ha.2; simpa using this
  have hA : hdB (a :: d :: r) = if 256 * a + d < 256 then (0, 0, 71) else (4, (256 * a + d).toNat, 0) := rfl
  have c2 : w.cell? ⟨ad.block, ad.off + 2, none⟩ = some (.int .u8 a) := by simpa using c2
  have c3 : w.cell? ⟨ad.block, ad.off + 3, none⟩ = some (.int .u8 d) := by simpa using c3
  have q1 : decide ((m : Int) < 4) = false := decide_eq_false (by omega)
  have h2m : (2 : Int) ≤ (m : Int) := by omega
  have h3m : (4 : Int) ≤ (m : Int) := by omega
  have hw2 : IntKind.i64.wrap (a * 256) = a * 256 := IntWalk.i64_in _ (by omega)
  have HZ := Lib.hid (show 0 ≤ 256 * a + d ∧ 256 * a + d < 65536 by omega)
  have o2 := or_i64 a d (by omega) (by omega) hd.1 hd.2
  have HTA := Lib.hid hta
  clear hta
  generalize 256 * a + d = z at *
  clear hs hm
  go_enter Try.func80, Try.ntmps80
  go_wp2_with fail
  refine wp_loop_rounds 3 ?_
  rw [rounds_succ]
  go_wp2_with fail
  rw [rounds_succ]
  go_wp2_with fail
  rw [rounds_succ]
  go_wp2_with fail
  refine (PL.out _).mono ?_; rintro _ w2 ⟨⟨v2, rfl, ho⟩, b⟩
  obtain ⟨A2, c2', rfl, _, _, _, _⟩ := own_sliceB ho
  have B2 := Lib.hid b
  clear ho b
  have HA := Lib.hid hA
  have hz := HZ.out
  have hta := HTA.out
  clear hA
  by_cases h : z < 256
  · have e1 : (lenB z.toNat).length ≠ 3 := by rw [HL.out]; split; omega; rw [if_pos (by omega)]; omega
    have HA2 := Lib.hid (HA.out.trans (if_pos h))
    generalize (lenB z.toNat).length = k at *
    have q : ((k : Int) == 3) = false := beq_eq_false_iff_ne.2 (by omega)
    clear h e1 hta hz
    go_wp2_with fail
    refine bodyPost_ret (v := .tuple #[.int .i64 0, .int .i64 0, .int .i64 71]) (by simp [results, Try.results80, go_sem]) rfl ⟨by rw [HA2.out]; rfl, B2.out⟩
  · have e1 : (lenB z.toNat).length = 3 := by rw [HL.out, if_neg (by omega), if_neg (by omega)]
    rw [e1]
    have HA2 := Lib.hid (HA.out.trans (if_neg h))
    have HT := Lib.hid hta
    clear h e1 hta hz
    go_wp2_with fail
    refine bodyPost_ret (v := .tuple #[.int .i64 4, .int .i64 z, .int .i64 0]) (by simp [results, Try.results80, go_sem]) rfl ⟨by rw [HA2.out]; simp only []; rw [HT.out]; rfl, B2.out⟩

set_option maxRecDepth 100000 in
set_option maxHeartbeats 8000000 in
theorem getLong_no (A : Option Addr) (m c : Nat) (many : Int) (e : Int) (he : e = 71 ∧ (many < 1 ∨ 2 < many) ∨ e = 70 ∧ 1 ≤ many ∧ many ≤ 2 ∧ (m : Int) < 2 + many) (w : World) :
    Calls Try.prog 80 #[.slice A m c, .int .i64 many] w fun e' w' => e' = .returned (.tuple #[.int .i64 0, .int .i64 0, .int .i64 e]) ∧ Below w.heap.size w w' := by
  have D0 := Lib.hid (Below.refl w.heap.size w)
  rcases he with ⟨rfl, h⟩ | ⟨rfl, h1, h2, h3⟩
  · by_cases h1 : many < 1
    · have q : decide (many < 1) = true := decide_eq_true h1
      clear h h1
      go_enter Try.func80, Try.ntmps80
      go_wp2_with fail
      refine bodyPost_ret (v := .tuple #[.int .i64 0, .int .i64 0, .int .i64 71]) (by simp [results, Try.results80, go_sem]) rfl ⟨rfl, D0.out⟩
    · have q : decide (many < 1) = false := decide_eq_false h1
      have q2 : decide (2 < many) = true := decide_eq_true (by omega)
      clear h h1
      go_enter Try.func80, Try.ntmps80
      go_wp2_with fail
      refine bodyPost_ret (v := .tuple #[.int .i64 0, .int .i64 0, .int .i64 71]) (by simp [results, Try.results80, go_sem]) rfl ⟨rfl, D0.out⟩
  · have q : decide (many < 1) = false := decide_eq_false (by omega)
    have q2 : decide (2 < many) = false := decide_eq_false (by omega)
    have hw : IntKind.i64.wrap (2 + many) = 2 + many := IntWalk.i64_in _ (by omega)
    have q3 : decide ((m : Int) < 2 + many) = true := decide_eq_true h3
    clear h1 h2 h3
    go_enter Try.func80, Try.ntmps80
    go_wp2_with fail
    refine bodyPost_ret (v := .tuple #[.int .i64 0, .int .i64 0, .int .i64 70]) (by simp [results, Try.results80, go_sem]) rfl ⟨rfl, D0.out⟩
end Go.Proofs.Yteafbfhojhpbgaa
