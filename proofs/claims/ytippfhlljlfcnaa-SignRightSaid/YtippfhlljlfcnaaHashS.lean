/- Contracts: a number of a hash, whatever it is below; and the document's own way to it. -/
import Derived.Test.YtippfhlljlfcnaaHashR
namespace Go.Proofs.Ytippfhlljlfcnaa
open Go.ChangeShapes Go.WideShapes Go.ChangeAt Go.RowKit Gs
set_option linter.unusedVariables false

theorem Rem64_any (hi lo y : Int) (g0 : 0 ≤ hi) (g1 : hi < 18446744073709551616) (h0 : 0 ≤ lo) (h1 : lo < 18446744073709551616) (y0 : 0 < y) (y1 : y < 18446744073709551616) (w : World) :
    Calls Try.prog 60 #[.int .u64 hi, .int .u64 lo, .int .u64 y] w fun e w' => e = .returned (.int .u64 ((hi * 18446744073709551616 + lo) % y)) ∧ Dr w w' := by
  by_cases hz : hi % y = 0
  · rw [mod_low hi lo y hz]
    exact Rem64_zero hi lo y g0 g1 h0 h1 y0 y1 hz w
  · have hy : (y == 0) = false := beq_eq_false_iff_ne.2 (by omega)
    have m0 := Int.emod_nonneg hi (show y ≠ 0 by omega)
    have m1 := Int.emod_lt_of_pos hi y0
    have hD := Div64_any (hi % y) lo y (by omega) m1 h0 h1 y1
    have he : (hi % y * 18446744073709551616 + lo) % y = (hi * 18446744073709551616 + lo) % y := by
      rw [Int.add_emod, Int.mul_emod, Int.emod_emod, ← Int.mul_emod, ← Int.add_emod]
    rw [he] at hD
    have HD := Lib.hid hD
    clear hD he hz
    go_enter Try.func60, Try.ntmps60
    go_wp2_with fail
    refine (HD.out _).mono ?_
    rintro e w' ⟨⟨q, rfl⟩, hd⟩
    have HW := Lib.hid hd
    clear hd
    go_wp2_with fail
    go_ret
    exact ⟨rfl, HW.out⟩

theorem Num_any (a b m : Int) [IsU a] [IsU b] [IsU m] (w : World) :
    Calls Try.prog 54 #[.agg #[.int .u64 a, .int .u64 b], .int .u64 m] w fun e w' => e = .returned (.int .u64 (hnum a b m)) ∧ Below w.heap.size w w' := by
  by_cases hm : m = 0
  · subst hm
    have h := Num_zero a b w
    rwa [show hnum a b 0 = 0 from if_pos rfl]
  · have m0 : 0 < m := by have : 0 ≤ m := IsU.lo; omega
    exact Num_of a b m m0 (fun hi lo h0 h1 l0 l1 hn w => Rem64_any hi lo m h0 (by omega) l0 l1 m0 IsU.hi w) w

theorem refPlus_any (a b m : Int) (a0 : 0 ≤ a) (a1 : a < m) (b0 : 0 ≤ b) (b1 : b < m) (m1 : m < 18446744073709551616) (w : World) :
    Calls Try.prog 51 #[.int .u64 a, .int .u64 b, .int .u64 m] w fun e w' => e = .returned (.int .u64 ((a + b) % m)) ∧ w = w' := by
  by_cases h : m - b ≤ a
  · have e : (a + b) % m = a - (m - b) := by
      rw [show a + b = (a - (m - b)) + m by omega, Int.add_emod_right]
      exact Int.emod_eq_of_lt (by omega) (by omega)
    rw [e]
    go_enter Try.func51, Try.ntmps51
    go_wp2_with fail
    go_ret
    exact ⟨rfl, rfl⟩
  · have e : (a + b) % m = a + b := Int.emod_eq_of_lt (by omega) (by omega)
    rw [e]
    go_enter Try.func51, Try.ntmps51
    go_wp2_with fail
    go_ret
    exact ⟨rfl, rfl⟩

theorem refNum_any (a b m : Int) [IsU a] [IsU b] [IsU m] (w : World) :
    Calls Try.prog 35 #[.agg #[.int .u64 a, .int .u64 b], .int .u64 m] w fun e w' => e = .returned (.int .u64 (hnum a b m)) ∧ Below w.heap.size w w' := by
  have a0 : 0 ≤ a := IsU.lo
  have a1 : a < 18446744073709551616 := IsU.hi
  have b0 : 0 ≤ b := IsU.lo
  have b1 : b < 18446744073709551616 := IsU.hi
  have m0 : 0 ≤ m := IsU.lo
  have m1 : m < 18446744073709551616 := IsU.hi
  by_cases hm : m = 0
  · subst hm
    rw [show hnum a b 0 = 0 from if_pos rfl]
    go_enter Try.func35, Try.ntmps35
    go_wp2_with fail
    go_ret
    exact ⟨rfl, (Below.refl _ _).alloc (Nat.le_refl _) _⟩
  · have hy : (m == 0) = false := beq_eq_false_iff_ne.2 hm
    have hx0 := fun z => Int.emod_nonneg z hm
    have hx1 := fun z => Int.emod_lt_of_pos z (show 0 < m by omega)
    have HX0 := Lib.hid hx0
    have HX1 := Lib.hid hx1
    clear hx0 hx1
    have bb : 0 ≤ b % m ∧ b % m < m := ⟨HX0.out b, HX1.out b⟩
    go_enter Try.func35, Try.ntmps35
    go_wp2_with fail
    go_loop [5, 6] (fun z i => ∃ (k : Nat) (z' : Int), k ≤ 61 ∧ i = .int .i64 k ∧ z = .int .u64 z' ∧ Hid (z' = a * 2 ^ k % m) ∧ 0 ≤ z' ∧ z' < m) (fun _ i => 61 - (intOf i).toNat)
    case atStart => exact ⟨0, a % m, by omega, rfl, rfl, by rw [Int.pow_zero, Int.mul_one]; exact Lib.hid rfl, HX0.out a, HX1.out a⟩
    case round =>
      obtain ⟨k, z, hk, rfl, rfl, HZ, z0, z1⟩ := hrel
      by_cases hlt : k < 61
      · go_wp2_with fail
        refine (refPlus_any z z m z0 z1 z0 z1 m1 _).mono ?_
        rintro e w' ⟨rfl, rfl⟩
        go_wp2_with fail
        go_round
        case rel =>
          refine ⟨k + 1, (z + z) % m, by omega, by go_num, rfl, ?_, HX0.out _, HX1.out _⟩
          have := HZ.out
          exact Lib.hid (by rw [this, Int.pow_succ, ← Int.mul_assoc, Int.mul_comm _ 2, ← Int.add_emod]; congr 1; omega)
        case measure => simp [intOf]; omega
      · have hk' : k = 61 := by omega
        subst hk'
        go_wp2_with fail
        refine (refPlus_any z (b % m) m z0 z1 bb.1 bb.2 m1 _).mono ?_
        rintro e w' ⟨rfl, rfl⟩
        go_wp2_with fail
        go_ret
        refine ⟨?_, (Below.refl _ _).alloc (Nat.le_refl _) _⟩
        have e61 : (2 : Int) ^ 61 = 2305843009213693952 := by decide
        have e : (z + b) % m = hnum a b m := by
          unfold hnum
          rw [if_neg hm, HZ.out, e61, Int.add_emod, Int.emod_emod, ← Int.add_emod]
        exact congrArg (fun v => Ending.returned (Value.int .u64 v)) e
end Go.Proofs.Ytippfhlljlfcnaa
