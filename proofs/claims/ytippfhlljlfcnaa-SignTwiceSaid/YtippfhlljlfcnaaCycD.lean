/- Contracts of package cyclic's functions: all that it hands out. -/
import Derived.Test.YtippfhlljlfcnaaCycC
import Derived.Test.YtippfhlljlfcnaaCycPlain
namespace Go.Proofs.Ytippfhlljlfcnaa
open Go.ChangeShapes Go.WideShapes Go.ChangeAt Go.RowKit Gs
set_option linter.unusedVariables false

theorem IsU.below {a m : Int} (h : 0 ≤ a ∧ a < m) (hm : m ≤ 18446744073709551616) : IsU a := ⟨h.1, by omega⟩
instance (a b : Int) : IsU (qmul a b) := IsU.below (qmul_bound a b) (by omega)
instance (a b : Int) : IsU (qpow a b) := IsU.below (qpow_bound a b) (by omega)
instance (a : Int) : IsU (qinv a) := IsU.below (qinv_bound a) (by omega)
instance (a b : Int) : IsU (radd a b) := IsU.below (radd_bound a b) (by omega)
instance (a b : Int) : IsU (rsub a b) := IsU.below (rsub_bound a b) (by omega)
instance (a b : Int) : IsU (rmul a b) := IsU.below (rmul_bound a b) (by omega)
instance (a : Int) : IsU (rinv a) := IsU.below (rinv_bound a) (by omega)

theorem Mul_q (a b : Int) [ha : IsU a] [hb : IsU b] (w : World) :
    Calls Try.prog 28 #[.int .u64 a, .int .u64 b] w fun e w' => e = .returned (.int .u64 (qmul a b)) ∧ Below w.heap.size w w' := by
  have P := Lib.hid (product_any 2305843009213691579 a b (by omega) (by omega) ha.1 ha.2 hb.1 hb.2)
  rw [show a * b % 2305843009213691579 = qmul a b from rfl] at P
  go_enter Try.func28, Try.ntmps28
  go_wp2_with fail
  refine (P.out _).mono ?_
  rintro e w' ⟨rfl, hd⟩
  have D := Lib.hid hd
  clear hd
  go_wp2_with fail
  go_ret
  exact ⟨rfl, D.out.below _⟩

theorem MulR_r (a b : Int) [ha : IsU a] [hb : IsU b] (w : World) :
    Calls Try.prog 27 #[.int .u64 a, .int .u64 b] w fun e w' => e = .returned (.int .u64 (rmul a b)) ∧ Below w.heap.size w w' := by
  have P := Lib.hid (product_any 1152921504606845789 a b (by omega) (by omega) ha.1 ha.2 hb.1 hb.2)
  rw [show a * b % 1152921504606845789 = rmul a b from rfl] at P
  go_enter Try.func27, Try.ntmps27
  go_wp2_with fail
  refine (P.out _).mono ?_
  rintro e w' ⟨rfl, hd⟩
  have D := Lib.hid hd
  clear hd
  go_wp2_with fail
  go_ret
  exact ⟨rfl, D.out.below _⟩

theorem AddR_r (a b : Int) [ha : IsU a] [hb : IsU b] (w : World) :
    Calls Try.prog 26 #[.int .u64 a, .int .u64 b] w fun e w' => e = .returned (.int .u64 (radd a b)) ∧ w = w' := by
  have P := Lib.hid (sum_any 1152921504606845789 a b (by omega) (by omega) ha.1 ha.2 hb.1 hb.2)
  rw [show (a + b) % 1152921504606845789 = radd a b from rfl] at P
  go_enter Try.func26, Try.ntmps26
  go_wp2_with fail
  refine (P.out _).mono ?_
  rintro e w' ⟨rfl, rfl⟩
  go_wp2_with fail
  go_ret
  exact ⟨rfl, rfl⟩

theorem SubR_r (a b : Int) [ha : IsU a] [hb : IsU b] (w : World) :
    Calls Try.prog 31 #[.int .u64 a, .int .u64 b] w fun e w' => e = .returned (.int .u64 (rsub a b)) ∧ w = w' := by
  have P := Lib.hid (difference_any 1152921504606845789 a b (by omega) (by omega) ha.1 ha.2 hb.1 hb.2)
  rw [show (a - b) % 1152921504606845789 = rsub a b from rfl] at P
  go_enter Try.func31, Try.ntmps31
  go_wp2_with fail
  refine (P.out _).mono ?_
  rintro e w' ⟨rfl, rfl⟩
  go_wp2_with fail
  go_ret
  exact ⟨rfl, rfl⟩

theorem Pow_q (a n : Int) [ha : IsU a] [hb : IsU n] (w : World) :
    Calls Try.prog 29 #[.int .u64 a, .int .u64 n] w fun e w' => e = .returned (.int .u64 (qpow a n)) ∧ Below w.heap.size w w' := by
  have P := Lib.hid (power_any 2305843009213691579 a n (by omega) (by omega) ha.1 ha.2 hb.1 hb.2)
  rw [show mpow 2305843009213691579 a n.toNat = qpow a n from rfl] at P
  go_enter Try.func29, Try.ntmps29
  go_wp2_with fail
  refine (P.out _).mono ?_
  rintro e w' ⟨rfl, hd⟩
  have D := Lib.hid hd
  clear hd
  go_wp2_with fail
  go_ret
  exact ⟨rfl, D.out⟩

theorem Base_q (n : Int) [hb : IsU n] (w : World) :
    Calls Try.prog 25 #[.int .u64 n] w fun e w' => e = .returned (.int .u64 (qpow 4 n)) ∧ Below w.heap.size w w' := by
  haveI : IsU 4 := ⟨by omega, by omega⟩
  have P := Lib.hid (Pow_q 4 n)
  go_enter Try.func25, Try.ntmps25
  go_wp2_with fail
  refine (P.out _).mono ?_
  rintro e w' ⟨rfl, hd⟩
  have D := Lib.hid hd
  clear hd
  go_wp2_with fail
  go_ret
  exact ⟨rfl, D.out⟩

theorem inverse_zero (m a : Int) (m0 : 1 < m) (m1 : m < 18446744073709551616) (ha : 0 ≤ a) (ha1 : a < 18446744073709551616) (hz : a % m = 0) (w : World) :
    Calls Try.prog 48 #[.int .u64 m, .int .u64 a] w fun e w' => e = .returned (.tuple #[.int .u64 0, .int .i64 10]) ∧ Below w.heap.size w w' := by
  have R := Lib.hid (rest_any m a (by omega) ha ha1)
  rw [hz] at R
  clear hz
  go_enter Try.func48, Try.ntmps48
  go_wp2_with fail
  refine (R.out _).mono ?_
  rintro e w' ⟨rfl, rfl⟩
  go_wp2_with fail
  go_ret2
  exact ⟨rfl, Below.refl _ _⟩

theorem inverse_ok (m a : Int) (m0 : 1 < m) (m1 : m < 18446744073709551616) (ha : 0 ≤ a) (ha1 : a < 18446744073709551616) (hz : a % m ≠ 0) (w : World) :
    Calls Try.prog 48 #[.int .u64 m, .int .u64 a] w fun e w' => e = .returned (.tuple #[.int .u64 (mpow m a (m - 2).toNat), .int .i64 0]) ∧ Below w.heap.size w w' := by
  have R := Lib.hid (rest_any m a (by omega) ha ha1)
  have hz' : (a % m == 0) = false := beq_eq_false_iff_ne.2 hz
  have e2 : IntKind.u64.wrap (m - 2) = m - 2 := IntWalk.u64_in _ (by omega)
  have P := Lib.hid (power_any m a (m - 2) m0 m1 ha ha1 (by omega) (by omega))
  generalize mpow m a (m - 2).toNat = v at *
  generalize a % m = r at *
  clear hz
  go_enter Try.func48, Try.ntmps48
  go_wp2_with fail
  refine (R.out _).mono ?_
  rintro e w' ⟨rfl, rfl⟩
  go_wp2_with fail
  refine (P.out _).mono ?_
  rintro e w' ⟨rfl, hd⟩
  have D := Lib.hid hd
  clear hd
  go_wp2_with fail
  go_ret2
  exact ⟨rfl, D.out⟩

theorem InvR_r (a : Int) [ha : IsU a] (w : World) :
    Calls Try.prog 30 #[.int .u64 a] w fun e w' => e = .returned (.tuple #[.int .u64 (rinv a), .int .i64 (rerr a)]) ∧ Below w.heap.size w w' := by
  have P : ∀ w, Calls Try.prog 48 #[.int .u64 1152921504606845789, .int .u64 a] w fun e w' => e = .returned (.tuple #[.int .u64 (rinv a), .int .i64 (rerr a)]) ∧ Below w.heap.size w w' := fun w => by
    unfold rinv rerr
    by_cases h : a % 1152921504606845789 = 0
    · rw [if_pos h, if_pos h]; exact inverse_zero _ a (by omega) (by omega) ha.1 ha.2 h w
    · rw [if_neg h, if_neg h]; exact inverse_ok 1152921504606845789 a (by omega) (by omega) ha.1 ha.2 h w
  have HP := Lib.hid P
  clear P
  go_enter Try.func30, Try.ntmps30
  go_wp2_with fail
  refine (HP.out _).mono ?_
  rintro e w' ⟨rfl, hd⟩
  have D := Lib.hid hd
  clear hd
  go_wp2_with fail
  go_ret2
  exact ⟨rfl, D.out⟩

theorem In_q (x : Int) [hx : IsU x] (w : World) :
    Calls Try.prog 24 #[.int .u64 x] w fun e w' => e = .returned (.bool (qin x)) ∧ Below w.heap.size w w' := by
  haveI : IsU 1152921504606845789 := ⟨by omega, by omega⟩
  have P := Lib.hid (Pow_q x 1152921504606845789)
  unfold qin
  by_cases h1 : 1 ≤ x
  · by_cases h2 : x < 2305843009213691579
    · rw [decide_eq_true h1, decide_eq_true h2]
      generalize qpow x 1152921504606845789 = v at *
      go_enter Try.func24, Try.ntmps24
      go_wp2_with fail
      refine (P.out _).mono ?_
      rintro e w' ⟨rfl, hd⟩
      have D := Lib.hid hd
      clear hd
      go_wp2_with fail
      go_ret
      exact ⟨by simp, D.out⟩
    · rw [decide_eq_true h1, decide_eq_false h2]
      clear P
      go_enter Try.func24, Try.ntmps24
      go_wp2_with fail
      go_ret
      exact ⟨by simp, Below.refl _ _⟩
  · rw [decide_eq_false h1]
    clear P
    go_enter Try.func24, Try.ntmps24
    go_wp2_with fail
    go_ret
    exact ⟨by simp, Below.refl _ _⟩
end Go.Proofs.Ytippfhlljlfcnaa
