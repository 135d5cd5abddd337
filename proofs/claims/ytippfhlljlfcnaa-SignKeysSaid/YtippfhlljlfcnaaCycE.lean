/- Contracts of the document's own numbers: a sum, a product, a power modulo m. -/
import Derived.Test.YtippfhlljlfcnaaCycD
import Derived.Test.YtippfhlljlfcnaaCycRefMath
namespace Go.Proofs.Ytippfhlljlfcnaa
open Go.ChangeShapes Go.WideShapes Go.ChangeAt Go.RowKit Gs
set_option linter.unusedVariables false

theorem ref_sum (a b m : Int) (a0 : 0 ≤ a) (a1 : a < m) (b0 : 0 ≤ b) (b1 : b < m) (m1 : m < 18446744073709551616) (w : World) :
    Calls Try.prog 56 #[.int .u64 a, .int .u64 b, .int .u64 m] w fun e w' => e = .returned (.int .u64 ((a + b) % m)) ∧ w = w' := by
  by_cases h : m - b ≤ a
  · have e : (a + b) % m = a - (m - b) := by
      rw [show a + b = (a - (m - b)) + m by omega, Int.add_emod_right]
      exact Int.emod_eq_of_lt (by omega) (by omega)
    rw [e]
    go_enter Try.func56, Try.ntmps56
    go_wp2_with fail
    go_ret
    exact ⟨rfl, rfl⟩
  · have e : (a + b) % m = a + b := Int.emod_eq_of_lt (by omega) (by omega)
    rw [e]
    go_enter Try.func56, Try.ntmps56
    go_wp2_with fail
    go_ret
    exact ⟨rfl, rfl⟩

set_option maxHeartbeats 1000000 in
theorem ref_times (a b m : Int) (a0 : 0 ≤ a) (a1 : a < 18446744073709551616) (b0 : 0 ≤ b) (b1 : b < 18446744073709551616) (m0 : 0 < m) (m1 : m < 18446744073709551616) (w : World) :
    Calls Try.prog 57 #[.int .u64 a, .int .u64 b, .int .u64 m] w fun e w' => e = .returned (.int .u64 (a * b % m)) ∧ w = w' := by
  have hz : (m == 0) = false := beq_eq_false_iff_ne.2 (by omega)
  have HA := Lib.hid (times_all a b m)
  have la := Int.emod_lt_of_pos a m0
  have lb := Int.emod_lt_of_pos b m0
  have na := Int.emod_nonneg a (show m ≠ 0 by omega)
  have nb := Int.emod_nonneg b (show m ≠ 0 by omega)
  have HM0 := Lib.hid (fun z => Int.emod_nonneg z (show m ≠ 0 by omega))
  have HM1 := Lib.hid (fun z => Int.emod_lt_of_pos z m0)
  have HT := Lib.hid (top_zero nb (by omega))
  go_enter Try.func57, Try.ntmps57
  go_wp2_with fail
  generalize a % m = x at *
  generalize b % m = y at *
  go_loop [7, 8] (fun o i => ∃ (j : Nat) (z : Int), j ≤ 64 ∧ i = .int .i64 ((j : Int) - 1) ∧ o = .int .u64 z ∧ Hid (z = x * (y / 2 ^ j) % m) ∧ 0 ≤ z ∧ z < m) (fun _ i => (intOf i + 1).toNat)
  case atStart => exact ⟨64, 0, by omega, rfl, rfl, by rw [HT.out, Int.mul_zero, Int.zero_emod]; exact Lib.hid rfl, by omega, by omega⟩
  case round =>
    obtain ⟨j, z, hj, rfl, rfl, HZ, z0, z1⟩ := hrel
    cases j with
    | zero =>
      have HE := Lib.hid (show z = a * b % m by rw [HZ.out, low_all, HA.out])
      go_wp2_with fail
      go_ret
      exact ⟨ret_u64 HE.out, rfl⟩
    | succ k =>
      have hb := and_1 (y / 2 ^ k) (Int.ediv_nonneg nb (Int.le_of_lt (Int.pow_pos (by omega)))) (by have := Int.ediv_le_self (2 ^ k) nb; omega)
      rw [show ((k + 1 : Nat) : Int) - 1 = (k : Int) by omega]
      have ho : y / 2 ^ k % 2 = 0 ∨ y / 2 ^ k % 2 = 1 := by omega
      have hz0 := HM0.out (z + z)
      have hz1 := HM1.out (z + z)
      have S := Lib.hid (ref_sum z z m z0 z1 z0 z1 m1)
      rcases ho with ho | ho
      · have HE := Lib.hid (show (z + z) % m = x * (y / 2 ^ k) % m by rw [HZ.out]; exact times_even ho)
        rw [ho] at hb
        clear ho
        generalize (z + z) % m = z2 at *
        go_wp2_with fail
        refine (S.out _).mono ?_; rintro e w' ⟨rfl, rfl⟩
        go_wp2_with fail
        go_round
        case rel => exact ⟨k, z2, by omega, by go_num, rfl, HE, hz0, hz1⟩
        case measure => simp [intOf]
      · have HE := Lib.hid (show ((z + z) % m + x) % m = x * (y / 2 ^ k) % m by rw [HZ.out]; exact times_odd ho)
        rw [ho] at hb
        clear ho
        generalize (z + z) % m = z2 at *
        go_wp2_with fail
        refine (S.out _).mono ?_; rintro e w' ⟨rfl, rfl⟩
        go_wp2_with fail
        refine (ref_sum z2 x m hz0 hz1 na la m1 _).mono ?_; rintro e w' ⟨rfl, rfl⟩
        go_wp2_with fail
        go_round
        case rel => exact ⟨k, _, by omega, by go_num, rfl, HE, HM0.out _, HM1.out _⟩
        case measure => simp [intOf]

set_option maxHeartbeats 1000000 in
theorem ref_power (a n m : Int) (a0 : 0 ≤ a) (a1 : a < 18446744073709551616) (n0 : 0 ≤ n) (n1 : n < 18446744073709551616) (m0 : 1 < m) (m1 : m < 18446744073709551616) (w : World) :
    Calls Try.prog 50 #[.int .u64 a, .int .u64 n, .int .u64 m] w fun e w' => e = .returned (.int .u64 (mpow m a n.toNat)) ∧ w = w' := by
  have HB := Lib.hid (fun k => mpow_bound m a k (by omega))
  have HT := Lib.hid (show n.toNat / 2 ^ 64 = 0 from Nat.div_eq_of_lt (by omega))
  have H0 := Lib.hid (mpow_zero m a m0)
  go_enter Try.func50, Try.ntmps50
  go_wp2_with fail
  go_loop [7, 8] (fun o i => ∃ (j : Nat) (z : Int), j ≤ 64 ∧ i = .int .i64 ((j : Int) - 1) ∧ o = .int .u64 z ∧ Hid (z = mpow m a (n.toNat / 2 ^ j))) (fun _ i => (intOf i + 1).toNat)
  case atStart => exact ⟨64, 1, by omega, rfl, rfl, by rw [HT.out, H0.out]; exact Lib.hid rfl⟩
  case round =>
    obtain ⟨j, z, hj, rfl, rfl, HZ⟩ := hrel
    cases j with
    | zero =>
      have HE := Lib.hid (show z = mpow m a n.toNat by rw [HZ.out, Nat.pow_zero, Nat.div_one])
      go_wp2_with fail
      go_ret
      exact ⟨ret_u64 HE.out, rfl⟩
    | succ k =>
      have hb := and_1 (n / 2 ^ k) (Int.ediv_nonneg n0 (Int.le_of_lt (Int.pow_pos (by omega)))) (by have := Int.ediv_le_self (2 ^ k) n0; omega)
      rw [bit_toNat n n0 k] at hb
      rw [show ((k + 1 : Nat) : Int) - 1 = (k : Int) by omega]
      have ho : n.toNat / 2 ^ k % 2 = 0 ∨ n.toNat / 2 ^ k % 2 = 1 := by omega
      have hz : 0 ≤ z ∧ z < m := by rw [HZ.out]; exact HB.out _
      have hz2 : 0 ≤ z * z % m ∧ z * z % m < m := ⟨Int.emod_nonneg _ (by omega), Int.emod_lt_of_pos _ (by omega)⟩
      have S := Lib.hid (ref_times z z m hz.1 (by omega) hz.1 (by omega) (by omega) m1)
      rcases ho with ho | ho
      · have HE := Lib.hid (show z * z % m = mpow m a (n.toNat / 2 ^ k) by rw [HZ.out]; exact power_even ho)
        rw [ho] at hb
        clear ho
        generalize z * z % m = z2 at *
        go_wp2_with fail
        refine (S.out _).mono ?_; rintro e w' ⟨rfl, rfl⟩
        go_wp2_with fail
        go_round
        case rel => exact ⟨k, z2, by omega, by go_num, rfl, HE⟩
        case measure => simp [intOf]
      · have HE := Lib.hid (show z * z % m * a % m = mpow m a (n.toNat / 2 ^ k) by rw [HZ.out]; exact power_odd ho)
        rw [ho] at hb
        clear ho
        generalize z * z % m = z2 at *
        go_wp2_with fail
        refine (S.out _).mono ?_; rintro e w' ⟨rfl, rfl⟩
        go_wp2_with fail
        refine (ref_times z2 a m hz2.1 (by omega) a0 a1 (by omega) m1 _).mono ?_; rintro e w' ⟨rfl, rfl⟩
        go_wp2_with fail
        go_round
        case rel => exact ⟨k, _, by omega, by go_num, rfl, HE⟩
        case measure => simp [intOf]

theorem ref_Mul (a b : Int) [ha : IsU a] [hb : IsU b] (w : World) :
    Calls Try.prog 43 #[.int .u64 a, .int .u64 b] w fun e w' => e = .returned (.int .u64 (qmul a b)) ∧ w = w' := by
  have P := Lib.hid (ref_times a b 2305843009213691579 ha.1 ha.2 hb.1 hb.2 (by omega) (by omega))
  rw [show a * b % 2305843009213691579 = qmul a b from rfl] at P
  go_enter Try.func43, Try.ntmps43
  go_wp2_with fail
  refine (P.out _).mono ?_; rintro e w' ⟨rfl, rfl⟩
  go_wp2_with fail
  go_ret
  exact ⟨rfl, rfl⟩

theorem ref_MulR (a b : Int) [ha : IsU a] [hb : IsU b] (w : World) :
    Calls Try.prog 41 #[.int .u64 a, .int .u64 b] w fun e w' => e = .returned (.int .u64 (rmul a b)) ∧ w = w' := by
  have P := Lib.hid (ref_times a b 1152921504606845789 ha.1 ha.2 hb.1 hb.2 (by omega) (by omega))
  rw [show a * b % 1152921504606845789 = rmul a b from rfl] at P
  go_enter Try.func41, Try.ntmps41
  go_wp2_with fail
  refine (P.out _).mono ?_; rintro e w' ⟨rfl, rfl⟩
  go_wp2_with fail
  go_ret
  exact ⟨rfl, rfl⟩

theorem ref_Pow (a n : Int) [ha : IsU a] [hb : IsU n] (w : World) :
    Calls Try.prog 44 #[.int .u64 a, .int .u64 n] w fun e w' => e = .returned (.int .u64 (qpow a n)) ∧ w = w' := by
  have P := Lib.hid (ref_power a n 2305843009213691579 ha.1 ha.2 hb.1 hb.2 (by omega) (by omega))
  rw [show mpow 2305843009213691579 a n.toNat = qpow a n from rfl] at P
  go_enter Try.func44, Try.ntmps44
  go_wp2_with fail
  refine (P.out _).mono ?_; rintro e w' ⟨rfl, rfl⟩
  go_wp2_with fail
  go_ret
  exact ⟨rfl, rfl⟩

theorem ref_Base (n : Int) [hb : IsU n] (w : World) :
    Calls Try.prog 33 #[.int .u64 n] w fun e w' => e = .returned (.int .u64 (qpow 4 n)) ∧ w = w' := by
  have P := Lib.hid (ref_power 4 n 2305843009213691579 (by omega) (by omega) hb.1 hb.2 (by omega) (by omega))
  rw [show mpow 2305843009213691579 4 n.toNat = qpow 4 n from rfl] at P
  go_enter Try.func33, Try.ntmps33
  go_wp2_with fail
  refine (P.out _).mono ?_; rintro e w' ⟨rfl, rfl⟩
  go_wp2_with fail
  go_ret
  exact ⟨rfl, rfl⟩

theorem ref_AddR (a b : Int) [ha : IsU a] [hb : IsU b] (w : World) :
    Calls Try.prog 40 #[.int .u64 a, .int .u64 b] w fun e w' => e = .returned (.int .u64 (radd a b)) ∧ w = w' := by
  have a0 := ha.1
  have a1 := ha.2
  have b0 := hb.1
  have b1 := hb.2
  have P := Lib.hid (ref_sum (a % 1152921504606845789) (b % 1152921504606845789) 1152921504606845789 (by omega) (by omega) (by omega) (by omega) (by omega))
  rw [show (a % 1152921504606845789 + b % 1152921504606845789) % 1152921504606845789 = radd a b from (Int.add_emod _ _ _).symm] at P
  go_enter Try.func40, Try.ntmps40
  go_wp2_with fail
  refine (P.out _).mono ?_; rintro e w' ⟨rfl, rfl⟩
  go_wp2_with fail
  go_ret
  exact ⟨rfl, rfl⟩

theorem ref_In (x : Int) [hx : IsU x] (w : World) :
    Calls Try.prog 42 #[.int .u64 x] w fun e w' => e = .returned (.bool (qin x)) ∧ w = w' := by
  unfold qin
  by_cases h1 : 1 ≤ x
  · by_cases h2 : x < 2305843009213691579
    · have P := Lib.hid (ref_power x 1152921504606845789 2305843009213691579 hx.1 hx.2 (by omega) (by omega) (by omega) (by omega))
      rw [show mpow 2305843009213691579 x (1152921504606845789 : Int).toNat = qpow x 1152921504606845789 from rfl] at P
      rw [decide_eq_true h1, decide_eq_true h2]
      generalize qpow x 1152921504606845789 = v at *
      go_enter Try.func42, Try.ntmps42
      go_wp2_with fail
      refine (P.out _).mono ?_; rintro e w' ⟨rfl, rfl⟩
      go_wp2_with fail
      go_ret
      exact ⟨by simp, rfl⟩
    · rw [decide_eq_true h1, decide_eq_false h2]
      go_enter Try.func42, Try.ntmps42
      go_wp2_with fail
      go_ret
      exact ⟨by simp, rfl⟩
  · rw [decide_eq_false h1]
    go_enter Try.func42, Try.ntmps42
    go_wp2_with fail
    go_ret
    exact ⟨by simp, rfl⟩
end Go.Proofs.Ytippfhlljlfcnaa
