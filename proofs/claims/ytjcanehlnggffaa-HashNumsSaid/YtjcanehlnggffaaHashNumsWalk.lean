/- The walk of the law HashNums. -/
import Derived.Test.YtjcanehlnggffaaHashLive
import Derived.Test.YtjcanehlnggffaaHashS
import Derived.RegionTactic
import Derived.Deep.DrawnRows
import Derived.Deep.Cut
namespace Go.Proofs.Ytjcanehlnggffaa
open Go.ChangeShapes Go.WideShapes Go.ChangeAt Go.RowKit Gs
set_option linter.unusedVariables false

theorem hnum_bound (a b m : Int) (h : 0 < m) : 0 ≤ hnum a b m ∧ hnum a b m < m := by
  unfold hnum
  rw [if_neg (by omega)]
  exact ⟨Int.emod_nonneg _ (by omega), Int.emod_lt_of_pos _ h⟩
theorem hnum_mod (a b m k : Int) (h : 0 < m) (hk : 0 < k) : hnum a b (m * k) % m = hnum a b m := by
  have hp := Int.mul_pos h hk
  unfold hnum
  rw [if_neg (by omega), if_neg (by omega), Int.emod_emod_of_dvd _ (Int.dvd_mul_right m k)]
theorem hnum_low (b m : Int) (h : 0 < m) : b % m = hnum 0 b m := by
  unfold hnum
  rw [if_neg (by omega), Int.zero_mul, Int.zero_add]
theorem hnum_sum (a b m : Int) (h : 0 < m) : (hnum 0 b m + hnum a 0 m) % m = hnum a b m := by
  unfold hnum
  rw [if_neg (by omega), if_neg (by omega), if_neg (by omega), Int.zero_mul, Int.zero_add, Int.add_zero, ← Int.add_emod, Int.add_comm]
theorem hnum_one (a b : Int) : hnum a b 1 = 0 := by
  unfold hnum
  rw [if_neg (by omega), Int.emod_one]

set_option maxHeartbeats 2000000 in
theorem nums_walk (a b m k : Int) [IsU a] [IsU b] [IsU m] [IsU k] (w : World) :
    Calls Try.prog 12 #[.agg #[.int .u64 a, .int .u64 b], .int .u64 m, .int .u64 k] w fun e w' => e = .returned (.bool true) ∧ Below w.heap.size w w' := by
  have m0 : 0 ≤ m := IsU.lo
  have k0 : 0 ≤ k := IsU.lo
  obtain ⟨M, hM⟩ : ∃ M, m % 4294967296 = M := ⟨_, rfl⟩
  obtain ⟨K, hK⟩ : ∃ K, k % 4294967296 = K := ⟨_, rfl⟩
  have bM : 0 ≤ M ∧ M < 4294967296 := by omega
  have bK : 0 ≤ K ∧ K < 4294967296 := by omega
  by_cases hz : M = 0 ∨ K = 0
  · have HZ : (M == 0) = true ∨ ((M == 0) = false ∧ (K == 0) = true) := by
      rcases hz with h | h
      · exact .inl (by rw [h]; rfl)
      · by_cases g : M = 0
        · exact .inl (by rw [g]; rfl)
        · exact .inr ⟨beq_eq_false_iff_ne.2 g, by rw [h]; rfl⟩
    clear hz
    rcases HZ with z1 | ⟨z1, z2⟩
    all_goals
      go_enter Try.func12, Try.ntmps12
      go_wp2_with fail
      refine (live_any _).mono ?_
      rintro e w1 ⟨rfl, hb1⟩
      have Q0 := Lib.hid ((Blk.new_at w 29 #[.int .u64 a, .int .u64 b] rfl).below hb1 (by simp))
      have B1 := Lib.hid (((Below.refl _ _).alloc (Nat.le_refl _) _).trans (hb1.mono (by simp)))
      clear hb1
      obtain ⟨⟨c0, c1⟩, _, _⟩ := Q0.out.facts2
      go_wp2_with fail
      refine (Num_zero a b _).mono ?_
      rintro e w2 ⟨rfl, b2⟩
      have B2 := Lib.hid (B1.out.trans (b2.mono B1.out.size))
      clear b2
      go_wp2_with fail
      go_ret
      exact ⟨rfl, B2.out⟩
  · have z1 : (M == 0) = false := beq_eq_false_iff_ne.2 (fun h => hz (.inl h))
    have z2 : (K == 0) = false := beq_eq_false_iff_ne.2 (fun h => hz (.inr h))
    have M0 : 0 < M := by have : M ≠ 0 := fun h => hz (.inl h); omega
    have K0 : 0 < K := by have : K ≠ 0 := fun h => hz (.inr h); omega
    obtain ⟨P, hP⟩ : ∃ P, M * K = P := ⟨_, rfl⟩
    have P0 : 0 < P := by rw [← hP]; exact Int.mul_pos M0 K0
    have P1 : P < 18446744073709551616 := by
      have : M * K ≤ 4294967295 * 4294967295 := Int.mul_le_mul (by omega) (by omega) (by omega) (by omega)
      omega
    have hPw : IntKind.u64.wrap (M * K) = P := by rw [hP]; exact IntWalk.u64_in _ (by omega)
    haveI : IsU M := ⟨by omega, by omega⟩
    haveI : IsU P := ⟨by omega, by omega⟩
    haveI : IsU 0 := ⟨by omega, by omega⟩
    haveI : IsU 1 := ⟨by omega, by omega⟩
    have f1 := hnum_bound a b M M0
    have f2 := hnum_bound a b P P0
    have f3 : hnum a b P % M = hnum a b M := by rw [← hP]; exact hnum_mod a b M K M0 K0
    have f4 := hnum_low b M M0
    have f5 := hnum_sum a b M M0
    have f6 := hnum_bound 0 b M M0
    have f7 := hnum_bound a 0 M M0
    have N1 := Lib.hid (Num_any a b M)
    have N2 := Lib.hid (Num_any a b P)
    have N3 := Lib.hid (Num_any 0 b M)
    have N4 := Lib.hid (Num_any a 0 M)
    generalize hnum a b M = n1 at *
    generalize hnum a b P = n2 at *
    generalize hnum 0 b M = n3 at *
    generalize hnum a 0 M = n4 at *
    obtain ⟨f10, f11⟩ := f1
    obtain ⟨f20, f21⟩ := f2
    have f8 : IntKind.u64.wrap (n3 + n4) = n3 + n4 := IntWalk.u64_in _ (by omega)
    have b0 : 0 ≤ b := IsU.lo
    have f60 := f6.1
    have f70 := f7.1
    clear hz f6 f7 hP
    go_enter Try.func12, Try.ntmps12
    go_wp2_with fail
    refine (live_any _).mono ?_
    rintro e w1 ⟨rfl, hb1⟩
    have Q1 := Lib.hid ((Blk.new_at w 29 #[.int .u64 a, .int .u64 b] rfl).below hb1 (by simp))
    have B1 := Lib.hid (((Below.refl _ _).alloc (Nat.le_refl _) _).trans (hb1.mono (by simp)))
    clear hb1
    obtain ⟨⟨c0, c1⟩, _, _⟩ := Q1.out.facts2
    go_wp2_with fail
    refine (N1.out _).mono ?_
    rintro e w2 ⟨rfl, b2⟩
    have Q2 := Lib.hid (Q1.out.below b2 Q1.out.lt)
    have B2 := Lib.hid (B1.out.trans (b2.mono B1.out.size))
    clear b2 c0 c1
    obtain ⟨⟨c0, c1⟩, _, _⟩ := Q2.out.facts2
    go_wp2_with fail
    refine (N2.out _).mono ?_
    rintro e w3 ⟨rfl, b3⟩
    have Q3 := Lib.hid (Q2.out.below b3 Q2.out.lt)
    have B3 := Lib.hid (B2.out.trans (b3.mono B2.out.size))
    clear b3 c0 c1
    obtain ⟨⟨c0, c1⟩, _, _⟩ := Q3.out.facts2
    go_wp2_with fail
    refine (N3.out _).mono ?_
    rintro e w4 ⟨rfl, b4⟩
    have Q4 := Lib.hid (Q3.out.below b4 Q3.out.lt)
    have B4 := Lib.hid (B3.out.trans (b4.mono B3.out.size))
    clear b4 c0 c1
    obtain ⟨⟨c0, c1⟩, _, _⟩ := Q4.out.facts2
    go_wp2_with fail
    refine (N4.out _).mono ?_
    rintro e w5 ⟨rfl, b5⟩
    have Q5 := Lib.hid (Q4.out.below b5 Q4.out.lt)
    have B5 := Lib.hid (B4.out.trans (b5.mono B4.out.size))
    clear b5 c0 c1
    obtain ⟨⟨c0, c1⟩, _, _⟩ := Q5.out.facts2
    go_wp2_with fail
    refine (Num_any a b 1 _).mono ?_
    rintro e w6 ⟨rfl, b6⟩
    have B6 := Lib.hid (B5.out.trans (b6.mono B5.out.size))
    clear b6 c0 c1
    rw [hnum_one]
    go_wp2_with fail
    go_ret
    exact ⟨rfl, B6.out⟩
end Go.Proofs.Ytjcanehlnggffaa
