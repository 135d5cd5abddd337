/- The walk of the law CyclicPowers. -/
import Derived.Test.YteoiippfpfgiiaaCycLive
import Derived.Test.YteoiippfpfgiiaaCycGroupMath
namespace Go.Proofs.Yteoiippfpfgiiaa
open Go.ChangeShapes Go.WideShapes Go.ChangeAt Go.RowKit Gs
set_option linter.unusedVariables false

set_option maxHeartbeats 2000000 in
theorem powers_walk3 (a m n : Int) [ha : IsU a] [hm : IsU m] [hn : IsU n] (w : World) :
    Calls Try.prog 9 #[.int .u64 a, .int .u64 m, .int .u64 n] w fun e w' => e = .returned (.bool true) ∧ Below w.heap.size w w' := by
  have m0 := hm.1
  have n0 := hn.1
  have m1 := hm.2
  have n1 := hn.2
  haveI : IsU 0 := ⟨by omega, by omega⟩
  have PM := Lib.hid (Pow_q a m)
  have PN := Lib.hid (Pow_q a n)
  have PZ := Lib.hid (Pow_q a 0)
  rw [pow_none] at PZ
  have PA := Lib.hid (Mul_q (qpow a m) a)
  rw [pow_one_more a m0] at PA
  have PP := Lib.hid (Mul_q (qpow a m) (qpow a n))
  rw [pow_sum a m0 n0] at PP
  have hp := (qpow_bound a m).2
  have key : (m + n < 18446744073709551616 ∧ IntKind.u64.wrap (m + n) = m + n) ∨ (18446744073709551616 ≤ m + n ∧ IntKind.u64.wrap (m + n) = m + n - 18446744073709551616) := by
    rw [IntKind.wrap_u64]; omega
  have key1 : (m = 18446744073709551615) ∨ (m + 1 < 18446744073709551616 ∧ IntKind.u64.wrap (m + 1) = m + 1) := by
    rw [IntKind.wrap_u64]; omega
  rcases key with ⟨k1, k2⟩ | ⟨k1, k2⟩
  · haveI : IsU (m + n) := ⟨by omega, by omega⟩
    have PS := Lib.hid (Pow_q a (m + n))
    rcases key1 with hk | ⟨j1, j2⟩
    · have hk1 : (m == 18446744073709551615) = true := beq_iff_eq.2 hk
      clear hk
      generalize qpow a m = p at *
      generalize qpow a n = q at *
      generalize qpow a (m + n) = r at *
      have B0 := Lib.hid (Below.refl w.heap.size w)
      go_enter Try.func9, Try.ntmps9
      go_wp2_with fail
      refine (live3 _).mono ?_; rintro e w1 ⟨rfl, b⟩; have B1 := Lib.hid (below_on B0.out b); clear b
      go_wp2_with fail
      refine (PM.out _).mono ?_; rintro e w2 ⟨rfl, b⟩; have B2 := Lib.hid (below_on B1.out b); clear b
      go_wp2_with fail
      refine (PN.out _).mono ?_; rintro e w3 ⟨rfl, b⟩; have B3 := Lib.hid (below_on B2.out b); clear b
      go_wp2_with fail
      refine (PP.out _).mono ?_; rintro e w4 ⟨rfl, b⟩; have B4 := Lib.hid (below_on B3.out b); clear b
      go_wp2_with fail
      refine (PS.out _).mono ?_; rintro e w5 ⟨rfl, b⟩; have B5 := Lib.hid (below_on B4.out b); clear b
      go_wp2_with fail
      refine (PZ.out _).mono ?_; rintro e w6 ⟨rfl, b⟩; have B6 := Lib.hid (below_on B5.out b); clear b
      go_wp2_with fail
      go_ret
      exact ⟨rfl, B6.out⟩
    · have hk1 : (m == 18446744073709551615) = false := beq_eq_false_iff_ne.2 (by omega)
      haveI : IsU (m + 1) := ⟨by omega, by omega⟩
      have PQ := Lib.hid (Pow_q a (m + 1))
      generalize qpow a m = p at *
      generalize qpow a n = q at *
      generalize qpow a (m + n) = r at *
      generalize qpow a (m + 1) = r1 at *
      have B0 := Lib.hid (Below.refl w.heap.size w)
      go_enter Try.func9, Try.ntmps9
      go_wp2_with fail
      refine (live3 _).mono ?_; rintro e w1 ⟨rfl, b⟩; have B1 := Lib.hid (below_on B0.out b); clear b
      go_wp2_with fail
      refine (PM.out _).mono ?_; rintro e w2 ⟨rfl, b⟩; have B2 := Lib.hid (below_on B1.out b); clear b
      go_wp2_with fail
      refine (PN.out _).mono ?_; rintro e w3 ⟨rfl, b⟩; have B3 := Lib.hid (below_on B2.out b); clear b
      go_wp2_with fail
      refine (PP.out _).mono ?_; rintro e w4 ⟨rfl, b⟩; have B4 := Lib.hid (below_on B3.out b); clear b
      go_wp2_with fail
      refine (PS.out _).mono ?_; rintro e w5 ⟨rfl, b⟩; have B5 := Lib.hid (below_on B4.out b); clear b
      go_wp2_with fail
      refine (PZ.out _).mono ?_; rintro e w6 ⟨rfl, b⟩; have B6 := Lib.hid (below_on B5.out b); clear b
      go_wp2_with fail
      refine (PA.out _).mono ?_; rintro e w7 ⟨rfl, b⟩; have B7 := Lib.hid (below_on B6.out b); clear b
      go_wp2_with fail
      refine (PQ.out _).mono ?_; rintro e w8 ⟨rfl, b⟩; have B8 := Lib.hid (below_on B7.out b); clear b
      go_wp2_with fail
      go_ret
      exact ⟨rfl, B8.out⟩
  · rcases key1 with hk | ⟨j1, j2⟩
    · have hk1 : (m == 18446744073709551615) = true := beq_iff_eq.2 hk
      clear hk PP
      generalize qpow a m = p at *
      generalize qpow a n = q at *
      have k3 : m + n - 18446744073709551616 < m := by omega
      generalize m + n - 18446744073709551616 = s at *
      have B0 := Lib.hid (Below.refl w.heap.size w)
      go_enter Try.func9, Try.ntmps9
      go_wp2_with fail
      refine (live3 _).mono ?_; rintro e w1 ⟨rfl, b⟩; have B1 := Lib.hid (below_on B0.out b); clear b
      go_wp2_with fail
      refine (PM.out _).mono ?_; rintro e w2 ⟨rfl, b⟩; have B2 := Lib.hid (below_on B1.out b); clear b
      go_wp2_with fail
      refine (PZ.out _).mono ?_; rintro e w3 ⟨rfl, b⟩; have B3 := Lib.hid (below_on B2.out b); clear b
      go_wp2_with fail
      go_ret
      exact ⟨rfl, B3.out⟩
    · have hk1 : (m == 18446744073709551615) = false := beq_eq_false_iff_ne.2 (by omega)
      haveI : IsU (m + 1) := ⟨by omega, by omega⟩
      have PQ := Lib.hid (Pow_q a (m + 1))
      clear PP
      generalize qpow a m = p at *
      generalize qpow a n = q at *
      generalize qpow a (m + 1) = r1 at *
      have k3 : m + n - 18446744073709551616 < m := by omega
      generalize m + n - 18446744073709551616 = s at *
      have B0 := Lib.hid (Below.refl w.heap.size w)
      go_enter Try.func9, Try.ntmps9
      go_wp2_with fail
      refine (live3 _).mono ?_; rintro e w1 ⟨rfl, b⟩; have B1 := Lib.hid (below_on B0.out b); clear b
      go_wp2_with fail
      refine (PM.out _).mono ?_; rintro e w2 ⟨rfl, b⟩; have B2 := Lib.hid (below_on B1.out b); clear b
      go_wp2_with fail
      refine (PZ.out _).mono ?_; rintro e w3 ⟨rfl, b⟩; have B3 := Lib.hid (below_on B2.out b); clear b
      go_wp2_with fail
      refine (PA.out _).mono ?_; rintro e w4 ⟨rfl, b⟩; have B4 := Lib.hid (below_on B3.out b); clear b
      go_wp2_with fail
      refine (PQ.out _).mono ?_; rintro e w5 ⟨rfl, b⟩; have B5 := Lib.hid (below_on B4.out b); clear b
      go_wp2_with fail
      go_ret
      exact ⟨rfl, B5.out⟩
end Go.Proofs.Yteoiippfpfgiiaa
