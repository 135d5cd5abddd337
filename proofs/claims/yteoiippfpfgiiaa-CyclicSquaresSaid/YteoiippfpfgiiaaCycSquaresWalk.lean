/- The walk of the law CyclicSquares. -/
import Derived.Test.YteoiippfpfgiiaaCycLive
import Derived.Test.YteoiippfpfgiiaaCycGroupMath
namespace Go.Proofs.Yteoiippfpfgiiaa
open Go.ChangeShapes Go.WideShapes Go.ChangeAt Go.RowKit Gs
set_option linter.unusedVariables false

set_option maxHeartbeats 2000000 in
theorem squares_walk (a : Int) [ha : IsU a] (w : World) :
    Calls Try.prog 8 #[.int .u64 a] w fun e w' => e = .returned (.bool true) ∧ Below w.heap.size w w' := by
  have a0 := ha.1
  have a1 := ha.2
  have x0 : 0 ≤ a % 2305843009213691579 := by omega
  have x1 : a % 2305843009213691579 < 2305843009213691579 := by omega
  have M := Lib.hid (Mul_q a a)
  have I := Lib.hid (In_q (qmul a a))
  have O := Lib.hid (Mul_q a 1)
  rw [qmul_one] at O
  have hs := square_in a0
  by_cases hz : a % 2305843009213691579 = 0
  · have hq : qin (qmul a a) = false := by
      cases h : qin (qmul a a)
      · rfl
      · exact absurd hz (hs.1 h)
    rw [hq] at I
    clear hs hq
    rw [hz] at O
    generalize qmul a a = s at *
    have B0 := Lib.hid (Below.refl w.heap.size w)
    go_enter Try.func8, Try.ntmps8
    go_wp2_with fail
    refine (live3 _).mono ?_; rintro e w1 ⟨rfl, b⟩; have B1 := Lib.hid (below_on B0.out b); clear b
    go_wp2_with fail
    refine (M.out _).mono ?_; rintro e w2 ⟨rfl, b⟩; have B2 := Lib.hid (below_on B1.out b); clear b
    go_wp2_with fail
    refine (I.out _).mono ?_; rintro e w3 ⟨rfl, b⟩; have B3 := Lib.hid (below_on B2.out b); clear b
    go_wp2_with fail
    refine (O.out _).mono ?_; rintro e w4 ⟨rfl, b⟩; have B4 := Lib.hid (below_on B3.out b); clear b
    go_wp2_with fail
    go_ret
    exact ⟨rfl, B4.out⟩
  · rw [hs.2 hz] at I
    clear hs
    have h1 := one_in (x := a % 2305843009213691579) (by omega) (by omega)
    have hz' : (a % 2305843009213691579 == 0) = false := beq_eq_false_iff_ne.2 hz
    have hn : (a % 2305843009213691579 != 0) = true := by simp [hz]
    have e2 : IntKind.u64.wrap (2305843009213691579 - a % 2305843009213691579) = 2305843009213691579 - a % 2305843009213691579 := IntWalk.u64_in _ (by omega)
    haveI : IsU (a % 2305843009213691579) := ⟨by omega, by omega⟩
    haveI : IsU (2305843009213691579 - a % 2305843009213691579) := ⟨by omega, by omega⟩
    have I1 := Lib.hid (In_q (a % 2305843009213691579))
    have I2 := Lib.hid (In_q (2305843009213691579 - a % 2305843009213691579))
    generalize qmul a a = s at *
    generalize qin (a % 2305843009213691579) = u at *
    generalize qin (2305843009213691579 - a % 2305843009213691579) = v at *
    cases u
    · cases v
      · exact absurd h1 (by decide)
      · clear h1
        have B0 := Lib.hid (Below.refl w.heap.size w)
        go_enter Try.func8, Try.ntmps8
        go_wp2_with fail
        refine (live3 _).mono ?_; rintro e w1 ⟨rfl, b⟩; have B1 := Lib.hid (below_on B0.out b); clear b
        go_wp2_with fail
        refine (M.out _).mono ?_; rintro e w2 ⟨rfl, b⟩; have B2 := Lib.hid (below_on B1.out b); clear b
        go_wp2_with fail
        refine (I.out _).mono ?_; rintro e w3 ⟨rfl, b⟩; have B3 := Lib.hid (below_on B2.out b); clear b
        go_wp2_with fail
        refine (I1.out _).mono ?_; rintro e w4 ⟨rfl, b⟩; have B4 := Lib.hid (below_on B3.out b); clear b
        go_wp2_with fail
        refine (I2.out _).mono ?_; rintro e w5 ⟨rfl, b⟩; have B5 := Lib.hid (below_on B4.out b); clear b
        go_wp2_with fail
        refine (O.out _).mono ?_; rintro e w6 ⟨rfl, b⟩; have B6 := Lib.hid (below_on B5.out b); clear b
        go_wp2_with fail
        go_ret
        exact ⟨rfl, B6.out⟩
    · cases v
      · clear h1
        have B0 := Lib.hid (Below.refl w.heap.size w)
        go_enter Try.func8, Try.ntmps8
        go_wp2_with fail
        refine (live3 _).mono ?_; rintro e w1 ⟨rfl, b⟩; have B1 := Lib.hid (below_on B0.out b); clear b
        go_wp2_with fail
        refine (M.out _).mono ?_; rintro e w2 ⟨rfl, b⟩; have B2 := Lib.hid (below_on B1.out b); clear b
        go_wp2_with fail
        refine (I.out _).mono ?_; rintro e w3 ⟨rfl, b⟩; have B3 := Lib.hid (below_on B2.out b); clear b
        go_wp2_with fail
        refine (I1.out _).mono ?_; rintro e w4 ⟨rfl, b⟩; have B4 := Lib.hid (below_on B3.out b); clear b
        go_wp2_with fail
        refine (I2.out _).mono ?_; rintro e w5 ⟨rfl, b⟩; have B5 := Lib.hid (below_on B4.out b); clear b
        go_wp2_with fail
        refine (O.out _).mono ?_; rintro e w6 ⟨rfl, b⟩; have B6 := Lib.hid (below_on B5.out b); clear b
        go_wp2_with fail
        go_ret
        exact ⟨rfl, B6.out⟩
      · exact absurd h1 (by decide)
end Go.Proofs.Yteoiippfpfgiiaa
