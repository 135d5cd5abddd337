/- The walk of the law FieldRing. -/
import Derived.Test.YthdcimbdahjjbaaFieldD
namespace Go.Proofs.Ythdcimbdahjjbaa
open Go.ChangeShapes Go.WideShapes Go.ChangeAt Go.RowKit Gs
set_option linter.unusedVariables false

set_option maxHeartbeats 1000000 in
theorem ring_walk (a b c : Int) [IsU a] [IsU b] [IsU c] (w : World) :
    Calls Try.prog 6 #[.int .u64 a, .int .u64 b, .int .u64 c] w fun e w' => e = .returned (.bool true) ∧ Below w.heap.size w w' := by
  have f1 : (fadd a b == fadd b a) = true := beq_iff_eq.2 (fadd_comm a b)
  have f2 : (fadd (fadd a b) c == fadd a (fadd b c)) = true := beq_iff_eq.2 (fadd_assoc a b c)
  have f3 : (fmul a b == fmul b a) = true := beq_iff_eq.2 (fmul_comm a b)
  have f4 : (fmul (fmul a b) c == fmul a (fmul b c)) = true := beq_iff_eq.2 (fmul_assoc a b c)
  have f5 : (fmul a (fadd b c) == fadd (fmul a b) (fmul a c)) = true := beq_iff_eq.2 (fmul_add a b c)
  have f6 : (fmul a (fsub b c) == fsub (fmul a b) (fmul a c)) = true := beq_iff_eq.2 (fmul_sub a b c)
  have f7 : (fsub (fadd a b) b == a % 2305843009213693951) = true := beq_iff_eq.2 (fsub_add a b)
  have f8 : (fadd a 0 == a % 2305843009213693951) = true := beq_iff_eq.2 (fadd_zero a)
  have f9 : (fmul a 1 == a % 2305843009213693951) = true := beq_iff_eq.2 (fmul_one a)
  have f10 : (fmul a 0 == 0) = true := beq_iff_eq.2 (fmul_zero a)
  have b0 : 0 ≤ a := IsU.lo
  go_enter Try.func6, Try.ntmps6
  go_wp2_with fail
  refine (live_any _).mono ?_
  rintro e w1 ⟨rfl, hb⟩
  have HB := Lib.hid hb
  clear hb
  go_wp2_with (first
    | (go_at_call 13; refine (Add_i _ _ _).mono ?_; rintro e w' ⟨rfl, rfl⟩)
    | (go_at_call 15; refine (Sub_i _ _ _).mono ?_; rintro e w' ⟨rfl, rfl⟩)
    | (go_at_call 19; refine (Mul_i _ _ _).mono ?_; rintro e w' ⟨rfl, rfl⟩))
  go_ret
  exact ⟨rfl, HB.out⟩
end Go.Proofs.Ythdcimbdahjjbaa
