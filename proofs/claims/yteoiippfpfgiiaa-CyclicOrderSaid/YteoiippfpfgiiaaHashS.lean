/- Contracts: a number of a hash, whatever it is below; and the document's own way to it. -/
import Derived.Test.YteoiippfpfgiiaaHashR
namespace Go.Proofs.Yteoiippfpfgiiaa
open Go.ChangeShapes Go.WideShapes Go.ChangeAt Go.RowKit Gs
set_option linter.unusedVariables false

theorem Rem64_any (hi lo y : Int) (g0 : 0 ≤ hi) (g1 : hi < 18446744073709551616) (h0 : 0 ≤ lo) (h1 : lo < 18446744073709551616) (y0 : 0 < y) (y1 : y < 18446744073709551616) (w : World) :
    Calls Try.prog 40 #[.int .u64 hi, .int .u64 lo, .int .u64 y] w fun e w' => e = .returned (.int .u64 ((hi * 18446744073709551616 + lo) % y)) ∧ Dr w w' := by
  by_cases hz : hi % y = 0
  · rw [mod_low hi lo y hz]
    exact Rem64_zero hi lo y g0 g1 h0 h1 y0 y1 hz w
  · have hy : (y == 0) = false := beq_eq_false_iff_ne.2 (by omega)
    have m0 := Int.emod_nonneg hi (show y ≠ 0 by omega)
    have m1 := Int.emod_lt_of_pos hi y0
    have hD := Div64_any (hi % y) lo y (by omega) m1 h0 h1 y1
    have he : (hi % y * 18446744073709551616 + lo) % y = (hi * 18446744073709551616 + lo) % y := by
      rw [Int.add_emod, Int.mul_emod, Int.emod_emod, ← Int.mul_emod, ← Int.add_emod]
    rw [he] at hD
    have HD := Lib.hid hD
    clear hD he hz
    go_enter Try.func40, Try.ntmps40
    go_wp2_with fail
    refine (HD.out _).mono ?_
    rintro e w' ⟨⟨q, rfl⟩, hd⟩
    have HW := Lib.hid hd
    clear hd
    go_wp2_with fail
    go_ret
    exact ⟨rfl, HW.out⟩

end Go.Proofs.Yteoiippfpfgiiaa
