/- Contracts of the hash: a number of a hash, over the division of two words by one. -/
import Derived.Test.YteoiippfpfgiiaaHashL
import Derived.Laws.Externs
namespace Go.Proofs.Yteoiippfpfgiiaa
open Go.ChangeShapes Go.WideShapes Go.ChangeAt Go.RowKit Gs
set_option linter.unusedVariables false

theorem Div64_zero (lo y : Int) (h0 : 0 ≤ lo) (h1 : lo < 18446744073709551616) (y0 : 0 < y) (y1 : y < 18446744073709551616) (w : World) :
    Calls Try.prog 43 #[.int .u64 0, .int .u64 lo, .int .u64 y] w fun e w' => e = .returned (.tuple #[.int .u64 (lo / y), .int .u64 (lo % y)]) ∧ Dr w w' := by
  have hy : (y == 0) = false := beq_eq_false_iff_ne.2 (by omega)
  go_enter Try.func43, Try.ntmps43
  go_wp2_with fail
  go_quiet (fail)
  go_wp2_with fail
  go_ret2
  exact ⟨rfl, _, rfl⟩

theorem Rem64_zero (hi lo y : Int) (g0 : 0 ≤ hi) (g1 : hi < 18446744073709551616) (h0 : 0 ≤ lo) (h1 : lo < 18446744073709551616) (y0 : 0 < y) (y1 : y < 18446744073709551616) (hz : hi % y = 0) (w : World) :
    Calls Try.prog 40 #[.int .u64 hi, .int .u64 lo, .int .u64 y] w fun e w' => e = .returned (.int .u64 (lo % y)) ∧ Dr w w' := by
  have hy : (y == 0) = false := beq_eq_false_iff_ne.2 (by omega)
  go_enter Try.func40, Try.ntmps40
  go_wp2_with fail
  refine (Div64_zero lo y h0 h1 y0 y1 _).mono ?_
  rintro e w' ⟨rfl, hd⟩
  have HD := Lib.hid hd
  clear hd
  go_wp2_with fail
  go_ret
  exact ⟨rfl, HD.out⟩

/-- A number of a hash. -/
def hnum (a b m : Int) : Int := if m = 0 then 0 else (a * 2305843009213693952 + b) % m
theorem num_parts (a b : Int) : (a / 8 + (a * 2305843009213693952 % 18446744073709551616 + b) / 18446744073709551616) * 18446744073709551616 + (a * 2305843009213693952 % 18446744073709551616 + b) % 18446744073709551616 = a * 2305843009213693952 + b := by omega

theorem mod_low (hi lo m : Int) (hz : hi % m = 0) : (hi * 18446744073709551616 + lo) % m = lo % m := by
  rw [Int.add_emod, Int.mul_emod, hz, Int.zero_mul, Int.zero_emod, Int.zero_add, Int.emod_emod]

end Go.Proofs.Yteoiippfpfgiiaa
