/- When two arrays of numbers are the same. -/
import Derived.Test.YtjcanehlnggffaaHashN
import Derived.Laws.StructEq
namespace Go.Proofs.Ytjcanehlnggffaa
open Go.ChangeShapes Go.WideShapes Go.ChangeAt Go.RowKit Gs
set_option linter.unusedVariables false

theorem eqArr_u64 (d : Nat) (a b : Int) (w : World) : (Op.equalIn (d + 1) 22 (.int .u64 a) (.int .u64 b)).run Try.prog w = .ok (a == b) w := run_equalIn_int w d 22 .u64 .u64 a b Try.underlying22
theorem size_u64 (w : World) : (sizeOf 22).run Try.prog w = .ok 1 w := by kernel_rfl

theorem eq3 (a b c a' b' c' : Int) (w : World) :
    (Op.equalIn 10000 23 (.agg #[.int .u64 a, .int .u64 b, .int .u64 c]) (.agg #[.int .u64 a', .int .u64 b', .int .u64 c'])).run Try.prog w = .ok (a == a' && (b == b' && c == c')) w := by
  have p0 : ∀ w (x y z : Value), (part 22 #[x, y, z] 0).run Try.prog w = .ok x w := fun w x y z => by kernel_rfl
  have p1 : ∀ w (x y z : Value), (part 22 #[x, y, z] 1).run Try.prog w = .ok y w := fun w x y z => by kernel_rfl
  have p2 : ∀ w (x y z : Value), (part 22 #[x, y, z] 2).run Try.prog w = .ok z w := fun w x y z => by kernel_rfl
  show (Op.equalIn (9998 + 1 + 1) 23 _ _).run Try.prog w = _
  unfold Op.equalIn
  simp only [Sem.run_bind, run_underlying Try.underlying23, Result.andThen_ok, size_u64]
  simp [List.range', p0, p1, p2, Sem.run_bind, eqArr_u64]
  by_cases h1 : a = a' <;> by_cases h2 : b = b' <;> by_cases h3 : c = c' <;> simp [h1, h2, h3]

theorem eq2 (a b a' b' : Int) (w : World) :
    (Op.equalIn 10000 29 (.agg #[.int .u64 a, .int .u64 b]) (.agg #[.int .u64 a', .int .u64 b'])).run Try.prog w = .ok (a == a' && b == b') w := by
  have p0 : ∀ w (x y : Value), (part 22 #[x, y] 0).run Try.prog w = .ok x w := fun w x y => by kernel_rfl
  have p1 : ∀ w (x y : Value), (part 22 #[x, y] 1).run Try.prog w = .ok y w := fun w x y => by kernel_rfl
  show (Op.equalIn (9998 + 1 + 1) 29 _ _).run Try.prog w = _
  unfold Op.equalIn
  simp only [Sem.run_bind, run_underlying Try.underlying29, Result.andThen_ok, size_u64]
  simp [List.range', p0, p1, Sem.run_bind, eqArr_u64]
  by_cases h1 : a = a' <;> by_cases h2 : b = b' <;> simp [h1, h2]
theorem eq3_same (a b c : Int) (w : World) :
    (Op.equalIn 10000 23 (.agg #[.int .u64 a, .int .u64 b, .int .u64 c]) (.agg #[.int .u64 a, .int .u64 b, .int .u64 c])).run Try.prog w = .ok true w := by
  rw [eq3]; simp
theorem eq2_same (a b : Int) (w : World) :
    (Op.equalIn 10000 29 (.agg #[.int .u64 a, .int .u64 b]) (.agg #[.int .u64 a, .int .u64 b])).run Try.prog w = .ok true w := by
  rw [eq2]; simp
theorem mix_unlike : ((hmix (0, 0, 0)).1 == (hmix (7, 0, 1)).1) = false := by decide +kernel
end Go.Proofs.Ytjcanehlnggffaa
