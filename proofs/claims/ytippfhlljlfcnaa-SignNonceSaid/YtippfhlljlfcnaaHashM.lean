/- Contracts of the hash: a number of a hash, over the division of two words by one. -/
import Derived.Test.YtippfhlljlfcnaaHashL
import Derived.Laws.Externs
namespace Go.Proofs.Ytippfhlljlfcnaa
open Go.ChangeShapes Go.WideShapes Go.ChangeAt Go.RowKit Gs
set_option linter.unusedVariables false

theorem Div64_zero (lo y : Int) (h0 : 0 ≤ lo) (h1 : lo < 18446744073709551616) (y0 : 0 < y) (y1 : y < 18446744073709551616) (w : World) :
    Calls Try.prog 69 #[.int .u64 0, .int .u64 lo, .int .u64 y] w fun e w' => e = .returned (.tuple #[.int .u64 (lo / y), .int .u64 (lo % y)]) ∧ Dr w w' := by
  have hy : (y == 0) = false := beq_eq_false_iff_ne.2 (by omega)
  go_enter Try.func69, Try.ntmps69
  go_wp2_with fail
  go_quiet (fail)
  go_wp2_with fail
  go_ret2
  exact ⟨rfl, _, rfl⟩

theorem Rem64_zero (hi lo y : Int) (g0 : 0 ≤ hi) (g1 : hi < 18446744073709551616) (h0 : 0 ≤ lo) (h1 : lo < 18446744073709551616) (y0 : 0 < y) (y1 : y < 18446744073709551616) (hz : hi % y = 0) (w : World) :
    Calls Try.prog 60 #[.int .u64 hi, .int .u64 lo, .int .u64 y] w fun e w' => e = .returned (.int .u64 (lo % y)) ∧ Dr w w' := by
  have hy : (y == 0) = false := beq_eq_false_iff_ne.2 (by omega)
  go_enter Try.func60, Try.ntmps60
  go_wp2_with fail
  refine (Div64_zero lo y h0 h1 y0 y1 _).mono ?_
  rintro e w' ⟨rfl, hd⟩
  have HD := Lib.hid hd
  clear hd
  go_wp2_with fail
  go_ret
  exact ⟨rfl, HD.out⟩

theorem add64_run (x y : Int) (hx : 0 ≤ x) (hy : 0 ≤ y) (w : World) : (callFunc 66 #[.int .u64 x, .int .u64 y, .int .u64 0]).run Try.prog w = .ok (.value (.tuple #[.int .u64 ((x + y) % 18446744073709551616), .int .u64 ((x + y) / 18446744073709551616)])) w := by
  rw [run_callFunc_extern Try.func66 (by kernel_rfl) (by kernel_rfl) (by kernel_rfl) (e := add64Entry) (by kernel_rfl), run_add64 x y 0 hx hy (by omega) (by omega)]
  simp only [Result.andThen, Int.add_zero]

/-- A number of a hash. -/
def hnum (a b m : Int) : Int := if m = 0 then 0 else (a * 2305843009213693952 + b) % m
theorem num_parts (a b : Int) : (a / 8 + (a * 2305843009213693952 % 18446744073709551616 + b) / 18446744073709551616) * 18446744073709551616 + (a * 2305843009213693952 % 18446744073709551616 + b) % 18446744073709551616 = a * 2305843009213693952 + b := by omega

theorem Num_zero (a b : Int) (w : World) :
    Calls Try.prog 54 #[.agg #[.int .u64 a, .int .u64 b], .int .u64 0] w fun e w' => e = .returned (.int .u64 0) ∧ Below w.heap.size w w' := by
  go_enter Try.func54, Try.ntmps54
  go_wp2_with fail
  go_ret
  exact ⟨rfl, (Below.refl _ _).alloc (Nat.le_refl _) _⟩

theorem mod_low (hi lo m : Int) (hz : hi % m = 0) : (hi * 18446744073709551616 + lo) % m = lo % m := by
  rw [Int.add_emod, Int.mul_emod, hz, Int.zero_mul, Int.zero_emod, Int.zero_add, Int.emod_emod]

set_option maxHeartbeats 1000000 in
/-- Whatever the upper half is modulo the number below which it is: Rem64's contract is handed in. -/
theorem Num_of (a b m : Int) [IsU a] [IsU b] [IsU m] (m0 : 0 < m)
    (hr : ∀ hi lo : Int, 0 ≤ hi → hi ≤ 2305843009213693952 → 0 ≤ lo → lo < 18446744073709551616 → hi * 18446744073709551616 + lo = a * 2305843009213693952 + b → ∀ w, Calls Try.prog 60 #[.int .u64 hi, .int .u64 lo, .int .u64 m] w fun e w' => e = .returned (.int .u64 ((hi * 18446744073709551616 + lo) % m)) ∧ Dr w w') (w : World) :
    Calls Try.prog 54 #[.agg #[.int .u64 a, .int .u64 b], .int .u64 m] w fun e w' => e = .returned (.int .u64 (hnum a b m)) ∧ Below w.heap.size w w' := by
  have a0 : 0 ≤ a := IsU.lo
  have a1 : a < 18446744073709551616 := IsU.hi
  have b0 : 0 ≤ b := IsU.lo
  have b1 : b < 18446744073709551616 := IsU.hi
  have hm : (m == 0) = false := beq_eq_false_iff_ne.2 (by omega)
  have hw : IntKind.u64.wrap (a * 2305843009213693952) = a * 2305843009213693952 % 18446744073709551616 := by rw [IntKind.wrap_u64]
  have ar : ∀ w, (callFunc 66 #[.int .u64 (IntKind.u64.wrap (a * 2305843009213693952)), .int .u64 b, .int .u64 0]).run Try.prog w = .ok (.value (.tuple #[.int .u64 ((a * 2305843009213693952 % 18446744073709551616 + b) % 18446744073709551616), .int .u64 ((a * 2305843009213693952 % 18446744073709551616 + b) / 18446744073709551616)])) w := fun w => by
    rw [hw]; exact add64_run _ b (by omega) b0 w
  have hn := num_parts a b
  have hnn : hnum a b m = (a * 2305843009213693952 + b) % m := by unfold hnum; rw [if_neg (by omega)]
  have hlo : 0 ≤ (a * 2305843009213693952 % 18446744073709551616 + b) % 18446744073709551616 ∧ (a * 2305843009213693952 % 18446744073709551616 + b) % 18446744073709551616 < 18446744073709551616 := by omega
  have hcy : 0 ≤ (a * 2305843009213693952 % 18446744073709551616 + b) / 18446744073709551616 ∧ (a * 2305843009213693952 % 18446744073709551616 + b) / 18446744073709551616 ≤ 1 := by omega
  generalize (a * 2305843009213693952 % 18446744073709551616 + b) % 18446744073709551616 = lo at *
  generalize (a * 2305843009213693952 % 18446744073709551616 + b) / 18446744073709551616 = cy at *
  have HR := Lib.hid (hr (a / 8 + cy) lo (by omega) (by omega) hlo.1 hlo.2 hn)
  rw [hn, ← hnn] at HR
  clear hn hnn hw hr
  go_enter Try.func54, Try.ntmps54
  go_wp2_with fail
  refine (HR.out _).mono ?_
  rintro e w' ⟨rfl, n, rfl⟩
  go_wp2_with fail
  go_ret
  exact ⟨rfl, below_drewN ((Below.refl _ _).alloc (Nat.le_refl _) _) n⟩

theorem Num_live (w : World) :
    Calls Try.prog 54 #[.agg #[.int .u64 1, .int .u64 5], .int .u64 10] w fun e w' => e = .returned (.int .u64 7) ∧ Below w.heap.size w w' := by
  haveI : IsU 5 := ⟨by omega, by omega⟩
  haveI : IsU 10 := ⟨by omega, by omega⟩
  have h := Num_of 1 5 10 (by omega) (fun hi lo h0 h1 l0 l1 hn w => by
    have hz : hi = 0 := by omega
    subst hz
    have g := Rem64_zero 0 lo 10 (by omega) (by omega) l0 l1 (by omega) (by omega) rfl w
    rw [Int.zero_mul, Int.zero_add]
    exact g) w
  have e : hnum 1 5 10 = 7 := by decide +kernel
  rw [e] at h
  exact h
end Go.Proofs.Ytippfhlljlfcnaa
