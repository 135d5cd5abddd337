/- Contracts of the functions of package field on numbers and on slices of numbers, and of the plain answers beside them. -/
import Derived.Test.YteoiippfpfgiiaaRows
import Derived.Test.YteoiippfpfgiiaaFieldMath
import Derived.WalkKit
import Derived.ProofKit
import Derived.OpenShut
import Derived.IntWalk
import Derived.Laws.BitsAllLaws
import Derived.Laws.MathBits
import Derived.Lib.Hide
import Derived.BigQuiet
import Derived.Deep.QuietTactic
import Derived.Deep.Draws
import Derived.Below
namespace Go.Proofs.Yteoiippfpfgiiaa
open Go.ChangeShapes Go.WideShapes Go.ChangeAt Go.RowKit Gs
set_option linter.unusedVariables false

theorem ret_u64 {a b : Int} (h : a = b) : Ending.returned (.int .u64 a) = .returned (.int .u64 b) := by rw [h]

theorem and_p (a : Int) (h0 : 0 ≤ a) (h1 : a < 18446744073709551616) : bits .and .u64 a 2305843009213693951 = a % 2305843009213693952 := by
  rw [u64_and a _ h0 h1 (by omega) (by omega)]
  have : (2305843009213693951 : Int).toNat = 2 ^ 61 - 1 := by decide +kernel
  rw [this, Nat.and_two_pow_sub_one_eq_mod]
  omega

theorem Mul64_any (a b : Int) (h0 : 0 ≤ a) (h1 : a < 18446744073709551616) (k0 : 0 ≤ b) (k1 : b < 18446744073709551616) (w : World) :
    Calls Try.prog 39 #[.int .u64 a, .int .u64 b] w fun e w' => e = .returned (.tuple #[.int .u64 (a * b / 18446744073709551616), .int .u64 (a * b % 18446744073709551616)]) ∧ w = w' := by
  have m := mul64_arith a b h0 h1 k0 k1
  have m1 := and_low32 a h0 h1
  have m2 := and_low32 b k0 k1
  have M := Lib.hid m
  clear m
  go_enter Try.func39, Try.ntmps39
  go_wp2
  simp (disch := omega) only [and_low32, IntKind.wrap_u64]
  rw [M.out]
  go_ret2
  exact ⟨rfl, rfl⟩

theorem or_high (a b : Int) (h0 : 0 ≤ a) (h1 : a * 8 < 18446744073709551616) (k0 : 0 ≤ b) (k1 : b < 8) : bits .or .u64 (a * 8) b = a * 8 + b := by
  obtain ⟨n, rfl⟩ := Int.eq_ofNat_of_zero_le h0
  obtain ⟨m, rfl⟩ := Int.eq_ofNat_of_zero_le k0
  have e1 : (n : Int) * 8 = ((n * 8 : Nat) : Int) := by omega
  rw [e1, u64_or_nat _ _ (by omega) (by omega)]
  have := Nat.shiftLeft_add_eq_or_of_lt (a := n) (i := 3) (b := m) (by omega)
  rw [Nat.shiftLeft_eq] at this
  rw [show n * 8 = n * 2 ^ 3 from rfl, ← this]
  omega

theorem and_1 (n : Int) (h0 : 0 ≤ n) (h : n < 18446744073709551616) : bits .and .u64 n 1 = n % 2 := by
  rw [u64_and n 1 h0 h (by omega) (by omega)]
  have : (1 : Int).toNat = 2 ^ 1 - 1 := rfl
  rw [this, Nat.and_two_pow_sub_one_eq_mod]; omega

theorem toNat_expI : (2305843009213693949 : Int).toNat = expI := by decide +kernel

/-- The slice '.slice A xs.length c' holds the numbers xs, and lies below block B. -/
def SI (w : World) (B : Nat) (k : IntKind) (A : Option Addr) (xs : List Int) : Prop :=
  ∀ j, j < xs.length → ∃ ad, A = some ad ∧ ad.block < B ∧ w.cell? (ad.add j) = some (.int k (xs[j]?.getD 0))

theorem or_low (a x : Int) (n : Nat) (h0 : 0 ≤ a) (h1 : a < 2 ^ n) (x0 : 0 ≤ x) (x1 : x < 256) (hn : n ≤ 48) :
    bits .or .u64 a (IntKind.u64.wrap (x * 2 ^ n)) = a + 2 ^ n * x := by
  have p : (2 : Int) ^ n ≤ 2 ^ 48 := by exact_mod_cast Nat.pow_le_pow_right (show 0 < 2 by omega) hn
  have p0 : (0 : Int) < 2 ^ n := Int.pow_pos (by omega)
  have e48 : (2 : Int) ^ 48 = 281474976710656 := by decide
  have m1 : x * 2 ^ n ≤ 255 * 281474976710656 := Int.mul_le_mul (by omega) (by omega) (by omega) (by omega)
  have m0 : 0 ≤ x * 2 ^ n := Int.mul_nonneg x0 (by omega)
  rw [IntWalk.u64_in _ (by omega)]
  obtain ⟨a, rfl⟩ := Int.eq_ofNat_of_zero_le h0
  obtain ⟨x, rfl⟩ := Int.eq_ofNat_of_zero_le x0
  have hb : a < 2 ^ n := by exact_mod_cast h1
  have e1 : (x : Int) * 2 ^ n = ((x * 2 ^ n : Nat) : Int) := by push_cast; rfl
  rw [e1] at m1 ⊢
  rw [u64_or_nat _ _ (by omega) (by omega)]
  have := Nat.shiftLeft_add_eq_or_of_lt hb x
  rw [Nat.shiftLeft_eq] at this
  rw [Nat.or_comm, ← this]
  push_cast
  rw [Int.mul_comm]; omega

/-- A contract that leaves the world alone, inside a region that is walked once. -/
theorem quiet_eq {P : Program} {f : FuncId} {args : Array Value} {w : World} {n : Nat} {v : Value}
    (h : Calls P f args (w.drewN n) fun e w' => e = .returned v ∧ w.drewN n = w') : Calls P f args (w.drewN n) fun e w'' => e = .returned v ∧ ∃ m, w'' = w.drewN m :=
  h.mono fun _ _ ⟨he, hm⟩ => ⟨he, n, hm.symm⟩

def Dr (w w' : World) : Prop := ∃ n, w' = w.drewN n
theorem Dr.refl (w : World) : Dr w w := ⟨0, rfl⟩
theorem Dr.drewN {w w' : World} (h : Dr w w') (n : Nat) : Dr w (w'.drewN n) := by obtain ⟨m, rfl⟩ := h; exact ⟨m + n, by rw [World.drewN_drewN]⟩
theorem Dr.cell {w w' : World} (h : Dr w w') {a : Addr} {v : Value} (hc : w.cell? a = some v) : w'.cell? a = some v := by obtain ⟨m, rfl⟩ := h; exact hc
theorem Dr.si {w w' : World} (h : Dr w w') {B : Nat} {k : IntKind} {A : Option Addr} {xs : List Int} (hs : SI w B k A xs) : SI w' B k A xs := by obtain ⟨m, rfl⟩ := h; exact hs

end Go.Proofs.Yteoiippfpfgiiaa
