/- Several texts of one kind, one behind the other: HashI, HashJ, HashK, HashL, HashM. -/
import Derived.Test.YtgkdkkppeeikoaaHashLib2
import Derived.RegionTactic
import Derived.Deep.RegionHeld3
import Derived.Deep.DrawnRows
import Derived.Test.YtgkdkkppeeikoaaPlain
import Derived.Laws.Externs
/- Contracts of the hash: the hash of two hashes. -/
namespace Go.Proofs.Ytgkdkkppeeikoaa
open Go.ChangeShapes Go.WideShapes Go.ChangeAt Go.RowKit Gs
set_option linter.unusedVariables false
attribute [local go_sem ↓] Go.wp_at_zero Go.wp_at_succ

/-- The hash of two hashes. -/
def hpair (a0 a1 b0 b1 : Int) : S3 := hst (coded [110, 111, 100, 101] [be a0 8 ++ be a1 8, be b0 8 ++ be b1 8])
theorem node_bytes : sbytes { data := #[110, 111, 100, 101] } = [110, 111, 100, 101] := by decide

theorem SP_new2 (w : World) {g B n1 n2 : Nat} {A1 A2 : Option Addr} {c1 c2 : Nat} {xs ys : List Int} {t : TypeId} (hg : g = w.heap.size) (hB : w.heap.size < B) (e1 : xs.length = n1) (e2 : ys.length = n2) (h1 : SI w w.heap.size .u8 A1 xs) (h2 : SI w w.heap.size .u8 A2 ys) (l1 : n1 ≤ c1) (m1 : c1 ≤ maxLen) (l2 : n2 ≤ c2) (m2 : c2 ≤ maxLen) :
    SP (w.alloc (.cells #[.slice A1 n1 c1, .slice A2 n2 c2] t)) B (some ⟨g, 0, none⟩) [xs, ys] := by
  subst hg e1 e2
  have hk : Below w.heap.size w (w.alloc (.cells #[.slice A1 xs.length c1, .slice A2 ys.length c2] t)) := (Below.refl _ _).alloc (Nat.le_refl _) _
  have hb := Blk.new w t #[.slice A1 xs.length c1, .slice A2 ys.length c2]
  intro j hj
  refine ⟨_, rfl, hB, ?_⟩
  rw [add_zero_off]
  match j, hj with
  | 0, _ => exact ⟨A1, c1, hb.cell 0, l1, m1, (h1.below hk).more (by omega)⟩
  | 1, _ => exact ⟨A2, c2, hb.cell 1, l2, m2, (h2.below hk).more (by omega)⟩

theorem sum_bound (a b : Int) : ∀ x ∈ be a 8 ++ be b 8, 0 ≤ x ∧ x < 256 := fun x hx => by
  rcases List.mem_append.1 hx with h | h <;> exact be_bound _ _ x h

theorem far2 {w : World} {g o h : Nat} {o1 o2 : Nat} {u1 u2 v : Value} (hc : w.cell? ⟨g, o, none⟩ = some v) (h1 : g ≠ h) (h2 : g ≠ h) : ((w.setCell ⟨h, o1, none⟩ u1).setCell ⟨h, o2, none⟩ u2).cell? ⟨g, o, none⟩ = some v := cell_far (cell_far hc h1) h2
theorem Tagged_pair (A : Option Addr) (c : Nat) (xs ys : List Int) (hx : ∀ x ∈ xs, 0 ≤ x ∧ x < 256) (hy : ∀ x ∈ ys, 0 ≤ x ∧ x < 256) (hxl : xs.length ≤ 16) (hyl : ys.length ≤ 16) (w : World) (hp : SP w w.heap.size A [xs, ys]) :
    Calls Try.prog 29 #[.string { data := #[110, 111, 100, 101] }, .slice A 2 c] w fun e w' => e = .returned (.agg #[.int .u64 (hst (coded [110, 111, 100, 101] [xs, ys])).1, .int .u64 (hst (coded [110, 111, 100, 101] [xs, ys])).2.1]) ∧ Below w.heap.size w w' := by
  have h := Tagged_any { data := #[110, 111, 100, 101] } A c [xs, ys] (by intro p hp; rcases List.mem_cons.1 hp with rfl | hp; exact hx; rcases List.mem_cons.1 hp with rfl | hp; exact hy; simp at hp) (by simp [psz, ByteArray.size]; omega) (by simp) w hp
  rw [node_bytes] at h
  exact h

end Go.Proofs.Ytgkdkkppeeikoaa

/- Contracts of the hash: bytes as numbers. -/
namespace Go.Proofs.Ytgkdkkppeeikoaa
open Go.ChangeShapes Go.WideShapes Go.ChangeAt Go.RowKit Gs
set_option linter.unusedVariables false

/-- The number of bytes, the highest first. -/
def bnumTo (xs : List Int) (k : Nat) : Int := bnum (xs.take k) 0

theorem or_byte (a x : Int) (h0 : 0 ≤ a) (h1 : a < 72057594037927936) (x0 : 0 ≤ x) (x1 : x < 256) : bits .or .u64 (a * 256) x = 256 * a + x := by
  obtain ⟨a, rfl⟩ := Int.eq_ofNat_of_zero_le h0
  obtain ⟨x, rfl⟩ := Int.eq_ofNat_of_zero_le x0
  have e1 : (a : Int) * 256 = ((a * 256 : Nat) : Int) := by omega
  rw [e1, u64_or_nat _ _ (by omega) (by omega)]
  have := Nat.shiftLeft_add_eq_or_of_lt (a := a) (i := 8) (b := x) (by omega)
  rw [Nat.shiftLeft_eq] at this
  rw [show a * 256 = a * 2 ^ 8 from rfl, ← this]
  omega

end Go.Proofs.Ytgkdkkppeeikoaa

/- Contracts of the hash: which hash bytes are. -/
namespace Go.Proofs.Ytgkdkkppeeikoaa
open Go.ChangeShapes Go.WideShapes Go.ChangeAt Go.RowKit Gs
set_option linter.unusedVariables false
attribute [local go_sem ↓] Go.wp_at_zero Go.wp_at_succ

def hofOk (xs : List Int) : Prop := xs.length = 16 ∧ bnum (xs.take 8) 0 < PP ∧ bnum (xs.drop 8) 0 < PP
instance (xs : List Int) : Decidable (hofOk xs) := by unfold hofOk; infer_instance
/-- The error and the hash that bytes are. -/
def hofE (xs : List Int) : Int := if xs.length < 16 then 70 else if hofOk xs then 0 else 71
def hofA (xs : List Int) : Int × Int := if hofOk xs then (bnum (xs.take 8) 0, bnum (xs.drop 8) 0) else (0, 0)
theorem hof_short {xs : List Int} (h : xs.length < 16) : hofE xs = 70 ∧ hofA xs = (0, 0) := by
  unfold hofE hofA
  rw [if_pos h, if_neg (fun h2 => by unfold hofOk at h2; omega)]; exact ⟨rfl, rfl⟩
theorem hof_bad {xs : List Int} (h : ¬ xs.length < 16) (h2 : ¬ hofOk xs) : hofE xs = 71 ∧ hofA xs = (0, 0) := by
  unfold hofE hofA
  rw [if_neg h, if_neg h2, if_neg h2]; exact ⟨rfl, rfl⟩
theorem hof_ok {xs : List Int} (h2 : hofOk xs) : hofE xs = 0 ∧ hofA xs = (bnum (xs.take 8) 0, bnum (xs.drop 8) 0) := by
  unfold hofE hofA
  rw [if_neg (by unfold hofOk at h2; omega), if_pos h2, if_pos h2]; exact ⟨rfl, rfl⟩

end Go.Proofs.Ytgkdkkppeeikoaa

/- Contracts of the hash: which hash bytes are, by the plain answer. -/
namespace Go.Proofs.Ytgkdkkppeeikoaa
open Go.ChangeShapes Go.WideShapes Go.ChangeAt Go.RowKit Gs
set_option linter.unusedVariables false
attribute [local go_sem ↓] Go.wp_at_zero Go.wp_at_succ

end Go.Proofs.Ytgkdkkppeeikoaa

/- Contracts of the hash: a number of a hash, over the division of two words by one. -/
namespace Go.Proofs.Ytgkdkkppeeikoaa
open Go.ChangeShapes Go.WideShapes Go.ChangeAt Go.RowKit Gs
set_option linter.unusedVariables false

theorem Div64_zero (lo y : Int) (h0 : 0 ≤ lo) (h1 : lo < 18446744073709551616) (y0 : 0 < y) (y1 : y < 18446744073709551616) (w : World) :
    Calls Try.prog 40 #[.int .u64 0, .int .u64 lo, .int .u64 y] w fun e w' => e = .returned (.tuple #[.int .u64 (lo / y), .int .u64 (lo % y)]) ∧ Dr w w' := by
  have hy : (y == 0) = false := beq_eq_false_iff_ne.2 (by omega)
  go_enter Try.func40, Try.ntmps40
  go_wp2_with fail
  go_quiet (fail)
  go_wp2_with fail
  go_ret2
  exact ⟨rfl, _, rfl⟩

theorem Rem64_zero (hi lo y : Int) (g0 : 0 ≤ hi) (g1 : hi < 18446744073709551616) (h0 : 0 ≤ lo) (h1 : lo < 18446744073709551616) (y0 : 0 < y) (y1 : y < 18446744073709551616) (hz : hi % y = 0) (w : World) :
    Calls Try.prog 35 #[.int .u64 hi, .int .u64 lo, .int .u64 y] w fun e w' => e = .returned (.int .u64 (lo % y)) ∧ Dr w w' := by
  have hy : (y == 0) = false := beq_eq_false_iff_ne.2 (by omega)
  go_enter Try.func35, Try.ntmps35
  go_wp2_with fail
  refine (Div64_zero lo y h0 h1 y0 y1 _).mono ?_
  rintro e w' ⟨rfl, hd⟩
  have HD := Lib.hid hd
  clear hd
  go_wp2_with fail
  go_ret
  exact ⟨rfl, HD.out⟩

theorem add64_run (x y : Int) (hx : 0 ≤ x) (hy : 0 ≤ y) (w : World) : (callFunc 34 #[.int .u64 x, .int .u64 y, .int .u64 0]).run Try.prog w = .ok (.value (.tuple #[.int .u64 ((x + y) % 18446744073709551616), .int .u64 ((x + y) / 18446744073709551616)])) w := by
  rw [run_callFunc_extern Try.func34 (by kernel_rfl) (by kernel_rfl) (by kernel_rfl) (e := add64Entry) (by kernel_rfl), run_add64 x y 0 hx hy (by omega) (by omega)]
  simp only [Result.andThen, Int.add_zero]

/-- A number of a hash. -/
def hnum (a b m : Int) : Int := if m = 0 then 0 else (a * 2305843009213693952 + b) % m
theorem num_parts (a b : Int) : (a / 8 + (a * 2305843009213693952 % 18446744073709551616 + b) / 18446744073709551616) * 18446744073709551616 + (a * 2305843009213693952 % 18446744073709551616 + b) % 18446744073709551616 = a * 2305843009213693952 + b := by omega

theorem Num_zero (a b : Int) (w : World) :
    Calls Try.prog 31 #[.agg #[.int .u64 a, .int .u64 b], .int .u64 0] w fun e w' => e = .returned (.int .u64 0) ∧ Below w.heap.size w w' := by
  go_enter Try.func31, Try.ntmps31
  go_wp2_with fail
  go_ret
  exact ⟨rfl, (Below.refl _ _).alloc (Nat.le_refl _) _⟩

theorem mod_low (hi lo m : Int) (hz : hi % m = 0) : (hi * 18446744073709551616 + lo) % m = lo % m := by
  rw [Int.add_emod, Int.mul_emod, hz, Int.zero_mul, Int.zero_emod, Int.zero_add, Int.emod_emod]

set_option maxHeartbeats 1000000 in
/-- Whatever the upper half is modulo the number below which it is: Rem64's contract is handed in. -/
theorem Num_of (a b m : Int) [IsU a] [IsU b] [IsU m] (m0 : 0 < m)
    (hr : ∀ hi lo : Int, 0 ≤ hi → hi ≤ 2305843009213693952 → 0 ≤ lo → lo < 18446744073709551616 → hi * 18446744073709551616 + lo = a * 2305843009213693952 + b → ∀ w, Calls Try.prog 35 #[.int .u64 hi, .int .u64 lo, .int .u64 m] w fun e w' => e = .returned (.int .u64 ((hi * 18446744073709551616 + lo) % m)) ∧ Dr w w') (w : World) :
    Calls Try.prog 31 #[.agg #[.int .u64 a, .int .u64 b], .int .u64 m] w fun e w' => e = .returned (.int .u64 (hnum a b m)) ∧ Below w.heap.size w w' := by
  have a0 : 0 ≤ a := IsU.lo
  have a1 : a < 18446744073709551616 := IsU.hi
  have b0 : 0 ≤ b := IsU.lo
  have b1 : b < 18446744073709551616 := IsU.hi
  have hm : (m == 0) = false := beq_eq_false_iff_ne.2 (by omega)
  have hw : IntKind.u64.wrap (a * 2305843009213693952) = a * 2305843009213693952 % 18446744073709551616 := by rw [IntKind.wrap_u64]
  have ar : ∀ w, (callFunc 34 #[.int .u64 (IntKind.u64.wrap (a * 2305843009213693952)), .int .u64 b, .int .u64 0]).run Try.prog w = .ok (.value (.tuple #[.int .u64 ((a * 2305843009213693952 % 18446744073709551616 + b) % 18446744073709551616), .int .u64 ((a * 2305843009213693952 % 18446744073709551616 + b) / 18446744073709551616)])) w := fun w => by
    rw [hw]; exact add64_run _ b (by omega) b0 w
  have hn := num_parts a b
  have hnn : hnum a b m = (a * 2305843009213693952 + b) % m := by unfold hnum; rw [if_neg (by omega)]
  have hlo : 0 ≤ (a * 2305843009213693952 % 18446744073709551616 + b) % 18446744073709551616 ∧ (a * 2305843009213693952 % 18446744073709551616 + b) % 18446744073709551616 < 18446744073709551616 := by omega
  have hcy : 0 ≤ (a * 2305843009213693952 % 18446744073709551616 + b) / 18446744073709551616 ∧ (a * 2305843009213693952 % 18446744073709551616 + b) / 18446744073709551616 ≤ 1 := by omega
  generalize (a * 2305843009213693952 % 18446744073709551616 + b) % 18446744073709551616 = lo at *
  generalize (a * 2305843009213693952 % 18446744073709551616 + b) / 18446744073709551616 = cy at *
  have HR := Lib.hid (hr (a / 8 + cy) lo (by omega) (by omega) hlo.1 hlo.2 hn)
  rw [hn, ← hnn] at HR
  clear hn hnn hw hr
  go_enter Try.func31, Try.ntmps31
  go_wp2_with fail
  refine (HR.out _).mono ?_
  rintro e w' ⟨rfl, n, rfl⟩
  go_wp2_with fail
  go_ret
  exact ⟨rfl, below_drewN ((Below.refl _ _).alloc (Nat.le_refl _) _) n⟩

theorem Num_live (w : World) :
    Calls Try.prog 31 #[.agg #[.int .u64 1, .int .u64 5], .int .u64 10] w fun e w' => e = .returned (.int .u64 7) ∧ Below w.heap.size w w' := by
  haveI : IsU 5 := ⟨by omega, by omega⟩
  haveI : IsU 10 := ⟨by omega, by omega⟩
  have h := Num_of 1 5 10 (by omega) (fun hi lo h0 h1 l0 l1 hn w => by
    have hz : hi = 0 := by omega
    subst hz
    have g := Rem64_zero 0 lo 10 (by omega) (by omega) l0 l1 (by omega) (by omega) rfl w
    rw [Int.zero_mul, Int.zero_add]
    exact g) w
  have e : hnum 1 5 10 = 7 := by decide +kernel
  rw [e] at h
  exact h
end Go.Proofs.Ytgkdkkppeeikoaa
