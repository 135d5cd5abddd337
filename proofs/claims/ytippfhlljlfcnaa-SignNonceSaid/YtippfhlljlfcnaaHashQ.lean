/- Contracts: how many bits a word has, and how many it lacks. -/
import Derived.Test.YtippfhlljlfcnaaHashM
import Derived.Deep.Cut
namespace Go.Proofs.Ytippfhlljlfcnaa
open Go.ChangeShapes Go.WideShapes Go.ChangeAt Go.RowKit Gs
set_option linter.unusedVariables false

def tabOk (D : ByteArray) : Bool := decide (D.size = 256) && (List.range 256).all fun i => i == 0 || (decide (1 ≤ D[i]!.toNat) && decide (D[i]!.toNat ≤ 8) && decide (2 ^ (D[i]!.toNat - 1) ≤ i) && decide (i < 2 ^ D[i]!.toNat))
theorem tabOk_out {D : ByteArray} (h : tabOk D = true) (i : Nat) (hi : i < 256) (h0 : 0 < i) (hs : i < D.size) : 1 ≤ D[i].toNat ∧ D[i].toNat ≤ 8 ∧ 2 ^ (D[i].toNat - 1) ≤ i ∧ i < 2 ^ D[i].toNat := by
  unfold tabOk at h
  rw [Bool.and_eq_true] at h
  have h2 := List.all_eq_true.1 h.2 i (List.mem_range.2 hi)
  rw [getElem!_pos D i hs] at h2
  simp at h2
  rcases h2 with h2 | h2
  · omega
  · omega
theorem len_fin {w : World} (D : ByteArray) (ht : tabOk D = true) (y : Int) (k : Nat) (hk : k ≤ 56) (x : Int) (hx : x = y / (2 : Int) ^ k) (h0 : 0 < x) (h1 : x < 256) (hs : x.toNat < D.size) :
    ∃ n : Nat, Ending.returned (Value.int .i64 (wrap64 (k + wrap64 (D[x.toNat].toNat : Int)))) = Ending.returned (Value.int .i64 (n : Int)) ∧ w = w ∧ 1 ≤ n ∧ n ≤ 64 ∧ (2 : Int) ^ (n - 1) ≤ y ∧ y < (2 : Int) ^ n := by
  obtain ⟨t1, t2, t3, t4⟩ := tabOk_out ht x.toNat (by omega) (by omega) hs
  generalize D[x.toNat].toNat = t at *
  have e1 : wrap64 (t : Int) = t := by unfold wrap64; omega
  have e2 : wrap64 ((k : Int) + t) = (k + t : Nat) := by unfold wrap64; omega
  have p0 : (0 : Int) < 2 ^ k := Int.pow_pos (by omega)
  have t3' : (2 : Int) ^ (t - 1) ≤ x := by
    have : ((2 ^ (t - 1) : Nat) : Int) ≤ (x.toNat : Int) := Int.ofNat_le.2 t3
    rw [Int.natCast_pow] at this
    have hx0 : (x.toNat : Int) = x := Int.toNat_of_nonneg (by omega)
    rw [hx0] at this
    exact this
  have t4' : x < (2 : Int) ^ t := by
    have : (x.toNat : Int) < ((2 ^ t : Nat) : Int) := Int.ofNat_lt.2 t4
    rw [Int.natCast_pow] at this
    have hx0 : (x.toNat : Int) = x := Int.toNat_of_nonneg (by omega)
    rw [hx0] at this
    exact this
  refine ⟨k + t, by rw [e1, e2], rfl, by omega, by omega, ?_, ?_⟩
  · rw [show k + t - 1 = (t - 1) + k by omega, Int.pow_add]
    rw [hx] at t3'
    exact (Int.le_ediv_iff_mul_le p0).1 t3'
  · rw [Nat.add_comm k t, Int.pow_add]
    rw [hx] at t4'
    exact (Int.ediv_lt_iff_lt_mul p0).1 t4'

theorem len_fin0 {w : World} (D : ByteArray) (ht : tabOk D = true) (y : Int) (x : Int) (hx : x = y) (h0 : 0 < x) (h1 : x < 256) (hs : x.toNat < D.size) :
    ∃ n : Nat, Ending.returned (Value.int .i64 (wrap64 (wrap64 (D[x.toNat].toNat : Int)))) = Ending.returned (Value.int .i64 (n : Int)) ∧ w = w ∧ 1 ≤ n ∧ n ≤ 64 ∧ (2 : Int) ^ (n - 1) ≤ y ∧ y < (2 : Int) ^ n := by
  have h := len_fin (w := w) D ht y 0 (by omega) x (by rw [hx]; simp) h0 h1 hs
  rwa [show ((0 : Nat) : Int) = 0 from rfl, Int.zero_add] at h

set_option maxRecDepth 100000 in
theorem Len_any (y : Int) (y0 : 0 < y) (y1 : y < 18446744073709551616) (w : World) :
    Calls Try.prog 84 #[.int .u64 y] w fun e w' => ∃ n : Nat, e = .returned (.int .i64 n) ∧ w = w' ∧ 1 ≤ n ∧ n ≤ 64 ∧ (2 : Int) ^ (n - 1) ≤ y ∧ y < (2 : Int) ^ n := by
  by_cases a1 : 4294967296 ≤ y
  · by_cases a2 : 65536 ≤ y / 4294967296
    · by_cases a3 : 256 ≤ y / 4294967296 / 65536
      · go_enter Try.func84, Try.ntmps84
        go_wp2_with fail
        go_ret
        exact len_fin _ (by decide +kernel) y 56 (by omega) _ (by omega) (by omega) (by omega) _
      · go_enter Try.func84, Try.ntmps84
        go_wp2_with fail
        go_ret
        exact len_fin _ (by decide +kernel) y 48 (by omega) _ (by omega) (by omega) (by omega) _
    · by_cases a3 : 256 ≤ y / 4294967296
      · go_enter Try.func84, Try.ntmps84
        go_wp2_with fail
        go_ret
        exact len_fin _ (by decide +kernel) y 40 (by omega) _ (by omega) (by omega) (by omega) _
      · go_enter Try.func84, Try.ntmps84
        go_wp2_with fail
        go_ret
        exact len_fin _ (by decide +kernel) y 32 (by omega) _ (by omega) (by omega) (by omega) _
  · by_cases a2 : 65536 ≤ y
    · by_cases a3 : 256 ≤ y / 65536
      · go_enter Try.func84, Try.ntmps84
        go_wp2_with fail
        go_ret
        exact len_fin _ (by decide +kernel) y 24 (by omega) _ (by omega) (by omega) (by omega) _
      · go_enter Try.func84, Try.ntmps84
        go_wp2_with fail
        go_ret
        exact len_fin _ (by decide +kernel) y 16 (by omega) _ (by omega) (by omega) (by omega) _
    · by_cases a3 : 256 ≤ y
      · go_enter Try.func84, Try.ntmps84
        go_wp2_with fail
        go_ret
        exact len_fin _ (by decide +kernel) y 8 (by omega) _ (by omega) (by omega) (by omega) _
      · go_enter Try.func84, Try.ntmps84
        go_wp2_with fail
        go_ret
        exact len_fin0 _ (by decide +kernel) y _ rfl (by omega) (by omega) _

theorem Lead_any (y : Int) (y0 : 0 < y) (y1 : y < 18446744073709551616) (w : World) :
    Calls Try.prog 76 #[.int .u64 y] w fun e w' => ∃ s : Nat, e = .returned (.int .i64 s) ∧ w = w' ∧ s ≤ 63 ∧ 9223372036854775808 ≤ y * (2 : Int) ^ s ∧ y * (2 : Int) ^ s < 18446744073709551616 := by
  go_enter Try.func76, Try.ntmps76
  go_wp2_with fail
  refine (Len_any y y0 y1 _).mono ?_
  rintro e w' ⟨n, rfl, rfl, n1, n2, h1, h2⟩
  have p0 : (0 : Int) < 2 ^ (64 - n) := Int.pow_pos (by omega)
  have e1 : (2 : Int) ^ (n - 1) * 2 ^ (64 - n) = 9223372036854775808 := by
    rw [← Int.pow_add, show n - 1 + (64 - n) = 63 by omega]; decide
  have e2 : (2 : Int) ^ n * 2 ^ (64 - n) = 18446744073709551616 := by
    rw [← Int.pow_add, show n + (64 - n) = 64 by omega]; decide
  have g1 := Int.mul_le_mul_of_nonneg_right h1 (Int.le_of_lt p0)
  have g2 := Int.mul_lt_mul_of_pos_right h2 p0
  rw [e1] at g1
  rw [e2] at g2
  have HG := Lib.hid (And.intro g1 g2)
  clear g1 g2 e1 e2 p0 h1 h2
  have hw : wrap64 (64 - (n : Int)) = ((64 - n : Nat) : Int) := by unfold wrap64; omega
  go_wp2_with fail
  go_ret
  refine ⟨64 - n, ?_, rfl, by omega, HG.out.1, HG.out.2⟩
  first | rfl | (simp; omega)
end Go.Proofs.Ytippfhlljlfcnaa
