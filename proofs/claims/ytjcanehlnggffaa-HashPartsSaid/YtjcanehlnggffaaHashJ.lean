/- Contracts of the hash: bytes as numbers. -/
import Derived.Test.YtjcanehlnggffaaHashI
import Derived.Test.YtjcanehlnggffaaHashNumber
namespace Go.Proofs.Ytjcanehlnggffaa
open Go.ChangeShapes Go.WideShapes Go.ChangeAt Go.RowKit Gs
set_option linter.unusedVariables false

/-- The number of bytes, the highest first. -/
def bnumTo (xs : List Int) (k : Nat) : Int := bnum (xs.take k) 0

theorem or_byte (a x : Int) (h0 : 0 ≤ a) (h1 : a < 72057594037927936) (x0 : 0 ≤ x) (x1 : x < 256) : bits .or .u64 (a * 256) x = 256 * a + x := by
  obtain ⟨a, rfl⟩ := Int.eq_ofNat_of_zero_le h0
  obtain ⟨x, rfl⟩ := Int.eq_ofNat_of_zero_le x0
  have e1 : (a : Int) * 256 = ((a * 256 : Nat) : Int) := by omega
  rw [e1, u64_or_nat _ _ (by omega) (by omega)]
  have := Nat.shiftLeft_add_eq_or_of_lt (a := a) (i := 8) (b := x) (by omega)
  rw [Nat.shiftLeft_eq] at this
  rw [show a * 256 = a * 2 ^ 8 from rfl, ← this]
  omega

set_option maxHeartbeats 1000000 in
theorem numberB_any (A : Option Addr) (c : Nat) (xs : List Int) (hx : ∀ x ∈ xs, 0 ≤ x ∧ x < 256) (h8 : xs.length ≤ 8) (B : Nat) (w : World) (hs : SI w B .u8 A xs) :
    Calls Try.prog 41 #[.slice A xs.length c] w fun e w' => e = .returned (.int .u64 (bnum xs 0)) ∧ w = w' := by
  have HX := Lib.hid hx
  have HS := Lib.hid hs
  clear hx hs
  go_enter Try.func41, Try.ntmps41
  go_wp2
  go_loop [3, 8] (fun n i => ∃ (k : Nat) (a : Int), k ≤ xs.length ∧ i = .int .i64 k ∧ n = .int .u64 a ∧ a = bnum (xs.take k) 0) (fun _ i => xs.length - (intOf i).toNat)
  case atStart => exact ⟨0, 0, by omega, rfl, rfl, rfl⟩
  case round =>
    obtain ⟨k, a, hk, rfl, rfl, ha⟩ := hrel
    by_cases hlt : k < xs.length
    · obtain ⟨ad, rfl, hb, hc⟩ := HS.out k hlt
      have hxk := HX.out (xs[k]) (List.getElem_mem hlt)
      simp only [List.getElem?_eq_getElem hlt, Option.getD_some] at hc
      have hab := bnum_bound xs HX.out k hk
      rw [← ha] at hab
      have h0 := hab.1
      have h1 : a < 72057594037927936 := Int.lt_of_lt_of_le hab.2 (pow256 k (by omega))
      have ho := or_byte a xs[k] h0 h1 hxk.1 hxk.2
      have HA := Lib.hid ha
      have HT := Lib.hid (bnum_take xs k hlt)
      generalize xs[k] = y at *
      clear ha hab
      go_wp2
      go_round
      case rel => exact ⟨k + 1, 256 * a + y, by omega, by go_num, rfl, by rw [HT.out, HA.out]⟩
      case measure => simp [intOf]; omega
    · have HA := Lib.hid (show a = bnum xs 0 by rw [ha, List.take_of_length_le (by omega)])
      clear ha
      go_wp2
      go_ret
      exact ⟨ret_u64 HA.out, rfl⟩

set_option maxHeartbeats 1000000 in
theorem refnumberB_any (A : Option Addr) (c : Nat) (xs : List Int) (hx : ∀ x ∈ xs, 0 ≤ x ∧ x < 256) (h8 : xs.length = 8) (B : Nat) (w : World) (hs : SI w B .u8 A xs) :
    Calls Try.prog 42 #[.slice A 8 c] w fun e w' => e = .returned (.int .u64 (bnum xs 0)) ∧ w = w' := by
  have HX := Lib.hid hx
  have HS := Lib.hid hs
  have H8 := Lib.hid h8
  clear hx hs h8
  go_enter Try.func42, Try.ntmps42
  go_wp2
  go_loop [3, 4] (fun n i => ∃ (k : Nat) (a : Int), k ≤ 8 ∧ i = .int .i64 k ∧ n = .int .u64 a ∧ a = bnum (xs.take k) 0) (fun _ i => 8 - (intOf i).toNat)
  case atStart => exact ⟨0, 0, by omega, rfl, rfl, rfl⟩
  case round =>
    obtain ⟨k, a, hk, rfl, rfl, ha⟩ := hrel
    by_cases hlt : k < 8
    · have hlx : k < xs.length := by rw [H8.out]; exact hlt
      obtain ⟨ad, rfl, hb, hc⟩ := HS.out k hlx
      have hxk := HX.out (xs[k]) (List.getElem_mem hlx)
      simp only [List.getElem?_eq_getElem hlx, Option.getD_some] at hc
      have hab := bnum_bound xs HX.out k (by rw [H8.out]; exact hk)
      rw [← ha] at hab
      have h0 := hab.1
      have h1 : a < 72057594037927936 := Int.lt_of_lt_of_le hab.2 (pow256 k (by omega))
      have HA := Lib.hid ha
      have HT := Lib.hid (bnum_take xs k hlx)
      generalize xs[k] = y at *
      clear ha hab
      go_wp2
      go_round
      case rel => exact ⟨k + 1, a * 256 + y, by omega, by go_num, rfl, by rw [HT.out, HA.out]; omega⟩
      case measure => simp [intOf]; omega
    · have HA := Lib.hid (show a = bnum xs 0 by rw [ha, List.take_of_length_le (by rw [H8.out]; omega)])
      clear ha
      go_wp2
      go_ret
      exact ⟨ret_u64 HA.out, rfl⟩
end Go.Proofs.Ytjcanehlnggffaa
