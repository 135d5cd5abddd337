/- What package share does inside: differences, weights, what goes through shares. -/
import Derived.Test.YtgboijbnjjmmkaaShareE
import Derived.Test.YtgboijbnjjmmkaaShareWMath
namespace Go.Proofs.Ytgboijbnjjmmkaa
open Go.ChangeShapes Go.WideShapes Go.ChangeAt Go.RowKit Gs
set_option linter.unusedVariables false

instance (ids : List Int) (i x : Int) : IsU (wup ids i x) := IsU.below (wup_rb ids i x) (by omega)
theorem difference2_any (a b : Int) (a0 : 0 ≤ a) (a1 : a < 9223372036854775808) (b0 : 0 ≤ b) (b1 : b < 9223372036854775808) (w : World) :
    Calls Try.prog 76 #[.int .i64 a, .int .i64 b] w fun e w' => e = .returned (.int .u64 (rsub a b)) ∧ w = w' := by
  haveI : IsU a := ⟨by omega, by omega⟩
  haveI : IsU b := ⟨by omega, by omega⟩
  have ha : IntKind.u64.wrap a = a := by rw [IntKind.wrap_u64]; omega
  have hb : IntKind.u64.wrap b = b := by rw [IntKind.wrap_u64]; omega
  have P := Lib.hid (SubR_r a b)
  go_enter Try.func76, Try.ntmps76
  go_wp2_with fail
  refine (P.out _).mono ?_; rintro e w' ⟨rfl, rfl⟩
  go_wp2_with fail
  go_ret
  exact ⟨rfl, rfl⟩

set_option maxRecDepth 100000 in
set_option maxHeartbeats 4000000 in
theorem weigh_any (Bi Bp : Nat) (A : Option Addr) (c : Nat) (xs : List Int) (hl : xs.length ≤ 1048576) (hx : ∀ x ∈ xs, 0 ≤ x ∧ x < 9223372036854775808) (i pl : Int) (i0 : 0 ≤ i) (i1 : i < 9223372036854775808) (p0 : 0 ≤ pl) (p1 : pl < 9223372036854775808) (hne : ∀ k ∈ xs, k ≠ i → ¬ Z (i - k)) (w : World) (hBi : Bi < w.heap.size) (hBp : Bp < w.heap.size)
    (ci : w.cell? ⟨Bi, 0, none⟩ = some (.slice A xs.length c)) (cp : w.cell? ⟨Bp, 0, none⟩ = some (.int .i64 pl)) (hs : SI w w.heap.size .i64 A xs) :
    Calls Try.prog 75 #[.int .i64 i, .pointer (some ⟨Bi, 0, none⟩), .pointer (some ⟨Bp, 0, none⟩)] w fun e w' => e = .returned (.int .u64 (wat xs i pl)) ∧ Below w.heap.size w w' := by
  have HS := Lib.hid hs
  have HX := Lib.hid hx
  have HW := Lib.hid (wup_wat pl hne)
  have CP := Lib.hid cp
  have B0 := Lib.hid (Below.refl w.heap.size w)
  clear hs hx hne cp
  go_enter Try.func75, Try.ntmps75
  go_wp2_with fail
  go_loopw [5, 6, 13] (fun a b j wr => ∃ k : Nat, k ≤ xs.length ∧ j = .int .i64 k ∧ a = .int .u64 (wup (xs.take k) i pl) ∧ b = .int .u64 (wup (xs.take k) i i) ∧ Below w.heap.size w wr) (fun _ _ j _ => xs.length - (intOf j).toNat)
  case atStart => exact ⟨0, by omega, rfl, rfl, rfl, B0.out⟩
  case round =>
    obtain ⟨k, hk, rfl, rfl, rfl, hd⟩ := hrel
    have HD := Lib.hid hd
    clear hd
    by_cases hlt : k < xs.length
    · obtain ⟨ad, rfl, had, c0⟩ := si_at (HS.out.below HD.out) k hlt
      have HT1 := Lib.hid (wup_take xs i pl k hlt)
      have HT2 := Lib.hid (wup_take xs i i k hlt)
      have hb := HX.out xs[k] (List.getElem_mem hlt)
      have b0 := hb.1
      have b1 := hb.2
      have cp1 := (HD.out.cell (p := ⟨Bp, 0, none⟩) hBp).trans CP.out
      clear hb
      by_cases he : xs[k] = i
      · have hq : (xs[k] == i) = true := beq_iff_eq.2 he
        have hq' : (xs[k] != i) = false := by simp [he]
        have HE1 := Lib.hid (show wup (xs.take (k + 1)) i pl = wup (xs.take k) i pl by rw [HT1.out]; unfold ustep; rw [if_pos he])
        have HE2 := Lib.hid (show wup (xs.take (k + 1)) i i = wup (xs.take k) i i by rw [HT2.out]; unfold ustep; rw [if_pos he])
        clear he
        go_wp2_with fail
        go_roundw
        case rel => exact ⟨k + 1, by omega, by go_num, by rw [HE1.out], by rw [HE2.out], HD.out⟩
        case measure => simp [intOf]; omega
      · have hq : (xs[k] == i) = false := beq_eq_false_iff_ne.2 he
        have hq' : (xs[k] != i) = true := by simp [he]
        have P1 := Lib.hid (difference2_any pl xs[k] p0 p1 b0 b1)
        have P2 := Lib.hid (MulR_r (wup (xs.take k) i pl) (rsub pl xs[k]))
        have P3 := Lib.hid (difference2_any i xs[k] i0 i1 b0 b1)
        have P4 := Lib.hid (MulR_r (wup (xs.take k) i i) (rsub i xs[k]))
        have HE1 := Lib.hid (show wup (xs.take (k + 1)) i pl = rmul (wup (xs.take k) i pl) (rsub pl xs[k]) by rw [HT1.out]; unfold ustep; rw [if_neg he])
        have HE2 := Lib.hid (show wup (xs.take (k + 1)) i i = rmul (wup (xs.take k) i i) (rsub i xs[k]) by rw [HT2.out]; unfold ustep; rw [if_neg he])
        clear he
        go_wp2_with fail
        refine (P1.out _).mono ?_; rintro e w' ⟨rfl, rfl⟩
        go_wp2_with fail
        refine (P2.out _).mono ?_; rintro e w2 ⟨rfl, b⟩
        have D1 := Lib.hid (HD.out.trans (b.mono HD.out.size))
        clear b
        go_wp2_with fail
        refine (P3.out _).mono ?_; rintro e w' ⟨rfl, rfl⟩
        go_wp2_with fail
        refine (P4.out _).mono ?_; rintro e w4 ⟨rfl, b⟩
        have D2 := Lib.hid (D1.out.trans (b.mono D1.out.size))
        clear b
        go_wp2_with fail
        go_roundw
        case rel => exact ⟨k + 1, by omega, by go_num, by rw [HE1.out], by rw [HE2.out], D2.out⟩
        case measure => simp [intOf]; omega
    · obtain rfl : k = xs.length := by omega
      have HA := Lib.hid (List.take_length (l := xs))
      rw [HA.out]
      have P1 := Lib.hid (InvR_r (wup xs i i))
      have P2 := Lib.hid (MulR_r (wup xs i pl) (rinv (wup xs i i)))
      rw [HW.out] at P2
      go_wp2_with fail
      refine (P1.out _).mono ?_; rintro e w2 ⟨rfl, b⟩
      have D1 := Lib.hid (HD.out.trans (b.mono HD.out.size))
      clear b
      go_wp2_with fail
      refine (P2.out _).mono ?_; rintro e w4 ⟨rfl, b⟩
      have D2 := Lib.hid (D1.out.trans (b.mono D1.out.size))
      clear b
      go_wp2_with fail
      go_ret
      exact ⟨rfl, D2.out⟩
end Go.Proofs.Ytgboijbnjjmmkaa
