/- Contracts of the hash: which hash bytes are, by the plain answer. -/
import Derived.Test.YtjcanehlnggffaaHashK
namespace Go.Proofs.Ytjcanehlnggffaa
open Go.ChangeShapes Go.WideShapes Go.ChangeAt Go.RowKit Gs
set_option linter.unusedVariables false
attribute [local go_sem ↓] Go.wp_at_zero Go.wp_at_succ

set_option maxHeartbeats 400000 in
theorem refOf16B (ad : Addr) (c : Nat) (xs : List Int) (hx : ∀ x ∈ xs, 0 ≤ x ∧ x < 256) (h16 : xs.length = 16) (hc : 16 ≤ c) (w : World) (hs : SI w w.heap.size .u8 (some ad) xs) :
    Calls Try.prog 24 #[.slice (some ad) 16 c] w fun e w' => e = .returned (.tuple #[.agg #[.int .u64 (hofA xs).1, .int .u64 (hofA xs).2], .int .i64 (hofE xs)]) ∧ Below w.heap.size w w' := by
  have N0 := Lib.hid (fun w' (hw : Below w.heap.size w w') => refnumberB_any (some ad) c (xs.take 8) (fun x h => hx x (List.mem_of_mem_take h)) (by simp [h16]) w.heap.size w' ((hs.below hw).take_ 8))
  have N1 := Lib.hid (fun w' (hw : Below w.heap.size w w') => refnumberB_any (some (ad.add 8)) (c - 8) (xs.drop 8) (fun x h => hx x (List.mem_of_mem_drop h)) (by simp [h16]) w.heap.size w' (by
    have h := (hs.below hw).part 8 8 (by omega)
    rwa [List.take_of_length_le (by simp [h16])] at h))
  have U0 := Lib.hid (bnum_u (xs.take 8) (fun x h => hx x (List.mem_of_mem_take h)) (by simp; omega))
  have U1 := Lib.hid (bnum_u (xs.drop 8) (fun x h => hx x (List.mem_of_mem_drop h)) (by simp [h16]))
  have HO : Hid (hofOk xs ↔ bnum (xs.take 8) 0 < 2305843009213693951 ∧ bnum (xs.drop 8) 0 < 2305843009213693951) := by
    unfold Hid hofOk PP; exact ⟨fun h => h.2, fun h => ⟨h16, h⟩⟩
  have HL := Lib.hid (show ¬ xs.length < 16 by omega)
  have e8 : ad.add 8 = ⟨ad.block, ad.off + 8, none⟩ := by simp [Addr.add]
  rw [e8] at N1
  have hci : (16 : Int) ≤ (c : Int) := by omega
  have hci8 : (8 : Int) ≤ (c : Int) := by omega
  clear hx hs h16 e8
  obtain ⟨x0, hx0⟩ : ∃ x0, bnum (xs.take 8) 0 = x0 := ⟨_, rfl⟩
  obtain ⟨x1, hx1⟩ : ∃ x1, bnum (xs.drop 8) 0 = x1 := ⟨_, rfl⟩
  rw [hx0] at N0 U0 HO
  rw [hx1] at N1 U1 HO
  have X0 := Lib.hid hx0
  have X1 := Lib.hid hx1
  clear hx0 hx1
  go_enter Try.func24, Try.ntmps24
  have b0 := U0.out
  have b1 := U1.out
  unfold U64 at b0 b1
  by_cases p0 : x0 < 2305843009213693951
  · by_cases p1 : x1 < 2305843009213693951
    · have HR := Lib.hid (hof_ok (HO.out.2 ⟨p0, p1⟩))
      go_wp2_with fail
      refine (N0.out _ ((Below.refl _ _).alloc (Nat.le_refl _) _)).mono ?_; rintro e w' ⟨rfl, rfl⟩
      go_wp2_with fail
      refine (N1.out _ ((Below.refl _ _).alloc (Nat.le_refl _) _)).mono ?_; rintro e w' ⟨rfl, rfl⟩
      go_wp2_with fail
      go_region_held3 (fun _ => True) (trivial)
    (first
      | (go_at_call 42; (with_reducible refine (N0.out _ (((Below.refl _ _).alloc (Nat.le_refl _) _).drew)).mono ?_); rintro e w' ⟨rfl, rfl⟩)
      | (go_at_call 42; (with_reducible refine (N0.out _ ((((Below.refl _ _).alloc (Nat.le_refl _) _).drew).drew)).mono ?_); rintro e w' ⟨rfl, rfl⟩)
      | (go_at_call 42; (with_reducible refine (N1.out _ (((Below.refl _ _).alloc (Nat.le_refl _) _).drew)).mono ?_); rintro e w' ⟨rfl, rfl⟩)
      | (go_at_call 42; (with_reducible refine (N1.out _ ((((Below.refl _ _).alloc (Nat.le_refl _) _).drew).drew)).mono ?_); rintro e w' ⟨rfl, rfl⟩))
      all_goals
        go_wp2_with fail
        refine bodyPost_ret (v := .tuple #[.agg #[.int .u64 x0, .int .u64 x1], .int .i64 0]) (by simp [results, Try.results24, go_sem]) rfl ⟨by rw [HR.out.1, HR.out.2, X0.out, X1.out], ?_⟩
        (repeat (first | exact Below.refl _ _ | (refine Below.setCell ?_ (by simp) _) | (refine Below.alloc ?_ (by simp) _) | (refine Below.drew ?_)))
    · have HR := Lib.hid (hof_bad HL.out (fun h => p1 (HO.out.1 h).2))
      go_wp2_with fail
      refine (N0.out _ ((Below.refl _ _).alloc (Nat.le_refl _) _)).mono ?_; rintro e w' ⟨rfl, rfl⟩
      go_wp2_with fail
      refine (N1.out _ ((Below.refl _ _).alloc (Nat.le_refl _) _)).mono ?_; rintro e w' ⟨rfl, rfl⟩
      go_wp2_with fail
      refine bodyPost_ret (v := .tuple #[.agg #[.int .u64 0, .int .u64 0], .int .i64 71]) (by simp [results, Try.results24, go_sem]) rfl ⟨by rw [HR.out.1, HR.out.2], ?_⟩
      (repeat (first | exact Below.refl _ _ | (refine Below.setCell ?_ (by simp) _) | (refine Below.alloc ?_ (by simp) _) | (refine Below.drew ?_)))
  · have HR := Lib.hid (hof_bad HL.out (fun h => p0 (HO.out.1 h).1))
    go_wp2_with fail
    refine (N0.out _ ((Below.refl _ _).alloc (Nat.le_refl _) _)).mono ?_; rintro e w' ⟨rfl, rfl⟩
    go_wp2_with fail
    refine bodyPost_ret (v := .tuple #[.agg #[.int .u64 0, .int .u64 0], .int .i64 71]) (by simp [results, Try.results24, go_sem]) rfl ⟨by rw [HR.out.1, HR.out.2], ?_⟩
    (repeat (first | exact Below.refl _ _ | (refine Below.setCell ?_ (by simp) _) | (refine Below.alloc ?_ (by simp) _) | (refine Below.drew ?_)))

theorem refOfBShort (A : Option Addr) (n c : Nat) (h : n < 16) (w : World) :
    Calls Try.prog 24 #[.slice A n c] w fun e w' => e = .returned (.tuple #[.agg #[.int .u64 0, .int .u64 0], .int .i64 70]) ∧ Below w.heap.size w w' := by
  go_enter Try.func24, Try.ntmps24
  go_wp2_with fail
  refine bodyPost_ret (v := .tuple #[.agg #[.int .u64 0, .int .u64 0], .int .i64 70]) (by simp [results, Try.results24, go_sem]) rfl ⟨rfl, ?_⟩
  (repeat (first | exact Below.refl _ _ | (refine Below.setCell ?_ (by simp) _) | (refine Below.alloc ?_ (by simp) _) | (refine Below.drew ?_)))
theorem refOfBLong (A : Option Addr) (n c : Nat) (h : 16 < n) (w : World) :
    Calls Try.prog 24 #[.slice A n c] w fun e w' => e = .returned (.tuple #[.agg #[.int .u64 0, .int .u64 0], .int .i64 71]) ∧ Below w.heap.size w w' := by
  have h1 : ¬ n < 16 := by omega
  have d1 : decide ((16 : Int) < (n : Int)) = true := by simp; omega
  go_enter Try.func24, Try.ntmps24
  go_wp2_with fail
  refine bodyPost_ret (v := .tuple #[.agg #[.int .u64 0, .int .u64 0], .int .i64 71]) (by simp [results, Try.results24, go_sem]) rfl ⟨rfl, ?_⟩
  (repeat (first | exact Below.refl _ _ | (refine Below.setCell ?_ (by simp) _) | (refine Below.alloc ?_ (by simp) _) | (refine Below.drew ?_)))

theorem refOfB_all (A : Option Addr) (c : Nat) (xs : List Int) (hx : ∀ x ∈ xs, 0 ≤ x ∧ x < 256) (hc : xs.length ≤ c) (w : World) (hs : SI w w.heap.size .u8 A xs) :
    Calls Try.prog 24 #[.slice A xs.length c] w fun e w' => e = .returned (.tuple #[.agg #[.int .u64 (hofA xs).1, .int .u64 (hofA xs).2], .int .i64 (hofE xs)]) ∧ Below w.heap.size w w' := by
  rcases Nat.lt_trichotomy xs.length 16 with h | h | h
  · have hh := hof_short h
    rw [hh.1, hh.2]
    exact refOfBShort A _ c h w
  · obtain ⟨ad, rfl, _, _⟩ := hs 0 (by omega)
    have g := refOf16B ad c xs hx h (by omega) w hs
    rw [h]
    exact g
  · have hh := hof_bad (xs := xs) (by omega) (fun g => by unfold hofOk at g; omega)
    rw [hh.1, hh.2]
    exact refOfBLong A _ c h w
end Go.Proofs.Ytjcanehlnggffaa
