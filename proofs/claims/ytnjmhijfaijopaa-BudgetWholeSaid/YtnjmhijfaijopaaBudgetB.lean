/- Contracts of budget: owners compared, what may be. -/
import Derived.Test.YtnjmhijfaijopaaBudgetA
namespace Go.Proofs.Ytnjmhijfaijopaa
open Go.ChangeShapes Go.WideShapes Go.ChangeAt Go.RowKit Gs
set_option linter.unusedVariables false

theorem Or2_any (g : Nat) (x y : Int) (w : World) (hx : w.cell? ⟨g, 0, none⟩ = some (.int .i64 x)) (hy : w.cell? ⟨g, 1, none⟩ = some (.int .i64 y)) :
    Calls Try.prog 43 #[.slice (some ⟨g, 0, none⟩) 2 2] w fun e w' => e = .returned (.int .i64 (if x = 0 then y else x)) ∧ w = w' := by
  by_cases h0 : x = 0
  · rw [if_pos h0]
    subst h0
    by_cases h1 : y = 0
    · subst h1
      go_enter Try.func43, Try.ntmps43
      go_wp2_with fail
      go_loop [8] (fun i => ∃ k : Nat, k ≤ 2 ∧ i = .int .i64 k) (fun i => 2 - (intOf i).toNat)
      case atStart => exact ⟨0, by omega, rfl⟩
      case round =>
        obtain ⟨k, hk, rfl⟩ := hrel
        by_cases k0 : k < 2
        · have hc : w.cell? ⟨g, k, none⟩ = some (.int .i64 0) := by
            rcases (by omega : k = 0 ∨ k = 1) with rfl | rfl
            · exact hx
            · exact hy
          have hc' := (congrArg w.cell? (add_atN g k)).trans hc
          go_wp2_with fail
          go_round
          case rel => exact ⟨k + 1, by omega, by go_num⟩
          case measure => simp [intOf]; omega
        · obtain rfl : k = 2 := by omega
          go_wp2_with fail
          go_ret
          exact ⟨rfl, rfl⟩
    · go_enter Try.func43, Try.ntmps43
      go_wp2_with fail
      go_loop [8] (fun i => ∃ k : Nat, k ≤ 1 ∧ i = .int .i64 k) (fun i => 2 - (intOf i).toNat)
      case atStart => exact ⟨0, by omega, rfl⟩
      case round =>
        obtain ⟨k, hk, rfl⟩ := hrel
        by_cases k0 : k = 0
        · subst k0
          go_wp2_with fail
          go_round
          case rel => exact ⟨1, by omega, by go_num⟩
          case measure => simp [intOf]
        · obtain rfl : k = 1 := by omega
          go_wp2_with fail
          go_ret
          exact ⟨rfl, rfl⟩
  · rw [if_neg h0]
    go_enter Try.func43, Try.ntmps43
    go_wp2_with fail
    go_loop [8] (fun i => i = .int .i64 0) (fun i => 2 - (intOf i).toNat)
    case atStart => rfl
    case round =>
      subst hrel
      go_wp2_with fail
      go_ret
      exact ⟨rfl, rfl⟩

theorem Compare_s (a b : Int) (w : World) : Calls Try.prog 44 #[.int .i64 a, .int .i64 b] w fun e w' => e = .returned (.int .i64 (cmpI a b)) ∧ w' = w := (Compare_any a b w).mono fun e w' h => ⟨h.1, h.2.symm⟩
theorem compare_any (a r b q : Int) (w : World) : Calls Try.prog 24 #[.agg #[.int .i64 a, .int .i64 r], .agg #[.int .i64 b, .int .i64 q]] w fun e w' => e = .returned (.int .i64 (cmpO a r b q)) ∧ Below w.heap.size w w' := by
  obtain ⟨o, ho⟩ : ∃ o, (if cmpI a b = 0 then cmpI r q else cmpI a b) = o := ⟨_, rfl⟩
  have PO := Lib.hid (fun g w hx hy => Or2_any g (cmpI a b) (cmpI r q) w hx hy)
  rw [show cmpO a r b q = o from ho]
  simp only [ho] at PO
  clear ho
  have h1 := (Below.refl w.heap.size w).alloc (Nat.le_refl _) (.cells #[.int .i64 a, .int .i64 r] 49)
  have B2 := Lib.hid (h1.alloc h1.size (.cells #[.int .i64 b, .int .i64 q] 49))
  have X := Lib.hid ((Blk.new w 49 #[.int .i64 a, .int .i64 r]).alloc (.cells #[.int .i64 b, .int .i64 q] 49))
  have Y := Lib.hid (Blk.new_at (g := w.heap.size + 1) (w.alloc (.cells #[.int .i64 a, .int .i64 r] 49)) 49 #[.int .i64 b, .int .i64 q] (by simp))
  clear h1
  go_enter Try.func24, Try.ntmps24
  go_wp2_with fail
  generalize (w.alloc (.cells #[.int .i64 a, .int .i64 r] 49)).alloc (.cells #[.int .i64 b, .int .i64 q] 49) = w2 at B2 X Y ⊢
  obtain ⟨⟨x0, x1⟩, x2, x3⟩ := X.out.facts2
  obtain ⟨⟨y0, y1⟩, y2, y3⟩ := Y.out.facts2
  go_still_tail 10, (by kernel_rfl)
  still_call (Compare_s _ _ _)
  repeat still_step
  still_call (Compare_s _ _ _)
  repeat still_step
  refine wpStill_nil ?_
  change wpList _ _ _ _ _ (World.drew _)
  go_wp2_with fail
  refine (PO.out _ _ (by simp) (by simp)).mono ?_; rintro e w1 ⟨rfl, rfl⟩
  go_wp2_with fail
  go_ret
  exact ⟨rfl, B2.out.drew.alloc B2.out.drew.size _⟩
set_option maxHeartbeats 4000000 in
theorem mayBe_any (a r s m : Int) (w : World) : Calls Try.prog 23 #[.agg #[.int .i64 a, .int .i64 r, .int .i64 s, .int .i64 m]] w fun e w' => e = .returned (.bool (mayS a r s m)) ∧ Below w.heap.size w w' := by
  have P := Lib.hid (ownerOf_any a r s m)
  have P2 := Lib.hid (ownerMayBe_any a r)
  have P3 := Lib.hid (isNumber_any s)
  have P4 := Lib.hid (isNumber_any m)
  have HM : mayS a r s m = (nmB a && rlB r && nmB s && nmB m && decide (0 < m)) := rfl
  rw [HM]
  clear HM
  generalize (nmB a && rlB r) = x, nmB s = y, nmB m = z at P2 P3 P4 ⊢
  have B1 := Lib.hid ((Below.refl w.heap.size w).alloc (Nat.le_refl _) (.cells #[.int .i64 a, .int .i64 r, .int .i64 s, .int .i64 m] 45))
  have X := Lib.hid (show Blk (w.alloc (.cells #[.int .i64 a, .int .i64 r, .int .i64 s, .int .i64 m] 45)) w.heap.size 45 #[.int .i64 a, .int .i64 r, .int .i64 s, .int .i64 m] from Blk.new _ _ _)
  by_cases hm : 0 < m
  · have hd : decide (0 < m) = true := decide_eq_true hm
    rw [hd]
    cases x <;> cases y <;> cases z <;>
    · go_enter Try.func23, Try.ntmps23
      go_wp2_with fail
      refine (P.out _).mono ?_; rintro e w1 ⟨rfl, b⟩
      have B2 := Lib.hid (below_on B1.out b)
      have X2 := Lib.hid (X.out.below b X.out.lt)
      clear b
      go_wp2_with fail
      refine (P2.out _).mono ?_; rintro e w2 ⟨rfl, b⟩
      have B3 := Lib.hid (below_on B2.out b)
      have X3 := Lib.hid (X2.out.below b X2.out.lt)
      clear b
      have c2 : w2.cell? ⟨w.heap.size, 2, none⟩ = some (.int .i64 s) := X3.out.cell 2
      have c3 : w2.cell? ⟨w.heap.size, 3, none⟩ = some (.int .i64 m) := X3.out.cell 3
      go_wp2_with (first | (with_reducible refine (P3.out _).mono ?_; rintro e w3 ⟨rfl, rfl⟩) | (with_reducible refine (P4.out _).mono ?_; rintro e w3 ⟨rfl, rfl⟩) | fail)
      go_ret
      exact ⟨rfl, B3.out⟩
  · have hd : decide (0 < m) = false := decide_eq_false hm
    rw [hd]
    cases x <;> cases y <;> cases z <;>
    · go_enter Try.func23, Try.ntmps23
      go_wp2_with fail
      refine (P.out _).mono ?_; rintro e w1 ⟨rfl, b⟩
      have B2 := Lib.hid (below_on B1.out b)
      have X2 := Lib.hid (X.out.below b X.out.lt)
      clear b
      go_wp2_with fail
      refine (P2.out _).mono ?_; rintro e w2 ⟨rfl, b⟩
      have B3 := Lib.hid (below_on B2.out b)
      have X3 := Lib.hid (X2.out.below b X2.out.lt)
      clear b
      have c2 : w2.cell? ⟨w.heap.size, 2, none⟩ = some (.int .i64 s) := X3.out.cell 2
      have c3 : w2.cell? ⟨w.heap.size, 3, none⟩ = some (.int .i64 m) := X3.out.cell 3
      go_wp2_with (first | (with_reducible refine (P3.out _).mono ?_; rintro e w3 ⟨rfl, rfl⟩) | (with_reducible refine (P4.out _).mono ?_; rintro e w3 ⟨rfl, rfl⟩) | fail)
      go_ret
      exact ⟨rfl, B3.out⟩
end Go.Proofs.Ytnjmhijfaijopaa
