/- Contracts of budget: whether a window is on; the document's may and asked. -/
import Derived.Test.YtnjmhijfaijopaaBudgetD
namespace Go.Proofs.Ytnjmhijfaijopaa
open Go.ChangeShapes Go.WideShapes Go.ChangeAt Go.RowKit Gs
set_option linter.unusedVariables false
section
variable (N : ByteArray) (al : Bool) (PA : Option Addr) (pn pc : Nat) (km lm mo wi : Int)
set_option maxHeartbeats 2000000 in
theorem isOn_any (a r s m now : Int) (hw : IntKind.i64.wrap (now - s) = now - s) (w : World) :
    Calls Try.prog 31 #[.agg #[.int .i64 a, .int .i64 r, .int .i64 s, .int .i64 m], .agg (rcs N al PA pn pc km lm mo wi), .int .i64 now] w fun e w' => e = .returned (.bool (decide (now - s < wi))) ∧ Below w.heap.size w w' := by
  have h1 := (Below.refl w.heap.size w).alloc (Nat.le_refl _) (.cells #[.int .i64 a, .int .i64 r, .int .i64 s, .int .i64 m] 45)
  have B2 := Lib.hid (h1.alloc h1.size (.cells (rcs N al PA pn pc km lm mo wi) 28))
  have X := Lib.hid ((Blk.new w 45 #[.int .i64 a, .int .i64 r, .int .i64 s, .int .i64 m]).alloc (.cells (rcs N al PA pn pc km lm mo wi) 28))
  have Y := Lib.hid (Blk.new_at (g := w.heap.size + 1) (w.alloc (.cells #[.int .i64 a, .int .i64 r, .int .i64 s, .int .i64 m] 45)) 28 (rcs N al PA pn pc km lm mo wi) (by simp))
  clear h1
  obtain ⟨u, hu⟩ : ∃ u, decide (now - s < wi) = u := ⟨_, rfl⟩
  rw [hu]
  go_enter Try.func31, Try.ntmps31
  go_wp2_with fail
  generalize (w.alloc (.cells #[.int .i64 a, .int .i64 r, .int .i64 s, .int .i64 m] 45)).alloc (.cells (rcs N al PA pn pc km lm mo wi) 28) = w2 at B2 X Y ⊢
  have c2 : w2.cell? ⟨w.heap.size, 2, none⟩ = some (.int .i64 s) := X.out.cell 2
  have c6 : w2.cell? ⟨w.heap.size + 1, 6, none⟩ = some (.int .i64 wi) := Y.out.cell 6
  go_wp2_with fail
  all_goals go_ret
  all_goals exact ⟨by simp_all, B2.out⟩
theorem rmB_ref : rmB mo wi = (nmB mo && nmB wi && (decide (mo = 0) || decide (1 ≤ wi))) := by
  unfold rmB
  cases h : nmB mo with
  | false => rfl
  | true =>
    have := nmB_iff.1 h
    congr 1
    by_cases h0 : mo = 0
    · simp [h0]
    · rw [decide_eq_true (by omega : 0 < mo), decide_eq_false h0]
      simp [show (0 < wi) ↔ (1 ≤ wi) by omega]
set_option maxHeartbeats 4000000 in
theorem may17_any (w : World) : Calls Try.prog 48 #[.agg (rcs N al PA pn pc km lm mo wi)] w fun e w' => e = .returned (.bool (rmB mo wi)) ∧ Below w.heap.size w w' := by
  have P1 := Lib.hid (number17_any mo)
  have P2 := Lib.hid (number17_any wi)
  have B1 := Lib.hid ((Below.refl w.heap.size w).alloc (Nat.le_refl _) (.cells (rcs N al PA pn pc km lm mo wi) 28))
  have X := Lib.hid (Blk.new w 28 (rcs N al PA pn pc km lm mo wi))
  rw [rmB_ref]
  generalize hx : nmB mo = x, hy : nmB wi = y at P1 P2 ⊢
  clear hx hy
  go_enter Try.func48, Try.ntmps48
  go_wp2_with fail
  generalize w.alloc (.cells (rcs N al PA pn pc km lm mo wi) 28) = w1 at B1 X ⊢
  obtain ⟨⟨x0, x1, x2, x3⟩, x4, x5, x6⟩ := X.out.facts7
  have hun : undef = Value.tuple #[] := rfl
  go_wp2_with fail
  with_reducible refine (P1.out _).mono ?_; rintro e w3 ⟨rfl, rfl⟩
  cases x with
  | false => 
    go_wp2_with fail
    go_ret
    exact ⟨by simp, B1.out⟩
  | true =>
    go_wp2_with fail
    with_reducible refine (P2.out _).mono ?_; rintro e w3 ⟨rfl, rfl⟩
    cases y with
    | false =>
      go_wp2_with fail
      go_ret
      exact ⟨by simp, B1.out⟩
    | true =>
      by_cases hz : mo = 0
      · have g1 : decide (mo = 0) = true := decide_eq_true hz
        have G1 := Lib.hid g1
        have g2 : (mo == 0) = true := by simp [hz]
        clear hz g1
        go_wp2_with fail
        go_ret
        exact ⟨by rw [G1.out]; rfl, B1.out⟩
      · have G1 := Lib.hid (decide_eq_false hz)
        have g2 : (mo == 0) = false := by simp [hz]
        clear hz
        by_cases hu : 1 ≤ wi
        · have g3 : decide (1 ≤ wi) = true := decide_eq_true hu
          have G3 := Lib.hid g3
          go_wp2_with fail
          go_ret
          exact ⟨by rw [G1.out, G3.out]; rfl, B1.out⟩
        · have g3 : decide (1 ≤ wi) = false := decide_eq_false hu
          have G3 := Lib.hid g3
          go_wp2_with fail
          go_ret
          exact ⟨by rw [G1.out, G3.out]; rfl, B1.out⟩
set_option maxHeartbeats 4000000 in
theorem asked17_any (rule acc now : Int) (w : World) : Calls Try.prog 32 #[.agg (rcs N al PA pn pc km lm mo wi), .int .i64 rule, .int .i64 acc, .int .i64 now] w fun e w' => e = .returned (.bool (askB mo wi rule acc now)) ∧ Below w.heap.size w w' := by
  have P1 := Lib.hid (may17_any N al PA pn pc km lm mo wi)
  have P2 := Lib.hid (numbered17_any rule)
  have P3 := Lib.hid (number17_any acc)
  have P4 := Lib.hid (number17_any now)
  have B1 := Lib.hid ((Below.refl w.heap.size w).alloc (Nat.le_refl _) (.cells (rcs N al PA pn pc km lm mo wi) 28))
  have X := Lib.hid (Blk.new w 28 (rcs N al PA pn pc km lm mo wi))
  rw [show askB mo wi rule acc now = (rmB mo wi && rlB rule && nmB acc && nmB now) from rfl]
  generalize rmB mo wi = x, rlB rule = y, nmB acc = z, nmB now = u at P1 P2 P3 P4 ⊢
  go_enter Try.func32, Try.ntmps32
  go_wp2_with fail
  generalize w.alloc (.cells (rcs N al PA pn pc km lm mo wi) 28) = w1 at B1 X ⊢
  obtain ⟨⟨x0, x1, x2, x3⟩, x4, x5, x6⟩ := X.out.facts7
  go_wp2_with fail
  with_reducible refine (P1.out _).mono ?_; rintro e w3 ⟨rfl, b⟩
  have B3 := Lib.hid (below_on B1.out b)
  clear b
  cases x <;> cases y <;> cases z <;> cases u <;>
  · go_wp2_with (first | (with_reducible refine (P2.out _).mono ?_; rintro e w3 ⟨rfl, rfl⟩) | (with_reducible refine (P3.out _).mono ?_; rintro e w3 ⟨rfl, rfl⟩) | (with_reducible refine (P4.out _).mono ?_; rintro e w3 ⟨rfl, rfl⟩) | fail)
    go_ret
    exact ⟨by simp, B3.out⟩
end
end Go.Proofs.Ytnjmhijfaijopaa
