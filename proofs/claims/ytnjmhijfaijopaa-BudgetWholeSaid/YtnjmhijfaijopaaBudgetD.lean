/- Contracts of budget: a rule as a value, whether it may be, what may be asked. -/
import Derived.Test.YtnjmhijfaijopaaBudgetB
import Derived.Test.YtnjmhijfaijopaaBudgetPlain
namespace Go.Proofs.Ytnjmhijfaijopaa
open Go.ChangeShapes Go.WideShapes Go.ChangeAt Go.RowKit Gs
set_option linter.unusedVariables false

theorem Blk.facts7 {w : World} {g : Nat} {t : TypeId} {x0 x1 x2 x3 x4 x5 x6 : Value} (h : Blk w g t #[x0, x1, x2, x3, x4, x5, x6]) :
    (w.cell? ⟨g, 0, none⟩ = some x0 ∧ w.cell? ⟨g, 1, none⟩ = some x1 ∧ w.cell? ⟨g, 2, none⟩ = some x2 ∧ w.cell? ⟨g, 3, none⟩ = some x3) ∧ w.cell? ⟨g, 4, none⟩ = some x4 ∧ w.cell? ⟨g, 5, none⟩ = some x5 ∧ w.cell? ⟨g, 6, none⟩ = some x6 :=
  ⟨⟨h.cell 0, h.cell 1, h.cell 2, h.cell 3⟩, h.cell 4, h.cell 5, h.cell 6⟩
/-- A rule's cells. -/
abbrev rcs (N : ByteArray) (al : Bool) (PA : Option Addr) (pn pc : Nat) (km lm mo wi : Int) : Array Value := #[.string N, .bool al, .slice PA pn pc, .int .u64 km, .int .i64 lm, .int .i64 mo, .int .i64 wi]
section
variable (N : ByteArray) (al : Bool) (PA : Option Addr) (pn pc : Nat) (km lm mo wi : Int)
theorem limits_any (w : World) : Calls Try.prog 29 #[.agg (rcs N al PA pn pc km lm mo wi)] w fun e w' => e = .returned (.bool (decide (0 < mo))) ∧ Below w.heap.size w w' := by
  go_enter Try.func29, Try.ntmps29
  go_wp2_with fail
  all_goals go_ret
  all_goals exact ⟨by simp_all, (Below.refl _ _).alloc (Nat.le_refl _) _⟩
set_option maxHeartbeats 4000000 in
theorem ruleMayBe_any (w : World) : Calls Try.prog 45 #[.agg (rcs N al PA pn pc km lm mo wi)] w fun e w' => e = .returned (.bool (rmB mo wi)) ∧ Below w.heap.size w w' := by
  have P1 := Lib.hid (isNumber_any mo)
  have P2 := Lib.hid (isNumber_any wi)
  have P3 := Lib.hid (limits_any N al PA pn pc km lm mo wi)
  have B1 := Lib.hid ((Below.refl w.heap.size w).alloc (Nat.le_refl _) (.cells (rcs N al PA pn pc km lm mo wi) 28))
  have X := Lib.hid (Blk.new w 28 (rcs N al PA pn pc km lm mo wi))
  rw [show rmB mo wi = (nmB mo && nmB wi && (!decide (0 < mo) || decide (0 < wi))) from rfl]
  generalize hx : nmB mo = x, hy : nmB wi = y, hz : decide (0 < mo) = z, hd : decide (0 < wi) = u at P1 P2 P3 ⊢
  clear hx hy hz
  go_enter Try.func45, Try.ntmps45
  go_wp2_with fail
  generalize w.alloc (.cells (rcs N al PA pn pc km lm mo wi) 28) = w1 at B1 X ⊢
  obtain ⟨⟨x0, x1, x2, x3⟩, x4, x5, x6⟩ := X.out.facts7
  have hun : undef = Value.tuple #[] := rfl
  go_wp2_with fail
  with_reducible refine (P1.out _).mono ?_; rintro e w3 ⟨rfl, rfl⟩
  cases x with
  | false => 
    go_wp2_with fail
    go_ret
    exact ⟨by simp, B1.out⟩
  | true =>
    go_wp2_with fail
    with_reducible refine (P2.out _).mono ?_; rintro e w3 ⟨rfl, rfl⟩
    cases y with
    | false =>
      go_wp2_with fail
      go_ret
      exact ⟨by simp, B1.out⟩
    | true =>
      go_wp2_with fail
      with_reducible refine (P3.out _).mono ?_; rintro e w3 ⟨rfl, b⟩
      have B3 := Lib.hid (below_on B1.out b)
      obtain ⟨⟨y0, y1, y2, y3⟩, y4, y5, y6⟩ := (X.out.below b X.out.lt).facts7
      clear b
      cases z with
      | false =>
        go_wp2_with fail
        go_ret
        exact ⟨by simp, B3.out⟩
      | true =>
        cases u <;>
        · go_wp2_with fail
          go_ret
          exact ⟨by simp, B3.out⟩
end
end Go.Proofs.Ytnjmhijfaijopaa
