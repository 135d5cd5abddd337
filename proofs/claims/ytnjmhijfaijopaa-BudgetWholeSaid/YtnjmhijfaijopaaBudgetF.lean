/- Contracts of budget: mayAsk. -/
import Derived.Test.YtnjmhijfaijopaaBudgetC
import Derived.Test.YtnjmhijfaijopaaBudgetE
namespace Go.Proofs.Ytnjmhijfaijopaa
open Go.ChangeShapes Go.WideShapes Go.ChangeAt Go.RowKit Gs
set_option linter.unusedVariables false
section
variable (N : ByteArray) (al : Bool) (PA : Option Addr) (pn pc : Nat) (km lm mo wi : Int)
set_option maxHeartbeats 4000000 in
theorem mayAsk_any (A : Option Addr) (c : Nat) (L : List Sp) (hl : L.length ≤ 70368744177664) (rule acc now : Int) (w : World) (hs : QS w w.heap.size A L) :
    Calls Try.prog 28 #[.slice A L.length c, .agg (rcs N al PA pn pc km lm mo wi), .agg #[.int .i64 acc, .int .i64 rule], .int .i64 now] w fun e w' => e = .returned (.int .i64 (askE L mo wi rule acc now)) ∧ Below w.heap.size w w' := by
  have HS := Lib.hid hs
  clear hs
  have P1 := Lib.hid (Check17_any A c L hl)
  have P2 := Lib.hid (ruleMayBe_any N al PA pn pc km lm mo wi)
  have P3 := Lib.hid (ownerMayBe_any acc rule)
  have P4 := Lib.hid (isNumber_any now)
  have h1 := (Below.refl w.heap.size w).alloc (Nat.le_refl _) (.cells (rcs N al PA pn pc km lm mo wi) 28)
  have B2 := Lib.hid (h1.alloc h1.size (.cells #[.int .i64 acc, .int .i64 rule] 49))
  have X := Lib.hid ((Blk.new w 28 (rcs N al PA pn pc km lm mo wi)).alloc (.cells #[.int .i64 acc, .int .i64 rule] 49))
  have Y := Lib.hid (Blk.new_at (g := w.heap.size + 1) (w.alloc (.cells (rcs N al PA pn pc km lm mo wi) 28)) 49 #[.int .i64 acc, .int .i64 rule] (by simp))
  clear h1
  rw [show askE L mo wi rule acc now = (if chkS L = 0 then (if rmB mo wi && (nmB acc && rlB rule) && nmB now then 0 else 1) else chkS L) from by
    unfold askE askB
    rw [show (rmB mo wi && rlB rule && nmB acc && nmB now) = (rmB mo wi && (nmB acc && rlB rule) && nmB now) by cases rmB mo wi <;> cases rlB rule <;> cases nmB acc <;> rfl]]
  generalize chkS L = E, rmB mo wi = x, (nmB acc && rlB rule) = y, nmB now = z at P1 P2 P3 P4 ⊢
  go_enter Try.func28, Try.ntmps28
  go_wp2_with fail
  generalize (w.alloc (.cells (rcs N al PA pn pc km lm mo wi) 28)).alloc (.cells #[.int .i64 acc, .int .i64 rule] 49) = w2 at B2 X Y ⊢
  with_reducible refine (P1.out _ (HS.out.on B2.out)).mono ?_; rintro e w3 ⟨rfl, b⟩
  have B3 := Lib.hid (below_on B2.out b)
  have X3 := Lib.hid (X.out.below b X.out.lt)
  have Y3 := Lib.hid (Y.out.below b Y.out.lt)
  clear b
  by_cases hE : E = 0
  · subst hE
    obtain ⟨⟨x0, x1, x2, x3⟩, x4, x5, x6⟩ := X3.out.facts7
    go_wp2_with fail
    with_reducible refine (P2.out _).mono ?_; rintro e w4 ⟨rfl, b⟩
    have B4 := Lib.hid (below_on B3.out b)
    have Y4 := Lib.hid (Y3.out.below b Y3.out.lt)
    clear b
    obtain ⟨⟨y0, y1⟩, y2, y3⟩ := Y4.out.facts2
    cases x with
    | false =>
      go_wp2_with fail
      go_ret
      exact ⟨by simp, B4.out⟩
    | true =>
      go_wp2_with fail
      with_reducible refine (P3.out _).mono ?_; rintro e w5 ⟨rfl, b⟩
      have B5 := Lib.hid (below_on B4.out b)
      clear b
      cases y with
      | false =>
        go_wp2_with fail
        go_ret
        exact ⟨by simp, B5.out⟩
      | true =>
        go_wp2_with fail
        with_reducible refine (P4.out _).mono ?_; rintro e w6 ⟨rfl, rfl⟩
        cases z <;>
        · go_wp2_with fail
          go_ret
          exact ⟨by simp, B5.out⟩
  · have hee : (E != 0) = true := by simpa using hE
    go_wp2_with fail
    go_ret
    exact ⟨rfl, B3.out⟩
end
end Go.Proofs.Ytnjmhijfaijopaa
