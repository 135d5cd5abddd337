/- Contracts of budget: whether two are the same, whether there are few. -/
import Derived.Test.YtnjmhijfaijopaaBudgetL
namespace Go.Proofs.Ytnjmhijfaijopaa
open Go.ChangeShapes Go.WideShapes Go.ChangeAt Go.RowKit Gs
set_option linter.unusedVariables false
theorem Same_k (A A' : Option Addr) (n c c' : Nat) (L : List Sp) (hn : L.length = n) (hl : n ≤ 70368744177664) (w : World) (hs : QS w w.heap.size A L) (hs' : QS w w.heap.size A' L) :
    Calls Try.prog 19 #[.slice A n c, .slice A' n c'] w fun e w' => e = .returned (.bool true) ∧ Below w.heap.size w w' := by
  subst hn
  have HS := Lib.hid hs
  have HS' := Lib.hid hs'
  clear hs hs'
  have d3 : ((L.length : Int) != (L.length : Int)) = false := by simp
  go_enter Try.func19, Try.ntmps19
  go_wp2_with fail
  go_loopw [5] (fun i wr => ∃ (k : Nat), k ≤ L.length ∧ i = .int .i64 k ∧ Below w.heap.size w wr) (fun i _ => L.length - (intOf i).toNat)
  case atStart => exact ⟨0, by omega, rfl, Below.refl _ _⟩
  case round =>
    obtain ⟨k, hk, rfl, hb⟩ := hrel
    have HB := Lib.hid hb
    clear hb
    by_cases hlt : k < L.length
    · obtain ⟨ad, rfl, had, c0, c1, c2, c3⟩ := (HS.out.below HB.out) k hlt
      obtain ⟨ad', rfl, had', e0, e1, e2, e3⟩ := (HS'.out.below HB.out) k hlt
      generalize L[k].1 = a, L[k].2.1 = b, L[k].2.2.1 = d, L[k].2.2.2 = f at c0 c1 c2 c3 e0 e1 e2 e3
      go_wp2_with fail
      go_quiet (fail)
      go_wp2_with fail
      go_roundw
      case rel => exact ⟨k + 1, by omega, by go_num, below_drewN HB.out _⟩
      case measure => simp [intOf]; omega
    · obtain rfl : k = L.length := by omega
      go_wp2_with fail
      go_ret
      exact ⟨rfl, HB.out⟩
theorem few_k (A : Option Addr) (n c : Nat) (r : Bool) (h : decide (n ≤ 1100) = r) (w : World) : Calls Try.prog 12 #[.slice A n c] w fun e w' => e = .returned (.bool r) ∧ w = w' := by
  subst h
  by_cases h : n ≤ 1100
  · rw [decide_eq_true h]
    go_enter Try.func12, Try.ntmps12
    go_wp2_with fail
    go_ret
    exact ⟨by simp; omega, rfl⟩
  · rw [decide_eq_false h]
    go_enter Try.func12, Try.ntmps12
    go_wp2_with fail
    go_ret
    exact ⟨by simp; omega, rfl⟩
end Go.Proofs.Ytnjmhijfaijopaa
