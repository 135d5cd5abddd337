/- The walk of BudgetAll. (Printed by tools/gen_budget_laws.py.) -/
import Derived.Test.YtnjmhijfaijopaaBudgetX
import Derived.Test.YtnjmhijfaijopaaBudgetLaw
namespace Go.Proofs.Ytnjmhijfaijopaa
open Go.ChangeShapes Go.WideShapes Go.ChangeAt Go.RowKit Gs
set_option linter.unusedVariables false
set_option linter.unusedSimpArgs false

theorem allGo_len (BY : List Int) (acc now : Int) : ∀ (rs : List (Int × Int)) (i : Nat) (L : List Sp), L.length ≤ 2000 → (allGo BY acc now i rs L).1.length ≤ 2000
  | [], _, _, h => h
  | r :: rs, i, L, h => by
    rw [allGo]
    split
    · split
      · rename_i h0
        refine allGo_len BY acc now rs (i + 1) _ ?_
        have := (chkS_ok (spend_ok (spend_pair _ _ _ _ _ _ h0)).2.1).2
        omega
      · simp
    · exact allGo_len BY acc now rs (i + 1) L h
theorem all_len {L X : List Sp} {rs : List (Int × Int)} {BY : List Int} {acc now er : Int} (h : L.length ≤ 2000) (hx : allS L rs BY acc now = (X, er)) : X.length ≤ 2000 := by
  unfold allS at hx
  split at hx
  · split at hx
    · injection hx with h1 h2; rw [← h1]; simp
    · have := allGo_len BY acc now rs 0 L h; rw [hx] at this; exact this
  · injection hx with h1 h2; rw [← h1]; simp
theorem fewRules_k (A : Option Addr) (n c : Nat) (r : Bool) (h : decide (n ≤ 40) = r) (w : World) : Calls Try.prog 20 #[.slice A n c] w fun e w' => e = .returned (.bool r) ∧ w = w' := by
  subst h
  by_cases h : n ≤ 40
  · rw [decide_eq_true h]
    go_enter Try.func20, Try.ntmps20
    go_wp2_with fail
    go_ret
    exact ⟨by simp; omega, rfl⟩
  · rw [decide_eq_false h]
    go_enter Try.func20, Try.ntmps20
    go_wp2_with fail
    go_ret
    exact ⟨by simp; omega, rfl⟩

set_option maxRecDepth 100000 in
set_option maxHeartbeats 16000000 in
theorem all_walk17 (A : Option Addr) (n c : Nat) (L : List Sp) (hn : L.length = n) (AR : Option Addr) (nr cr : Nat) (RU : List Ru) (hnr : RU.length = nr) (AB : Option Addr) (nb cb : Nat) (BY : List Int) (hnb : BY.length = nb) (acc now : Int) (w : World) (hs : QS w w.heap.size A L) (hr : RS w w.heap.size AR RU) (hby : SI w w.heap.size .i64 AB BY) (hc : n ≤ c) (hm : c ≤ maxLen) (hcr : nr ≤ cr) (hmr : cr ≤ maxLen) (hcb : nb ≤ cb) (hmb : cb ≤ maxLen) :
    Calls Try.prog 5 #[.slice A n c, .slice AR nr cr, .slice AB nb cb, .int .i64 acc, .int .i64 now] w fun e w' => e = .returned (.bool true) ∧ Below w.heap.size w w' := by
  have Q0 := Lib.hid (hs)
  have HRS := Lib.hid (hr)
  have HBS := Lib.hid (hby)
  have HCM := Lib.hid (And.intro hc (And.intro hm (And.intro hcr (And.intro hmr (And.intro hcb hmb)))))
  clear hs hr hby hc hm hcr hmr hcb hmb
  have B0 := Lib.hid (Below.refl w.heap.size w)
  by_cases hfew : n ≤ 1100
  rotate_left 1
  · have PF := Lib.hid (few_k A n c false (decide_eq_false hfew))
    go_enter Try.func5, Try.ntmps5
    go_wp2_with fail
    (with_reducible refine (live17 _).mono ?_)
    rintro e w1 ⟨rfl, b⟩
    have B1 := Lib.hid (below_on B0.out b)
    replace Q0 := Lib.hid (Q0.out.on b)
    clear b
    go_wp2_with fail
    (with_reducible refine (PF.out _).mono ?_)
    rintro e _ ⟨rfl, rfl⟩
    go_wp2_with fail
    go_ret
    exact ⟨rfl, B1.out⟩
  have PF := Lib.hid (few_k A n c true (decide_eq_true hfew))
  by_cases hr40 : nr ≤ 40
  rotate_left 1
  · have PR := Lib.hid (fewRules_k AR nr cr false (decide_eq_false hr40))
    go_enter Try.func5, Try.ntmps5
    go_wp2_with fail
    (with_reducible refine (live17 _).mono ?_)
    rintro e w1 ⟨rfl, b⟩
    have B1 := Lib.hid (below_on B0.out b)
    replace Q0 := Lib.hid (Q0.out.on b)
    clear b
    go_wp2_with fail
    (with_reducible refine (PF.out _).mono ?_)
    rintro e _ ⟨rfl, rfl⟩
    go_wp2_with fail
    (with_reducible refine (PR.out _).mono ?_)
    rintro e _ ⟨rfl, rfl⟩
    go_wp2_with fail
    go_ret
    exact ⟨rfl, B1.out⟩
  have PR := Lib.hid (fewRules_k AR nr cr true (decide_eq_true hr40))
  by_cases hb20 : 20 < nb
  · have g20 : decide (20 < nb) = true := decide_eq_true hb20
    go_enter Try.func5, Try.ntmps5
    go_wp2_with fail
    (with_reducible refine (live17 _).mono ?_)
    rintro e w1 ⟨rfl, b⟩
    have B1 := Lib.hid (below_on B0.out b)
    replace Q0 := Lib.hid (Q0.out.on b)
    clear b
    go_wp2_with fail
    (with_reducible refine (PF.out _).mono ?_)
    rintro e _ ⟨rfl, rfl⟩
    go_wp2_with fail
    (with_reducible refine (PR.out _).mono ?_)
    rintro e _ ⟨rfl, rfl⟩
    go_wp2_with fail
    go_ret
    exact ⟨rfl, B1.out⟩
  have g20 : decide (20 < nb) = false := decide_eq_false hb20
  have PA := Lib.hid (All17_any A n c L hn (by omega) AR nr cr RU hnr (by omega) AB nb cb BY hnb (by omega) acc now)
  have PB := Lib.hid (refAll17_any A n c L hn (by omega) AR nr cr RU hnr (by omega) AB nb cb BY hnb (by omega) acc now)
  have HLEN := Lib.hid (fun X er (h : allS L (mw RU) BY acc now = (X, er)) => all_len (by rw [hn]; omega) h)
  go_enter Try.func5, Try.ntmps5
  go_wp2_with fail
  (with_reducible refine (live17 _).mono ?_)
  rintro e w1 ⟨rfl, b⟩
  have B1 := Lib.hid (below_on B0.out b)
  replace Q0 := Lib.hid (Q0.out.on b)
  clear b
  go_wp2_with fail
  (with_reducible refine (PF.out _).mono ?_)
  rintro e _ ⟨rfl, rfl⟩
  go_wp2_with fail
  (with_reducible refine (PR.out _).mono ?_)
  rintro e _ ⟨rfl, rfl⟩
  go_wp2_with fail
  (with_reducible refine (PA.out _ Q0.out (HRS.out.on B1.out) (HBS.out.on17 B1.out)).mono ?_)
  rintro e w2 ⟨A1, c1, X, er, m, hX, hm, rfl, hcc, hq, b⟩
  have B2 := Lib.hid (below_on B1.out b)
  replace Q0 := Lib.hid (Q0.out.on b)
  have Q1 := Lib.hid (hq)
  have HX := Lib.hid (hX)
  have HM := Lib.hid (hm)
  clear b hq hX hm hcc
  go_wp2_with fail
  (with_reducible refine (PB.out _ Q0.out (HRS.out.on B2.out) (HBS.out.on17 B2.out)).mono ?_)
  rintro e w3 ⟨A2, c2, X', er', m', hX', hm', rfl, hcc, hq, b⟩
  have B3 := Lib.hid (below_on B2.out b)
  replace Q0 := Lib.hid (Q0.out.on b)
  replace Q1 := Lib.hid (Q1.out.on b)
  obtain ⟨rfl, rfl⟩ : X = X' ∧ er = er' := by rw [HX.out] at hX'; injection hX' with h1 h2; exact ⟨h1, h2⟩
  obtain rfl : m = m' := by rw [← HM.out]; exact hm'
  have Q2 := Lib.hid (hq)
  clear b hq hX' hm' hcc
  have hm4 : m ≤ 70368744177664 := by have := HLEN.out _ _ HX.out; have := HM.out; omega
  go_wp2_with fail
  (with_reducible refine (Same_k _ _ m _ _ X HM.out hm4 _ Q1.out Q2.out).mono ?_)
  rintro e w4 ⟨rfl, b⟩
  have B4 := Lib.hid (below_on B3.out b)
  replace Q0 := Lib.hid (Q0.out.on b)
  replace Q1 := Lib.hid (Q1.out.on b)
  replace Q2 := Lib.hid (Q2.out.on b)
  clear b
  go_wp2_with fail
  go_ret
  exact ⟨rfl, B4.out⟩
end Go.Proofs.Ytnjmhijfaijopaa
