/- The walk of BudgetSpends. (Printed by tools/gen_budget_laws.py.) -/
import Derived.Test.YtnjmhijfaijopaaBudgetU
import Derived.Test.YtnjmhijfaijopaaBudgetLaw
namespace Go.Proofs.Ytnjmhijfaijopaa
open Go.ChangeShapes Go.WideShapes Go.ChangeAt Go.RowKit Gs
set_option linter.unusedVariables false
set_option linter.unusedSimpArgs false

theorem refSpend_k (A : Option Addr) (n c : Nat) (L : List Sp) (hn : L.length = n) (hl : n ≤ 1048576) (N : ByteArray) (al : Bool) (PA : Option Addr) (pn pc : Nat) (km lm mo wi rule acc now : Int) (X : List Sp) (er : Int) (m : Nat) (h : spendS L mo wi rule acc now = (X, er)) (hm : X.length = m) (w : World) (hs : QS w w.heap.size A L) :
    Calls Try.prog 18 #[.slice A n c, .agg #[.string N, .bool al, .slice PA pn pc, .int .u64 km, .int .i64 lm, .int .i64 mo, .int .i64 wi], .int .i64 rule, .int .i64 acc, .int .i64 now] w fun e w' => ∃ A' c', e = .returned (.tuple #[.slice A' m c', .int .i64 er]) ∧ (m ≤ c' ∧ c' ≤ maxLen) ∧ QS w' w'.heap.size A' X ∧ Below w.heap.size w w' := by
  subst hm
  refine (refSpend17_any A n c L hn hl N al PA pn pc km lm mo wi rule acc now w hs).mono ?_
  rintro e w' ⟨v, he, ho, hb⟩
  rw [h] at he ho
  obtain ⟨A', c', rfl, h1, h2, h3, _⟩ := own_sliceQ ho
  exact ⟨A', c', he, ⟨h1, h2⟩, h3, hb⟩
set_option maxRecDepth 100000 in
set_option maxHeartbeats 16000000 in
theorem spends_walk17 (A : Option Addr) (n c : Nat) (L : List Sp) (hn : L.length = n) (mo wi rule acc now : Int) (w : World) (hs : QS w w.heap.size A L) (hc : n ≤ c) (hm : c ≤ maxLen) :
    Calls Try.prog 4 #[.slice A n c, .int .i64 mo, .int .i64 wi, .int .i64 rule, .int .i64 acc, .int .i64 now] w fun e w' => e = .returned (.bool true) ∧ Below w.heap.size w w' := by
  have Q0 := Lib.hid (hs)
  have HCM := Lib.hid (And.intro hc hm)
  clear hs hc hm
  have HN := Lib.hid (hn)
  clear hn
  have B0 := Lib.hid (Below.refl w.heap.size w)
  by_cases hfew : n ≤ 1100
  rotate_left 1
  · have PF := Lib.hid (few_k A n c false (decide_eq_false hfew))
    go_enter Try.func4, Try.ntmps4
    go_wp2_with fail
    (with_reducible refine (live17 _).mono ?_)
    rintro e w1 ⟨rfl, b⟩
    have B1 := Lib.hid (below_on B0.out b)
    replace Q0 := Lib.hid (Q0.out.on b)
    clear b
    go_wp2_with fail
    (with_reducible refine (PF.out _).mono ?_)
    rintro e _ ⟨rfl, rfl⟩
    go_wp2_with fail
    go_ret
    exact ⟨rfl, B1.out⟩
  have PF := Lib.hid (few_k A n c true (decide_eq_true hfew))
  have hl : n ≤ 1048576 := by omega
  clear hfew
  obtain ⟨X, er, hsp⟩ : ∃ X er, spendS L mo wi rule acc now = (X, er) := ⟨_, _, rfl⟩
  obtain ⟨m, hm⟩ : ∃ m, X.length = m := ⟨_, rfl⟩
  have hm4 : m ≤ 70368744177664 := by
        by_cases he : er = 0
        · subst he; have := (chkS_ok (spend_ok hsp).2.1).2; omega
        · have := (spend_no hsp he).1; rw [← hm, this]; simp
  have PS := Lib.hid (fun w hs => Spend_k A n c L HN.out hl ⟨#[]⟩ false none 0 0 0 0 mo wi rule acc now X er m hsp hm w hs)
  have PT := Lib.hid (fun w hs => refSpend_k A n c L HN.out hl ⟨#[]⟩ false none 0 0 0 0 mo wi rule acc now X er m hsp hm w hs)
  have PM := Lib.hid (fun A A' c c' w hs hs' => Same_k A A' m c c' X hm hm4 w hs hs')
  clear hsp hm
  go_enter Try.func4, Try.ntmps4
  go_wp2_with fail
  (with_reducible refine (live17 _).mono ?_)
  rintro e w1 ⟨rfl, b⟩
  have B1 := Lib.hid (below_on B0.out b)
  replace Q0 := Lib.hid (Q0.out.on b)
  clear b
  go_wp2_with fail
  (with_reducible refine (PF.out _).mono ?_)
  rintro e _ ⟨rfl, rfl⟩
  have na := (Below.refl w1.heap.size w1).alloc (Nat.le_refl _) (.cells #[.string ⟨#[]⟩, .bool false, .slice none 0 0, .int .u64 0, .int .i64 0, .int .i64 mo, .int .i64 wi] 28)
  replace Q0 := Lib.hid (Q0.out.on na)
  have B2 := Lib.hid (below_on B1.out na)
  have X := Lib.hid (Blk.new w1 28 #[.string ⟨#[]⟩, .bool false, .slice none 0 0, .int .u64 0, .int .i64 0, .int .i64 mo, .int .i64 wi])
  clear na
  have x0 : (w1.alloc (.cells #[.string ⟨#[]⟩, .bool false, .slice none 0 0, .int .u64 0, .int .i64 0, .int .i64 mo, .int .i64 wi] 28)).cell? ⟨w1.heap.size, 0, none⟩ = some (.string ⟨#[]⟩) := X.out.cell 0
  have x1 : (w1.alloc (.cells #[.string ⟨#[]⟩, .bool false, .slice none 0 0, .int .u64 0, .int .i64 0, .int .i64 mo, .int .i64 wi] 28)).cell? ⟨w1.heap.size, 1, none⟩ = some (.bool false) := X.out.cell 1
  have x2 : (w1.alloc (.cells #[.string ⟨#[]⟩, .bool false, .slice none 0 0, .int .u64 0, .int .i64 0, .int .i64 mo, .int .i64 wi] 28)).cell? ⟨w1.heap.size, 2, none⟩ = some (.slice none 0 0) := X.out.cell 2
  have x3 : (w1.alloc (.cells #[.string ⟨#[]⟩, .bool false, .slice none 0 0, .int .u64 0, .int .i64 0, .int .i64 mo, .int .i64 wi] 28)).cell? ⟨w1.heap.size, 3, none⟩ = some (.int .u64 0) := X.out.cell 3
  have x4 : (w1.alloc (.cells #[.string ⟨#[]⟩, .bool false, .slice none 0 0, .int .u64 0, .int .i64 0, .int .i64 mo, .int .i64 wi] 28)).cell? ⟨w1.heap.size, 4, none⟩ = some (.int .i64 0) := X.out.cell 4
  have x5 : (w1.alloc (.cells #[.string ⟨#[]⟩, .bool false, .slice none 0 0, .int .u64 0, .int .i64 0, .int .i64 mo, .int .i64 wi] 28)).cell? ⟨w1.heap.size, 5, none⟩ = some (.int .i64 mo) := X.out.cell 5
  have x6 : (w1.alloc (.cells #[.string ⟨#[]⟩, .bool false, .slice none 0 0, .int .u64 0, .int .i64 0, .int .i64 mo, .int .i64 wi] 28)).cell? ⟨w1.heap.size, 6, none⟩ = some (.int .i64 wi) := X.out.cell 6
  go_wp2_with fail
  generalize w1.alloc (.cells #[.string ⟨#[]⟩, .bool false, .slice none 0 0, .int .u64 0, .int .i64 0, .int .i64 mo, .int .i64 wi] 28) = w2 at B2 X Q0 x0 x1 x2 x3 x4 x5 x6 ⊢
  (with_reducible refine (PS.out _ Q0.out).mono ?_)
  rintro e w3 ⟨A1, c1, rfl, hcc, hq, b⟩
  clear x0 x1 x2 x3 x4 x5 x6
  have B3 := Lib.hid (below_on B2.out b)
  replace X := Lib.hid (X.out.below b X.out.lt)
  replace Q0 := Lib.hid (Q0.out.on b)
  have Q1 := Lib.hid (hq)
  have Q1c := Lib.hid (hcc)
  clear b hq hcc
  have x0 : w3.cell? ⟨w1.heap.size, 0, none⟩ = some (.string ⟨#[]⟩) := X.out.cell 0
  have x1 : w3.cell? ⟨w1.heap.size, 1, none⟩ = some (.bool false) := X.out.cell 1
  have x2 : w3.cell? ⟨w1.heap.size, 2, none⟩ = some (.slice none 0 0) := X.out.cell 2
  have x3 : w3.cell? ⟨w1.heap.size, 3, none⟩ = some (.int .u64 0) := X.out.cell 3
  have x4 : w3.cell? ⟨w1.heap.size, 4, none⟩ = some (.int .i64 0) := X.out.cell 4
  have x5 : w3.cell? ⟨w1.heap.size, 5, none⟩ = some (.int .i64 mo) := X.out.cell 5
  have x6 : w3.cell? ⟨w1.heap.size, 6, none⟩ = some (.int .i64 wi) := X.out.cell 6
  go_wp2_with fail
  (with_reducible refine (PT.out _ Q0.out).mono ?_)
  rintro e w4 ⟨A2, c2, rfl, hcc, hq, b⟩
  clear x0 x1 x2 x3 x4 x5 x6
  have B4 := Lib.hid (below_on B3.out b)
  replace X := Lib.hid (X.out.below b X.out.lt)
  replace Q0 := Lib.hid (Q0.out.on b)
  replace Q1 := Lib.hid (Q1.out.on b)
  have Q2 := Lib.hid (hq)
  have Q2c := Lib.hid (hcc)
  clear b hq hcc
  go_wp2_with fail
  (with_reducible refine (PM.out _ _ _ _ _ Q1.out Q2.out).mono ?_)
  rintro e w5 ⟨rfl, b⟩
  have B5 := Lib.hid (below_on B4.out b)
  replace X := Lib.hid (X.out.below b X.out.lt)
  replace Q0 := Lib.hid (Q0.out.on b)
  replace Q1 := Lib.hid (Q1.out.on b)
  replace Q2 := Lib.hid (Q2.out.on b)
  clear b
  go_wp2_with fail
  go_ret
  exact ⟨rfl, B5.out⟩
end Go.Proofs.Ytnjmhijfaijopaa
