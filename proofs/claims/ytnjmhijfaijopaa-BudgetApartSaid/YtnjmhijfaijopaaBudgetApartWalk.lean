/- The walk of BudgetApart. (Printed by tools/gen_budget_laws.py.) -/
import Derived.Test.YtnjmhijfaijopaaBudgetM
import Derived.Test.YtnjmhijfaijopaaBudgetLaw
namespace Go.Proofs.Ytnjmhijfaijopaa
open Go.ChangeShapes Go.WideShapes Go.ChangeAt Go.RowKit Gs
set_option linter.unusedVariables false
set_option linter.unusedSimpArgs false
set_option maxRecDepth 100000 in
set_option maxHeartbeats 16000000 in
theorem apart_walk17 (A : Option Addr) (n c : Nat) (L : List Sp) (hn : L.length = n) (mo wi rule acc wth other now : Int) (w : World) (hs : QS w w.heap.size A L) (hc : n ≤ c) (hm : c ≤ maxLen) :
    Calls Try.prog 10 #[.slice A n c, .int .i64 mo, .int .i64 wi, .int .i64 rule, .int .i64 acc, .int .i64 wth, .int .i64 other, .int .i64 now] w fun e w' => e = .returned (.bool true) ∧ Below w.heap.size w w' := by
  have Q0 := Lib.hid (hs)
  have HCM := Lib.hid (And.intro hc hm)
  clear hs hc hm
  have HN := Lib.hid (hn)
  clear hn
  have B0 := Lib.hid (Below.refl w.heap.size w)
  by_cases hfew : n ≤ 1100
  rotate_left 1
  · have PF := Lib.hid (few_k A n c false (decide_eq_false hfew))
    go_enter Try.func10, Try.ntmps10
    go_wp2_with fail
    (with_reducible refine (live17 _).mono ?_)
    rintro e w1 ⟨rfl, b⟩
    have B1 := Lib.hid (below_on B0.out b)
    replace Q0 := Lib.hid (Q0.out.on b)
    clear b
    go_wp2_with fail
    (with_reducible refine (PF.out _).mono ?_)
    rintro e _ ⟨rfl, rfl⟩
    go_wp2_with fail
    go_ret
    exact ⟨rfl, B1.out⟩
  have PF := Lib.hid (few_k A n c true (decide_eq_true hfew))
  have hl : n ≤ 1048576 := by omega
  clear hfew
  by_cases h1000 : 1000 < n
  · have g0 : decide (1000 < n) = true := decide_eq_true h1000
    go_enter Try.func10, Try.ntmps10
    go_wp2_with fail
    (with_reducible refine (live17 _).mono ?_)
    rintro e w1 ⟨rfl, b⟩
    have B1 := Lib.hid (below_on B0.out b)
    replace Q0 := Lib.hid (Q0.out.on b)
    clear b
    go_wp2_with fail
    (with_reducible refine (PF.out _).mono ?_)
    rintro e _ ⟨rfl, rfl⟩
    go_wp2_with fail
    go_ret
    exact ⟨rfl, B1.out⟩
  have g0 : decide (1000 < n) = false := decide_eq_false h1000
  by_cases hsame : rule = wth ∧ acc = other
  · obtain ⟨rfl, rfl⟩ := hsame
    go_enter Try.func10, Try.ntmps10
    go_wp2_with fail
    (with_reducible refine (live17 _).mono ?_)
    rintro e w1 ⟨rfl, b⟩
    have B1 := Lib.hid (below_on B0.out b)
    replace Q0 := Lib.hid (Q0.out.on b)
    clear b
    go_wp2_with fail
    (with_reducible refine (PF.out _).mono ?_)
    rintro e _ ⟨rfl, rfl⟩
    go_wp2_with fail
    go_ret
    exact ⟨rfl, B1.out⟩
  obtain ⟨X, er, hsp⟩ : ∃ X er, spendS L mo wi rule acc now = (X, er) := ⟨_, _, rfl⟩
  obtain ⟨Y, fr, hsp2⟩ : ∃ Y fr, spendS L mo wi wth other now = (Y, fr) := ⟨_, _, rfl⟩
  obtain ⟨m, hm⟩ : ∃ m, X.length = m := ⟨_, rfl⟩
  obtain ⟨k, hk⟩ : ∃ k, Y.length = k := ⟨_, rfl⟩
  have PS := Lib.hid (fun w hs => Spend_k A n c L HN.out hl ⟨#[]⟩ false none 0 0 0 0 mo wi rule acc now X er m hsp hm w hs)
  have PT := Lib.hid (fun w hs => Spend_k A n c L HN.out hl ⟨#[]⟩ false none 0 0 0 0 mo wi wth other now Y fr k hsp2 hk w hs)
  by_cases he : er = 0
  rotate_left 1
  · have ge : (er != 0) = true := by simpa using he
    clear he hsp hsp2 hm hk
    by_cases hr : rule = wth
    · have hac : ¬ acc = other := fun h => hsame ⟨hr, h⟩
      have ga : (acc == other) = false := by simpa using hac
      have gr : (rule == wth) = true := by simpa using hr
      clear hsame hr hac
      go_enter Try.func10, Try.ntmps10
      go_wp2_with fail
      (with_reducible refine (live17 _).mono ?_)
      rintro e w1 ⟨rfl, b⟩
      have B1 := Lib.hid (below_on B0.out b)
      replace Q0 := Lib.hid (Q0.out.on b)
      clear b
      go_wp2_with fail
      (with_reducible refine (PF.out _).mono ?_)
      rintro e _ ⟨rfl, rfl⟩
      have na := (Below.refl w1.heap.size w1).alloc (Nat.le_refl _) (.cells #[.string ⟨#[]⟩, .bool false, .slice none 0 0, .int .u64 0, .int .i64 0, .int .i64 mo, .int .i64 wi] 28)
      replace Q0 := Lib.hid (Q0.out.on na)
      have B2 := Lib.hid (below_on B1.out na)
      have X := Lib.hid (Blk.new w1 28 #[.string ⟨#[]⟩, .bool false, .slice none 0 0, .int .u64 0, .int .i64 0, .int .i64 mo, .int .i64 wi])
      clear na
      have x0 : (w1.alloc (.cells #[.string ⟨#[]⟩, .bool false, .slice none 0 0, .int .u64 0, .int .i64 0, .int .i64 mo, .int .i64 wi] 28)).cell? ⟨w1.heap.size, 0, none⟩ = some (.string ⟨#[]⟩) := X.out.cell 0
      have x1 : (w1.alloc (.cells #[.string ⟨#[]⟩, .bool false, .slice none 0 0, .int .u64 0, .int .i64 0, .int .i64 mo, .int .i64 wi] 28)).cell? ⟨w1.heap.size, 1, none⟩ = some (.bool false) := X.out.cell 1
      have x2 : (w1.alloc (.cells #[.string ⟨#[]⟩, .bool false, .slice none 0 0, .int .u64 0, .int .i64 0, .int .i64 mo, .int .i64 wi] 28)).cell? ⟨w1.heap.size, 2, none⟩ = some (.slice none 0 0) := X.out.cell 2
      have x3 : (w1.alloc (.cells #[.string ⟨#[]⟩, .bool false, .slice none 0 0, .int .u64 0, .int .i64 0, .int .i64 mo, .int .i64 wi] 28)).cell? ⟨w1.heap.size, 3, none⟩ = some (.int .u64 0) := X.out.cell 3
      have x4 : (w1.alloc (.cells #[.string ⟨#[]⟩, .bool false, .slice none 0 0, .int .u64 0, .int .i64 0, .int .i64 mo, .int .i64 wi] 28)).cell? ⟨w1.heap.size, 4, none⟩ = some (.int .i64 0) := X.out.cell 4
      have x5 : (w1.alloc (.cells #[.string ⟨#[]⟩, .bool false, .slice none 0 0, .int .u64 0, .int .i64 0, .int .i64 mo, .int .i64 wi] 28)).cell? ⟨w1.heap.size, 5, none⟩ = some (.int .i64 mo) := X.out.cell 5
      have x6 : (w1.alloc (.cells #[.string ⟨#[]⟩, .bool false, .slice none 0 0, .int .u64 0, .int .i64 0, .int .i64 mo, .int .i64 wi] 28)).cell? ⟨w1.heap.size, 6, none⟩ = some (.int .i64 wi) := X.out.cell 6
      go_wp2_with fail
      generalize w1.alloc (.cells #[.string ⟨#[]⟩, .bool false, .slice none 0 0, .int .u64 0, .int .i64 0, .int .i64 mo, .int .i64 wi] 28) = w2 at B2 X Q0 x0 x1 x2 x3 x4 x5 x6 ⊢
      (with_reducible refine (PS.out _ Q0.out).mono ?_)
      rintro e w3 ⟨A1, c1, rfl, hcc, hq, b⟩
      clear x0 x1 x2 x3 x4 x5 x6
      have B3 := Lib.hid (below_on B2.out b)
      replace X := Lib.hid (X.out.below b X.out.lt)
      replace Q0 := Lib.hid (Q0.out.on b)
      have Q1 := Lib.hid (hq)
      have Q1c := Lib.hid (hcc)
      clear b hq hcc
      have x0 : w3.cell? ⟨w1.heap.size, 0, none⟩ = some (.string ⟨#[]⟩) := X.out.cell 0
      have x1 : w3.cell? ⟨w1.heap.size, 1, none⟩ = some (.bool false) := X.out.cell 1
      have x2 : w3.cell? ⟨w1.heap.size, 2, none⟩ = some (.slice none 0 0) := X.out.cell 2
      have x3 : w3.cell? ⟨w1.heap.size, 3, none⟩ = some (.int .u64 0) := X.out.cell 3
      have x4 : w3.cell? ⟨w1.heap.size, 4, none⟩ = some (.int .i64 0) := X.out.cell 4
      have x5 : w3.cell? ⟨w1.heap.size, 5, none⟩ = some (.int .i64 mo) := X.out.cell 5
      have x6 : w3.cell? ⟨w1.heap.size, 6, none⟩ = some (.int .i64 wi) := X.out.cell 6
      go_wp2_with fail
      (with_reducible refine (PT.out _ Q0.out).mono ?_)
      rintro e w4 ⟨A2, c2, rfl, hcc, hq, b⟩
      clear x0 x1 x2 x3 x4 x5 x6
      have B4 := Lib.hid (below_on B3.out b)
      replace X := Lib.hid (X.out.below b X.out.lt)
      replace Q0 := Lib.hid (Q0.out.on b)
      replace Q1 := Lib.hid (Q1.out.on b)
      have Q2 := Lib.hid (hq)
      have Q2c := Lib.hid (hcc)
      clear b hq hcc
      have x0 : w4.cell? ⟨w1.heap.size, 0, none⟩ = some (.string ⟨#[]⟩) := X.out.cell 0
      have x1 : w4.cell? ⟨w1.heap.size, 1, none⟩ = some (.bool false) := X.out.cell 1
      have x2 : w4.cell? ⟨w1.heap.size, 2, none⟩ = some (.slice none 0 0) := X.out.cell 2
      have x3 : w4.cell? ⟨w1.heap.size, 3, none⟩ = some (.int .u64 0) := X.out.cell 3
      have x4 : w4.cell? ⟨w1.heap.size, 4, none⟩ = some (.int .i64 0) := X.out.cell 4
      have x5 : w4.cell? ⟨w1.heap.size, 5, none⟩ = some (.int .i64 mo) := X.out.cell 5
      have x6 : w4.cell? ⟨w1.heap.size, 6, none⟩ = some (.int .i64 wi) := X.out.cell 6
      go_wp2_with fail
      go_ret
      exact ⟨rfl, B4.out⟩
    · have gr : (rule == wth) = false := by simpa using hr
      clear hsame hr
      go_enter Try.func10, Try.ntmps10
      go_wp2_with fail
      (with_reducible refine (live17 _).mono ?_)
      rintro e w1 ⟨rfl, b⟩
      have B1 := Lib.hid (below_on B0.out b)
      replace Q0 := Lib.hid (Q0.out.on b)
      clear b
      go_wp2_with fail
      (with_reducible refine (PF.out _).mono ?_)
      rintro e _ ⟨rfl, rfl⟩
      have na := (Below.refl w1.heap.size w1).alloc (Nat.le_refl _) (.cells #[.string ⟨#[]⟩, .bool false, .slice none 0 0, .int .u64 0, .int .i64 0, .int .i64 mo, .int .i64 wi] 28)
      replace Q0 := Lib.hid (Q0.out.on na)
      have B2 := Lib.hid (below_on B1.out na)
      have X := Lib.hid (Blk.new w1 28 #[.string ⟨#[]⟩, .bool false, .slice none 0 0, .int .u64 0, .int .i64 0, .int .i64 mo, .int .i64 wi])
      clear na
      have x0 : (w1.alloc (.cells #[.string ⟨#[]⟩, .bool false, .slice none 0 0, .int .u64 0, .int .i64 0, .int .i64 mo, .int .i64 wi] 28)).cell? ⟨w1.heap.size, 0, none⟩ = some (.string ⟨#[]⟩) := X.out.cell 0
      have x1 : (w1.alloc (.cells #[.string ⟨#[]⟩, .bool false, .slice none 0 0, .int .u64 0, .int .i64 0, .int .i64 mo, .int .i64 wi] 28)).cell? ⟨w1.heap.size, 1, none⟩ = some (.bool false) := X.out.cell 1
      have x2 : (w1.alloc (.cells #[.string ⟨#[]⟩, .bool false, .slice none 0 0, .int .u64 0, .int .i64 0, .int .i64 mo, .int .i64 wi] 28)).cell? ⟨w1.heap.size, 2, none⟩ = some (.slice none 0 0) := X.out.cell 2
      have x3 : (w1.alloc (.cells #[.string ⟨#[]⟩, .bool false, .slice none 0 0, .int .u64 0, .int .i64 0, .int .i64 mo, .int .i64 wi] 28)).cell? ⟨w1.heap.size, 3, none⟩ = some (.int .u64 0) := X.out.cell 3
      have x4 : (w1.alloc (.cells #[.string ⟨#[]⟩, .bool false, .slice none 0 0, .int .u64 0, .int .i64 0, .int .i64 mo, .int .i64 wi] 28)).cell? ⟨w1.heap.size, 4, none⟩ = some (.int .i64 0) := X.out.cell 4
      have x5 : (w1.alloc (.cells #[.string ⟨#[]⟩, .bool false, .slice none 0 0, .int .u64 0, .int .i64 0, .int .i64 mo, .int .i64 wi] 28)).cell? ⟨w1.heap.size, 5, none⟩ = some (.int .i64 mo) := X.out.cell 5
      have x6 : (w1.alloc (.cells #[.string ⟨#[]⟩, .bool false, .slice none 0 0, .int .u64 0, .int .i64 0, .int .i64 mo, .int .i64 wi] 28)).cell? ⟨w1.heap.size, 6, none⟩ = some (.int .i64 wi) := X.out.cell 6
      go_wp2_with fail
      generalize w1.alloc (.cells #[.string ⟨#[]⟩, .bool false, .slice none 0 0, .int .u64 0, .int .i64 0, .int .i64 mo, .int .i64 wi] 28) = w2 at B2 X Q0 x0 x1 x2 x3 x4 x5 x6 ⊢
      (with_reducible refine (PS.out _ Q0.out).mono ?_)
      rintro e w3 ⟨A1, c1, rfl, hcc, hq, b⟩
      clear x0 x1 x2 x3 x4 x5 x6
      have B3 := Lib.hid (below_on B2.out b)
      replace X := Lib.hid (X.out.below b X.out.lt)
      replace Q0 := Lib.hid (Q0.out.on b)
      have Q1 := Lib.hid (hq)
      have Q1c := Lib.hid (hcc)
      clear b hq hcc
      have x0 : w3.cell? ⟨w1.heap.size, 0, none⟩ = some (.string ⟨#[]⟩) := X.out.cell 0
      have x1 : w3.cell? ⟨w1.heap.size, 1, none⟩ = some (.bool false) := X.out.cell 1
      have x2 : w3.cell? ⟨w1.heap.size, 2, none⟩ = some (.slice none 0 0) := X.out.cell 2
      have x3 : w3.cell? ⟨w1.heap.size, 3, none⟩ = some (.int .u64 0) := X.out.cell 3
      have x4 : w3.cell? ⟨w1.heap.size, 4, none⟩ = some (.int .i64 0) := X.out.cell 4
      have x5 : w3.cell? ⟨w1.heap.size, 5, none⟩ = some (.int .i64 mo) := X.out.cell 5
      have x6 : w3.cell? ⟨w1.heap.size, 6, none⟩ = some (.int .i64 wi) := X.out.cell 6
      go_wp2_with fail
      (with_reducible refine (PT.out _ Q0.out).mono ?_)
      rintro e w4 ⟨A2, c2, rfl, hcc, hq, b⟩
      clear x0 x1 x2 x3 x4 x5 x6
      have B4 := Lib.hid (below_on B3.out b)
      replace X := Lib.hid (X.out.below b X.out.lt)
      replace Q0 := Lib.hid (Q0.out.on b)
      replace Q1 := Lib.hid (Q1.out.on b)
      have Q2 := Lib.hid (hq)
      have Q2c := Lib.hid (hcc)
      clear b hq hcc
      have x0 : w4.cell? ⟨w1.heap.size, 0, none⟩ = some (.string ⟨#[]⟩) := X.out.cell 0
      have x1 : w4.cell? ⟨w1.heap.size, 1, none⟩ = some (.bool false) := X.out.cell 1
      have x2 : w4.cell? ⟨w1.heap.size, 2, none⟩ = some (.slice none 0 0) := X.out.cell 2
      have x3 : w4.cell? ⟨w1.heap.size, 3, none⟩ = some (.int .u64 0) := X.out.cell 3
      have x4 : w4.cell? ⟨w1.heap.size, 4, none⟩ = some (.int .i64 0) := X.out.cell 4
      have x5 : w4.cell? ⟨w1.heap.size, 5, none⟩ = some (.int .i64 mo) := X.out.cell 5
      have x6 : w4.cell? ⟨w1.heap.size, 6, none⟩ = some (.int .i64 wi) := X.out.cell 6
      go_wp2_with fail
      go_ret
      exact ⟨rfl, B4.out⟩
  subst he
  by_cases hf : fr = 0
  rotate_left 1
  · have gf : (fr != 0) = true := by simpa using hf
    clear hf hsp hsp2 hm hk
    by_cases hr : rule = wth
    · have hac : ¬ acc = other := fun h => hsame ⟨hr, h⟩
      have ga : (acc == other) = false := by simpa using hac
      have gr : (rule == wth) = true := by simpa using hr
      clear hsame hr hac
      go_enter Try.func10, Try.ntmps10
      go_wp2_with fail
      (with_reducible refine (live17 _).mono ?_)
      rintro e w1 ⟨rfl, b⟩
      have B1 := Lib.hid (below_on B0.out b)
      replace Q0 := Lib.hid (Q0.out.on b)
      clear b
      go_wp2_with fail
      (with_reducible refine (PF.out _).mono ?_)
      rintro e _ ⟨rfl, rfl⟩
      have na := (Below.refl w1.heap.size w1).alloc (Nat.le_refl _) (.cells #[.string ⟨#[]⟩, .bool false, .slice none 0 0, .int .u64 0, .int .i64 0, .int .i64 mo, .int .i64 wi] 28)
      replace Q0 := Lib.hid (Q0.out.on na)
      have B2 := Lib.hid (below_on B1.out na)
      have X := Lib.hid (Blk.new w1 28 #[.string ⟨#[]⟩, .bool false, .slice none 0 0, .int .u64 0, .int .i64 0, .int .i64 mo, .int .i64 wi])
      clear na
      have x0 : (w1.alloc (.cells #[.string ⟨#[]⟩, .bool false, .slice none 0 0, .int .u64 0, .int .i64 0, .int .i64 mo, .int .i64 wi] 28)).cell? ⟨w1.heap.size, 0, none⟩ = some (.string ⟨#[]⟩) := X.out.cell 0
      have x1 : (w1.alloc (.cells #[.string ⟨#[]⟩, .bool false, .slice none 0 0, .int .u64 0, .int .i64 0, .int .i64 mo, .int .i64 wi] 28)).cell? ⟨w1.heap.size, 1, none⟩ = some (.bool false) := X.out.cell 1
      have x2 : (w1.alloc (.cells #[.string ⟨#[]⟩, .bool false, .slice none 0 0, .int .u64 0, .int .i64 0, .int .i64 mo, .int .i64 wi] 28)).cell? ⟨w1.heap.size, 2, none⟩ = some (.slice none 0 0) := X.out.cell 2
      have x3 : (w1.alloc (.cells #[.string ⟨#[]⟩, .bool false, .slice none 0 0, .int .u64 0, .int .i64 0, .int .i64 mo, .int .i64 wi] 28)).cell? ⟨w1.heap.size, 3, none⟩ = some (.int .u64 0) := X.out.cell 3
      have x4 : (w1.alloc (.cells #[.string ⟨#[]⟩, .bool false, .slice none 0 0, .int .u64 0, .int .i64 0, .int .i64 mo, .int .i64 wi] 28)).cell? ⟨w1.heap.size, 4, none⟩ = some (.int .i64 0) := X.out.cell 4
      have x5 : (w1.alloc (.cells #[.string ⟨#[]⟩, .bool false, .slice none 0 0, .int .u64 0, .int .i64 0, .int .i64 mo, .int .i64 wi] 28)).cell? ⟨w1.heap.size, 5, none⟩ = some (.int .i64 mo) := X.out.cell 5
      have x6 : (w1.alloc (.cells #[.string ⟨#[]⟩, .bool false, .slice none 0 0, .int .u64 0, .int .i64 0, .int .i64 mo, .int .i64 wi] 28)).cell? ⟨w1.heap.size, 6, none⟩ = some (.int .i64 wi) := X.out.cell 6
      go_wp2_with fail
      generalize w1.alloc (.cells #[.string ⟨#[]⟩, .bool false, .slice none 0 0, .int .u64 0, .int .i64 0, .int .i64 mo, .int .i64 wi] 28) = w2 at B2 X Q0 x0 x1 x2 x3 x4 x5 x6 ⊢
      (with_reducible refine (PS.out _ Q0.out).mono ?_)
      rintro e w3 ⟨A1, c1, rfl, hcc, hq, b⟩
      clear x0 x1 x2 x3 x4 x5 x6
      have B3 := Lib.hid (below_on B2.out b)
      replace X := Lib.hid (X.out.below b X.out.lt)
      replace Q0 := Lib.hid (Q0.out.on b)
      have Q1 := Lib.hid (hq)
      have Q1c := Lib.hid (hcc)
      clear b hq hcc
      have x0 : w3.cell? ⟨w1.heap.size, 0, none⟩ = some (.string ⟨#[]⟩) := X.out.cell 0
      have x1 : w3.cell? ⟨w1.heap.size, 1, none⟩ = some (.bool false) := X.out.cell 1
      have x2 : w3.cell? ⟨w1.heap.size, 2, none⟩ = some (.slice none 0 0) := X.out.cell 2
      have x3 : w3.cell? ⟨w1.heap.size, 3, none⟩ = some (.int .u64 0) := X.out.cell 3
      have x4 : w3.cell? ⟨w1.heap.size, 4, none⟩ = some (.int .i64 0) := X.out.cell 4
      have x5 : w3.cell? ⟨w1.heap.size, 5, none⟩ = some (.int .i64 mo) := X.out.cell 5
      have x6 : w3.cell? ⟨w1.heap.size, 6, none⟩ = some (.int .i64 wi) := X.out.cell 6
      go_wp2_with fail
      (with_reducible refine (PT.out _ Q0.out).mono ?_)
      rintro e w4 ⟨A2, c2, rfl, hcc, hq, b⟩
      clear x0 x1 x2 x3 x4 x5 x6
      have B4 := Lib.hid (below_on B3.out b)
      replace X := Lib.hid (X.out.below b X.out.lt)
      replace Q0 := Lib.hid (Q0.out.on b)
      replace Q1 := Lib.hid (Q1.out.on b)
      have Q2 := Lib.hid (hq)
      have Q2c := Lib.hid (hcc)
      clear b hq hcc
      have x0 : w4.cell? ⟨w1.heap.size, 0, none⟩ = some (.string ⟨#[]⟩) := X.out.cell 0
      have x1 : w4.cell? ⟨w1.heap.size, 1, none⟩ = some (.bool false) := X.out.cell 1
      have x2 : w4.cell? ⟨w1.heap.size, 2, none⟩ = some (.slice none 0 0) := X.out.cell 2
      have x3 : w4.cell? ⟨w1.heap.size, 3, none⟩ = some (.int .u64 0) := X.out.cell 3
      have x4 : w4.cell? ⟨w1.heap.size, 4, none⟩ = some (.int .i64 0) := X.out.cell 4
      have x5 : w4.cell? ⟨w1.heap.size, 5, none⟩ = some (.int .i64 mo) := X.out.cell 5
      have x6 : w4.cell? ⟨w1.heap.size, 6, none⟩ = some (.int .i64 wi) := X.out.cell 6
      go_wp2_with fail
      go_ret
      exact ⟨rfl, B4.out⟩
    · have gr : (rule == wth) = false := by simpa using hr
      clear hsame hr
      go_enter Try.func10, Try.ntmps10
      go_wp2_with fail
      (with_reducible refine (live17 _).mono ?_)
      rintro e w1 ⟨rfl, b⟩
      have B1 := Lib.hid (below_on B0.out b)
      replace Q0 := Lib.hid (Q0.out.on b)
      clear b
      go_wp2_with fail
      (with_reducible refine (PF.out _).mono ?_)
      rintro e _ ⟨rfl, rfl⟩
      have na := (Below.refl w1.heap.size w1).alloc (Nat.le_refl _) (.cells #[.string ⟨#[]⟩, .bool false, .slice none 0 0, .int .u64 0, .int .i64 0, .int .i64 mo, .int .i64 wi] 28)
      replace Q0 := Lib.hid (Q0.out.on na)
      have B2 := Lib.hid (below_on B1.out na)
      have X := Lib.hid (Blk.new w1 28 #[.string ⟨#[]⟩, .bool false, .slice none 0 0, .int .u64 0, .int .i64 0, .int .i64 mo, .int .i64 wi])
      clear na
      have x0 : (w1.alloc (.cells #[.string ⟨#[]⟩, .bool false, .slice none 0 0, .int .u64 0, .int .i64 0, .int .i64 mo, .int .i64 wi] 28)).cell? ⟨w1.heap.size, 0, none⟩ = some (.string ⟨#[]⟩) := X.out.cell 0
      have x1 : (w1.alloc (.cells #[.string ⟨#[]⟩, .bool false, .slice none 0 0, .int .u64 0, .int .i64 0, .int .i64 mo, .int .i64 wi] 28)).cell? ⟨w1.heap.size, 1, none⟩ = some (.bool false) := X.out.cell 1
      have x2 : (w1.alloc (.cells #[.string ⟨#[]⟩, .bool false, .slice none 0 0, .int .u64 0, .int .i64 0, .int .i64 mo, .int .i64 wi] 28)).cell? ⟨w1.heap.size, 2, none⟩ = some (.slice none 0 0) := X.out.cell 2
      have x3 : (w1.alloc (.cells #[.string ⟨#[]⟩, .bool false, .slice none 0 0, .int .u64 0, .int .i64 0, .int .i64 mo, .int .i64 wi] 28)).cell? ⟨w1.heap.size, 3, none⟩ = some (.int .u64 0) := X.out.cell 3
      have x4 : (w1.alloc (.cells #[.string ⟨#[]⟩, .bool false, .slice none 0 0, .int .u64 0, .int .i64 0, .int .i64 mo, .int .i64 wi] 28)).cell? ⟨w1.heap.size, 4, none⟩ = some (.int .i64 0) := X.out.cell 4
      have x5 : (w1.alloc (.cells #[.string ⟨#[]⟩, .bool false, .slice none 0 0, .int .u64 0, .int .i64 0, .int .i64 mo, .int .i64 wi] 28)).cell? ⟨w1.heap.size, 5, none⟩ = some (.int .i64 mo) := X.out.cell 5
      have x6 : (w1.alloc (.cells #[.string ⟨#[]⟩, .bool false, .slice none 0 0, .int .u64 0, .int .i64 0, .int .i64 mo, .int .i64 wi] 28)).cell? ⟨w1.heap.size, 6, none⟩ = some (.int .i64 wi) := X.out.cell 6
      go_wp2_with fail
      generalize w1.alloc (.cells #[.string ⟨#[]⟩, .bool false, .slice none 0 0, .int .u64 0, .int .i64 0, .int .i64 mo, .int .i64 wi] 28) = w2 at B2 X Q0 x0 x1 x2 x3 x4 x5 x6 ⊢
      (with_reducible refine (PS.out _ Q0.out).mono ?_)
      rintro e w3 ⟨A1, c1, rfl, hcc, hq, b⟩
      clear x0 x1 x2 x3 x4 x5 x6
      have B3 := Lib.hid (below_on B2.out b)
      replace X := Lib.hid (X.out.below b X.out.lt)
      replace Q0 := Lib.hid (Q0.out.on b)
      have Q1 := Lib.hid (hq)
      have Q1c := Lib.hid (hcc)
      clear b hq hcc
      have x0 : w3.cell? ⟨w1.heap.size, 0, none⟩ = some (.string ⟨#[]⟩) := X.out.cell 0
      have x1 : w3.cell? ⟨w1.heap.size, 1, none⟩ = some (.bool false) := X.out.cell 1
      have x2 : w3.cell? ⟨w1.heap.size, 2, none⟩ = some (.slice none 0 0) := X.out.cell 2
      have x3 : w3.cell? ⟨w1.heap.size, 3, none⟩ = some (.int .u64 0) := X.out.cell 3
      have x4 : w3.cell? ⟨w1.heap.size, 4, none⟩ = some (.int .i64 0) := X.out.cell 4
      have x5 : w3.cell? ⟨w1.heap.size, 5, none⟩ = some (.int .i64 mo) := X.out.cell 5
      have x6 : w3.cell? ⟨w1.heap.size, 6, none⟩ = some (.int .i64 wi) := X.out.cell 6
      go_wp2_with fail
      (with_reducible refine (PT.out _ Q0.out).mono ?_)
      rintro e w4 ⟨A2, c2, rfl, hcc, hq, b⟩
      clear x0 x1 x2 x3 x4 x5 x6
      have B4 := Lib.hid (below_on B3.out b)
      replace X := Lib.hid (X.out.below b X.out.lt)
      replace Q0 := Lib.hid (Q0.out.on b)
      replace Q1 := Lib.hid (Q1.out.on b)
      have Q2 := Lib.hid (hq)
      have Q2c := Lib.hid (hcc)
      clear b hq hcc
      have x0 : w4.cell? ⟨w1.heap.size, 0, none⟩ = some (.string ⟨#[]⟩) := X.out.cell 0
      have x1 : w4.cell? ⟨w1.heap.size, 1, none⟩ = some (.bool false) := X.out.cell 1
      have x2 : w4.cell? ⟨w1.heap.size, 2, none⟩ = some (.slice none 0 0) := X.out.cell 2
      have x3 : w4.cell? ⟨w1.heap.size, 3, none⟩ = some (.int .u64 0) := X.out.cell 3
      have x4 : w4.cell? ⟨w1.heap.size, 4, none⟩ = some (.int .i64 0) := X.out.cell 4
      have x5 : w4.cell? ⟨w1.heap.size, 5, none⟩ = some (.int .i64 mo) := X.out.cell 5
      have x6 : w4.cell? ⟨w1.heap.size, 6, none⟩ = some (.int .i64 wi) := X.out.cell 6
      go_wp2_with fail
      go_ret
      exact ⟨rfl, B4.out⟩
  subst hf
  obtain ⟨Z, hz1, hz2⟩ := spend_apart (L := L) (by rw [HN.out]; omega) (fun h => hsame ⟨h.2.symm, h.1.symm⟩) hsp hsp2
  obtain ⟨z, hz⟩ : ∃ z, Z.length = z := ⟨_, rfl⟩
  have hl2 : m ≤ 1048576 := by have := (chkS_ok (spend_ok hsp).2.1).2; omega
  have hl3 : k ≤ 1048576 := by have := (chkS_ok (spend_ok hsp2).2.1).2; omega
  have hl4 : z ≤ 70368744177664 := by have := (chkS_ok (spend_ok hz1).2.1).2; omega
  have PU := Lib.hid (fun A c w hs => Spend_k A m c X hm hl2 ⟨#[]⟩ false none 0 0 0 0 mo wi wth other now Z 0 z hz1 hz w hs)
  have PV := Lib.hid (fun A c w hs => Spend_k A k c Y hk hl3 ⟨#[]⟩ false none 0 0 0 0 mo wi rule acc now Z 0 z hz2 hz w hs)
  have PM := Lib.hid (fun A A' c c' w hs hs' => Same_k A A' z c c' Z hz hl4 w hs hs')
  clear hsp hsp2 hm hk hz1 hz2 hz
  by_cases hr : rule = wth
  · have hac : ¬ acc = other := fun h => hsame ⟨hr, h⟩
    have ga : (acc == other) = false := by simpa using hac
    have gr : (rule == wth) = true := by simpa using hr
    clear hsame hr hac
    go_enter Try.func10, Try.ntmps10
    go_wp2_with fail
    (with_reducible refine (live17 _).mono ?_)
    rintro e w1 ⟨rfl, b⟩
    have B1 := Lib.hid (below_on B0.out b)
    replace Q0 := Lib.hid (Q0.out.on b)
    clear b
    go_wp2_with fail
    (with_reducible refine (PF.out _).mono ?_)
    rintro e _ ⟨rfl, rfl⟩
    have na := (Below.refl w1.heap.size w1).alloc (Nat.le_refl _) (.cells #[.string ⟨#[]⟩, .bool false, .slice none 0 0, .int .u64 0, .int .i64 0, .int .i64 mo, .int .i64 wi] 28)
    replace Q0 := Lib.hid (Q0.out.on na)
    have B2 := Lib.hid (below_on B1.out na)
    have X := Lib.hid (Blk.new w1 28 #[.string ⟨#[]⟩, .bool false, .slice none 0 0, .int .u64 0, .int .i64 0, .int .i64 mo, .int .i64 wi])
    clear na
    have x0 : (w1.alloc (.cells #[.string ⟨#[]⟩, .bool false, .slice none 0 0, .int .u64 0, .int .i64 0, .int .i64 mo, .int .i64 wi] 28)).cell? ⟨w1.heap.size, 0, none⟩ = some (.string ⟨#[]⟩) := X.out.cell 0
    have x1 : (w1.alloc (.cells #[.string ⟨#[]⟩, .bool false, .slice none 0 0, .int .u64 0, .int .i64 0, .int .i64 mo, .int .i64 wi] 28)).cell? ⟨w1.heap.size, 1, none⟩ = some (.bool false) := X.out.cell 1
    have x2 : (w1.alloc (.cells #[.string ⟨#[]⟩, .bool false, .slice none 0 0, .int .u64 0, .int .i64 0, .int .i64 mo, .int .i64 wi] 28)).cell? ⟨w1.heap.size, 2, none⟩ = some (.slice none 0 0) := X.out.cell 2
    have x3 : (w1.alloc (.cells #[.string ⟨#[]⟩, .bool false, .slice none 0 0, .int .u64 0, .int .i64 0, .int .i64 mo, .int .i64 wi] 28)).cell? ⟨w1.heap.size, 3, none⟩ = some (.int .u64 0) := X.out.cell 3
    have x4 : (w1.alloc (.cells #[.string ⟨#[]⟩, .bool false, .slice none 0 0, .int .u64 0, .int .i64 0, .int .i64 mo, .int .i64 wi] 28)).cell? ⟨w1.heap.size, 4, none⟩ = some (.int .i64 0) := X.out.cell 4
    have x5 : (w1.alloc (.cells #[.string ⟨#[]⟩, .bool false, .slice none 0 0, .int .u64 0, .int .i64 0, .int .i64 mo, .int .i64 wi] 28)).cell? ⟨w1.heap.size, 5, none⟩ = some (.int .i64 mo) := X.out.cell 5
    have x6 : (w1.alloc (.cells #[.string ⟨#[]⟩, .bool false, .slice none 0 0, .int .u64 0, .int .i64 0, .int .i64 mo, .int .i64 wi] 28)).cell? ⟨w1.heap.size, 6, none⟩ = some (.int .i64 wi) := X.out.cell 6
    go_wp2_with fail
    generalize w1.alloc (.cells #[.string ⟨#[]⟩, .bool false, .slice none 0 0, .int .u64 0, .int .i64 0, .int .i64 mo, .int .i64 wi] 28) = w2 at B2 X Q0 x0 x1 x2 x3 x4 x5 x6 ⊢
    (with_reducible refine (PS.out _ Q0.out).mono ?_)
    rintro e w3 ⟨A1, c1, rfl, hcc, hq, b⟩
    clear x0 x1 x2 x3 x4 x5 x6
    have B3 := Lib.hid (below_on B2.out b)
    replace X := Lib.hid (X.out.below b X.out.lt)
    replace Q0 := Lib.hid (Q0.out.on b)
    have Q1 := Lib.hid (hq)
    have Q1c := Lib.hid (hcc)
    clear b hq hcc
    have x0 : w3.cell? ⟨w1.heap.size, 0, none⟩ = some (.string ⟨#[]⟩) := X.out.cell 0
    have x1 : w3.cell? ⟨w1.heap.size, 1, none⟩ = some (.bool false) := X.out.cell 1
    have x2 : w3.cell? ⟨w1.heap.size, 2, none⟩ = some (.slice none 0 0) := X.out.cell 2
    have x3 : w3.cell? ⟨w1.heap.size, 3, none⟩ = some (.int .u64 0) := X.out.cell 3
    have x4 : w3.cell? ⟨w1.heap.size, 4, none⟩ = some (.int .i64 0) := X.out.cell 4
    have x5 : w3.cell? ⟨w1.heap.size, 5, none⟩ = some (.int .i64 mo) := X.out.cell 5
    have x6 : w3.cell? ⟨w1.heap.size, 6, none⟩ = some (.int .i64 wi) := X.out.cell 6
    go_wp2_with fail
    (with_reducible refine (PT.out _ Q0.out).mono ?_)
    rintro e w4 ⟨A2, c2, rfl, hcc, hq, b⟩
    clear x0 x1 x2 x3 x4 x5 x6
    have B4 := Lib.hid (below_on B3.out b)
    replace X := Lib.hid (X.out.below b X.out.lt)
    replace Q0 := Lib.hid (Q0.out.on b)
    replace Q1 := Lib.hid (Q1.out.on b)
    have Q2 := Lib.hid (hq)
    have Q2c := Lib.hid (hcc)
    clear b hq hcc
    have x0 : w4.cell? ⟨w1.heap.size, 0, none⟩ = some (.string ⟨#[]⟩) := X.out.cell 0
    have x1 : w4.cell? ⟨w1.heap.size, 1, none⟩ = some (.bool false) := X.out.cell 1
    have x2 : w4.cell? ⟨w1.heap.size, 2, none⟩ = some (.slice none 0 0) := X.out.cell 2
    have x3 : w4.cell? ⟨w1.heap.size, 3, none⟩ = some (.int .u64 0) := X.out.cell 3
    have x4 : w4.cell? ⟨w1.heap.size, 4, none⟩ = some (.int .i64 0) := X.out.cell 4
    have x5 : w4.cell? ⟨w1.heap.size, 5, none⟩ = some (.int .i64 mo) := X.out.cell 5
    have x6 : w4.cell? ⟨w1.heap.size, 6, none⟩ = some (.int .i64 wi) := X.out.cell 6
    go_wp2_with fail
    (with_reducible refine (PU.out A1 c1 _ Q1.out).mono ?_)
    rintro e w5 ⟨A3, c3, rfl, hcc, hq, b⟩
    clear x0 x1 x2 x3 x4 x5 x6
    have B5 := Lib.hid (below_on B4.out b)
    replace X := Lib.hid (X.out.below b X.out.lt)
    replace Q0 := Lib.hid (Q0.out.on b)
    replace Q1 := Lib.hid (Q1.out.on b)
    replace Q2 := Lib.hid (Q2.out.on b)
    have Q3 := Lib.hid (hq)
    have Q3c := Lib.hid (hcc)
    clear b hq hcc
    have x0 : w5.cell? ⟨w1.heap.size, 0, none⟩ = some (.string ⟨#[]⟩) := X.out.cell 0
    have x1 : w5.cell? ⟨w1.heap.size, 1, none⟩ = some (.bool false) := X.out.cell 1
    have x2 : w5.cell? ⟨w1.heap.size, 2, none⟩ = some (.slice none 0 0) := X.out.cell 2
    have x3 : w5.cell? ⟨w1.heap.size, 3, none⟩ = some (.int .u64 0) := X.out.cell 3
    have x4 : w5.cell? ⟨w1.heap.size, 4, none⟩ = some (.int .i64 0) := X.out.cell 4
    have x5 : w5.cell? ⟨w1.heap.size, 5, none⟩ = some (.int .i64 mo) := X.out.cell 5
    have x6 : w5.cell? ⟨w1.heap.size, 6, none⟩ = some (.int .i64 wi) := X.out.cell 6
    go_wp2_with fail
    (with_reducible refine (PV.out A2 c2 _ Q2.out).mono ?_)
    rintro e w6 ⟨A4, c4, rfl, hcc, hq, b⟩
    clear x0 x1 x2 x3 x4 x5 x6
    have B6 := Lib.hid (below_on B5.out b)
    replace X := Lib.hid (X.out.below b X.out.lt)
    replace Q0 := Lib.hid (Q0.out.on b)
    replace Q1 := Lib.hid (Q1.out.on b)
    replace Q2 := Lib.hid (Q2.out.on b)
    replace Q3 := Lib.hid (Q3.out.on b)
    have Q4 := Lib.hid (hq)
    have Q4c := Lib.hid (hcc)
    clear b hq hcc
    go_wp2_with fail
    (with_reducible refine (PM.out _ _ _ _ _ Q3.out Q4.out).mono ?_)
    rintro e w7 ⟨rfl, b⟩
    have B7 := Lib.hid (below_on B6.out b)
    replace X := Lib.hid (X.out.below b X.out.lt)
    replace Q0 := Lib.hid (Q0.out.on b)
    replace Q1 := Lib.hid (Q1.out.on b)
    replace Q2 := Lib.hid (Q2.out.on b)
    replace Q3 := Lib.hid (Q3.out.on b)
    replace Q4 := Lib.hid (Q4.out.on b)
    clear b
    go_wp2_with fail
    go_ret
    exact ⟨rfl, B7.out⟩
  · have gr : (rule == wth) = false := by simpa using hr
    clear hsame hr
    go_enter Try.func10, Try.ntmps10
    go_wp2_with fail
    (with_reducible refine (live17 _).mono ?_)
    rintro e w1 ⟨rfl, b⟩
    have B1 := Lib.hid (below_on B0.out b)
    replace Q0 := Lib.hid (Q0.out.on b)
    clear b
    go_wp2_with fail
    (with_reducible refine (PF.out _).mono ?_)
    rintro e _ ⟨rfl, rfl⟩
    have na := (Below.refl w1.heap.size w1).alloc (Nat.le_refl _) (.cells #[.string ⟨#[]⟩, .bool false, .slice none 0 0, .int .u64 0, .int .i64 0, .int .i64 mo, .int .i64 wi] 28)
    replace Q0 := Lib.hid (Q0.out.on na)
    have B2 := Lib.hid (below_on B1.out na)
    have X := Lib.hid (Blk.new w1 28 #[.string ⟨#[]⟩, .bool false, .slice none 0 0, .int .u64 0, .int .i64 0, .int .i64 mo, .int .i64 wi])
    clear na
    have x0 : (w1.alloc (.cells #[.string ⟨#[]⟩, .bool false, .slice none 0 0, .int .u64 0, .int .i64 0, .int .i64 mo, .int .i64 wi] 28)).cell? ⟨w1.heap.size, 0, none⟩ = some (.string ⟨#[]⟩) := X.out.cell 0
    have x1 : (w1.alloc (.cells #[.string ⟨#[]⟩, .bool false, .slice none 0 0, .int .u64 0, .int .i64 0, .int .i64 mo, .int .i64 wi] 28)).cell? ⟨w1.heap.size, 1, none⟩ = some (.bool false) := X.out.cell 1
    have x2 : (w1.alloc (.cells #[.string ⟨#[]⟩, .bool false, .slice none 0 0, .int .u64 0, .int .i64 0, .int .i64 mo, .int .i64 wi] 28)).cell? ⟨w1.heap.size, 2, none⟩ = some (.slice none 0 0) := X.out.cell 2
    have x3 : (w1.alloc (.cells #[.string ⟨#[]⟩, .bool false, .slice none 0 0, .int .u64 0, .int .i64 0, .int .i64 mo, .int .i64 wi] 28)).cell? ⟨w1.heap.size, 3, none⟩ = some (.int .u64 0) := X.out.cell 3
    have x4 : (w1.alloc (.cells #[.string ⟨#[]⟩, .bool false, .slice none 0 0, .int .u64 0, .int .i64 0, .int .i64 mo, .int .i64 wi] 28)).cell? ⟨w1.heap.size, 4, none⟩ = some (.int .i64 0) := X.out.cell 4
    have x5 : (w1.alloc (.cells #[.string ⟨#[]⟩, .bool false, .slice none 0 0, .int .u64 0, .int .i64 0, .int .i64 mo, .int .i64 wi] 28)).cell? ⟨w1.heap.size, 5, none⟩ = some (.int .i64 mo) := X.out.cell 5
    have x6 : (w1.alloc (.cells #[.string ⟨#[]⟩, .bool false, .slice none 0 0, .int .u64 0, .int .i64 0, .int .i64 mo, .int .i64 wi] 28)).cell? ⟨w1.heap.size, 6, none⟩ = some (.int .i64 wi) := X.out.cell 6
    go_wp2_with fail
    generalize w1.alloc (.cells #[.string ⟨#[]⟩, .bool false, .slice none 0 0, .int .u64 0, .int .i64 0, .int .i64 mo, .int .i64 wi] 28) = w2 at B2 X Q0 x0 x1 x2 x3 x4 x5 x6 ⊢
    (with_reducible refine (PS.out _ Q0.out).mono ?_)
    rintro e w3 ⟨A1, c1, rfl, hcc, hq, b⟩
    clear x0 x1 x2 x3 x4 x5 x6
    have B3 := Lib.hid (below_on B2.out b)
    replace X := Lib.hid (X.out.below b X.out.lt)
    replace Q0 := Lib.hid (Q0.out.on b)
    have Q1 := Lib.hid (hq)
    have Q1c := Lib.hid (hcc)
    clear b hq hcc
    have x0 : w3.cell? ⟨w1.heap.size, 0, none⟩ = some (.string ⟨#[]⟩) := X.out.cell 0
    have x1 : w3.cell? ⟨w1.heap.size, 1, none⟩ = some (.bool false) := X.out.cell 1
    have x2 : w3.cell? ⟨w1.heap.size, 2, none⟩ = some (.slice none 0 0) := X.out.cell 2
    have x3 : w3.cell? ⟨w1.heap.size, 3, none⟩ = some (.int .u64 0) := X.out.cell 3
    have x4 : w3.cell? ⟨w1.heap.size, 4, none⟩ = some (.int .i64 0) := X.out.cell 4
    have x5 : w3.cell? ⟨w1.heap.size, 5, none⟩ = some (.int .i64 mo) := X.out.cell 5
    have x6 : w3.cell? ⟨w1.heap.size, 6, none⟩ = some (.int .i64 wi) := X.out.cell 6
    go_wp2_with fail
    (with_reducible refine (PT.out _ Q0.out).mono ?_)
    rintro e w4 ⟨A2, c2, rfl, hcc, hq, b⟩
    clear x0 x1 x2 x3 x4 x5 x6
    have B4 := Lib.hid (below_on B3.out b)
    replace X := Lib.hid (X.out.below b X.out.lt)
    replace Q0 := Lib.hid (Q0.out.on b)
    replace Q1 := Lib.hid (Q1.out.on b)
    have Q2 := Lib.hid (hq)
    have Q2c := Lib.hid (hcc)
    clear b hq hcc
    have x0 : w4.cell? ⟨w1.heap.size, 0, none⟩ = some (.string ⟨#[]⟩) := X.out.cell 0
    have x1 : w4.cell? ⟨w1.heap.size, 1, none⟩ = some (.bool false) := X.out.cell 1
    have x2 : w4.cell? ⟨w1.heap.size, 2, none⟩ = some (.slice none 0 0) := X.out.cell 2
    have x3 : w4.cell? ⟨w1.heap.size, 3, none⟩ = some (.int .u64 0) := X.out.cell 3
    have x4 : w4.cell? ⟨w1.heap.size, 4, none⟩ = some (.int .i64 0) := X.out.cell 4
    have x5 : w4.cell? ⟨w1.heap.size, 5, none⟩ = some (.int .i64 mo) := X.out.cell 5
    have x6 : w4.cell? ⟨w1.heap.size, 6, none⟩ = some (.int .i64 wi) := X.out.cell 6
    go_wp2_with fail
    (with_reducible refine (PU.out A1 c1 _ Q1.out).mono ?_)
    rintro e w5 ⟨A3, c3, rfl, hcc, hq, b⟩
    clear x0 x1 x2 x3 x4 x5 x6
    have B5 := Lib.hid (below_on B4.out b)
    replace X := Lib.hid (X.out.below b X.out.lt)
    replace Q0 := Lib.hid (Q0.out.on b)
    replace Q1 := Lib.hid (Q1.out.on b)
    replace Q2 := Lib.hid (Q2.out.on b)
    have Q3 := Lib.hid (hq)
    have Q3c := Lib.hid (hcc)
    clear b hq hcc
    have x0 : w5.cell? ⟨w1.heap.size, 0, none⟩ = some (.string ⟨#[]⟩) := X.out.cell 0
    have x1 : w5.cell? ⟨w1.heap.size, 1, none⟩ = some (.bool false) := X.out.cell 1
    have x2 : w5.cell? ⟨w1.heap.size, 2, none⟩ = some (.slice none 0 0) := X.out.cell 2
    have x3 : w5.cell? ⟨w1.heap.size, 3, none⟩ = some (.int .u64 0) := X.out.cell 3
    have x4 : w5.cell? ⟨w1.heap.size, 4, none⟩ = some (.int .i64 0) := X.out.cell 4
    have x5 : w5.cell? ⟨w1.heap.size, 5, none⟩ = some (.int .i64 mo) := X.out.cell 5
    have x6 : w5.cell? ⟨w1.heap.size, 6, none⟩ = some (.int .i64 wi) := X.out.cell 6
    go_wp2_with fail
    (with_reducible refine (PV.out A2 c2 _ Q2.out).mono ?_)
    rintro e w6 ⟨A4, c4, rfl, hcc, hq, b⟩
    clear x0 x1 x2 x3 x4 x5 x6
    have B6 := Lib.hid (below_on B5.out b)
    replace X := Lib.hid (X.out.below b X.out.lt)
    replace Q0 := Lib.hid (Q0.out.on b)
    replace Q1 := Lib.hid (Q1.out.on b)
    replace Q2 := Lib.hid (Q2.out.on b)
    replace Q3 := Lib.hid (Q3.out.on b)
    have Q4 := Lib.hid (hq)
    have Q4c := Lib.hid (hcc)
    clear b hq hcc
    go_wp2_with fail
    (with_reducible refine (PM.out _ _ _ _ _ Q3.out Q4.out).mono ?_)
    rintro e w7 ⟨rfl, b⟩
    have B7 := Lib.hid (below_on B6.out b)
    replace X := Lib.hid (X.out.below b X.out.lt)
    replace Q0 := Lib.hid (Q0.out.on b)
    replace Q1 := Lib.hid (Q1.out.on b)
    replace Q2 := Lib.hid (Q2.out.on b)
    replace Q3 := Lib.hid (Q3.out.on b)
    replace Q4 := Lib.hid (Q4.out.on b)
    clear b
    go_wp2_with fail
    go_ret
    exact ⟨rfl, B7.out⟩
end Go.Proofs.Ytnjmhijfaijopaa
