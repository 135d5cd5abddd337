/- The walk of BudgetLess. (Printed by tools/gen_budget_laws.py.) -/
import Derived.Test.YtnjmhijfaijopaaBudgetM
import Derived.Test.YtnjmhijfaijopaaBudgetLaw
namespace Go.Proofs.Ytnjmhijfaijopaa
open Go.ChangeShapes Go.WideShapes Go.ChangeAt Go.RowKit Gs
set_option linter.unusedVariables false
set_option linter.unusedSimpArgs false
set_option maxRecDepth 100000 in
set_option maxHeartbeats 16000000 in
theorem less_walk17 (A : Option Addr) (n c : Nat) (L : List Sp) (hn : L.length = n) (mo wi rule acc now other wth : Int) (w : World) (hs : QS w w.heap.size A L) (hc : n ≤ c) (hm : c ≤ maxLen) :
    Calls Try.prog 7 #[.slice A n c, .int .i64 mo, .int .i64 wi, .int .i64 rule, .int .i64 acc, .int .i64 now, .int .i64 other, .int .i64 wth] w fun e w' => e = .returned (.bool true) ∧ Below w.heap.size w w' := by
  have Q0 := Lib.hid (hs)
  have HCM := Lib.hid (And.intro hc hm)
  clear hs hc hm
  have HN := Lib.hid (hn)
  clear hn
  have B0 := Lib.hid (Below.refl w.heap.size w)
  by_cases hfew : n ≤ 1100
  rotate_left 1
  · have PF := Lib.hid (few_k A n c false (decide_eq_false hfew))
    go_enter Try.func7, Try.ntmps7
    go_wp2_with fail
    (with_reducible refine (live17 _).mono ?_)
    rintro e w1 ⟨rfl, b⟩
    have B1 := Lib.hid (below_on B0.out b)
    replace Q0 := Lib.hid (Q0.out.on b)
    clear b
    go_wp2_with fail
    (with_reducible refine (PF.out _).mono ?_)
    rintro e _ ⟨rfl, rfl⟩
    go_wp2_with fail
    go_ret
    exact ⟨rfl, B1.out⟩
  have PF := Lib.hid (few_k A n c true (decide_eq_true hfew))
  have hl : n ≤ 1048576 := by omega
  clear hfew
  obtain ⟨X, er, hsp⟩ : ∃ X er, spendS L mo wi rule acc now = (X, er) := ⟨_, _, rfl⟩
  obtain ⟨lf, hlf⟩ : ∃ lf, leftS L mo wi rule acc now = lf := ⟨_, rfl⟩
  obtain ⟨m, hm⟩ : ∃ m, X.length = m := ⟨_, rfl⟩
  have PL := Lib.hid (fun w hs => Left_k A n c L HN.out hl ⟨#[]⟩ false none 0 0 0 0 mo wi rule acc now lf hlf w hs)
  have PS := Lib.hid (fun w hs => Spend_k A n c L HN.out hl ⟨#[]⟩ false none 0 0 0 0 mo wi rule acc now X er m hsp hm w hs)
  by_cases he : er = 0
  rotate_left 1
  · obtain ⟨hX, h170⟩ := spend_no hsp he
    subst hX
    obtain rfl : m = 0 := hm.symm
    have ge : (er != 0) = true := by simpa using he
    by_cases h1 : er = 170
    · obtain rfl : lf = 0 := by rw [← hlf]; exact (h170 h1).1
      subst h1
      clear hsp hlf h170 he ge
      go_enter Try.func7, Try.ntmps7
      go_wp2_with fail
      (with_reducible refine (live17 _).mono ?_)
      rintro e w1 ⟨rfl, b⟩
      have B1 := Lib.hid (below_on B0.out b)
      replace Q0 := Lib.hid (Q0.out.on b)
      clear b
      go_wp2_with fail
      (with_reducible refine (PF.out _).mono ?_)
      rintro e _ ⟨rfl, rfl⟩
      have na := (Below.refl w1.heap.size w1).alloc (Nat.le_refl _) (.cells #[.string ⟨#[]⟩, .bool false, .slice none 0 0, .int .u64 0, .int .i64 0, .int .i64 mo, .int .i64 wi] 28)
      replace Q0 := Lib.hid (Q0.out.on na)
      have B2 := Lib.hid (below_on B1.out na)
      have X := Lib.hid (Blk.new w1 28 #[.string ⟨#[]⟩, .bool false, .slice none 0 0, .int .u64 0, .int .i64 0, .int .i64 mo, .int .i64 wi])
      clear na
      have x0 : (w1.alloc (.cells #[.string ⟨#[]⟩, .bool false, .slice none 0 0, .int .u64 0, .int .i64 0, .int .i64 mo, .int .i64 wi] 28)).cell? ⟨w1.heap.size, 0, none⟩ = some (.string ⟨#[]⟩) := X.out.cell 0
      have x1 : (w1.alloc (.cells #[.string ⟨#[]⟩, .bool false, .slice none 0 0, .int .u64 0, .int .i64 0, .int .i64 mo, .int .i64 wi] 28)).cell? ⟨w1.heap.size, 1, none⟩ = some (.bool false) := X.out.cell 1
      have x2 : (w1.alloc (.cells #[.string ⟨#[]⟩, .bool false, .slice none 0 0, .int .u64 0, .int .i64 0, .int .i64 mo, .int .i64 wi] 28)).cell? ⟨w1.heap.size, 2, none⟩ = some (.slice none 0 0) := X.out.cell 2
      have x3 : (w1.alloc (.cells #[.string ⟨#[]⟩, .bool false, .slice none 0 0, .int .u64 0, .int .i64 0, .int .i64 mo, .int .i64 wi] 28)).cell? ⟨w1.heap.size, 3, none⟩ = some (.int .u64 0) := X.out.cell 3
      have x4 : (w1.alloc (.cells #[.string ⟨#[]⟩, .bool false, .slice none 0 0, .int .u64 0, .int .i64 0, .int .i64 mo, .int .i64 wi] 28)).cell? ⟨w1.heap.size, 4, none⟩ = some (.int .i64 0) := X.out.cell 4
      have x5 : (w1.alloc (.cells #[.string ⟨#[]⟩, .bool false, .slice none 0 0, .int .u64 0, .int .i64 0, .int .i64 mo, .int .i64 wi] 28)).cell? ⟨w1.heap.size, 5, none⟩ = some (.int .i64 mo) := X.out.cell 5
      have x6 : (w1.alloc (.cells #[.string ⟨#[]⟩, .bool false, .slice none 0 0, .int .u64 0, .int .i64 0, .int .i64 mo, .int .i64 wi] 28)).cell? ⟨w1.heap.size, 6, none⟩ = some (.int .i64 wi) := X.out.cell 6
      go_wp2_with fail
      generalize w1.alloc (.cells #[.string ⟨#[]⟩, .bool false, .slice none 0 0, .int .u64 0, .int .i64 0, .int .i64 mo, .int .i64 wi] 28) = w2 at B2 X Q0 x0 x1 x2 x3 x4 x5 x6 ⊢
      (with_reducible refine (PL.out _ Q0.out).mono ?_)
      rintro e w3 ⟨rfl, b⟩
      clear x0 x1 x2 x3 x4 x5 x6
      have B3 := Lib.hid (below_on B2.out b)
      replace X := Lib.hid (X.out.below b X.out.lt)
      replace Q0 := Lib.hid (Q0.out.on b)
      clear b
      have x0 : w3.cell? ⟨w1.heap.size, 0, none⟩ = some (.string ⟨#[]⟩) := X.out.cell 0
      have x1 : w3.cell? ⟨w1.heap.size, 1, none⟩ = some (.bool false) := X.out.cell 1
      have x2 : w3.cell? ⟨w1.heap.size, 2, none⟩ = some (.slice none 0 0) := X.out.cell 2
      have x3 : w3.cell? ⟨w1.heap.size, 3, none⟩ = some (.int .u64 0) := X.out.cell 3
      have x4 : w3.cell? ⟨w1.heap.size, 4, none⟩ = some (.int .i64 0) := X.out.cell 4
      have x5 : w3.cell? ⟨w1.heap.size, 5, none⟩ = some (.int .i64 mo) := X.out.cell 5
      have x6 : w3.cell? ⟨w1.heap.size, 6, none⟩ = some (.int .i64 wi) := X.out.cell 6
      go_wp2_with fail
      (with_reducible refine (PS.out _ Q0.out).mono ?_)
      rintro e w4 ⟨A1, c1, rfl, hcc, hq, b⟩
      clear x0 x1 x2 x3 x4 x5 x6
      have B4 := Lib.hid (below_on B3.out b)
      replace X := Lib.hid (X.out.below b X.out.lt)
      replace Q0 := Lib.hid (Q0.out.on b)
      have Q1 := Lib.hid (hq)
      have Q1c := Lib.hid (hcc)
      clear b hq hcc
      go_wp2_with fail
      go_ret
      exact ⟨rfl, B4.out⟩
    · have g1 : (er != 170) = true := by simpa using h1
      clear hsp hlf h170 he h1
      go_enter Try.func7, Try.ntmps7
      go_wp2_with fail
      (with_reducible refine (live17 _).mono ?_)
      rintro e w1 ⟨rfl, b⟩
      have B1 := Lib.hid (below_on B0.out b)
      replace Q0 := Lib.hid (Q0.out.on b)
      clear b
      go_wp2_with fail
      (with_reducible refine (PF.out _).mono ?_)
      rintro e _ ⟨rfl, rfl⟩
      have na := (Below.refl w1.heap.size w1).alloc (Nat.le_refl _) (.cells #[.string ⟨#[]⟩, .bool false, .slice none 0 0, .int .u64 0, .int .i64 0, .int .i64 mo, .int .i64 wi] 28)
      replace Q0 := Lib.hid (Q0.out.on na)
      have B2 := Lib.hid (below_on B1.out na)
      have X := Lib.hid (Blk.new w1 28 #[.string ⟨#[]⟩, .bool false, .slice none 0 0, .int .u64 0, .int .i64 0, .int .i64 mo, .int .i64 wi])
      clear na
      have x0 : (w1.alloc (.cells #[.string ⟨#[]⟩, .bool false, .slice none 0 0, .int .u64 0, .int .i64 0, .int .i64 mo, .int .i64 wi] 28)).cell? ⟨w1.heap.size, 0, none⟩ = some (.string ⟨#[]⟩) := X.out.cell 0
      have x1 : (w1.alloc (.cells #[.string ⟨#[]⟩, .bool false, .slice none 0 0, .int .u64 0, .int .i64 0, .int .i64 mo, .int .i64 wi] 28)).cell? ⟨w1.heap.size, 1, none⟩ = some (.bool false) := X.out.cell 1
      have x2 : (w1.alloc (.cells #[.string ⟨#[]⟩, .bool false, .slice none 0 0, .int .u64 0, .int .i64 0, .int .i64 mo, .int .i64 wi] 28)).cell? ⟨w1.heap.size, 2, none⟩ = some (.slice none 0 0) := X.out.cell 2
      have x3 : (w1.alloc (.cells #[.string ⟨#[]⟩, .bool false, .slice none 0 0, .int .u64 0, .int .i64 0, .int .i64 mo, .int .i64 wi] 28)).cell? ⟨w1.heap.size, 3, none⟩ = some (.int .u64 0) := X.out.cell 3
      have x4 : (w1.alloc (.cells #[.string ⟨#[]⟩, .bool false, .slice none 0 0, .int .u64 0, .int .i64 0, .int .i64 mo, .int .i64 wi] 28)).cell? ⟨w1.heap.size, 4, none⟩ = some (.int .i64 0) := X.out.cell 4
      have x5 : (w1.alloc (.cells #[.string ⟨#[]⟩, .bool false, .slice none 0 0, .int .u64 0, .int .i64 0, .int .i64 mo, .int .i64 wi] 28)).cell? ⟨w1.heap.size, 5, none⟩ = some (.int .i64 mo) := X.out.cell 5
      have x6 : (w1.alloc (.cells #[.string ⟨#[]⟩, .bool false, .slice none 0 0, .int .u64 0, .int .i64 0, .int .i64 mo, .int .i64 wi] 28)).cell? ⟨w1.heap.size, 6, none⟩ = some (.int .i64 wi) := X.out.cell 6
      go_wp2_with fail
      generalize w1.alloc (.cells #[.string ⟨#[]⟩, .bool false, .slice none 0 0, .int .u64 0, .int .i64 0, .int .i64 mo, .int .i64 wi] 28) = w2 at B2 X Q0 x0 x1 x2 x3 x4 x5 x6 ⊢
      (with_reducible refine (PL.out _ Q0.out).mono ?_)
      rintro e w3 ⟨rfl, b⟩
      clear x0 x1 x2 x3 x4 x5 x6
      have B3 := Lib.hid (below_on B2.out b)
      replace X := Lib.hid (X.out.below b X.out.lt)
      replace Q0 := Lib.hid (Q0.out.on b)
      clear b
      have x0 : w3.cell? ⟨w1.heap.size, 0, none⟩ = some (.string ⟨#[]⟩) := X.out.cell 0
      have x1 : w3.cell? ⟨w1.heap.size, 1, none⟩ = some (.bool false) := X.out.cell 1
      have x2 : w3.cell? ⟨w1.heap.size, 2, none⟩ = some (.slice none 0 0) := X.out.cell 2
      have x3 : w3.cell? ⟨w1.heap.size, 3, none⟩ = some (.int .u64 0) := X.out.cell 3
      have x4 : w3.cell? ⟨w1.heap.size, 4, none⟩ = some (.int .i64 0) := X.out.cell 4
      have x5 : w3.cell? ⟨w1.heap.size, 5, none⟩ = some (.int .i64 mo) := X.out.cell 5
      have x6 : w3.cell? ⟨w1.heap.size, 6, none⟩ = some (.int .i64 wi) := X.out.cell 6
      go_wp2_with fail
      (with_reducible refine (PS.out _ Q0.out).mono ?_)
      rintro e w4 ⟨A1, c1, rfl, hcc, hq, b⟩
      clear x0 x1 x2 x3 x4 x5 x6
      have B4 := Lib.hid (below_on B3.out b)
      replace X := Lib.hid (X.out.below b X.out.lt)
      replace Q0 := Lib.hid (Q0.out.on b)
      have Q1 := Lib.hid (hq)
      have Q1c := Lib.hid (hcc)
      clear b hq hcc
      go_wp2_with fail
      go_ret
      exact ⟨rfl, B4.out⟩
  subst he
  have hl2 : m ≤ 1048576 := by
    obtain ⟨_, hx, _⟩ := spend_ok hsp
    have := (chkS_ok hx).2
    omega
  have hchk := (spend_ok hsp).2.1
  have hoth := fun h => left_other (m2 := mo) (w2 := wi) (r2 := wth) (a2 := other) (n2 := now) hsp h
  obtain ⟨hpos, hown⟩ := left_own hsp
  have hmax := left_max L mo wi rule acc now
  rw [hlf] at hpos hown hmax
  obtain ⟨l1, hl1⟩ : ∃ l1, leftS X mo wi rule acc now = l1 := ⟨_, rfl⟩
  rw [hl1] at hown
  obtain ⟨l2, hl2x⟩ : ∃ l2, leftS X mo wi wth other now = l2 := ⟨_, rfl⟩
  have P1 := Lib.hid (fun A c w hs => Left_k A m c X hm hl2 ⟨#[]⟩ false none 0 0 0 0 mo wi rule acc now l1 hl1 w hs)
  have P2 := Lib.hid (fun A c w hs => Left_k A m c X hm hl2 ⟨#[]⟩ false none 0 0 0 0 mo wi wth other now l2 hl2x w hs)
  have P4 := Lib.hid (fun A c w hs => Check_k A m c X hm hl2 0 hchk w hs)
  have P3 := Lib.hid (fun (h : ¬ (other = acc ∧ wth = rule)) w hs => Left_k A n c L HN.out hl ⟨#[]⟩ false none 0 0 0 0 mo wi wth other now l2 (by rw [← hoth h]; exact hl2x) w hs)
  have gpos : decide (0 < lf) = true := decide_eq_true hpos
  have hw1 : IntKind.i64.wrap (lf - 1) = lf - 1 := IntWalk.i64_in _ (by omega)
  rcases hown with ⟨hmo, hXL, rfl⟩ | ⟨hmo, rfl⟩
  · obtain rfl : n = m := by rw [← HN.out, ← hXL]; exact hm
    have gm0 : (mo == 0) = true := by simp [hmo]
    have gm1 : decide (0 < mo) = false := decide_eq_false (by omega)
    have PM := Lib.hid (fun A1 c1 w (hs : QS w w.heap.size A1 X) hs' => Same_k A1 A n c1 c L (by rw [← hXL]; exact hm) (by omega) w (hXL ▸ hs) hs')
    clear hXL hmo hm
    clear hsp hlf hchk hoth hpos hmax hl1 hl2x
    go_enter Try.func7, Try.ntmps7
    go_wp2_with fail
    (with_reducible refine (live17 _).mono ?_)
    rintro e w1 ⟨rfl, b⟩
    have B1 := Lib.hid (below_on B0.out b)
    replace Q0 := Lib.hid (Q0.out.on b)
    clear b
    go_wp2_with fail
    (with_reducible refine (PF.out _).mono ?_)
    rintro e _ ⟨rfl, rfl⟩
    have na := (Below.refl w1.heap.size w1).alloc (Nat.le_refl _) (.cells #[.string ⟨#[]⟩, .bool false, .slice none 0 0, .int .u64 0, .int .i64 0, .int .i64 mo, .int .i64 wi] 28)
    replace Q0 := Lib.hid (Q0.out.on na)
    have B2 := Lib.hid (below_on B1.out na)
    have X := Lib.hid (Blk.new w1 28 #[.string ⟨#[]⟩, .bool false, .slice none 0 0, .int .u64 0, .int .i64 0, .int .i64 mo, .int .i64 wi])
    clear na
    have x0 : (w1.alloc (.cells #[.string ⟨#[]⟩, .bool false, .slice none 0 0, .int .u64 0, .int .i64 0, .int .i64 mo, .int .i64 wi] 28)).cell? ⟨w1.heap.size, 0, none⟩ = some (.string ⟨#[]⟩) := X.out.cell 0
    have x1 : (w1.alloc (.cells #[.string ⟨#[]⟩, .bool false, .slice none 0 0, .int .u64 0, .int .i64 0, .int .i64 mo, .int .i64 wi] 28)).cell? ⟨w1.heap.size, 1, none⟩ = some (.bool false) := X.out.cell 1
    have x2 : (w1.alloc (.cells #[.string ⟨#[]⟩, .bool false, .slice none 0 0, .int .u64 0, .int .i64 0, .int .i64 mo, .int .i64 wi] 28)).cell? ⟨w1.heap.size, 2, none⟩ = some (.slice none 0 0) := X.out.cell 2
    have x3 : (w1.alloc (.cells #[.string ⟨#[]⟩, .bool false, .slice none 0 0, .int .u64 0, .int .i64 0, .int .i64 mo, .int .i64 wi] 28)).cell? ⟨w1.heap.size, 3, none⟩ = some (.int .u64 0) := X.out.cell 3
    have x4 : (w1.alloc (.cells #[.string ⟨#[]⟩, .bool false, .slice none 0 0, .int .u64 0, .int .i64 0, .int .i64 mo, .int .i64 wi] 28)).cell? ⟨w1.heap.size, 4, none⟩ = some (.int .i64 0) := X.out.cell 4
    have x5 : (w1.alloc (.cells #[.string ⟨#[]⟩, .bool false, .slice none 0 0, .int .u64 0, .int .i64 0, .int .i64 mo, .int .i64 wi] 28)).cell? ⟨w1.heap.size, 5, none⟩ = some (.int .i64 mo) := X.out.cell 5
    have x6 : (w1.alloc (.cells #[.string ⟨#[]⟩, .bool false, .slice none 0 0, .int .u64 0, .int .i64 0, .int .i64 mo, .int .i64 wi] 28)).cell? ⟨w1.heap.size, 6, none⟩ = some (.int .i64 wi) := X.out.cell 6
    go_wp2_with fail
    generalize w1.alloc (.cells #[.string ⟨#[]⟩, .bool false, .slice none 0 0, .int .u64 0, .int .i64 0, .int .i64 mo, .int .i64 wi] 28) = w2 at B2 X Q0 x0 x1 x2 x3 x4 x5 x6 ⊢
    (with_reducible refine (PL.out _ Q0.out).mono ?_)
    rintro e w3 ⟨rfl, b⟩
    clear x0 x1 x2 x3 x4 x5 x6
    have B3 := Lib.hid (below_on B2.out b)
    replace X := Lib.hid (X.out.below b X.out.lt)
    replace Q0 := Lib.hid (Q0.out.on b)
    clear b
    have x0 : w3.cell? ⟨w1.heap.size, 0, none⟩ = some (.string ⟨#[]⟩) := X.out.cell 0
    have x1 : w3.cell? ⟨w1.heap.size, 1, none⟩ = some (.bool false) := X.out.cell 1
    have x2 : w3.cell? ⟨w1.heap.size, 2, none⟩ = some (.slice none 0 0) := X.out.cell 2
    have x3 : w3.cell? ⟨w1.heap.size, 3, none⟩ = some (.int .u64 0) := X.out.cell 3
    have x4 : w3.cell? ⟨w1.heap.size, 4, none⟩ = some (.int .i64 0) := X.out.cell 4
    have x5 : w3.cell? ⟨w1.heap.size, 5, none⟩ = some (.int .i64 mo) := X.out.cell 5
    have x6 : w3.cell? ⟨w1.heap.size, 6, none⟩ = some (.int .i64 wi) := X.out.cell 6
    go_wp2_with fail
    (with_reducible refine (PS.out _ Q0.out).mono ?_)
    rintro e w4 ⟨A1, c1, rfl, hcc, hq, b⟩
    clear x0 x1 x2 x3 x4 x5 x6
    have B4 := Lib.hid (below_on B3.out b)
    replace X := Lib.hid (X.out.below b X.out.lt)
    replace Q0 := Lib.hid (Q0.out.on b)
    have Q1 := Lib.hid (hq)
    have Q1c := Lib.hid (hcc)
    clear b hq hcc
    have x0 : w4.cell? ⟨w1.heap.size, 0, none⟩ = some (.string ⟨#[]⟩) := X.out.cell 0
    have x1 : w4.cell? ⟨w1.heap.size, 1, none⟩ = some (.bool false) := X.out.cell 1
    have x2 : w4.cell? ⟨w1.heap.size, 2, none⟩ = some (.slice none 0 0) := X.out.cell 2
    have x3 : w4.cell? ⟨w1.heap.size, 3, none⟩ = some (.int .u64 0) := X.out.cell 3
    have x4 : w4.cell? ⟨w1.heap.size, 4, none⟩ = some (.int .i64 0) := X.out.cell 4
    have x5 : w4.cell? ⟨w1.heap.size, 5, none⟩ = some (.int .i64 mo) := X.out.cell 5
    have x6 : w4.cell? ⟨w1.heap.size, 6, none⟩ = some (.int .i64 wi) := X.out.cell 6
    go_wp2_with fail
    (with_reducible refine (P1.out _ _ _ Q1.out).mono ?_)
    rintro e w5 ⟨rfl, b⟩
    clear x0 x1 x2 x3 x4 x5 x6
    have B5 := Lib.hid (below_on B4.out b)
    replace X := Lib.hid (X.out.below b X.out.lt)
    replace Q0 := Lib.hid (Q0.out.on b)
    replace Q1 := Lib.hid (Q1.out.on b)
    clear b
    have x0 : w5.cell? ⟨w1.heap.size, 0, none⟩ = some (.string ⟨#[]⟩) := X.out.cell 0
    have x1 : w5.cell? ⟨w1.heap.size, 1, none⟩ = some (.bool false) := X.out.cell 1
    have x2 : w5.cell? ⟨w1.heap.size, 2, none⟩ = some (.slice none 0 0) := X.out.cell 2
    have x3 : w5.cell? ⟨w1.heap.size, 3, none⟩ = some (.int .u64 0) := X.out.cell 3
    have x4 : w5.cell? ⟨w1.heap.size, 4, none⟩ = some (.int .i64 0) := X.out.cell 4
    have x5 : w5.cell? ⟨w1.heap.size, 5, none⟩ = some (.int .i64 mo) := X.out.cell 5
    have x6 : w5.cell? ⟨w1.heap.size, 6, none⟩ = some (.int .i64 wi) := X.out.cell 6
    by_cases hfar : other = acc ∧ wth = rule
    · clear P3
      obtain ⟨rfl, rfl⟩ := hfar
      go_wp2_with fail
      go_quiet (fail)
      have b := below_drewN (Below.refl w5.heap.size w5) nq
      generalize w5.drewN nq = w6 at b ⊢
      clear x0 x1 x2 x3 x4 x5 x6
      have B6 := Lib.hid (below_on B5.out b)
      replace X := Lib.hid (X.out.below b X.out.lt)
      replace Q0 := Lib.hid (Q0.out.on b)
      replace Q1 := Lib.hid (Q1.out.on b)
      clear b
      go_wp2_with fail
      (with_reducible refine (PM.out _ _ _ Q1.out Q0.out).mono ?_)
      rintro e w7 ⟨rfl, b⟩
      have B7 := Lib.hid (below_on B6.out b)
      replace X := Lib.hid (X.out.below b X.out.lt)
      replace Q0 := Lib.hid (Q0.out.on b)
      replace Q1 := Lib.hid (Q1.out.on b)
      clear b
      go_wp2_with fail
      (with_reducible refine (P4.out _ _ _ Q1.out).mono ?_)
      rintro e w8 ⟨rfl, b⟩
      have B8 := Lib.hid (below_on B7.out b)
      replace X := Lib.hid (X.out.below b X.out.lt)
      replace Q0 := Lib.hid (Q0.out.on b)
      replace Q1 := Lib.hid (Q1.out.on b)
      clear b
      go_wp2_with fail
      go_ret
      exact ⟨rfl, B8.out⟩
    · have P5 := Lib.hid (P3.out hfar)
      clear P3
      have gfar : (other != acc || wth != rule) = true := by
        by_cases h1 : other = acc
        · by_cases h2 : wth = rule
          · exact absurd ⟨h1, h2⟩ hfar
          · simp [h2]
        · simp [h1]
      by_cases h1 : other = acc
      · have h2 : ¬ wth = rule := fun h2 => hfar ⟨h1, h2⟩
        subst h1
        have g2 : (wth != rule) = true := by simpa using h2
        clear hfar gfar
        go_wp2_with fail
        have hW := (Below.refl w5.heap.size w5).drew
        have lt0 := X.out.lt
        have lt1 := X.out.lt
        have lt2 := X.out.lt
        have lt3 := X.out.lt
        have lt4 := X.out.lt
        have lt5 := X.out.lt
        have lt6 := X.out.lt
        first | (go_loud (go_region_held_law (fun w' => w'.cell? ⟨w1.heap.size, 0, none⟩ = some (.string ⟨#[]⟩) ∧ w'.cell? ⟨w1.heap.size, 1, none⟩ = some (.bool false) ∧ w'.cell? ⟨w1.heap.size, 2, none⟩ = some (.slice none 0 0) ∧ w'.cell? ⟨w1.heap.size, 3, none⟩ = some (.int .u64 0) ∧ w'.cell? ⟨w1.heap.size, 4, none⟩ = some (.int .i64 0) ∧ w'.cell? ⟨w1.heap.size, 5, none⟩ = some (.int .i64 mo) ∧ w'.cell? ⟨w1.heap.size, 6, none⟩ = some (.int .i64 wi)) (first | exact ⟨by assumption, by assumption, by assumption, by assumption, by assumption, by assumption, by assumption⟩ | go_keep)
          (first
            | (go_at_call 15; with_reducible refine (P5.out _ (Q0.out.on hW)).mono ?_; rintro _ wx ⟨rfl, b⟩; have hW := below_on hW b; have x0x := (hW.cell (p := ⟨w1.heap.size, 0, none⟩) lt0).trans x0; have x1x := (hW.cell (p := ⟨w1.heap.size, 1, none⟩) lt1).trans x1; have x2x := (hW.cell (p := ⟨w1.heap.size, 2, none⟩) lt2).trans x2; have x3x := (hW.cell (p := ⟨w1.heap.size, 3, none⟩) lt3).trans x3; have x4x := (hW.cell (p := ⟨w1.heap.size, 4, none⟩) lt4).trans x4; have x5x := (hW.cell (p := ⟨w1.heap.size, 5, none⟩) lt5).trans x5; have x6x := (hW.cell (p := ⟨w1.heap.size, 6, none⟩) lt6).trans x6)
            | (go_at_call 15; with_reducible refine (P2.out _ _ _ (Q1.out.on hW)).mono ?_; rintro _ wx ⟨rfl, b⟩; have hW := below_on hW b; have x0x := (hW.cell (p := ⟨w1.heap.size, 0, none⟩) lt0).trans x0; have x1x := (hW.cell (p := ⟨w1.heap.size, 1, none⟩) lt1).trans x1; have x2x := (hW.cell (p := ⟨w1.heap.size, 2, none⟩) lt2).trans x2; have x3x := (hW.cell (p := ⟨w1.heap.size, 3, none⟩) lt3).trans x3; have x4x := (hW.cell (p := ⟨w1.heap.size, 4, none⟩) lt4).trans x4; have x5x := (hW.cell (p := ⟨w1.heap.size, 5, none⟩) lt5).trans x5; have x6x := (hW.cell (p := ⟨w1.heap.size, 6, none⟩) lt6).trans x6)))) | fail "held"
        have b := hW
        have B6 := Lib.hid (below_on B5.out b)
        replace X := Lib.hid (X.out.below b X.out.lt)
        replace Q0 := Lib.hid (Q0.out.on b)
        replace Q1 := Lib.hid (Q1.out.on b)
        clear b
        go_wp2_with fail
        (with_reducible refine (PM.out _ _ _ Q1.out Q0.out).mono ?_)
        rintro e w6 ⟨rfl, b⟩
        have B7 := Lib.hid (below_on B6.out b)
        replace X := Lib.hid (X.out.below b X.out.lt)
        replace Q0 := Lib.hid (Q0.out.on b)
        replace Q1 := Lib.hid (Q1.out.on b)
        clear b
        go_wp2_with fail
        (with_reducible refine (P4.out _ _ _ Q1.out).mono ?_)
        rintro e w7 ⟨rfl, b⟩
        have B8 := Lib.hid (below_on B7.out b)
        replace X := Lib.hid (X.out.below b X.out.lt)
        replace Q0 := Lib.hid (Q0.out.on b)
        replace Q1 := Lib.hid (Q1.out.on b)
        clear b
        go_wp2_with fail
        go_ret
        exact ⟨rfl, B8.out⟩
      · have g1 : (other != acc) = true := by simpa using h1
        clear hfar gfar
        go_wp2_with fail
        have hW := (Below.refl w5.heap.size w5).drew
        have lt0 := X.out.lt
        have lt1 := X.out.lt
        have lt2 := X.out.lt
        have lt3 := X.out.lt
        have lt4 := X.out.lt
        have lt5 := X.out.lt
        have lt6 := X.out.lt
        first | (go_loud (go_region_held_law (fun w' => w'.cell? ⟨w1.heap.size, 0, none⟩ = some (.string ⟨#[]⟩) ∧ w'.cell? ⟨w1.heap.size, 1, none⟩ = some (.bool false) ∧ w'.cell? ⟨w1.heap.size, 2, none⟩ = some (.slice none 0 0) ∧ w'.cell? ⟨w1.heap.size, 3, none⟩ = some (.int .u64 0) ∧ w'.cell? ⟨w1.heap.size, 4, none⟩ = some (.int .i64 0) ∧ w'.cell? ⟨w1.heap.size, 5, none⟩ = some (.int .i64 mo) ∧ w'.cell? ⟨w1.heap.size, 6, none⟩ = some (.int .i64 wi)) (first | exact ⟨by assumption, by assumption, by assumption, by assumption, by assumption, by assumption, by assumption⟩ | go_keep)
          (first
            | (go_at_call 15; with_reducible refine (P5.out _ (Q0.out.on hW)).mono ?_; rintro _ wx ⟨rfl, b⟩; have hW := below_on hW b; have x0x := (hW.cell (p := ⟨w1.heap.size, 0, none⟩) lt0).trans x0; have x1x := (hW.cell (p := ⟨w1.heap.size, 1, none⟩) lt1).trans x1; have x2x := (hW.cell (p := ⟨w1.heap.size, 2, none⟩) lt2).trans x2; have x3x := (hW.cell (p := ⟨w1.heap.size, 3, none⟩) lt3).trans x3; have x4x := (hW.cell (p := ⟨w1.heap.size, 4, none⟩) lt4).trans x4; have x5x := (hW.cell (p := ⟨w1.heap.size, 5, none⟩) lt5).trans x5; have x6x := (hW.cell (p := ⟨w1.heap.size, 6, none⟩) lt6).trans x6)
            | (go_at_call 15; with_reducible refine (P2.out _ _ _ (Q1.out.on hW)).mono ?_; rintro _ wx ⟨rfl, b⟩; have hW := below_on hW b; have x0x := (hW.cell (p := ⟨w1.heap.size, 0, none⟩) lt0).trans x0; have x1x := (hW.cell (p := ⟨w1.heap.size, 1, none⟩) lt1).trans x1; have x2x := (hW.cell (p := ⟨w1.heap.size, 2, none⟩) lt2).trans x2; have x3x := (hW.cell (p := ⟨w1.heap.size, 3, none⟩) lt3).trans x3; have x4x := (hW.cell (p := ⟨w1.heap.size, 4, none⟩) lt4).trans x4; have x5x := (hW.cell (p := ⟨w1.heap.size, 5, none⟩) lt5).trans x5; have x6x := (hW.cell (p := ⟨w1.heap.size, 6, none⟩) lt6).trans x6)))) | fail "held"
        have b := hW
        have B6 := Lib.hid (below_on B5.out b)
        replace X := Lib.hid (X.out.below b X.out.lt)
        replace Q0 := Lib.hid (Q0.out.on b)
        replace Q1 := Lib.hid (Q1.out.on b)
        clear b
        go_wp2_with fail
        (with_reducible refine (PM.out _ _ _ Q1.out Q0.out).mono ?_)
        rintro e w6 ⟨rfl, b⟩
        have B7 := Lib.hid (below_on B6.out b)
        replace X := Lib.hid (X.out.below b X.out.lt)
        replace Q0 := Lib.hid (Q0.out.on b)
        replace Q1 := Lib.hid (Q1.out.on b)
        clear b
        go_wp2_with fail
        (with_reducible refine (P4.out _ _ _ Q1.out).mono ?_)
        rintro e w7 ⟨rfl, b⟩
        have B8 := Lib.hid (below_on B7.out b)
        replace X := Lib.hid (X.out.below b X.out.lt)
        replace Q0 := Lib.hid (Q0.out.on b)
        replace Q1 := Lib.hid (Q1.out.on b)
        clear b
        go_wp2_with fail
        go_ret
        exact ⟨rfl, B8.out⟩
  · have gm0 : (mo == 0) = false := by simpa using (by omega : ¬ mo = 0)
    have gm1 : decide (0 < mo) = true := decide_eq_true hmo
    clear hm hmo
    clear hsp hlf hchk hoth hpos hmax hl1 hl2x
    go_enter Try.func7, Try.ntmps7
    go_wp2_with fail
    (with_reducible refine (live17 _).mono ?_)
    rintro e w1 ⟨rfl, b⟩
    have B1 := Lib.hid (below_on B0.out b)
    replace Q0 := Lib.hid (Q0.out.on b)
    clear b
    go_wp2_with fail
    (with_reducible refine (PF.out _).mono ?_)
    rintro e _ ⟨rfl, rfl⟩
    have na := (Below.refl w1.heap.size w1).alloc (Nat.le_refl _) (.cells #[.string ⟨#[]⟩, .bool false, .slice none 0 0, .int .u64 0, .int .i64 0, .int .i64 mo, .int .i64 wi] 28)
    replace Q0 := Lib.hid (Q0.out.on na)
    have B2 := Lib.hid (below_on B1.out na)
    have X := Lib.hid (Blk.new w1 28 #[.string ⟨#[]⟩, .bool false, .slice none 0 0, .int .u64 0, .int .i64 0, .int .i64 mo, .int .i64 wi])
    clear na
    have x0 : (w1.alloc (.cells #[.string ⟨#[]⟩, .bool false, .slice none 0 0, .int .u64 0, .int .i64 0, .int .i64 mo, .int .i64 wi] 28)).cell? ⟨w1.heap.size, 0, none⟩ = some (.string ⟨#[]⟩) := X.out.cell 0
    have x1 : (w1.alloc (.cells #[.string ⟨#[]⟩, .bool false, .slice none 0 0, .int .u64 0, .int .i64 0, .int .i64 mo, .int .i64 wi] 28)).cell? ⟨w1.heap.size, 1, none⟩ = some (.bool false) := X.out.cell 1
    have x2 : (w1.alloc (.cells #[.string ⟨#[]⟩, .bool false, .slice none 0 0, .int .u64 0, .int .i64 0, .int .i64 mo, .int .i64 wi] 28)).cell? ⟨w1.heap.size, 2, none⟩ = some (.slice none 0 0) := X.out.cell 2
    have x3 : (w1.alloc (.cells #[.string ⟨#[]⟩, .bool false, .slice none 0 0, .int .u64 0, .int .i64 0, .int .i64 mo, .int .i64 wi] 28)).cell? ⟨w1.heap.size, 3, none⟩ = some (.int .u64 0) := X.out.cell 3
    have x4 : (w1.alloc (.cells #[.string ⟨#[]⟩, .bool false, .slice none 0 0, .int .u64 0, .int .i64 0, .int .i64 mo, .int .i64 wi] 28)).cell? ⟨w1.heap.size, 4, none⟩ = some (.int .i64 0) := X.out.cell 4
    have x5 : (w1.alloc (.cells #[.string ⟨#[]⟩, .bool false, .slice none 0 0, .int .u64 0, .int .i64 0, .int .i64 mo, .int .i64 wi] 28)).cell? ⟨w1.heap.size, 5, none⟩ = some (.int .i64 mo) := X.out.cell 5
    have x6 : (w1.alloc (.cells #[.string ⟨#[]⟩, .bool false, .slice none 0 0, .int .u64 0, .int .i64 0, .int .i64 mo, .int .i64 wi] 28)).cell? ⟨w1.heap.size, 6, none⟩ = some (.int .i64 wi) := X.out.cell 6
    go_wp2_with fail
    generalize w1.alloc (.cells #[.string ⟨#[]⟩, .bool false, .slice none 0 0, .int .u64 0, .int .i64 0, .int .i64 mo, .int .i64 wi] 28) = w2 at B2 X Q0 x0 x1 x2 x3 x4 x5 x6 ⊢
    (with_reducible refine (PL.out _ Q0.out).mono ?_)
    rintro e w3 ⟨rfl, b⟩
    clear x0 x1 x2 x3 x4 x5 x6
    have B3 := Lib.hid (below_on B2.out b)
    replace X := Lib.hid (X.out.below b X.out.lt)
    replace Q0 := Lib.hid (Q0.out.on b)
    clear b
    have x0 : w3.cell? ⟨w1.heap.size, 0, none⟩ = some (.string ⟨#[]⟩) := X.out.cell 0
    have x1 : w3.cell? ⟨w1.heap.size, 1, none⟩ = some (.bool false) := X.out.cell 1
    have x2 : w3.cell? ⟨w1.heap.size, 2, none⟩ = some (.slice none 0 0) := X.out.cell 2
    have x3 : w3.cell? ⟨w1.heap.size, 3, none⟩ = some (.int .u64 0) := X.out.cell 3
    have x4 : w3.cell? ⟨w1.heap.size, 4, none⟩ = some (.int .i64 0) := X.out.cell 4
    have x5 : w3.cell? ⟨w1.heap.size, 5, none⟩ = some (.int .i64 mo) := X.out.cell 5
    have x6 : w3.cell? ⟨w1.heap.size, 6, none⟩ = some (.int .i64 wi) := X.out.cell 6
    go_wp2_with fail
    (with_reducible refine (PS.out _ Q0.out).mono ?_)
    rintro e w4 ⟨A1, c1, rfl, hcc, hq, b⟩
    clear x0 x1 x2 x3 x4 x5 x6
    have B4 := Lib.hid (below_on B3.out b)
    replace X := Lib.hid (X.out.below b X.out.lt)
    replace Q0 := Lib.hid (Q0.out.on b)
    have Q1 := Lib.hid (hq)
    have Q1c := Lib.hid (hcc)
    clear b hq hcc
    have x0 : w4.cell? ⟨w1.heap.size, 0, none⟩ = some (.string ⟨#[]⟩) := X.out.cell 0
    have x1 : w4.cell? ⟨w1.heap.size, 1, none⟩ = some (.bool false) := X.out.cell 1
    have x2 : w4.cell? ⟨w1.heap.size, 2, none⟩ = some (.slice none 0 0) := X.out.cell 2
    have x3 : w4.cell? ⟨w1.heap.size, 3, none⟩ = some (.int .u64 0) := X.out.cell 3
    have x4 : w4.cell? ⟨w1.heap.size, 4, none⟩ = some (.int .i64 0) := X.out.cell 4
    have x5 : w4.cell? ⟨w1.heap.size, 5, none⟩ = some (.int .i64 mo) := X.out.cell 5
    have x6 : w4.cell? ⟨w1.heap.size, 6, none⟩ = some (.int .i64 wi) := X.out.cell 6
    go_wp2_with fail
    (with_reducible refine (P1.out _ _ _ Q1.out).mono ?_)
    rintro e w5 ⟨rfl, b⟩
    clear x0 x1 x2 x3 x4 x5 x6
    have B5 := Lib.hid (below_on B4.out b)
    replace X := Lib.hid (X.out.below b X.out.lt)
    replace Q0 := Lib.hid (Q0.out.on b)
    replace Q1 := Lib.hid (Q1.out.on b)
    clear b
    have x0 : w5.cell? ⟨w1.heap.size, 0, none⟩ = some (.string ⟨#[]⟩) := X.out.cell 0
    have x1 : w5.cell? ⟨w1.heap.size, 1, none⟩ = some (.bool false) := X.out.cell 1
    have x2 : w5.cell? ⟨w1.heap.size, 2, none⟩ = some (.slice none 0 0) := X.out.cell 2
    have x3 : w5.cell? ⟨w1.heap.size, 3, none⟩ = some (.int .u64 0) := X.out.cell 3
    have x4 : w5.cell? ⟨w1.heap.size, 4, none⟩ = some (.int .i64 0) := X.out.cell 4
    have x5 : w5.cell? ⟨w1.heap.size, 5, none⟩ = some (.int .i64 mo) := X.out.cell 5
    have x6 : w5.cell? ⟨w1.heap.size, 6, none⟩ = some (.int .i64 wi) := X.out.cell 6
    by_cases hfar : other = acc ∧ wth = rule
    · clear P3
      obtain ⟨rfl, rfl⟩ := hfar
      go_wp2_with fail
      go_quiet (fail)
      have b := below_drewN (Below.refl w5.heap.size w5) nq
      generalize w5.drewN nq = w6 at b ⊢
      clear x0 x1 x2 x3 x4 x5 x6
      have B6 := Lib.hid (below_on B5.out b)
      replace X := Lib.hid (X.out.below b X.out.lt)
      replace Q0 := Lib.hid (Q0.out.on b)
      replace Q1 := Lib.hid (Q1.out.on b)
      clear b
      go_wp2_with fail
      (with_reducible refine (P4.out _ _ _ Q1.out).mono ?_)
      rintro e w7 ⟨rfl, b⟩
      have B7 := Lib.hid (below_on B6.out b)
      replace X := Lib.hid (X.out.below b X.out.lt)
      replace Q0 := Lib.hid (Q0.out.on b)
      replace Q1 := Lib.hid (Q1.out.on b)
      clear b
      go_wp2_with fail
      go_ret
      exact ⟨rfl, B7.out⟩
    · have P5 := Lib.hid (P3.out hfar)
      clear P3
      have gfar : (other != acc || wth != rule) = true := by
        by_cases h1 : other = acc
        · by_cases h2 : wth = rule
          · exact absurd ⟨h1, h2⟩ hfar
          · simp [h2]
        · simp [h1]
      by_cases h1 : other = acc
      · have h2 : ¬ wth = rule := fun h2 => hfar ⟨h1, h2⟩
        subst h1
        have g2 : (wth != rule) = true := by simpa using h2
        clear hfar gfar
        go_wp2_with fail
        have hW := (Below.refl w5.heap.size w5).drew
        have lt0 := X.out.lt
        have lt1 := X.out.lt
        have lt2 := X.out.lt
        have lt3 := X.out.lt
        have lt4 := X.out.lt
        have lt5 := X.out.lt
        have lt6 := X.out.lt
        first | (go_loud (go_region_held_law (fun w' => w'.cell? ⟨w1.heap.size, 0, none⟩ = some (.string ⟨#[]⟩) ∧ w'.cell? ⟨w1.heap.size, 1, none⟩ = some (.bool false) ∧ w'.cell? ⟨w1.heap.size, 2, none⟩ = some (.slice none 0 0) ∧ w'.cell? ⟨w1.heap.size, 3, none⟩ = some (.int .u64 0) ∧ w'.cell? ⟨w1.heap.size, 4, none⟩ = some (.int .i64 0) ∧ w'.cell? ⟨w1.heap.size, 5, none⟩ = some (.int .i64 mo) ∧ w'.cell? ⟨w1.heap.size, 6, none⟩ = some (.int .i64 wi)) (first | exact ⟨by assumption, by assumption, by assumption, by assumption, by assumption, by assumption, by assumption⟩ | go_keep)
          (first
            | (go_at_call 15; with_reducible refine (P5.out _ (Q0.out.on hW)).mono ?_; rintro _ wx ⟨rfl, b⟩; have hW := below_on hW b; have x0x := (hW.cell (p := ⟨w1.heap.size, 0, none⟩) lt0).trans x0; have x1x := (hW.cell (p := ⟨w1.heap.size, 1, none⟩) lt1).trans x1; have x2x := (hW.cell (p := ⟨w1.heap.size, 2, none⟩) lt2).trans x2; have x3x := (hW.cell (p := ⟨w1.heap.size, 3, none⟩) lt3).trans x3; have x4x := (hW.cell (p := ⟨w1.heap.size, 4, none⟩) lt4).trans x4; have x5x := (hW.cell (p := ⟨w1.heap.size, 5, none⟩) lt5).trans x5; have x6x := (hW.cell (p := ⟨w1.heap.size, 6, none⟩) lt6).trans x6)
            | (go_at_call 15; with_reducible refine (P2.out _ _ _ (Q1.out.on hW)).mono ?_; rintro _ wx ⟨rfl, b⟩; have hW := below_on hW b; have x0x := (hW.cell (p := ⟨w1.heap.size, 0, none⟩) lt0).trans x0; have x1x := (hW.cell (p := ⟨w1.heap.size, 1, none⟩) lt1).trans x1; have x2x := (hW.cell (p := ⟨w1.heap.size, 2, none⟩) lt2).trans x2; have x3x := (hW.cell (p := ⟨w1.heap.size, 3, none⟩) lt3).trans x3; have x4x := (hW.cell (p := ⟨w1.heap.size, 4, none⟩) lt4).trans x4; have x5x := (hW.cell (p := ⟨w1.heap.size, 5, none⟩) lt5).trans x5; have x6x := (hW.cell (p := ⟨w1.heap.size, 6, none⟩) lt6).trans x6)))) | fail "held"
        have b := hW
        have B6 := Lib.hid (below_on B5.out b)
        replace X := Lib.hid (X.out.below b X.out.lt)
        replace Q0 := Lib.hid (Q0.out.on b)
        replace Q1 := Lib.hid (Q1.out.on b)
        clear b
        go_wp2_with fail
        (with_reducible refine (P4.out _ _ _ Q1.out).mono ?_)
        rintro e w6 ⟨rfl, b⟩
        have B7 := Lib.hid (below_on B6.out b)
        replace X := Lib.hid (X.out.below b X.out.lt)
        replace Q0 := Lib.hid (Q0.out.on b)
        replace Q1 := Lib.hid (Q1.out.on b)
        clear b
        go_wp2_with fail
        go_ret
        exact ⟨rfl, B7.out⟩
      · have g1 : (other != acc) = true := by simpa using h1
        clear hfar gfar
        go_wp2_with fail
        have hW := (Below.refl w5.heap.size w5).drew
        have lt0 := X.out.lt
        have lt1 := X.out.lt
        have lt2 := X.out.lt
        have lt3 := X.out.lt
        have lt4 := X.out.lt
        have lt5 := X.out.lt
        have lt6 := X.out.lt
        first | (go_loud (go_region_held_law (fun w' => w'.cell? ⟨w1.heap.size, 0, none⟩ = some (.string ⟨#[]⟩) ∧ w'.cell? ⟨w1.heap.size, 1, none⟩ = some (.bool false) ∧ w'.cell? ⟨w1.heap.size, 2, none⟩ = some (.slice none 0 0) ∧ w'.cell? ⟨w1.heap.size, 3, none⟩ = some (.int .u64 0) ∧ w'.cell? ⟨w1.heap.size, 4, none⟩ = some (.int .i64 0) ∧ w'.cell? ⟨w1.heap.size, 5, none⟩ = some (.int .i64 mo) ∧ w'.cell? ⟨w1.heap.size, 6, none⟩ = some (.int .i64 wi)) (first | exact ⟨by assumption, by assumption, by assumption, by assumption, by assumption, by assumption, by assumption⟩ | go_keep)
          (first
            | (go_at_call 15; with_reducible refine (P5.out _ (Q0.out.on hW)).mono ?_; rintro _ wx ⟨rfl, b⟩; have hW := below_on hW b; have x0x := (hW.cell (p := ⟨w1.heap.size, 0, none⟩) lt0).trans x0; have x1x := (hW.cell (p := ⟨w1.heap.size, 1, none⟩) lt1).trans x1; have x2x := (hW.cell (p := ⟨w1.heap.size, 2, none⟩) lt2).trans x2; have x3x := (hW.cell (p := ⟨w1.heap.size, 3, none⟩) lt3).trans x3; have x4x := (hW.cell (p := ⟨w1.heap.size, 4, none⟩) lt4).trans x4; have x5x := (hW.cell (p := ⟨w1.heap.size, 5, none⟩) lt5).trans x5; have x6x := (hW.cell (p := ⟨w1.heap.size, 6, none⟩) lt6).trans x6)
            | (go_at_call 15; with_reducible refine (P2.out _ _ _ (Q1.out.on hW)).mono ?_; rintro _ wx ⟨rfl, b⟩; have hW := below_on hW b; have x0x := (hW.cell (p := ⟨w1.heap.size, 0, none⟩) lt0).trans x0; have x1x := (hW.cell (p := ⟨w1.heap.size, 1, none⟩) lt1).trans x1; have x2x := (hW.cell (p := ⟨w1.heap.size, 2, none⟩) lt2).trans x2; have x3x := (hW.cell (p := ⟨w1.heap.size, 3, none⟩) lt3).trans x3; have x4x := (hW.cell (p := ⟨w1.heap.size, 4, none⟩) lt4).trans x4; have x5x := (hW.cell (p := ⟨w1.heap.size, 5, none⟩) lt5).trans x5; have x6x := (hW.cell (p := ⟨w1.heap.size, 6, none⟩) lt6).trans x6)))) | fail "held"
        have b := hW
        have B6 := Lib.hid (below_on B5.out b)
        replace X := Lib.hid (X.out.below b X.out.lt)
        replace Q0 := Lib.hid (Q0.out.on b)
        replace Q1 := Lib.hid (Q1.out.on b)
        clear b
        go_wp2_with fail
        (with_reducible refine (P4.out _ _ _ Q1.out).mono ?_)
        rintro e w6 ⟨rfl, b⟩
        have B7 := Lib.hid (below_on B6.out b)
        replace X := Lib.hid (X.out.below b X.out.lt)
        replace Q0 := Lib.hid (Q0.out.on b)
        replace Q1 := Lib.hid (Q1.out.on b)
        clear b
        go_wp2_with fail
        go_ret
        exact ⟨rfl, B7.out⟩
end Go.Proofs.Ytnjmhijfaijopaa
