/- The walk of BudgetAgain. (Printed by tools/gen_budget_laws.py.) -/
import Derived.Test.YtnjmhijfaijopaaBudgetM
import Derived.Test.YtnjmhijfaijopaaBudgetLaw
namespace Go.Proofs.Ytnjmhijfaijopaa
open Go.ChangeShapes Go.WideShapes Go.ChangeAt Go.RowKit Gs
set_option linter.unusedVariables false
set_option linter.unusedSimpArgs false
set_option maxRecDepth 100000 in
set_option maxHeartbeats 16000000 in
theorem again_walk17 (A : Option Addr) (n c : Nat) (L : List Sp) (hn : L.length = n) (mo wi rule acc now : Int) (w : World) (hs : QS w w.heap.size A L) (hc : n ≤ c) (hm : c ≤ maxLen) :
    Calls Try.prog 8 #[.slice A n c, .int .i64 mo, .int .i64 wi, .int .i64 rule, .int .i64 acc, .int .i64 now] w fun e w' => e = .returned (.bool true) ∧ Below w.heap.size w w' := by
  have Q0 := Lib.hid (hs)
  have HCM := Lib.hid (And.intro hc hm)
  clear hs hc hm
  have HN := Lib.hid (hn)
  clear hn
  have B0 := Lib.hid (Below.refl w.heap.size w)
  by_cases hfew : n ≤ 1100
  rotate_left 1
  · have PF := Lib.hid (few_k A n c false (decide_eq_false hfew))
    go_enter Try.func8, Try.ntmps8
    go_wp2_with fail
    (with_reducible refine (live17 _).mono ?_)
    rintro e w1 ⟨rfl, b⟩
    have B1 := Lib.hid (below_on B0.out b)
    replace Q0 := Lib.hid (Q0.out.on b)
    clear b
    go_wp2_with fail
    (with_reducible refine (PF.out _).mono ?_)
    rintro e _ ⟨rfl, rfl⟩
    go_wp2_with fail
    go_ret
    exact ⟨rfl, B1.out⟩
  have PF := Lib.hid (few_k A n c true (decide_eq_true hfew))
  have hl : n ≤ 1048576 := by omega
  clear hfew
  obtain ⟨ch, hch⟩ : ∃ ch, chkS L = ch := ⟨_, rfl⟩
  have PC := Lib.hid (fun w hs => Check_k A n c L HN.out hl ch hch w hs)
  by_cases hc0 : ch = 0
  rotate_left 1
  · have gc : (ch != 0) = true := by simpa using hc0
    clear hch hc0
    go_enter Try.func8, Try.ntmps8
    go_wp2_with fail
    (with_reducible refine (live17 _).mono ?_)
    rintro e w1 ⟨rfl, b⟩
    have B1 := Lib.hid (below_on B0.out b)
    replace Q0 := Lib.hid (Q0.out.on b)
    clear b
    go_wp2_with fail
    (with_reducible refine (PF.out _).mono ?_)
    rintro e _ ⟨rfl, rfl⟩
    go_wp2_with fail
    (with_reducible refine (PC.out _ Q0.out).mono ?_)
    rintro e w2 ⟨rfl, b⟩
    have B2 := Lib.hid (below_on B1.out b)
    replace Q0 := Lib.hid (Q0.out.on b)
    clear b
    go_wp2_with fail
    go_ret
    exact ⟨rfl, B2.out⟩
  subst hc0
  by_cases hmo1 : mo < 1
  · have qhmo1 : decide (mo < 1) = true := decide_eq_true hmo1
    clear hch
    go_enter Try.func8, Try.ntmps8
    go_wp2_with fail
    (with_reducible refine (live17 _).mono ?_)
    rintro e w1 ⟨rfl, b⟩
    have B1 := Lib.hid (below_on B0.out b)
    replace Q0 := Lib.hid (Q0.out.on b)
    clear b
    go_wp2_with fail
    (with_reducible refine (PF.out _).mono ?_)
    rintro e _ ⟨rfl, rfl⟩
    go_wp2_with fail
    (with_reducible refine (PC.out _ Q0.out).mono ?_)
    rintro e w2 ⟨rfl, b⟩
    have B2 := Lib.hid (below_on B1.out b)
    replace Q0 := Lib.hid (Q0.out.on b)
    clear b
    go_wp2_with fail
    go_ret
    exact ⟨rfl, B2.out⟩
  have qhmo1 : decide (mo < 1) = false := decide_eq_false hmo1
  by_cases hmo2 : 1099511627776 < mo
  · have qhmo2 : decide (1099511627776 < mo) = true := decide_eq_true hmo2
    clear hch
    go_enter Try.func8, Try.ntmps8
    go_wp2_with fail
    (with_reducible refine (live17 _).mono ?_)
    rintro e w1 ⟨rfl, b⟩
    have B1 := Lib.hid (below_on B0.out b)
    replace Q0 := Lib.hid (Q0.out.on b)
    clear b
    go_wp2_with fail
    (with_reducible refine (PF.out _).mono ?_)
    rintro e _ ⟨rfl, rfl⟩
    go_wp2_with fail
    (with_reducible refine (PC.out _ Q0.out).mono ?_)
    rintro e w2 ⟨rfl, b⟩
    have B2 := Lib.hid (below_on B1.out b)
    replace Q0 := Lib.hid (Q0.out.on b)
    clear b
    go_wp2_with fail
    go_ret
    exact ⟨rfl, B2.out⟩
  have qhmo2 : decide (1099511627776 < mo) = false := decide_eq_false hmo2
  by_cases hwi1 : wi < 1
  · have qhwi1 : decide (wi < 1) = true := decide_eq_true hwi1
    clear hch
    go_enter Try.func8, Try.ntmps8
    go_wp2_with fail
    (with_reducible refine (live17 _).mono ?_)
    rintro e w1 ⟨rfl, b⟩
    have B1 := Lib.hid (below_on B0.out b)
    replace Q0 := Lib.hid (Q0.out.on b)
    clear b
    go_wp2_with fail
    (with_reducible refine (PF.out _).mono ?_)
    rintro e _ ⟨rfl, rfl⟩
    go_wp2_with fail
    (with_reducible refine (PC.out _ Q0.out).mono ?_)
    rintro e w2 ⟨rfl, b⟩
    have B2 := Lib.hid (below_on B1.out b)
    replace Q0 := Lib.hid (Q0.out.on b)
    clear b
    go_wp2_with fail
    go_ret
    exact ⟨rfl, B2.out⟩
  have qhwi1 : decide (wi < 1) = false := decide_eq_false hwi1
  by_cases hwi2 : 1099511627776 < wi
  · have qhwi2 : decide (1099511627776 < wi) = true := decide_eq_true hwi2
    clear hch
    go_enter Try.func8, Try.ntmps8
    go_wp2_with fail
    (with_reducible refine (live17 _).mono ?_)
    rintro e w1 ⟨rfl, b⟩
    have B1 := Lib.hid (below_on B0.out b)
    replace Q0 := Lib.hid (Q0.out.on b)
    clear b
    go_wp2_with fail
    (with_reducible refine (PF.out _).mono ?_)
    rintro e _ ⟨rfl, rfl⟩
    go_wp2_with fail
    (with_reducible refine (PC.out _ Q0.out).mono ?_)
    rintro e w2 ⟨rfl, b⟩
    have B2 := Lib.hid (below_on B1.out b)
    replace Q0 := Lib.hid (Q0.out.on b)
    clear b
    go_wp2_with fail
    go_ret
    exact ⟨rfl, B2.out⟩
  have qhwi2 : decide (1099511627776 < wi) = false := decide_eq_false hwi2
  by_cases hr1 : rule < 0
  · have qhr1 : decide (rule < 0) = true := decide_eq_true hr1
    clear hch
    go_enter Try.func8, Try.ntmps8
    go_wp2_with fail
    (with_reducible refine (live17 _).mono ?_)
    rintro e w1 ⟨rfl, b⟩
    have B1 := Lib.hid (below_on B0.out b)
    replace Q0 := Lib.hid (Q0.out.on b)
    clear b
    go_wp2_with fail
    (with_reducible refine (PF.out _).mono ?_)
    rintro e _ ⟨rfl, rfl⟩
    go_wp2_with fail
    (with_reducible refine (PC.out _ Q0.out).mono ?_)
    rintro e w2 ⟨rfl, b⟩
    have B2 := Lib.hid (below_on B1.out b)
    replace Q0 := Lib.hid (Q0.out.on b)
    clear b
    go_wp2_with fail
    go_ret
    exact ⟨rfl, B2.out⟩
  have qhr1 : decide (rule < 0) = false := decide_eq_false hr1
  by_cases hr2 : 32 ≤ rule
  · have qhr2 : decide (32 ≤ rule) = true := decide_eq_true hr2
    clear hch
    go_enter Try.func8, Try.ntmps8
    go_wp2_with fail
    (with_reducible refine (live17 _).mono ?_)
    rintro e w1 ⟨rfl, b⟩
    have B1 := Lib.hid (below_on B0.out b)
    replace Q0 := Lib.hid (Q0.out.on b)
    clear b
    go_wp2_with fail
    (with_reducible refine (PF.out _).mono ?_)
    rintro e _ ⟨rfl, rfl⟩
    go_wp2_with fail
    (with_reducible refine (PC.out _ Q0.out).mono ?_)
    rintro e w2 ⟨rfl, b⟩
    have B2 := Lib.hid (below_on B1.out b)
    replace Q0 := Lib.hid (Q0.out.on b)
    clear b
    go_wp2_with fail
    go_ret
    exact ⟨rfl, B2.out⟩
  have qhr2 : decide (32 ≤ rule) = false := decide_eq_false hr2
  by_cases ha1 : acc < 0
  · have qha1 : decide (acc < 0) = true := decide_eq_true ha1
    clear hch
    go_enter Try.func8, Try.ntmps8
    go_wp2_with fail
    (with_reducible refine (live17 _).mono ?_)
    rintro e w1 ⟨rfl, b⟩
    have B1 := Lib.hid (below_on B0.out b)
    replace Q0 := Lib.hid (Q0.out.on b)
    clear b
    go_wp2_with fail
    (with_reducible refine (PF.out _).mono ?_)
    rintro e _ ⟨rfl, rfl⟩
    go_wp2_with fail
    (with_reducible refine (PC.out _ Q0.out).mono ?_)
    rintro e w2 ⟨rfl, b⟩
    have B2 := Lib.hid (below_on B1.out b)
    replace Q0 := Lib.hid (Q0.out.on b)
    clear b
    go_wp2_with fail
    go_ret
    exact ⟨rfl, B2.out⟩
  have qha1 : decide (acc < 0) = false := decide_eq_false ha1
  by_cases ha2 : 1099511627776 < acc
  · have qha2 : decide (1099511627776 < acc) = true := decide_eq_true ha2
    clear hch
    go_enter Try.func8, Try.ntmps8
    go_wp2_with fail
    (with_reducible refine (live17 _).mono ?_)
    rintro e w1 ⟨rfl, b⟩
    have B1 := Lib.hid (below_on B0.out b)
    replace Q0 := Lib.hid (Q0.out.on b)
    clear b
    go_wp2_with fail
    (with_reducible refine (PF.out _).mono ?_)
    rintro e _ ⟨rfl, rfl⟩
    go_wp2_with fail
    (with_reducible refine (PC.out _ Q0.out).mono ?_)
    rintro e w2 ⟨rfl, b⟩
    have B2 := Lib.hid (below_on B1.out b)
    replace Q0 := Lib.hid (Q0.out.on b)
    clear b
    go_wp2_with fail
    go_ret
    exact ⟨rfl, B2.out⟩
  have qha2 : decide (1099511627776 < acc) = false := decide_eq_false ha2
  by_cases hn1 : now < 0
  · have qhn1 : decide (now < 0) = true := decide_eq_true hn1
    clear hch
    go_enter Try.func8, Try.ntmps8
    go_wp2_with fail
    (with_reducible refine (live17 _).mono ?_)
    rintro e w1 ⟨rfl, b⟩
    have B1 := Lib.hid (below_on B0.out b)
    replace Q0 := Lib.hid (Q0.out.on b)
    clear b
    go_wp2_with fail
    (with_reducible refine (PF.out _).mono ?_)
    rintro e _ ⟨rfl, rfl⟩
    go_wp2_with fail
    (with_reducible refine (PC.out _ Q0.out).mono ?_)
    rintro e w2 ⟨rfl, b⟩
    have B2 := Lib.hid (below_on B1.out b)
    replace Q0 := Lib.hid (Q0.out.on b)
    clear b
    go_wp2_with fail
    go_ret
    exact ⟨rfl, B2.out⟩
  have qhn1 : decide (now < 0) = false := decide_eq_false hn1
  have hwn : IntKind.i64.wrap (1099511627776 - wi) = 1099511627776 - wi := IntWalk.i64_in _ (by omega)
  by_cases hn2 : 1099511627776 - wi < now
  · have qhn2 : decide (1099511627776 - wi < now) = true := decide_eq_true hn2
    clear hch
    go_enter Try.func8, Try.ntmps8
    go_wp2_with fail
    (with_reducible refine (live17 _).mono ?_)
    rintro e w1 ⟨rfl, b⟩
    have B1 := Lib.hid (below_on B0.out b)
    replace Q0 := Lib.hid (Q0.out.on b)
    clear b
    go_wp2_with fail
    (with_reducible refine (PF.out _).mono ?_)
    rintro e _ ⟨rfl, rfl⟩
    go_wp2_with fail
    (with_reducible refine (PC.out _ Q0.out).mono ?_)
    rintro e w2 ⟨rfl, b⟩
    have B2 := Lib.hid (below_on B1.out b)
    replace Q0 := Lib.hid (Q0.out.on b)
    clear b
    go_wp2_with fail
    go_ret
    exact ⟨rfl, B2.out⟩
  have qhn2 : decide (1099511627776 - wi < now) = false := decide_eq_false hn2
  obtain ⟨X, er, hsp⟩ : ∃ X er, spendS L mo wi rule acc now = (X, er) := ⟨_, _, rfl⟩
  obtain ⟨m, hm⟩ : ∃ m, X.length = m := ⟨_, rfl⟩
  have PS := Lib.hid (fun w hs => Spend_k A n c L HN.out hl ⟨#[]⟩ false none 0 0 0 0 mo wi rule acc now X er m hsp hm w hs)
  by_cases he : er = 0
  rotate_left 1
  · obtain ⟨hX, _⟩ := spend_no hsp he
    subst hX
    obtain rfl : m = 0 := hm.symm
    have ge : (er != 0) = true := by simpa using he
    clear he hsp hch
    go_enter Try.func8, Try.ntmps8
    go_wp2_with fail
    (with_reducible refine (live17 _).mono ?_)
    rintro e w1 ⟨rfl, b⟩
    have B1 := Lib.hid (below_on B0.out b)
    replace Q0 := Lib.hid (Q0.out.on b)
    clear b
    go_wp2_with fail
    (with_reducible refine (PF.out _).mono ?_)
    rintro e _ ⟨rfl, rfl⟩
    go_wp2_with fail
    (with_reducible refine (PC.out _ Q0.out).mono ?_)
    rintro e w2 ⟨rfl, b⟩
    have B2 := Lib.hid (below_on B1.out b)
    replace Q0 := Lib.hid (Q0.out.on b)
    clear b
    have na := (Below.refl w2.heap.size w2).alloc (Nat.le_refl _) (.cells #[.string ⟨#[]⟩, .bool false, .slice none 0 0, .int .u64 0, .int .i64 0, .int .i64 mo, .int .i64 wi] 28)
    replace Q0 := Lib.hid (Q0.out.on na)
    have B3 := Lib.hid (below_on B2.out na)
    have RB := Lib.hid (Blk.new w2 28 #[.string ⟨#[]⟩, .bool false, .slice none 0 0, .int .u64 0, .int .i64 0, .int .i64 mo, .int .i64 wi])
    clear na
    have x0 : (w2.alloc (.cells #[.string ⟨#[]⟩, .bool false, .slice none 0 0, .int .u64 0, .int .i64 0, .int .i64 mo, .int .i64 wi] 28)).cell? ⟨w2.heap.size, 0, none⟩ = some (.string ⟨#[]⟩) := RB.out.cell 0
    have x1 : (w2.alloc (.cells #[.string ⟨#[]⟩, .bool false, .slice none 0 0, .int .u64 0, .int .i64 0, .int .i64 mo, .int .i64 wi] 28)).cell? ⟨w2.heap.size, 1, none⟩ = some (.bool false) := RB.out.cell 1
    have x2 : (w2.alloc (.cells #[.string ⟨#[]⟩, .bool false, .slice none 0 0, .int .u64 0, .int .i64 0, .int .i64 mo, .int .i64 wi] 28)).cell? ⟨w2.heap.size, 2, none⟩ = some (.slice none 0 0) := RB.out.cell 2
    have x3 : (w2.alloc (.cells #[.string ⟨#[]⟩, .bool false, .slice none 0 0, .int .u64 0, .int .i64 0, .int .i64 mo, .int .i64 wi] 28)).cell? ⟨w2.heap.size, 3, none⟩ = some (.int .u64 0) := RB.out.cell 3
    have x4 : (w2.alloc (.cells #[.string ⟨#[]⟩, .bool false, .slice none 0 0, .int .u64 0, .int .i64 0, .int .i64 mo, .int .i64 wi] 28)).cell? ⟨w2.heap.size, 4, none⟩ = some (.int .i64 0) := RB.out.cell 4
    have x5 : (w2.alloc (.cells #[.string ⟨#[]⟩, .bool false, .slice none 0 0, .int .u64 0, .int .i64 0, .int .i64 mo, .int .i64 wi] 28)).cell? ⟨w2.heap.size, 5, none⟩ = some (.int .i64 mo) := RB.out.cell 5
    have x6 : (w2.alloc (.cells #[.string ⟨#[]⟩, .bool false, .slice none 0 0, .int .u64 0, .int .i64 0, .int .i64 mo, .int .i64 wi] 28)).cell? ⟨w2.heap.size, 6, none⟩ = some (.int .i64 wi) := RB.out.cell 6
    go_wp2_with fail
    generalize w2.alloc (.cells #[.string ⟨#[]⟩, .bool false, .slice none 0 0, .int .u64 0, .int .i64 0, .int .i64 mo, .int .i64 wi] 28) = w3 at B3 RB Q0 x0 x1 x2 x3 x4 x5 x6 ⊢
    (with_reducible refine (PS.out _ Q0.out).mono ?_)
    rintro e w4 ⟨A1, c1, rfl, hcc, hq, b⟩
    clear x0 x1 x2 x3 x4 x5 x6
    have B4 := Lib.hid (below_on B3.out b)
    replace RB := Lib.hid (RB.out.below b RB.out.lt)
    replace Q0 := Lib.hid (Q0.out.on b)
    have Q1 := Lib.hid (hq)
    have Q1c := Lib.hid (hcc)
    clear b hq hcc
    go_wp2_with fail
    go_ret
    exact ⟨rfl, B4.out⟩
  subst he
  have hl2 : m ≤ 1048576 := by have := (chkS_ok (spend_ok hsp).2.1).2; omega
  obtain ⟨hokX, s, hfs, hmany, hlate, hleft⟩ := again_plain (by omega) (by omega) hsp
  have HOKX := Lib.hid hokX
  have HFS := Lib.hid hfs
  have HMANY := Lib.hid hmany
  have HLATE := Lib.hid hlate
  have HM := Lib.hid hm
  have hwn2 : IntKind.i64.wrap (now + wi) = now + wi := IntWalk.i64_in _ (by omega)
  have PL := Lib.hid (fun (h : s.2.2.1 ≤ now) A c w hs => Left_k A m c X hm hl2 ⟨#[]⟩ false none 0 0 0 0 mo wi rule acc (now + wi) mo (hleft h) w hs)
  clear hokX hfs hmany hlate hleft hsp hch hm
  go_enter Try.func8, Try.ntmps8
  go_wp2_with fail
  (with_reducible refine (live17 _).mono ?_)
  rintro e w1 ⟨rfl, b⟩
  have B1 := Lib.hid (below_on B0.out b)
  replace Q0 := Lib.hid (Q0.out.on b)
  clear b
  go_wp2_with fail
  (with_reducible refine (PF.out _).mono ?_)
  rintro e _ ⟨rfl, rfl⟩
  go_wp2_with fail
  (with_reducible refine (PC.out _ Q0.out).mono ?_)
  rintro e w2 ⟨rfl, b⟩
  have B2 := Lib.hid (below_on B1.out b)
  replace Q0 := Lib.hid (Q0.out.on b)
  clear b
  have na := (Below.refl w2.heap.size w2).alloc (Nat.le_refl _) (.cells #[.string ⟨#[]⟩, .bool false, .slice none 0 0, .int .u64 0, .int .i64 0, .int .i64 mo, .int .i64 wi] 28)
  replace Q0 := Lib.hid (Q0.out.on na)
  have B3 := Lib.hid (below_on B2.out na)
  have RB := Lib.hid (Blk.new w2 28 #[.string ⟨#[]⟩, .bool false, .slice none 0 0, .int .u64 0, .int .i64 0, .int .i64 mo, .int .i64 wi])
  clear na
  have x0 : (w2.alloc (.cells #[.string ⟨#[]⟩, .bool false, .slice none 0 0, .int .u64 0, .int .i64 0, .int .i64 mo, .int .i64 wi] 28)).cell? ⟨w2.heap.size, 0, none⟩ = some (.string ⟨#[]⟩) := RB.out.cell 0
  have x1 : (w2.alloc (.cells #[.string ⟨#[]⟩, .bool false, .slice none 0 0, .int .u64 0, .int .i64 0, .int .i64 mo, .int .i64 wi] 28)).cell? ⟨w2.heap.size, 1, none⟩ = some (.bool false) := RB.out.cell 1
  have x2 : (w2.alloc (.cells #[.string ⟨#[]⟩, .bool false, .slice none 0 0, .int .u64 0, .int .i64 0, .int .i64 mo, .int .i64 wi] 28)).cell? ⟨w2.heap.size, 2, none⟩ = some (.slice none 0 0) := RB.out.cell 2
  have x3 : (w2.alloc (.cells #[.string ⟨#[]⟩, .bool false, .slice none 0 0, .int .u64 0, .int .i64 0, .int .i64 mo, .int .i64 wi] 28)).cell? ⟨w2.heap.size, 3, none⟩ = some (.int .u64 0) := RB.out.cell 3
  have x4 : (w2.alloc (.cells #[.string ⟨#[]⟩, .bool false, .slice none 0 0, .int .u64 0, .int .i64 0, .int .i64 mo, .int .i64 wi] 28)).cell? ⟨w2.heap.size, 4, none⟩ = some (.int .i64 0) := RB.out.cell 4
  have x5 : (w2.alloc (.cells #[.string ⟨#[]⟩, .bool false, .slice none 0 0, .int .u64 0, .int .i64 0, .int .i64 mo, .int .i64 wi] 28)).cell? ⟨w2.heap.size, 5, none⟩ = some (.int .i64 mo) := RB.out.cell 5
  have x6 : (w2.alloc (.cells #[.string ⟨#[]⟩, .bool false, .slice none 0 0, .int .u64 0, .int .i64 0, .int .i64 mo, .int .i64 wi] 28)).cell? ⟨w2.heap.size, 6, none⟩ = some (.int .i64 wi) := RB.out.cell 6
  go_wp2_with fail
  generalize w2.alloc (.cells #[.string ⟨#[]⟩, .bool false, .slice none 0 0, .int .u64 0, .int .i64 0, .int .i64 mo, .int .i64 wi] 28) = w3 at B3 RB Q0 x0 x1 x2 x3 x4 x5 x6 ⊢
  (with_reducible refine (PS.out _ Q0.out).mono ?_)
  rintro e w4 ⟨A1, c1, rfl, hcc, hq, b⟩
  clear x0 x1 x2 x3 x4 x5 x6
  have B4 := Lib.hid (below_on B3.out b)
  replace RB := Lib.hid (RB.out.below b RB.out.lt)
  replace Q0 := Lib.hid (Q0.out.on b)
  have Q1 := Lib.hid (hq)
  have Q1c := Lib.hid (hcc)
  clear b hq hcc
  go_wp2_with fail
  have KB := Lib.hid (Below.refl w4.heap.size w4)
  go_loop [16] (fun i => ∃ (k : Nat), k ≤ m ∧ i = .int .i64 k ∧ Hid (∀ j (g : j < X.length), j < k → isO acc rule X[j] = true → ¬ now < X[j].2.2.1)) (fun i => m - (intOf i).toNat)
  case atStart => exact ⟨0, Nat.zero_le _, rfl, Lib.hid fun j g h => absurd h (Nat.not_lt_zero _)⟩
  case round =>
    obtain ⟨k, hk, rfl, hprev⟩ := hrel
    by_cases hlt : k < m
    · have hltX : k < X.length := by have := HM.out; omega
      obtain ⟨ad, rfl, hB, c0, c1, c2, c3⟩ := Q1.out k hltX
      have hk0 : (0 : Int) ≤ (k : Int) := by omega
      have HONE := Lib.hid (fun h => isO_one HOKX.out HFS.out k hltX h)
      have HISO := Lib.hid (@isO_iff acc rule X[k])
      have HNX := Lib.hid (fun (h : isO acc rule X[k] = true → ¬ now < X[k].2.2.1) => (show ∀ j (g : j < X.length), j < k + 1 → isO acc rule X[j] = true → ¬ now < X[j].2.2.1 from fun j g hj => by
        rcases Nat.lt_succ_iff_lt_or_eq.1 hj with h1 | h1
        · exact hprev.out j g h1
        · subst h1; exact h))
      have HME := Lib.hid (fun (h : X[k] = s) => (show X[k].2.2.2 = s.2.2.2 by rw [h]))
      generalize hx0 : X[k].1 = a0, hx1 : X[k].2.1 = a1, hx2 : X[k].2.2.1 = a2, hx3 : X[k].2.2.2 = a3 at c0 c1 c2 c3 HISO HNX HME
      have HX2 := Lib.hid hx2
      clear hx0 hx1 hx2 hx3
      by_cases h0 : a0 = acc
      rotate_left 1
      · have g0 : (a0 == acc) = false := by simpa using h0
        have HD := Lib.hid (show isO acc rule X[k] = true → ¬ now < a2 from fun h => absurd (HISO.out.1 h).1 h0)
        clear h0
        go_wp2_with fail
        go_round
        case rel => exact ⟨k + 1, by omega, by go_num, Lib.hid (HNX.out HD.out)⟩
        case measure => simp [intOf]; omega
      have g0 : (a0 == acc) = true := by simpa using h0
      by_cases h1 : a1 = rule
      rotate_left 1
      · have g1 : (a1 == rule) = false := by simpa using h1
        have HD := Lib.hid (show isO acc rule X[k] = true → ¬ now < a2 from fun h => absurd (HISO.out.1 h).2 h1)
        clear h0 h1
        go_wp2_with fail
        go_round
        case rel => exact ⟨k + 1, by omega, by go_num, Lib.hid (HNX.out HD.out)⟩
        case measure => simp [intOf]; omega
      have g1 : (a1 == rule) = true := by simpa using h1
      have HXS := Lib.hid (HONE.out (HISO.out.2 ⟨h0, h1⟩))
      have hm3 : 1 ≤ a3 := by have := HME.out HXS.out; have := HMANY.out; omega
      have g3 : decide (a3 < 1) = false := decide_eq_false (by omega)
      clear h0 h1
      by_cases h2 : now < a2
      · have g2 : decide (now < a2) = true := decide_eq_true h2
        have hnm : n = m := by have h3 := HLATE.out (by rw [← HXS.out, HX2.out]; exact h2); have := HN.out; have := HM.out; omega
        have gq : ((n : Int) == (m : Int)) = true := by rw [hnm]; simp
        clear hnm h2
        go_wp2_with fail
        go_ret
        exact ⟨rfl, B4.out⟩
      have g2 : decide (now < a2) = false := decide_eq_false h2
      have HD := Lib.hid (show isO acc rule X[k] = true → ¬ now < a2 from fun _ => h2)
      clear h2
      go_wp2_with fail
      go_round
      case rel => exact ⟨k + 1, by omega, by go_num, Lib.hid (HNX.out HD.out)⟩
      case measure => simp [intOf]; omega
    · obtain rfl : k = m := by omega
      have HSN := Lib.hid (show s.2.2.1 ≤ now from by
        obtain ⟨j, hj, hs⟩ := List.getElem_of_mem (List.mem_of_find?_eq_some HFS.out)
        have h1 := hprev.out j hj (by have := HM.out; omega) (by rw [hs]; exact List.find?_some HFS.out)
        rw [hs] at h1; omega)
      have x0 : w4.cell? ⟨w2.heap.size, 0, none⟩ = some (.string ⟨#[]⟩) := RB.out.cell 0
      have x1 : w4.cell? ⟨w2.heap.size, 1, none⟩ = some (.bool false) := RB.out.cell 1
      have x2 : w4.cell? ⟨w2.heap.size, 2, none⟩ = some (.slice none 0 0) := RB.out.cell 2
      have x3 : w4.cell? ⟨w2.heap.size, 3, none⟩ = some (.int .u64 0) := RB.out.cell 3
      have x4 : w4.cell? ⟨w2.heap.size, 4, none⟩ = some (.int .i64 0) := RB.out.cell 4
      have x5 : w4.cell? ⟨w2.heap.size, 5, none⟩ = some (.int .i64 mo) := RB.out.cell 5
      have x6 : w4.cell? ⟨w2.heap.size, 6, none⟩ = some (.int .i64 wi) := RB.out.cell 6
      go_wp2_with fail
      (with_reducible refine (PL.out HSN.out A1 c1 _ Q1.out).mono ?_)
      rintro e w5 ⟨rfl, b⟩
      clear x0 x1 x2 x3 x4 x5 x6
      have B5 := Lib.hid (below_on B4.out b)
      replace RB := Lib.hid (RB.out.below b RB.out.lt)
      replace Q0 := Lib.hid (Q0.out.on b)
      replace Q1 := Lib.hid (Q1.out.on b)
      clear b
      go_wp2_with fail
      go_ret
      exact ⟨rfl, B5.out⟩
end Go.Proofs.Ytnjmhijfaijopaa
