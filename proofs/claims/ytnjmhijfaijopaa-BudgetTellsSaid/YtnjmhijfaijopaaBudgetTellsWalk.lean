/- The walk of BudgetTells. (Printed by tools/gen_budget_laws.py.) -/
import Derived.Test.YtnjmhijfaijopaaBudgetU
import Derived.Test.YtnjmhijfaijopaaBudgetLaw
namespace Go.Proofs.Ytnjmhijfaijopaa
open Go.ChangeShapes Go.WideShapes Go.ChangeAt Go.RowKit Gs
set_option linter.unusedVariables false
set_option linter.unusedSimpArgs false
set_option maxRecDepth 100000 in
set_option maxHeartbeats 16000000 in
theorem tells_walk17 (A : Option Addr) (n c : Nat) (L : List Sp) (hn : L.length = n) (mo wi rule acc now : Int) (w : World) (hs : QS w w.heap.size A L) (hc : n ≤ c) (hm : c ≤ maxLen) :
    Calls Try.prog 3 #[.slice A n c, .int .i64 mo, .int .i64 wi, .int .i64 rule, .int .i64 acc, .int .i64 now] w fun e w' => e = .returned (.bool true) ∧ Below w.heap.size w w' := by
  have Q0 := Lib.hid (hs)
  have HCM := Lib.hid (And.intro hc hm)
  clear hs hc hm
  have HN := Lib.hid (hn)
  clear hn
  have B0 := Lib.hid (Below.refl w.heap.size w)
  by_cases hfew : n ≤ 1100
  rotate_left 1
  · have PF := Lib.hid (few_k A n c false (decide_eq_false hfew))
    go_enter Try.func3, Try.ntmps3
    go_wp2_with fail
    (with_reducible refine (live17 _).mono ?_)
    rintro e w1 ⟨rfl, b⟩
    have B1 := Lib.hid (below_on B0.out b)
    replace Q0 := Lib.hid (Q0.out.on b)
    clear b
    go_wp2_with fail
    (with_reducible refine (PF.out _).mono ?_)
    rintro e _ ⟨rfl, rfl⟩
    go_wp2_with fail
    go_ret
    exact ⟨rfl, B1.out⟩
  have PF := Lib.hid (few_k A n c true (decide_eq_true hfew))
  have hl : n ≤ 1048576 := by omega
  clear hfew
  have hl4 : n ≤ 70368744177664 := by omega
  obtain ⟨ch, hch⟩ : ∃ ch, chkS L = ch := ⟨_, rfl⟩
  obtain ⟨lf, hlf⟩ : ∃ lf, leftS L mo wi rule acc now = lf := ⟨_, rfl⟩
  have P1 := Lib.hid (fun w hs => Check_k A n c L HN.out hl ch hch w hs)
  have P2 := refCheck_k A n c L HN.out hl4
  rw [hch] at P2
  have P2 := Lib.hid P2
  have P3 := Lib.hid (fun w hs => Left_k A n c L HN.out hl ⟨#[]⟩ false none 0 0 0 0 mo wi rule acc now lf hlf w hs)
  have P4 := refLeft17_any A n c L HN.out hl4 ⟨#[]⟩ false none 0 0 0 0 mo wi rule acc now
  rw [hlf] at P4
  have P4 := Lib.hid P4
  clear hch hlf
  go_enter Try.func3, Try.ntmps3
  go_wp2_with fail
  (with_reducible refine (live17 _).mono ?_)
  rintro e w1 ⟨rfl, b⟩
  have B1 := Lib.hid (below_on B0.out b)
  replace Q0 := Lib.hid (Q0.out.on b)
  clear b
  go_wp2_with fail
  (with_reducible refine (PF.out _).mono ?_)
  rintro e _ ⟨rfl, rfl⟩
  have na := (Below.refl w1.heap.size w1).alloc (Nat.le_refl _) (.cells #[.string ⟨#[]⟩, .bool false, .slice none 0 0, .int .u64 0, .int .i64 0, .int .i64 mo, .int .i64 wi] 28)
  replace Q0 := Lib.hid (Q0.out.on na)
  have B2 := Lib.hid (below_on B1.out na)
  have X := Lib.hid (Blk.new w1 28 #[.string ⟨#[]⟩, .bool false, .slice none 0 0, .int .u64 0, .int .i64 0, .int .i64 mo, .int .i64 wi])
  clear na
  have x0 : (w1.alloc (.cells #[.string ⟨#[]⟩, .bool false, .slice none 0 0, .int .u64 0, .int .i64 0, .int .i64 mo, .int .i64 wi] 28)).cell? ⟨w1.heap.size, 0, none⟩ = some (.string ⟨#[]⟩) := X.out.cell 0
  have x1 : (w1.alloc (.cells #[.string ⟨#[]⟩, .bool false, .slice none 0 0, .int .u64 0, .int .i64 0, .int .i64 mo, .int .i64 wi] 28)).cell? ⟨w1.heap.size, 1, none⟩ = some (.bool false) := X.out.cell 1
  have x2 : (w1.alloc (.cells #[.string ⟨#[]⟩, .bool false, .slice none 0 0, .int .u64 0, .int .i64 0, .int .i64 mo, .int .i64 wi] 28)).cell? ⟨w1.heap.size, 2, none⟩ = some (.slice none 0 0) := X.out.cell 2
  have x3 : (w1.alloc (.cells #[.string ⟨#[]⟩, .bool false, .slice none 0 0, .int .u64 0, .int .i64 0, .int .i64 mo, .int .i64 wi] 28)).cell? ⟨w1.heap.size, 3, none⟩ = some (.int .u64 0) := X.out.cell 3
  have x4 : (w1.alloc (.cells #[.string ⟨#[]⟩, .bool false, .slice none 0 0, .int .u64 0, .int .i64 0, .int .i64 mo, .int .i64 wi] 28)).cell? ⟨w1.heap.size, 4, none⟩ = some (.int .i64 0) := X.out.cell 4
  have x5 : (w1.alloc (.cells #[.string ⟨#[]⟩, .bool false, .slice none 0 0, .int .u64 0, .int .i64 0, .int .i64 mo, .int .i64 wi] 28)).cell? ⟨w1.heap.size, 5, none⟩ = some (.int .i64 mo) := X.out.cell 5
  have x6 : (w1.alloc (.cells #[.string ⟨#[]⟩, .bool false, .slice none 0 0, .int .u64 0, .int .i64 0, .int .i64 mo, .int .i64 wi] 28)).cell? ⟨w1.heap.size, 6, none⟩ = some (.int .i64 wi) := X.out.cell 6
  go_wp2_with fail
  generalize w1.alloc (.cells #[.string ⟨#[]⟩, .bool false, .slice none 0 0, .int .u64 0, .int .i64 0, .int .i64 mo, .int .i64 wi] 28) = w2 at B2 X Q0 x0 x1 x2 x3 x4 x5 x6 ⊢
  have x0 : w2.cell? ⟨w1.heap.size, 0, none⟩ = some (.string ⟨#[]⟩) := X.out.cell 0
  have x1 : w2.cell? ⟨w1.heap.size, 1, none⟩ = some (.bool false) := X.out.cell 1
  have x2 : w2.cell? ⟨w1.heap.size, 2, none⟩ = some (.slice none 0 0) := X.out.cell 2
  have x3 : w2.cell? ⟨w1.heap.size, 3, none⟩ = some (.int .u64 0) := X.out.cell 3
  have x4 : w2.cell? ⟨w1.heap.size, 4, none⟩ = some (.int .i64 0) := X.out.cell 4
  have x5 : w2.cell? ⟨w1.heap.size, 5, none⟩ = some (.int .i64 mo) := X.out.cell 5
  have x6 : w2.cell? ⟨w1.heap.size, 6, none⟩ = some (.int .i64 wi) := X.out.cell 6
  have hW := (Below.refl w2.heap.size w2).drew
  have lt0 := X.out.lt
  have lt1 := X.out.lt
  have lt2 := X.out.lt
  have lt3 := X.out.lt
  have lt4 := X.out.lt
  have lt5 := X.out.lt
  have lt6 := X.out.lt
  have lt7 := X.out.lt
  have lt8 := X.out.lt
  have lt9 := X.out.lt
  have lt10 := X.out.lt
  have lt11 := X.out.lt
  have lt12 := X.out.lt
  have lt13 := X.out.lt
  first | (go_loud (go_region_held_law (fun w' => w'.cell? ⟨w1.heap.size, 0, none⟩ = some (.string ⟨#[]⟩) ∧ w'.cell? ⟨w1.heap.size, 1, none⟩ = some (.bool false) ∧ w'.cell? ⟨w1.heap.size, 2, none⟩ = some (.slice none 0 0) ∧ w'.cell? ⟨w1.heap.size, 3, none⟩ = some (.int .u64 0) ∧ w'.cell? ⟨w1.heap.size, 4, none⟩ = some (.int .i64 0) ∧ w'.cell? ⟨w1.heap.size, 5, none⟩ = some (.int .i64 mo) ∧ w'.cell? ⟨w1.heap.size, 6, none⟩ = some (.int .i64 wi) ∧ w'.cell? ⟨w1.heap.size, 0, none⟩ = some (.string ⟨#[]⟩) ∧ w'.cell? ⟨w1.heap.size, 1, none⟩ = some (.bool false) ∧ w'.cell? ⟨w1.heap.size, 2, none⟩ = some (.slice none 0 0) ∧ w'.cell? ⟨w1.heap.size, 3, none⟩ = some (.int .u64 0) ∧ w'.cell? ⟨w1.heap.size, 4, none⟩ = some (.int .i64 0) ∧ w'.cell? ⟨w1.heap.size, 5, none⟩ = some (.int .i64 mo) ∧ w'.cell? ⟨w1.heap.size, 6, none⟩ = some (.int .i64 wi)) (first | exact ⟨by assumption, by assumption, by assumption, by assumption, by assumption, by assumption, by assumption, by assumption, by assumption, by assumption, by assumption, by assumption, by assumption, by assumption⟩ | go_keep)
    (first
      | (go_at_call 13; with_reducible refine (P1.out _ (Q0.out.on hW)).mono ?_; rintro _ wx ⟨rfl, b⟩; have hW := below_on hW b; have x0x := (hW.cell (p := ⟨w1.heap.size, 0, none⟩) lt0).trans x0; have x1x := (hW.cell (p := ⟨w1.heap.size, 1, none⟩) lt1).trans x1; have x2x := (hW.cell (p := ⟨w1.heap.size, 2, none⟩) lt2).trans x2; have x3x := (hW.cell (p := ⟨w1.heap.size, 3, none⟩) lt3).trans x3; have x4x := (hW.cell (p := ⟨w1.heap.size, 4, none⟩) lt4).trans x4; have x5x := (hW.cell (p := ⟨w1.heap.size, 5, none⟩) lt5).trans x5; have x6x := (hW.cell (p := ⟨w1.heap.size, 6, none⟩) lt6).trans x6; have x0x := (hW.cell (p := ⟨w1.heap.size, 0, none⟩) lt7).trans x0; have x1x := (hW.cell (p := ⟨w1.heap.size, 1, none⟩) lt8).trans x1; have x2x := (hW.cell (p := ⟨w1.heap.size, 2, none⟩) lt9).trans x2; have x3x := (hW.cell (p := ⟨w1.heap.size, 3, none⟩) lt10).trans x3; have x4x := (hW.cell (p := ⟨w1.heap.size, 4, none⟩) lt11).trans x4; have x5x := (hW.cell (p := ⟨w1.heap.size, 5, none⟩) lt12).trans x5; have x6x := (hW.cell (p := ⟨w1.heap.size, 6, none⟩) lt13).trans x6)
      | (go_at_call 14; with_reducible refine (P2.out _ (Q0.out.on hW)).mono ?_; rintro _ wx ⟨rfl, b⟩; have hW := below_on hW b; have x0x := (hW.cell (p := ⟨w1.heap.size, 0, none⟩) lt0).trans x0; have x1x := (hW.cell (p := ⟨w1.heap.size, 1, none⟩) lt1).trans x1; have x2x := (hW.cell (p := ⟨w1.heap.size, 2, none⟩) lt2).trans x2; have x3x := (hW.cell (p := ⟨w1.heap.size, 3, none⟩) lt3).trans x3; have x4x := (hW.cell (p := ⟨w1.heap.size, 4, none⟩) lt4).trans x4; have x5x := (hW.cell (p := ⟨w1.heap.size, 5, none⟩) lt5).trans x5; have x6x := (hW.cell (p := ⟨w1.heap.size, 6, none⟩) lt6).trans x6; have x0x := (hW.cell (p := ⟨w1.heap.size, 0, none⟩) lt7).trans x0; have x1x := (hW.cell (p := ⟨w1.heap.size, 1, none⟩) lt8).trans x1; have x2x := (hW.cell (p := ⟨w1.heap.size, 2, none⟩) lt9).trans x2; have x3x := (hW.cell (p := ⟨w1.heap.size, 3, none⟩) lt10).trans x3; have x4x := (hW.cell (p := ⟨w1.heap.size, 4, none⟩) lt11).trans x4; have x5x := (hW.cell (p := ⟨w1.heap.size, 5, none⟩) lt12).trans x5; have x6x := (hW.cell (p := ⟨w1.heap.size, 6, none⟩) lt13).trans x6)
      | (go_at_call 15; with_reducible refine (P3.out _ (Q0.out.on hW)).mono ?_; rintro _ wx ⟨rfl, b⟩; have hW := below_on hW b; have x0x := (hW.cell (p := ⟨w1.heap.size, 0, none⟩) lt0).trans x0; have x1x := (hW.cell (p := ⟨w1.heap.size, 1, none⟩) lt1).trans x1; have x2x := (hW.cell (p := ⟨w1.heap.size, 2, none⟩) lt2).trans x2; have x3x := (hW.cell (p := ⟨w1.heap.size, 3, none⟩) lt3).trans x3; have x4x := (hW.cell (p := ⟨w1.heap.size, 4, none⟩) lt4).trans x4; have x5x := (hW.cell (p := ⟨w1.heap.size, 5, none⟩) lt5).trans x5; have x6x := (hW.cell (p := ⟨w1.heap.size, 6, none⟩) lt6).trans x6; have x0x := (hW.cell (p := ⟨w1.heap.size, 0, none⟩) lt7).trans x0; have x1x := (hW.cell (p := ⟨w1.heap.size, 1, none⟩) lt8).trans x1; have x2x := (hW.cell (p := ⟨w1.heap.size, 2, none⟩) lt9).trans x2; have x3x := (hW.cell (p := ⟨w1.heap.size, 3, none⟩) lt10).trans x3; have x4x := (hW.cell (p := ⟨w1.heap.size, 4, none⟩) lt11).trans x4; have x5x := (hW.cell (p := ⟨w1.heap.size, 5, none⟩) lt12).trans x5; have x6x := (hW.cell (p := ⟨w1.heap.size, 6, none⟩) lt13).trans x6)
      | (go_at_call 16; with_reducible refine (P4.out _ (Q0.out.on hW)).mono ?_; rintro _ wx ⟨rfl, b⟩; have hW := below_on hW b; have x0x := (hW.cell (p := ⟨w1.heap.size, 0, none⟩) lt0).trans x0; have x1x := (hW.cell (p := ⟨w1.heap.size, 1, none⟩) lt1).trans x1; have x2x := (hW.cell (p := ⟨w1.heap.size, 2, none⟩) lt2).trans x2; have x3x := (hW.cell (p := ⟨w1.heap.size, 3, none⟩) lt3).trans x3; have x4x := (hW.cell (p := ⟨w1.heap.size, 4, none⟩) lt4).trans x4; have x5x := (hW.cell (p := ⟨w1.heap.size, 5, none⟩) lt5).trans x5; have x6x := (hW.cell (p := ⟨w1.heap.size, 6, none⟩) lt6).trans x6; have x0x := (hW.cell (p := ⟨w1.heap.size, 0, none⟩) lt7).trans x0; have x1x := (hW.cell (p := ⟨w1.heap.size, 1, none⟩) lt8).trans x1; have x2x := (hW.cell (p := ⟨w1.heap.size, 2, none⟩) lt9).trans x2; have x3x := (hW.cell (p := ⟨w1.heap.size, 3, none⟩) lt10).trans x3; have x4x := (hW.cell (p := ⟨w1.heap.size, 4, none⟩) lt11).trans x4; have x5x := (hW.cell (p := ⟨w1.heap.size, 5, none⟩) lt12).trans x5; have x6x := (hW.cell (p := ⟨w1.heap.size, 6, none⟩) lt13).trans x6)))) | fail "held"
  all_goals (try go_wp2_with fail)
  all_goals go_ret
  all_goals exact ⟨rfl, below_on B2.out hW⟩
end Go.Proofs.Ytnjmhijfaijopaa
