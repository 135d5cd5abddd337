/- The document's Left. (Printed by tools/gen_budget_t.py.) -/
import Derived.Test.YtnjmhijfaijopaaBudgetS
import Derived.Test.YtnjmhijfaijopaaBudgetOut
namespace Go.Proofs.Ytnjmhijfaijopaa
open Go.ChangeShapes Go.WideShapes Go.ChangeAt Go.RowKit Gs
set_option linter.unusedVariables false
set_option linter.unusedSimpArgs false

theorem refCheck_k (A : Option Addr) (n c : Nat) (L : List Sp) (hn : L.length = n) (hl : n ≤ 70368744177664) (w : World) (hs : QS w w.heap.size A L) :
    Calls Try.prog 14 #[.slice A n c] w fun e w' => e = .returned (.int .i64 (chkS L)) ∧ Below w.heap.size w w' := by
  subst hn; exact refCheck17_any A c L hl w hs
section
variable (A : Option Addr) (n c : Nat) (L : List Sp) (hn : L.length = n) (hl : n ≤ 70368744177664) (N : ByteArray) (al : Bool) (PA : Option Addr) (pn pc : Nat) (km lm mo wi : Int)
include hn hl
set_option maxHeartbeats 8000000 in
theorem refLeft17_any (rule acc now : Int) (w : World) (hs : QS w w.heap.size A L) : Calls Try.prog 16 #[.slice A n c, .agg (rcs N al PA pn pc km lm mo wi), .int .i64 rule, .int .i64 acc, .int .i64 now] w fun e w' => e = .returned (.int .i64 (leftS L mo wi rule acc now)) ∧ Below w.heap.size w w' := by
  have HS := Lib.hid (hs)
  have HN := Lib.hid hn
  clear hs
  have PC := Lib.hid (refCheck_k A n c L hn hl)
  have PA2 := Lib.hid (asked17_any N al PA pn pc km lm mo wi rule acc now)
  have PH := Lib.hid (fun hok hnow w hs => had17_any A n c L hn hl N al PA pn pc km lm mo wi hok rule acc now hnow w hs)
  obtain ⟨r, hr⟩ : ∃ r, leftS L mo wi rule acc now = r := ⟨_, rfl⟩
  have HR := Lib.hid hr
  rw [hr]
  clear hr hn
  have X := Lib.hid (Blk.new w 28 #[.string N, .bool al, .slice PA pn pc, .int .u64 km, .int .i64 lm, .int .i64 mo, .int .i64 wi])
  have hb0 := (Below.refl w.heap.size w).alloc (Nat.le_refl _) (.cells #[.string N, .bool al, .slice PA pn pc, .int .u64 km, .int .i64 lm, .int .i64 mo, .int .i64 wi] 28)
  have B0 := Lib.hid (hb0)
  clear hb0
  by_cases hc0 : chkS L = 0
  rotate_left 1
  · have HR2 := Lib.hid (show r = 0 by rw [← HR.out]; unfold leftS; rw [if_neg]; intro h; exact hc0 (askE_is.1 h).1)
    obtain ⟨ch, hch⟩ : ∃ ch, chkS L = ch := ⟨_, rfl⟩
    rw [hch] at PC hc0
    have gc : (ch != 0) = true := by simpa using hc0
    clear hc0 hch
    go_enter Try.func16, Try.ntmps16
    go_wp2_with fail
    generalize (w.alloc (.cells #[.string N, .bool al, .slice PA pn pc, .int .u64 km, .int .i64 lm, .int .i64 mo, .int .i64 wi] 28)) = w0 at B0 X ⊢
    have x0 : w0.cell? ⟨w.heap.size, 0, none⟩ = some (.string N) := X.out.cell 0
    have x1 : w0.cell? ⟨w.heap.size, 1, none⟩ = some (.bool al) := X.out.cell 1
    have x2 : w0.cell? ⟨w.heap.size, 2, none⟩ = some (.slice PA pn pc) := X.out.cell 2
    have x3 : w0.cell? ⟨w.heap.size, 3, none⟩ = some (.int .u64 km) := X.out.cell 3
    have x4 : w0.cell? ⟨w.heap.size, 4, none⟩ = some (.int .i64 lm) := X.out.cell 4
    have x5 : w0.cell? ⟨w.heap.size, 5, none⟩ = some (.int .i64 mo) := X.out.cell 5
    have x6 : w0.cell? ⟨w.heap.size, 6, none⟩ = some (.int .i64 wi) := X.out.cell 6
    (with_reducible refine (PC.out _ (HS.out.on B0.out)).mono ?_)
    rintro e w1 ⟨rfl, b⟩
    clear x0 x1 x2 x3 x4 x5 x6
    have B1 := Lib.hid (below_on B0.out b)
    replace X := Lib.hid (X.out.below b X.out.lt)
    clear b
    have x0 : w1.cell? ⟨w.heap.size, 0, none⟩ = some (.string N) := X.out.cell 0
    have x1 : w1.cell? ⟨w.heap.size, 1, none⟩ = some (.bool al) := X.out.cell 1
    have x2 : w1.cell? ⟨w.heap.size, 2, none⟩ = some (.slice PA pn pc) := X.out.cell 2
    have x3 : w1.cell? ⟨w.heap.size, 3, none⟩ = some (.int .u64 km) := X.out.cell 3
    have x4 : w1.cell? ⟨w.heap.size, 4, none⟩ = some (.int .i64 lm) := X.out.cell 4
    have x5 : w1.cell? ⟨w.heap.size, 5, none⟩ = some (.int .i64 mo) := X.out.cell 5
    have x6 : w1.cell? ⟨w.heap.size, 6, none⟩ = some (.int .i64 wi) := X.out.cell 6
    go_wp2_with fail
    go_ret
    exact ⟨by rw [HR2.out]; rfl, B1.out⟩
  rw [hc0] at PC
  cases ha : askB mo wi rule acc now with
  | false =>
    rw [ha] at PA2
    have HR2 := Lib.hid (show r = 0 by rw [← HR.out]; unfold leftS; rw [if_neg]; intro h; rw [(askE_is.1 h).2] at ha; cases ha)
    clear ha hc0
    go_enter Try.func16, Try.ntmps16
    go_wp2_with fail
    generalize (w.alloc (.cells #[.string N, .bool al, .slice PA pn pc, .int .u64 km, .int .i64 lm, .int .i64 mo, .int .i64 wi] 28)) = w0 at B0 X ⊢
    have x0 : w0.cell? ⟨w.heap.size, 0, none⟩ = some (.string N) := X.out.cell 0
    have x1 : w0.cell? ⟨w.heap.size, 1, none⟩ = some (.bool al) := X.out.cell 1
    have x2 : w0.cell? ⟨w.heap.size, 2, none⟩ = some (.slice PA pn pc) := X.out.cell 2
    have x3 : w0.cell? ⟨w.heap.size, 3, none⟩ = some (.int .u64 km) := X.out.cell 3
    have x4 : w0.cell? ⟨w.heap.size, 4, none⟩ = some (.int .i64 lm) := X.out.cell 4
    have x5 : w0.cell? ⟨w.heap.size, 5, none⟩ = some (.int .i64 mo) := X.out.cell 5
    have x6 : w0.cell? ⟨w.heap.size, 6, none⟩ = some (.int .i64 wi) := X.out.cell 6
    (with_reducible refine (PC.out _ (HS.out.on B0.out)).mono ?_)
    rintro e w1 ⟨rfl, b⟩
    clear x0 x1 x2 x3 x4 x5 x6
    have B1 := Lib.hid (below_on B0.out b)
    replace X := Lib.hid (X.out.below b X.out.lt)
    clear b
    have x0 : w1.cell? ⟨w.heap.size, 0, none⟩ = some (.string N) := X.out.cell 0
    have x1 : w1.cell? ⟨w.heap.size, 1, none⟩ = some (.bool al) := X.out.cell 1
    have x2 : w1.cell? ⟨w.heap.size, 2, none⟩ = some (.slice PA pn pc) := X.out.cell 2
    have x3 : w1.cell? ⟨w.heap.size, 3, none⟩ = some (.int .u64 km) := X.out.cell 3
    have x4 : w1.cell? ⟨w.heap.size, 4, none⟩ = some (.int .i64 lm) := X.out.cell 4
    have x5 : w1.cell? ⟨w.heap.size, 5, none⟩ = some (.int .i64 mo) := X.out.cell 5
    have x6 : w1.cell? ⟨w.heap.size, 6, none⟩ = some (.int .i64 wi) := X.out.cell 6
    go_wp2_with fail
    (with_reducible refine (PA2.out _).mono ?_)
    rintro e w2 ⟨rfl, b⟩
    clear x0 x1 x2 x3 x4 x5 x6
    have B2 := Lib.hid (below_on B1.out b)
    replace X := Lib.hid (X.out.below b X.out.lt)
    clear b
    go_wp2_with fail
    go_ret
    exact ⟨by rw [HR2.out]; rfl, B2.out⟩
  | true =>
    rw [ha] at PA2
    have hE := askE_is.2 ⟨hc0, ha⟩
    obtain ⟨hok, hrm, -, -, hnow⟩ := askE_ok hE
    have hrm2 := rmB_iff.1 hrm
    obtain ⟨⟨hmo0, hmo1⟩, -, -⟩ := hrm2
    have hhad := had_nonneg (acc := acc) (rule := rule) (wi := wi) (now := now) hok
    have hhad2 := had_le (acc := acc) (rule := rule) (wi := wi) (now := now) hok
    have HRS := Lib.hid (show r = if mo = 0 then 1099511627776 else max 0 (mo - hadS acc rule wi now L) by rw [← HR.out]; unfold leftS; rw [if_pos hE])
    have PH2 := Lib.hid (PH.out hok hnow)
    clear PH hE hok hrm hnow ha hc0
    by_cases hm0 : mo = 0
    · have gm : (mo == 0) = true := by simpa using hm0
      have HR2 := Lib.hid (show r = 1099511627776 by rw [HRS.out, if_pos hm0])
      clear hm0
      go_enter Try.func16, Try.ntmps16
      go_wp2_with fail
      generalize (w.alloc (.cells #[.string N, .bool al, .slice PA pn pc, .int .u64 km, .int .i64 lm, .int .i64 mo, .int .i64 wi] 28)) = w0 at B0 X ⊢
      have x0 : w0.cell? ⟨w.heap.size, 0, none⟩ = some (.string N) := X.out.cell 0
      have x1 : w0.cell? ⟨w.heap.size, 1, none⟩ = some (.bool al) := X.out.cell 1
      have x2 : w0.cell? ⟨w.heap.size, 2, none⟩ = some (.slice PA pn pc) := X.out.cell 2
      have x3 : w0.cell? ⟨w.heap.size, 3, none⟩ = some (.int .u64 km) := X.out.cell 3
      have x4 : w0.cell? ⟨w.heap.size, 4, none⟩ = some (.int .i64 lm) := X.out.cell 4
      have x5 : w0.cell? ⟨w.heap.size, 5, none⟩ = some (.int .i64 mo) := X.out.cell 5
      have x6 : w0.cell? ⟨w.heap.size, 6, none⟩ = some (.int .i64 wi) := X.out.cell 6
      (with_reducible refine (PC.out _ (HS.out.on B0.out)).mono ?_)
      rintro e w1 ⟨rfl, b⟩
      clear x0 x1 x2 x3 x4 x5 x6
      have B1 := Lib.hid (below_on B0.out b)
      replace X := Lib.hid (X.out.below b X.out.lt)
      clear b
      have x0 : w1.cell? ⟨w.heap.size, 0, none⟩ = some (.string N) := X.out.cell 0
      have x1 : w1.cell? ⟨w.heap.size, 1, none⟩ = some (.bool al) := X.out.cell 1
      have x2 : w1.cell? ⟨w.heap.size, 2, none⟩ = some (.slice PA pn pc) := X.out.cell 2
      have x3 : w1.cell? ⟨w.heap.size, 3, none⟩ = some (.int .u64 km) := X.out.cell 3
      have x4 : w1.cell? ⟨w.heap.size, 4, none⟩ = some (.int .i64 lm) := X.out.cell 4
      have x5 : w1.cell? ⟨w.heap.size, 5, none⟩ = some (.int .i64 mo) := X.out.cell 5
      have x6 : w1.cell? ⟨w.heap.size, 6, none⟩ = some (.int .i64 wi) := X.out.cell 6
      go_wp2_with fail
      (with_reducible refine (PA2.out _).mono ?_)
      rintro e w2 ⟨rfl, b⟩
      clear x0 x1 x2 x3 x4 x5 x6
      have B2 := Lib.hid (below_on B1.out b)
      replace X := Lib.hid (X.out.below b X.out.lt)
      clear b
      have x0 : w2.cell? ⟨w.heap.size, 0, none⟩ = some (.string N) := X.out.cell 0
      have x1 : w2.cell? ⟨w.heap.size, 1, none⟩ = some (.bool al) := X.out.cell 1
      have x2 : w2.cell? ⟨w.heap.size, 2, none⟩ = some (.slice PA pn pc) := X.out.cell 2
      have x3 : w2.cell? ⟨w.heap.size, 3, none⟩ = some (.int .u64 km) := X.out.cell 3
      have x4 : w2.cell? ⟨w.heap.size, 4, none⟩ = some (.int .i64 lm) := X.out.cell 4
      have x5 : w2.cell? ⟨w.heap.size, 5, none⟩ = some (.int .i64 mo) := X.out.cell 5
      have x6 : w2.cell? ⟨w.heap.size, 6, none⟩ = some (.int .i64 wi) := X.out.cell 6
      go_wp2_with fail
      go_ret
      exact ⟨by rw [HR2.out]; rfl, B2.out⟩
    have gm : (mo == 0) = false := by simpa using hm0
    replace HRS := Lib.hid (show r = max 0 (mo - hadS acc rule wi now L) by rw [HRS.out, if_neg hm0])
    generalize hadS acc rule wi now L = hd at HRS PH2 hhad hhad2
    clear hm0
    have hwr : IntKind.i64.wrap (mo - hd) = mo - hd := IntWalk.i64_in _ (by omega)
    · have HR2 := HRS
      go_enter Try.func16, Try.ntmps16
      go_wp2_with fail
      generalize (w.alloc (.cells #[.string N, .bool al, .slice PA pn pc, .int .u64 km, .int .i64 lm, .int .i64 mo, .int .i64 wi] 28)) = w0 at B0 X ⊢
      have x0 : w0.cell? ⟨w.heap.size, 0, none⟩ = some (.string N) := X.out.cell 0
      have x1 : w0.cell? ⟨w.heap.size, 1, none⟩ = some (.bool al) := X.out.cell 1
      have x2 : w0.cell? ⟨w.heap.size, 2, none⟩ = some (.slice PA pn pc) := X.out.cell 2
      have x3 : w0.cell? ⟨w.heap.size, 3, none⟩ = some (.int .u64 km) := X.out.cell 3
      have x4 : w0.cell? ⟨w.heap.size, 4, none⟩ = some (.int .i64 lm) := X.out.cell 4
      have x5 : w0.cell? ⟨w.heap.size, 5, none⟩ = some (.int .i64 mo) := X.out.cell 5
      have x6 : w0.cell? ⟨w.heap.size, 6, none⟩ = some (.int .i64 wi) := X.out.cell 6
      (with_reducible refine (PC.out _ (HS.out.on B0.out)).mono ?_)
      rintro e w1 ⟨rfl, b⟩
      clear x0 x1 x2 x3 x4 x5 x6
      have B1 := Lib.hid (below_on B0.out b)
      replace X := Lib.hid (X.out.below b X.out.lt)
      clear b
      have x0 : w1.cell? ⟨w.heap.size, 0, none⟩ = some (.string N) := X.out.cell 0
      have x1 : w1.cell? ⟨w.heap.size, 1, none⟩ = some (.bool al) := X.out.cell 1
      have x2 : w1.cell? ⟨w.heap.size, 2, none⟩ = some (.slice PA pn pc) := X.out.cell 2
      have x3 : w1.cell? ⟨w.heap.size, 3, none⟩ = some (.int .u64 km) := X.out.cell 3
      have x4 : w1.cell? ⟨w.heap.size, 4, none⟩ = some (.int .i64 lm) := X.out.cell 4
      have x5 : w1.cell? ⟨w.heap.size, 5, none⟩ = some (.int .i64 mo) := X.out.cell 5
      have x6 : w1.cell? ⟨w.heap.size, 6, none⟩ = some (.int .i64 wi) := X.out.cell 6
      go_wp2_with fail
      (with_reducible refine (PA2.out _).mono ?_)
      rintro e w2 ⟨rfl, b⟩
      clear x0 x1 x2 x3 x4 x5 x6
      have B2 := Lib.hid (below_on B1.out b)
      replace X := Lib.hid (X.out.below b X.out.lt)
      clear b
      have x0 : w2.cell? ⟨w.heap.size, 0, none⟩ = some (.string N) := X.out.cell 0
      have x1 : w2.cell? ⟨w.heap.size, 1, none⟩ = some (.bool al) := X.out.cell 1
      have x2 : w2.cell? ⟨w.heap.size, 2, none⟩ = some (.slice PA pn pc) := X.out.cell 2
      have x3 : w2.cell? ⟨w.heap.size, 3, none⟩ = some (.int .u64 km) := X.out.cell 3
      have x4 : w2.cell? ⟨w.heap.size, 4, none⟩ = some (.int .i64 lm) := X.out.cell 4
      have x5 : w2.cell? ⟨w.heap.size, 5, none⟩ = some (.int .i64 mo) := X.out.cell 5
      have x6 : w2.cell? ⟨w.heap.size, 6, none⟩ = some (.int .i64 wi) := X.out.cell 6
      go_wp2_with fail
      have hW := (Below.refl w2.heap.size w2).drew
      have lt := X.out.lt
      first | (go_loud (go_region_with (first | (go_at_call 33; with_reducible refine (PH2.out _ (HS.out.on (below_on B2.out hW))).mono ?_; rintro _ wx ⟨rfl, b⟩; have hW := below_on hW b; have x0x := (hW.cell (p := ⟨w.heap.size, 0, none⟩) lt).trans x0; have x1x := (hW.cell (p := ⟨w.heap.size, 1, none⟩) lt).trans x1; have x2x := (hW.cell (p := ⟨w.heap.size, 2, none⟩) lt).trans x2; have x3x := (hW.cell (p := ⟨w.heap.size, 3, none⟩) lt).trans x3; have x4x := (hW.cell (p := ⟨w.heap.size, 4, none⟩) lt).trans x4; have x5x := (hW.cell (p := ⟨w.heap.size, 5, none⟩) lt).trans x5; have x6x := (hW.cell (p := ⟨w.heap.size, 6, none⟩) lt).trans x6)))) | fail "max"
      all_goals (try go_wp2_with fail)
      all_goals go_ret
      all_goals exact ⟨by rw [HR2.out]; rfl, below_on B2.out hW⟩
end
end Go.Proofs.Ytnjmhijfaijopaa
