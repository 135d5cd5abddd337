/- The walk of BudgetBound. (Printed by tools/gen_budget_laws.py.) -/
import Derived.Test.YtnjmhijfaijopaaBudgetM
import Derived.Test.YtnjmhijfaijopaaBudgetLaw
namespace Go.Proofs.Ytnjmhijfaijopaa
open Go.ChangeShapes Go.WideShapes Go.ChangeAt Go.RowKit Gs
set_option linter.unusedVariables false
set_option linter.unusedSimpArgs false

theorem u8_wf17 {a : Int} (h : (Lit.int .u8 a).wf = true) : 0 ≤ a ∧ a ≤ 255 := by
  have := u8_wf h
  omega
theorem blkN {w : World} {g : Nat} {t : TypeId} {cs : Array Value} (h : Blk w g t cs) {w' : World} (hb : Below w.heap.size w w') : Blk w' g t cs := h.below hb h.lt
/-- What holds at each round's head: behind k times. -/
def BoundR (N : Nat) (acc rule mo wi : Int) (gR : Nat) (w0 : World) (l nw fi ma i : Value) (wr : World) : Prop :=
  ∃ (k n c : Nat) (A : Option Addr) (Lx : List Sp) (now first many : Int), k ≤ N ∧ l = .slice A n c ∧ nw = .int .i64 now ∧ fi = .int .i64 first ∧ ma = .int .i64 many ∧ i = .int .i64 k ∧ now ≤ 255 * k ∧ Lx.length = n ∧ BoundI acc rule mo Lx first many now ∧ QS wr wr.heap.size A Lx ∧
    Blk wr gR 28 #[.string ⟨#[]⟩, .bool false, .slice none 0 0, .int .u64 0, .int .i64 0, .int .i64 mo, .int .i64 wi] ∧ Below w0.heap.size w0 wr
set_option maxRecDepth 100000 in
set_option maxHeartbeats 16000000 in
theorem bound_walk17 (mo wi : Int) (A : Option Addr) (N c : Nat) (xs : List Int) (hN : xs.length = N) (acc rule : Int) (w : World) (hmo : 0 ≤ mo ∧ mo ≤ 255) (hwi : 0 ≤ wi ∧ wi ≤ 255) (hx : ∀ x ∈ xs, 0 ≤ x ∧ x ≤ 255) (hm : N ≤ maxLen) (hs : SI w w.heap.size .u8 A xs) :
    Calls Try.prog 6 #[.int .u8 mo, .int .u8 wi, .slice A N c, .int .i64 acc, .int .i64 rule] w fun e w' => e = .returned (.bool true) ∧ Below w.heap.size w w' := by
  obtain ⟨hmo0, hmo1⟩ := hmo
  obtain ⟨hwi0, hwi1⟩ := hwi
  have HN := Lib.hid hN
  have HX := Lib.hid hx
  have HS := Lib.hid hs
  unfold maxLen at hm
  clear hN hx hs
  have B0 := Lib.hid (Below.refl w.heap.size w)
  by_cases hN6 : 60 < N
  · have qhN6 : decide (60 < N) = true := decide_eq_true hN6
    go_enter Try.func6, Try.ntmps6
    go_wp2_with fail
    (with_reducible refine (live17 _).mono ?_)
    rintro e w1 ⟨rfl, b⟩
    have B1 := Lib.hid (below_on B0.out b)
    clear b
    go_wp2_with fail
    go_ret
    exact ⟨rfl, B1.out⟩
  have qhN6 : decide (60 < N) = false := decide_eq_false hN6
  by_cases hm0 : mo = 0
  · have qhm0 : (mo == 0) = true := by simpa using hm0
    clear hm0
    go_enter Try.func6, Try.ntmps6
    go_wp2_with fail
    (with_reducible refine (live17 _).mono ?_)
    rintro e w1 ⟨rfl, b⟩
    have B1 := Lib.hid (below_on B0.out b)
    clear b
    go_wp2_with fail
    go_ret
    exact ⟨rfl, B1.out⟩
  have qhm0 : (mo == 0) = false := by simpa using hm0
  by_cases hw0 : wi = 0
  · have qhw0 : (wi == 0) = true := by simpa using hw0
    clear hw0
    go_enter Try.func6, Try.ntmps6
    go_wp2_with fail
    (with_reducible refine (live17 _).mono ?_)
    rintro e w1 ⟨rfl, b⟩
    have B1 := Lib.hid (below_on B0.out b)
    clear b
    go_wp2_with fail
    go_ret
    exact ⟨rfl, B1.out⟩
  have qhw0 : (wi == 0) = false := by simpa using hw0
  by_cases ha1 : acc < 0
  · have qha1 : decide (acc < 0) = true := decide_eq_true ha1
    go_enter Try.func6, Try.ntmps6
    go_wp2_with fail
    (with_reducible refine (live17 _).mono ?_)
    rintro e w1 ⟨rfl, b⟩
    have B1 := Lib.hid (below_on B0.out b)
    clear b
    go_wp2_with fail
    go_ret
    exact ⟨rfl, B1.out⟩
  have qha1 : decide (acc < 0) = false := decide_eq_false ha1
  by_cases ha2 : 1099511627776 < acc
  · have qha2 : decide (1099511627776 < acc) = true := decide_eq_true ha2
    go_enter Try.func6, Try.ntmps6
    go_wp2_with fail
    (with_reducible refine (live17 _).mono ?_)
    rintro e w1 ⟨rfl, b⟩
    have B1 := Lib.hid (below_on B0.out b)
    clear b
    go_wp2_with fail
    go_ret
    exact ⟨rfl, B1.out⟩
  have qha2 : decide (1099511627776 < acc) = false := decide_eq_false ha2
  by_cases hr1 : rule < 0
  · have qhr1 : decide (rule < 0) = true := decide_eq_true hr1
    go_enter Try.func6, Try.ntmps6
    go_wp2_with fail
    (with_reducible refine (live17 _).mono ?_)
    rintro e w1 ⟨rfl, b⟩
    have B1 := Lib.hid (below_on B0.out b)
    clear b
    go_wp2_with fail
    go_ret
    exact ⟨rfl, B1.out⟩
  have qhr1 : decide (rule < 0) = false := decide_eq_false hr1
  by_cases hr2 : 32 ≤ rule
  · have qhr2 : decide (32 ≤ rule) = true := decide_eq_true hr2
    go_enter Try.func6, Try.ntmps6
    go_wp2_with fail
    (with_reducible refine (live17 _).mono ?_)
    rintro e w1 ⟨rfl, b⟩
    have B1 := Lib.hid (below_on B0.out b)
    clear b
    go_wp2_with fail
    go_ret
    exact ⟨rfl, B1.out⟩
  have qhr2 : decide (32 ≤ rule) = false := decide_eq_false hr2
  have HA := Lib.hid (nmB_iff.2 ⟨by omega, by omega⟩ : nmB acc = true)
  have HR := Lib.hid (rlB_iff.2 ⟨by omega, by omega⟩ : rlB rule = true)
  go_enter Try.func6, Try.ntmps6
  go_wp2_with fail
  (with_reducible refine (live17 _).mono ?_)
  rintro e w1 ⟨rfl, b⟩
  have B1 := Lib.hid (below_on B0.out b)
  clear b
  have na := (Below.refl w1.heap.size w1).alloc (Nat.le_refl _) (.cells #[.string ⟨#[]⟩, .bool false, .slice none 0 0, .int .u64 0, .int .i64 0, .int .i64 mo, .int .i64 wi] 28)
  have B2 := Lib.hid (below_on B1.out na)
  have X := Lib.hid (Blk.new w1 28 #[.string ⟨#[]⟩, .bool false, .slice none 0 0, .int .u64 0, .int .i64 0, .int .i64 mo, .int .i64 wi])
  clear na
  have na := (Below.refl (w1.alloc (.cells #[.string ⟨#[]⟩, .bool false, .slice none 0 0, .int .u64 0, .int .i64 0, .int .i64 mo, .int .i64 wi] 28)).heap.size (w1.alloc (.cells #[.string ⟨#[]⟩, .bool false, .slice none 0 0, .int .u64 0, .int .i64 0, .int .i64 mo, .int .i64 wi] 28))).alloc (Nat.le_refl _) (.cells #[] 45)
  replace X := Lib.hid (X.out.alloc (.cells #[] 45))
  have B3 := Lib.hid (below_on B2.out na)
  have E := Lib.hid (Blk.new (w1.alloc (.cells #[.string ⟨#[]⟩, .bool false, .slice none 0 0, .int .u64 0, .int .i64 0, .int .i64 mo, .int .i64 wi] 28)) 45 #[])
  clear na
  go_wp2_with fail
  generalize (w1.alloc (.cells #[.string ⟨#[]⟩, .bool false, .slice none 0 0, .int .u64 0, .int .i64 0, .int .i64 mo, .int .i64 wi] 28)).alloc (.cells #[] 45) = w2 at B3 X E ⊢
  go_loopw [12, 13, 14, 15, 16] (fun l nw fi ma i wr => BoundR N acc rule mo wi w1.heap.size w l nw fi ma i wr) (fun _ _ _ _ i _ => N - (intOf i).toNat)
  case atStart => exact ⟨0, 0, 0, _, [], 0, -1, 0, Nat.zero_le _, rfl, rfl, rfl, rfl, rfl, by omega, rfl, ⟨by omega, .inl ⟨rfl, rfl, rfl⟩⟩, QS.nil _ _ _, X.out, B3.out⟩
  case round =>
    obtain ⟨k, n, c2, A2, Lx, now, first, many, hk, rfl, rfl, rfl, rfl, rfl, hnow, hn, hI, hq, hblk, hb⟩ := hrel
    have HI := Lib.hid hI
    have hI0 := hI.1
    have hI1 : -1 ≤ first ∧ first ≤ now ∧ 0 ≤ many ∧ many ≤ mo := by
      rcases hI.2 with ⟨_, h1, h2⟩ | ⟨_, h1, h2, h3, h4⟩
      · subst h1 h2; exact ⟨by omega, by omega, by omega, by omega⟩
      · exact ⟨by omega, by omega, by omega, by omega⟩
    obtain ⟨hf0, hf1, hma0, hma1⟩ := hI1
    have hn1 : n ≤ 1 := by
      rcases hI.2 with ⟨h, _⟩ | ⟨h, _⟩ <;> (rw [← hn, h]; simp)
    have Q1 := Lib.hid hq
    have Y := Lib.hid hblk
    have BB := Lib.hid hb
    have HLN := Lib.hid hn
    clear hI hq hblk hb hn
    by_cases hlt : k < N
    · have hkx : k < xs.length := by rw [HN.out]; exact hlt
      have htb := HX.out xs[k] (List.getElem_mem hkx)
      obtain ⟨ad, rfl, hadb, ct⟩ := HS.out k hkx
      rw [List.getElem?_eq_getElem hkx, Option.getD_some] at ct
      replace ct := (BB.out.cell (p := ad.add k) (by rw [block_of_add]; exact hadb)).trans ct
      generalize xs[k] = t at htb ct
      obtain ⟨ht0, ht1⟩ := htb
      have hk0 : (0 : Int) ≤ (k : Int) := by omega
      have hkN : (k : Int) ≤ 60 := by omega
      by_cases hf : first < 0
      · have qf : decide (first < 0) = true := decide_eq_true hf
        obtain ⟨hsp, hI2, hl1⟩ := bound_anew HA.out HR.out ⟨by omega, hmo1⟩ ⟨by omega, hwi1⟩ HI.out ht0 (by omega) (.inl hf)
        have PS := Lib.hid (fun A c w hs => Spend_k A n c Lx HLN.out (by omega) ⟨#[]⟩ false none 0 0 0 0 mo wi rule acc (now + t) [(acc, rule, now + t, 1)] 0 1 hsp rfl w hs)
        have PL := Lib.hid (fun A c w hs => Left_k A 1 c [(acc, rule, now + t, 1)] rfl (by omega) ⟨#[]⟩ false none 0 0 0 0 mo wi rule acc (now + t) (mo - 1) hl1 w hs)
        have HI2 := Lib.hid hI2
        clear hsp hl1 hI2
        have q0 : decide (0 < mo) = true := decide_eq_true (by omega)
        have x0 : wr.cell? ⟨w1.heap.size, 0, none⟩ = some (.string ⟨#[]⟩) := Y.out.cell 0
        have x1 : wr.cell? ⟨w1.heap.size, 1, none⟩ = some (.bool false) := Y.out.cell 1
        have x2 : wr.cell? ⟨w1.heap.size, 2, none⟩ = some (.slice none 0 0) := Y.out.cell 2
        have x3 : wr.cell? ⟨w1.heap.size, 3, none⟩ = some (.int .u64 0) := Y.out.cell 3
        have x4 : wr.cell? ⟨w1.heap.size, 4, none⟩ = some (.int .i64 0) := Y.out.cell 4
        have x5 : wr.cell? ⟨w1.heap.size, 5, none⟩ = some (.int .i64 mo) := Y.out.cell 5
        have x6 : wr.cell? ⟨w1.heap.size, 6, none⟩ = some (.int .i64 wi) := Y.out.cell 6
        go_wp2_with fail
        (with_reducible refine (PS.out _ _ _ Q1.out).mono ?_)
        rintro e w21 ⟨A3, c3, rfl, hcc, hq, b⟩
        clear x0 x1 x2 x3 x4 x5 x6
        have B4 := Lib.hid (below_on BB.out b)
        replace Y := Lib.hid (Y.out.below b Y.out.lt)
        replace Q1 := Lib.hid (Q1.out.on b)
        have Q3 := Lib.hid (hq)
        have Q3c := Lib.hid (hcc)
        clear b hq hcc
        have x0 : w21.cell? ⟨w1.heap.size, 0, none⟩ = some (.string ⟨#[]⟩) := Y.out.cell 0
        have x1 : w21.cell? ⟨w1.heap.size, 1, none⟩ = some (.bool false) := Y.out.cell 1
        have x2 : w21.cell? ⟨w1.heap.size, 2, none⟩ = some (.slice none 0 0) := Y.out.cell 2
        have x3 : w21.cell? ⟨w1.heap.size, 3, none⟩ = some (.int .u64 0) := Y.out.cell 3
        have x4 : w21.cell? ⟨w1.heap.size, 4, none⟩ = some (.int .i64 0) := Y.out.cell 4
        have x5 : w21.cell? ⟨w1.heap.size, 5, none⟩ = some (.int .i64 mo) := Y.out.cell 5
        have x6 : w21.cell? ⟨w1.heap.size, 6, none⟩ = some (.int .i64 wi) := Y.out.cell 6
        go_wp2_with fail
        (with_reducible refine (PL.out _ _ _ Q3.out).mono ?_)
        rintro e w22 ⟨rfl, b⟩
        clear x0 x1 x2 x3 x4 x5 x6
        have B5 := Lib.hid (below_on B4.out b)
        replace Y := Lib.hid (Y.out.below b Y.out.lt)
        replace Q1 := Lib.hid (Q1.out.on b)
        replace Q3 := Lib.hid (Q3.out.on b)
        clear b
        go_wp2_with fail
        go_roundw
        case rel => exact ⟨k + 1, 1, _, _, _, now + t, now + t, 1, by omega, rfl, rfl, rfl, rfl, by go_num, by omega, rfl, HI2.out, Q3.out, Y.out, B5.out⟩
        case measure => simp [intOf]; omega
      by_cases hw : wi ≤ now + t - first
      · have qf : decide (first < 0) = false := decide_eq_false hf
        have qw : decide (wi ≤ now + t - first) = true := decide_eq_true hw
        obtain ⟨hsp, hI2, hl1⟩ := bound_anew HA.out HR.out ⟨by omega, hmo1⟩ ⟨by omega, hwi1⟩ HI.out ht0 (by omega) (.inr hw)
        have PS := Lib.hid (fun A c w hs => Spend_k A n c Lx HLN.out (by omega) ⟨#[]⟩ false none 0 0 0 0 mo wi rule acc (now + t) [(acc, rule, now + t, 1)] 0 1 hsp rfl w hs)
        have PL := Lib.hid (fun A c w hs => Left_k A 1 c [(acc, rule, now + t, 1)] rfl (by omega) ⟨#[]⟩ false none 0 0 0 0 mo wi rule acc (now + t) (mo - 1) hl1 w hs)
        have HI2 := Lib.hid hI2
        clear hsp hl1 hI2
        have q0 : decide (0 < mo) = true := decide_eq_true (by omega)
        have x0 : wr.cell? ⟨w1.heap.size, 0, none⟩ = some (.string ⟨#[]⟩) := Y.out.cell 0
        have x1 : wr.cell? ⟨w1.heap.size, 1, none⟩ = some (.bool false) := Y.out.cell 1
        have x2 : wr.cell? ⟨w1.heap.size, 2, none⟩ = some (.slice none 0 0) := Y.out.cell 2
        have x3 : wr.cell? ⟨w1.heap.size, 3, none⟩ = some (.int .u64 0) := Y.out.cell 3
        have x4 : wr.cell? ⟨w1.heap.size, 4, none⟩ = some (.int .i64 0) := Y.out.cell 4
        have x5 : wr.cell? ⟨w1.heap.size, 5, none⟩ = some (.int .i64 mo) := Y.out.cell 5
        have x6 : wr.cell? ⟨w1.heap.size, 6, none⟩ = some (.int .i64 wi) := Y.out.cell 6
        go_wp2_with fail
        (with_reducible refine (PS.out _ _ _ Q1.out).mono ?_)
        rintro e w21 ⟨A3, c3, rfl, hcc, hq, b⟩
        clear x0 x1 x2 x3 x4 x5 x6
        have B4 := Lib.hid (below_on BB.out b)
        replace Y := Lib.hid (Y.out.below b Y.out.lt)
        replace Q1 := Lib.hid (Q1.out.on b)
        have Q3 := Lib.hid (hq)
        have Q3c := Lib.hid (hcc)
        clear b hq hcc
        have x0 : w21.cell? ⟨w1.heap.size, 0, none⟩ = some (.string ⟨#[]⟩) := Y.out.cell 0
        have x1 : w21.cell? ⟨w1.heap.size, 1, none⟩ = some (.bool false) := Y.out.cell 1
        have x2 : w21.cell? ⟨w1.heap.size, 2, none⟩ = some (.slice none 0 0) := Y.out.cell 2
        have x3 : w21.cell? ⟨w1.heap.size, 3, none⟩ = some (.int .u64 0) := Y.out.cell 3
        have x4 : w21.cell? ⟨w1.heap.size, 4, none⟩ = some (.int .i64 0) := Y.out.cell 4
        have x5 : w21.cell? ⟨w1.heap.size, 5, none⟩ = some (.int .i64 mo) := Y.out.cell 5
        have x6 : w21.cell? ⟨w1.heap.size, 6, none⟩ = some (.int .i64 wi) := Y.out.cell 6
        go_wp2_with fail
        (with_reducible refine (PL.out _ _ _ Q3.out).mono ?_)
        rintro e w22 ⟨rfl, b⟩
        clear x0 x1 x2 x3 x4 x5 x6
        have B5 := Lib.hid (below_on B4.out b)
        replace Y := Lib.hid (Y.out.below b Y.out.lt)
        replace Q1 := Lib.hid (Q1.out.on b)
        replace Q3 := Lib.hid (Q3.out.on b)
        clear b
        go_wp2_with fail
        go_roundw
        case rel => exact ⟨k + 1, 1, _, _, _, now + t, now + t, 1, by omega, rfl, rfl, rfl, rfl, by go_num, by omega, rfl, HI2.out, Q3.out, Y.out, B5.out⟩
        case measure => simp [intOf]; omega
      have qf : decide (first < 0) = false := decide_eq_false hf
      have qw : decide (wi ≤ now + t - first) = false := decide_eq_false hw
      obtain ⟨hLx, hma2, hma3, hyes, hno⟩ := bound_on HA.out HR.out ⟨by omega, hmo1⟩ ⟨by omega, hwi1⟩ HI.out ht0 (by omega) (by omega) (by omega)
      by_cases hlm : many < mo
      · have q0 : decide (many < mo) = true := decide_eq_true hlm
        obtain ⟨hsp, hI2, hl1⟩ := hyes hlm
        have PS := Lib.hid (fun A c w hs => Spend_k A n c Lx HLN.out (by omega) ⟨#[]⟩ false none 0 0 0 0 mo wi rule acc (now + t) [(acc, rule, first, many + 1)] 0 1 hsp rfl w hs)
        have PL := Lib.hid (fun A c w hs => Left_k A 1 c [(acc, rule, first, many + 1)] rfl (by omega) ⟨#[]⟩ false none 0 0 0 0 mo wi rule acc (now + t) (mo - (many + 1)) hl1 w hs)
        have HI2 := Lib.hid hI2
        clear hsp hl1 hI2 hyes hno hLx
        have x0 : wr.cell? ⟨w1.heap.size, 0, none⟩ = some (.string ⟨#[]⟩) := Y.out.cell 0
        have x1 : wr.cell? ⟨w1.heap.size, 1, none⟩ = some (.bool false) := Y.out.cell 1
        have x2 : wr.cell? ⟨w1.heap.size, 2, none⟩ = some (.slice none 0 0) := Y.out.cell 2
        have x3 : wr.cell? ⟨w1.heap.size, 3, none⟩ = some (.int .u64 0) := Y.out.cell 3
        have x4 : wr.cell? ⟨w1.heap.size, 4, none⟩ = some (.int .i64 0) := Y.out.cell 4
        have x5 : wr.cell? ⟨w1.heap.size, 5, none⟩ = some (.int .i64 mo) := Y.out.cell 5
        have x6 : wr.cell? ⟨w1.heap.size, 6, none⟩ = some (.int .i64 wi) := Y.out.cell 6
        go_wp2_with fail
        (with_reducible refine (PS.out _ _ _ Q1.out).mono ?_)
        rintro e w21 ⟨A3, c3, rfl, hcc, hq, b⟩
        clear x0 x1 x2 x3 x4 x5 x6
        have B4 := Lib.hid (below_on BB.out b)
        replace Y := Lib.hid (Y.out.below b Y.out.lt)
        replace Q1 := Lib.hid (Q1.out.on b)
        have Q3 := Lib.hid (hq)
        have Q3c := Lib.hid (hcc)
        clear b hq hcc
        have x0 : w21.cell? ⟨w1.heap.size, 0, none⟩ = some (.string ⟨#[]⟩) := Y.out.cell 0
        have x1 : w21.cell? ⟨w1.heap.size, 1, none⟩ = some (.bool false) := Y.out.cell 1
        have x2 : w21.cell? ⟨w1.heap.size, 2, none⟩ = some (.slice none 0 0) := Y.out.cell 2
        have x3 : w21.cell? ⟨w1.heap.size, 3, none⟩ = some (.int .u64 0) := Y.out.cell 3
        have x4 : w21.cell? ⟨w1.heap.size, 4, none⟩ = some (.int .i64 0) := Y.out.cell 4
        have x5 : w21.cell? ⟨w1.heap.size, 5, none⟩ = some (.int .i64 mo) := Y.out.cell 5
        have x6 : w21.cell? ⟨w1.heap.size, 6, none⟩ = some (.int .i64 wi) := Y.out.cell 6
        go_wp2_with fail
        (with_reducible refine (PL.out _ _ _ Q3.out).mono ?_)
        rintro e w22 ⟨rfl, b⟩
        clear x0 x1 x2 x3 x4 x5 x6
        have B5 := Lib.hid (below_on B4.out b)
        replace Y := Lib.hid (Y.out.below b Y.out.lt)
        replace Q1 := Lib.hid (Q1.out.on b)
        replace Q3 := Lib.hid (Q3.out.on b)
        clear b
        go_wp2_with fail
        go_roundw
        case rel => exact ⟨k + 1, 1, _, _, _, now + t, first, many + 1, by omega, rfl, rfl, rfl, rfl, by go_num, by omega, rfl, HI2.out, Q3.out, Y.out, B5.out⟩
        case measure => simp [intOf]; omega
      · have q0 : decide (many < mo) = false := decide_eq_false hlm
        obtain ⟨hsp, hI2, hl1⟩ := hno hlm
        have PS := Lib.hid (fun A c w hs => Spend_k A n c Lx HLN.out (by omega) ⟨#[]⟩ false none 0 0 0 0 mo wi rule acc (now + t) [] 170 0 hsp rfl w hs)
        have PL := Lib.hid (fun A c w hs => Left_k A n c Lx HLN.out (by omega) ⟨#[]⟩ false none 0 0 0 0 mo wi rule acc (now + t) (mo - many) hl1 w hs)
        have HI2 := Lib.hid hI2
        clear hsp hl1 hI2 hyes hno hLx
        have x0 : wr.cell? ⟨w1.heap.size, 0, none⟩ = some (.string ⟨#[]⟩) := Y.out.cell 0
        have x1 : wr.cell? ⟨w1.heap.size, 1, none⟩ = some (.bool false) := Y.out.cell 1
        have x2 : wr.cell? ⟨w1.heap.size, 2, none⟩ = some (.slice none 0 0) := Y.out.cell 2
        have x3 : wr.cell? ⟨w1.heap.size, 3, none⟩ = some (.int .u64 0) := Y.out.cell 3
        have x4 : wr.cell? ⟨w1.heap.size, 4, none⟩ = some (.int .i64 0) := Y.out.cell 4
        have x5 : wr.cell? ⟨w1.heap.size, 5, none⟩ = some (.int .i64 mo) := Y.out.cell 5
        have x6 : wr.cell? ⟨w1.heap.size, 6, none⟩ = some (.int .i64 wi) := Y.out.cell 6
        go_wp2_with fail
        (with_reducible refine (PS.out _ _ _ Q1.out).mono ?_)
        rintro e w21 ⟨A3, c3, rfl, hcc, hq, b⟩
        clear x0 x1 x2 x3 x4 x5 x6
        have B4 := Lib.hid (below_on BB.out b)
        replace Y := Lib.hid (Y.out.below b Y.out.lt)
        replace Q1 := Lib.hid (Q1.out.on b)
        have Q3 := Lib.hid (hq)
        have Q3c := Lib.hid (hcc)
        clear b hq hcc
        have x0 : w21.cell? ⟨w1.heap.size, 0, none⟩ = some (.string ⟨#[]⟩) := Y.out.cell 0
        have x1 : w21.cell? ⟨w1.heap.size, 1, none⟩ = some (.bool false) := Y.out.cell 1
        have x2 : w21.cell? ⟨w1.heap.size, 2, none⟩ = some (.slice none 0 0) := Y.out.cell 2
        have x3 : w21.cell? ⟨w1.heap.size, 3, none⟩ = some (.int .u64 0) := Y.out.cell 3
        have x4 : w21.cell? ⟨w1.heap.size, 4, none⟩ = some (.int .i64 0) := Y.out.cell 4
        have x5 : w21.cell? ⟨w1.heap.size, 5, none⟩ = some (.int .i64 mo) := Y.out.cell 5
        have x6 : w21.cell? ⟨w1.heap.size, 6, none⟩ = some (.int .i64 wi) := Y.out.cell 6
        go_wp2_with fail
        (with_reducible refine (PL.out _ _ _ Q1.out).mono ?_)
        rintro e w22 ⟨rfl, b⟩
        clear x0 x1 x2 x3 x4 x5 x6
        have B5 := Lib.hid (below_on B4.out b)
        replace Y := Lib.hid (Y.out.below b Y.out.lt)
        replace Q1 := Lib.hid (Q1.out.on b)
        replace Q3 := Lib.hid (Q3.out.on b)
        clear b
        go_wp2_with fail
        go_roundw
        case rel => exact ⟨k + 1, n, _, _, _, now + t, first, many, by omega, rfl, rfl, rfl, rfl, by go_num, by omega, HLN.out, HI2.out, Q1.out, Y.out, B5.out⟩
        case measure => simp [intOf]; omega
    · obtain rfl : k = N := by omega
      go_wp2_with fail
      go_ret
      exact ⟨rfl, BB.out⟩
end Go.Proofs.Ytnjmhijfaijopaa
