/- The walk of SieveGrows. (Printed by tools/gen_sieve_grows.py.) -/
import Derived.Test.YtgkdkkppeeikoaaSieveG
namespace Go.Proofs.Ytgkdkkppeeikoaa
open Go.ChangeShapes Go.WideShapes Go.ChangeAt Go.RowKit Gs
set_option linter.unusedVariables false

theorem chk_len {bits hashes salt : Int} {len : Nat} (h : chkS bits hashes salt len = true) : 1 ≤ len ∧ len ≤ 1024 := by
  obtain ⟨hm, hl⟩ := chkS_iff.1 h
  have := (mayN_iff.1 hm).1
  omega

set_option maxRecDepth 100000 in
set_option maxHeartbeats 8000000 in
theorem grows_walk9 (bits hashes salt : Int) (A : Option Addr) (len c : Nat) (B : List Int) (n m : Int) (W : World) (hBl : B.length = len) (hnc : len ≤ c) (hcm : c ≤ maxLen) (hs : SI W W.heap.size .u8 A B) (hB : IsBy B) :
    Calls Try.prog 5 #[svV bits hashes salt A len c, .int .i64 n, .int .i64 m] W fun e w' => e = .returned (.bool true) ∧ Below W.heap.size W w' := by
  have hn : len ≤ maxLen := Nat.le_trans hnc hcm
  have FW := Lib.hid (few_any9 bits hashes salt A len c hn none 0 0 (by unfold maxLen; omega))
  have HB0 := Lib.hid (nb0 W (.cells #[.int .i64 bits, .int .i64 hashes, .int .i64 salt, .slice A len c] 26))
  have HS0 := Lib.hid (hs.on HB0.out)
  have HX0 := Lib.hid (Blk.new W 26 #[.int .i64 bits, .int .i64 hashes, .int .i64 salt, .slice A len c])
  have HN := Lib.hid hn
  have HBL := Lib.hid hBl
  have HBY := Lib.hid hB
  clear hn hBl hB hnc hcm
  cases hf : fewB len 0
  · clear hs
    go_enter Try.func5, Try.ntmps5
    go_wp2_with fail
    refine (live9 _).mono ?_; rintro e w0 ⟨rfl, b⟩
    have HB := Lib.hid (belowOn HB0.out b)
    have HS := Lib.hid (HS0.out.on b)
    have HX := Lib.hid (HX0.out.below b HX0.out.lt)
    clear b
    obtain ⟨q0, q1, q2, q3⟩ := HX.out.facts4
    go_wp2_with fail
    refine (FW.out _).mono ?_; rintro e w1 ⟨rfl, b⟩
    rw [hf]
    have HB := Lib.hid (belowOn HB.out b)
    have HS := Lib.hid (HS.out.on b)
    have HX := Lib.hid (HX.out.below b HX.out.lt)
    clear b q0 q1 q2 q3
    obtain ⟨q0, q1, q2, q3⟩ := HX.out.facts4
    go_wp2_with fail
    go_ret
    exact ⟨rfl, HB.out⟩
  cases hc : chkS bits hashes salt len
  · have NO := Lib.hid (Put_no bits hashes salt A len c hc HN.out n)
    clear hc hs
    go_enter Try.func5, Try.ntmps5
    go_wp2_with fail
    refine (live9 _).mono ?_; rintro e w0 ⟨rfl, b⟩
    have HB := Lib.hid (belowOn HB0.out b)
    have HS := Lib.hid (HS0.out.on b)
    have HX := Lib.hid (HX0.out.below b HX0.out.lt)
    clear b
    obtain ⟨q0, q1, q2, q3⟩ := HX.out.facts4
    go_wp2_with fail
    refine (FW.out _).mono ?_; rintro e w1 ⟨rfl, b⟩
    rw [hf]
    have HB := Lib.hid (belowOn HB.out b)
    have HS := Lib.hid (HS.out.on b)
    have HX := Lib.hid (HX.out.below b HX.out.lt)
    clear b q0 q1 q2 q3
    obtain ⟨q0, q1, q2, q3⟩ := HX.out.facts4
    go_wp2_with fail
    refine (NO.out _).mono ?_; rintro e w2 ⟨rfl, b⟩
    have HB := Lib.hid (belowOn HB.out b)
    have HS := Lib.hid (HS.out.on b)
    have HX := Lib.hid (HX.out.below b HX.out.lt)
    clear b q0 q1 q2 q3
    go_wp2_with fail
    go_ret
    exact ⟨rfl, HB.out.alloc HB.out.size _⟩
  have hl := chk_len hc
  have hl1 := hl.1
  have hl2 := hl.2
  obtain ⟨ad, rfl, _⟩ := hs 0 (by have := HBL.out; omega)
  have HC := Lib.hid hc
  have PT := Lib.hid (fun W2 h => Put_chk bits hashes salt ad len c B HBY.out HBL.out hc (by omega) n W2 h)
  clear hc hs hl
  go_enter Try.func5, Try.ntmps5
  go_wp2_with fail
  refine (live9 _).mono ?_; rintro e w0 ⟨rfl, b⟩
  have HB := Lib.hid (belowOn HB0.out b)
  have HS := Lib.hid (HS0.out.on b)
  have HX := Lib.hid (HX0.out.below b HX0.out.lt)
  clear b
  obtain ⟨q0, q1, q2, q3⟩ := HX.out.facts4
  go_wp2_with fail
  refine (FW.out _).mono ?_; rintro e w1 ⟨rfl, b⟩
  rw [hf]
  have HB := Lib.hid (belowOn HB.out b)
  have HS := Lib.hid (HS.out.on b)
  have HX := Lib.hid (HX.out.below b HX.out.lt)
  clear b q0 q1 q2 q3
  obtain ⟨q0, q1, q2, q3⟩ := HX.out.facts4
  go_wp2_with fail
  refine (PT.out _ HS.out).mono ?_; rintro e w2 ⟨b, ⟨hr, g, cap, rfl, ho⟩ | ⟨hr, rfl⟩⟩
  rotate_left 1
  · have HB := Lib.hid (belowOn HB.out b)
    clear b q0 q1 q2 q3
    go_wp2_with fail
    go_ret
    exact ⟨rfl, HB.out.alloc HB.out.size _⟩
  have HB := Lib.hid (belowOn HB.out b)
  have HS := Lib.hid (HS.out.on b)
  have HX := Lib.hid (HX.out.below b HX.out.lt)
  have SX := Lib.hid (si_rows ho)
  have HRR := Lib.hid hr
  have HLX := Lib.hid (row_len ho)
  clear b ho hr q0 q1 q2 q3 HB0 HS0 HX0 FW
  have na := nb0 w2 (.cells #[.int .i64 bits, .int .i64 hashes, .int .i64 salt, .slice (some ⟨g, 0, none⟩) len cap] 26)
  have HB := Lib.hid (belowOn HB.out na)
  have HS := Lib.hid (HS.out.on na)
  have HX := Lib.hid (HX.out.below na HX.out.lt)
  have SX := Lib.hid (SX.out.on na)
  have XX := Lib.hid (show Blk (w2.alloc (.cells #[.int .i64 bits, .int .i64 hashes, .int .i64 salt, .slice (some ⟨g, 0, none⟩) len cap] 26)) w2.heap.size 26 #[.int .i64 bits, .int .i64 hashes, .int .i64 salt, .slice (some ⟨g, 0, none⟩) len cap] from Blk.new_at _ _ _ rfl)
  clear na
  obtain ⟨C, hCe⟩ : ∃ C, putB B (pl bits hashes salt n) = C := ⟨_, rfl⟩
  have HCE := Lib.hid hCe
  rw [hCe] at SX HLX
  have hCby : IsBy C := by rw [← hCe]; exact putB_by _ HBY.out
  have HCB := Lib.hid hCby
  have HK := Lib.hid (fun (h : hasS bits hashes salt B m = true) => show hasS bits hashes salt C m = true by rw [← hCe]; exact put_keeps (by rw [HBL.out]; exact HC.out) n h)
  have HPn := Lib.hid (show hasS bits hashes salt C n = true by rw [← hCe]; exact put_has (by rw [HBL.out]; exact HC.out) HRR.out)
  have HOR := Lib.hid (fun i => show orB (B[i]?.getD 0) (C[i]?.getD 0) = C[i]?.getD 0 by rw [← hCe]; exact put_or HBY.out (by rw [HBL.out]; exact HC.out) n i)
  have HTW := Lib.hid (show putB C (pl bits hashes salt n) = C by rw [← hCe]; exact put_twice HBY.out (by rw [HBL.out]; exact HC.out) n)
  have HAs := Lib.hid (fun W2 h => Has_any bits hashes salt (some ad) len c B HBY.out HBL.out HN.out m W2 h)
  have HAx := Lib.hid (fun x W2 h => Has_any bits hashes salt (some ⟨g, 0, none⟩) len cap C hCby HLX.out HN.out x W2 h)
  have P2 := Lib.hid (fun W2 h => Put_chk bits hashes salt ⟨g, 0, none⟩ len cap C hCby HLX.out HC.out (by omega) n W2 h)
  clear hCe hCby
  obtain ⟨q0, q1, q2, q3⟩ := HX.out.facts4
  obtain ⟨x0, x1, x2, x3⟩ := XX.out.facts4
  go_wp2_with fail
  refine (HAs.out _ HS.out).mono ?_; rintro e w3 ⟨rfl, b⟩
  have HB := Lib.hid (belowOn HB.out b)
  have HS := Lib.hid (HS.out.on b)
  have HX := Lib.hid (HX.out.below b HX.out.lt)
  have SX := Lib.hid (SX.out.on b)
  have XX := Lib.hid (XX.out.below b XX.out.lt)
  clear b q0 q1 q2 q3 x0 x1 x2 x3
  obtain ⟨q0, q1, q2, q3⟩ := HX.out.facts4
  obtain ⟨x0, x1, x2, x3⟩ := XX.out.facts4
  cases hsm : hasS bits hashes salt B m
  · clear hsm
    go_wp2_with fail
    refine wp_named (fun W1 => Below W.heap.size W W1 ∧ SI W1 W1.heap.size .u8 (some ad) B ∧ SI W1 W1.heap.size .u8 (some ⟨g, 0, none⟩) C ∧ Blk W1 W.heap.size 26 #[.int .i64 bits, .int .i64 hashes, .int .i64 salt, .slice (some ad) len c] ∧ Blk W1 w2.heap.size 26 #[.int .i64 bits, .int .i64 hashes, .int .i64 salt, .slice (some ⟨g, 0, none⟩) len cap]) ⟨HB.out, HS.out, SX.out, HX.out, XX.out⟩ ?_
    clear HB HS SX HX XX q0 q1 q2 q3 x0 x1 x2 x3
    rintro W1 ⟨h1, h2, h3, h4, h5⟩
    have HB := Lib.hid h1
    have HS := Lib.hid h2
    have SX := Lib.hid h3
    have HX := Lib.hid h4
    have XX := Lib.hid h5
    clear h1 h2 h3 h4 h5
    go_loopw [9] (fun i wr => ∃ k : Nat, k ≤ len ∧ i = .int .i64 (k : Int) ∧ Below W1.heap.size W1 wr) (fun i _ => len - (intOf i).toNat)
    case atStart => exact ⟨0, by omega, rfl, Below.refl _ _⟩
    case round =>
      obtain ⟨k, hk, rfl, hbr⟩ := hrel
      have BR := Lib.hid hbr
      have HS := Lib.hid (HS.out.on hbr)
      have SX := Lib.hid (SX.out.on hbr)
      have HX := Lib.hid (HX.out.below hbr HX.out.lt)
      have XX := Lib.hid (XX.out.below hbr XX.out.lt)
      clear hbr
      obtain ⟨q0, q1, q2, q3⟩ := HX.out.facts4
      obtain ⟨x0, x1, x2, x3⟩ := XX.out.facts4
      by_cases hlt : k < len
      · obtain ⟨a1, e1, _, hc1⟩ := HS.out k (by rw [HBL.out]; exact hlt)
        cases e1
        obtain ⟨a2, e2, _, hc2⟩ := SX.out k (by rw [HLX.out]; exact hlt)
        cases e2
        rw [add_zero_off] at hc2
        have hor := HOR.out k
        have hb1 := at_by HBY.out k
        have hb2 := at_by HCB.out k
        generalize B[k]?.getD 0 = xb at hc1 hor hb1
        generalize C[k]?.getD 0 = yb at hc2 hor hb2
        have ho2 : Go.bits .or .u8 xb yb = yb := by rw [or_u8 _ _ hb1 hb2]; exact hor
        have hne : (yb != yb) = false := by simp
        clear hor
        go_wp2_with fail
        go_quiet (fail)
        go_wp2_with fail
        go_roundw
        case rel => exact ⟨k + 1, by omega, by go_num, below_drewN BR.out nq⟩
        case measure => simp [intOf]; omega
      · obtain rfl : len = k := by omega
        go_wp2_with fail
        refine (P2.out _ SX.out).mono ?_; rintro e w5 ⟨b, ⟨hr, g2, cap2, rfl, ho⟩ | ⟨hr, _⟩⟩
        rotate_left 1
        · rw [HRR.out] at hr; cases hr
        rw [HTW.out] at ho
        have BR := Lib.hid (belowOn BR.out b)
        have HS := Lib.hid (HS.out.on b)
        have SX := Lib.hid (SX.out.on b)
        have HX := Lib.hid (HX.out.below b HX.out.lt)
        have XX := Lib.hid (XX.out.below b XX.out.lt)
        have SY := Lib.hid (si_rows ho)
        have HLY := Lib.hid (row_len ho)
        clear b ho hr q0 q1 q2 q3 x0 x1 x2 x3
        have na := nb0 w5 (.cells #[.int .i64 bits, .int .i64 hashes, .int .i64 salt, .slice (some ⟨g2, 0, none⟩) len cap2] 26)
        have BR := Lib.hid (belowOn BR.out na)
        have HS := Lib.hid (HS.out.on na)
        have SX := Lib.hid (SX.out.on na)
        have HX := Lib.hid (HX.out.below na HX.out.lt)
        have XX := Lib.hid (XX.out.below na XX.out.lt)
        have SY := Lib.hid (SY.out.on na)
        have YY := Lib.hid (show Blk (w5.alloc (.cells #[.int .i64 bits, .int .i64 hashes, .int .i64 salt, .slice (some ⟨g2, 0, none⟩) len cap2] 26)) w5.heap.size 26 #[.int .i64 bits, .int .i64 hashes, .int .i64 salt, .slice (some ⟨g2, 0, none⟩) len cap2] from Blk.new_at _ _ _ rfl)
        clear na
        obtain ⟨x0, x1, x2, x3⟩ := XX.out.facts4
        go_wp2_with fail
        refine (HAx.out n _ SX.out).mono ?_; rintro e w6 ⟨rfl, b⟩
        rw [HPn.out]
        have BR := Lib.hid (belowOn BR.out b)
        have HS := Lib.hid (HS.out.on b)
        have SX := Lib.hid (SX.out.on b)
        have HX := Lib.hid (HX.out.below b HX.out.lt)
        have XX := Lib.hid (XX.out.below b XX.out.lt)
        have SY := Lib.hid (SY.out.on b)
        have YY := Lib.hid (YY.out.below b YY.out.lt)
        clear b x0 x1 x2 x3
        obtain ⟨x0, x1, x2, x3⟩ := XX.out.facts4
        obtain ⟨y0, y1, y2, y3⟩ := YY.out.facts4
        go_wp2_with fail
        refine (refSame_yes bits hashes salt _ _ len _ len _ C HLX.out HLY.out _ SX.out SY.out).mono ?_; rintro e w7 ⟨rfl, b⟩
        have BR := Lib.hid (belowOn BR.out b)
        have HS := Lib.hid (HS.out.on b)
        have SX := Lib.hid (SX.out.on b)
        have HX := Lib.hid (HX.out.below b HX.out.lt)
        have XX := Lib.hid (XX.out.below b XX.out.lt)
        have SY := Lib.hid (SY.out.on b)
        have YY := Lib.hid (YY.out.below b YY.out.lt)
        clear b x0 x1 x2 x3 y0 y1 y2 y3
        obtain ⟨x0, x1, x2, x3⟩ := XX.out.facts4
        obtain ⟨q0, q1, q2, q3⟩ := HX.out.facts4
        have e1 : (bits == bits) = true := by simp
        have e2 : (hashes == hashes) = true := by simp
        have e3 : (salt == salt) = true := by simp
        go_wp2_with fail
        go_ret
        exact ⟨rfl, HB.out.trans (BR.out.mono HB.out.size)⟩
  · have HKT := Lib.hid (HK.out hsm)
    clear hsm
    go_wp2_with fail
    refine (HAx.out m _ SX.out).mono ?_; rintro e w4 ⟨rfl, b⟩
    rw [HKT.out]
    have HB := Lib.hid (belowOn HB.out b)
    have HS := Lib.hid (HS.out.on b)
    have HX := Lib.hid (HX.out.below b HX.out.lt)
    have SX := Lib.hid (SX.out.on b)
    have XX := Lib.hid (XX.out.below b XX.out.lt)
    clear b q0 q1 q2 q3 x0 x1 x2 x3
    obtain ⟨q0, q1, q2, q3⟩ := HX.out.facts4
    obtain ⟨x0, x1, x2, x3⟩ := XX.out.facts4
    go_wp2_with fail
    refine wp_named (fun W1 => Below W.heap.size W W1 ∧ SI W1 W1.heap.size .u8 (some ad) B ∧ SI W1 W1.heap.size .u8 (some ⟨g, 0, none⟩) C ∧ Blk W1 W.heap.size 26 #[.int .i64 bits, .int .i64 hashes, .int .i64 salt, .slice (some ad) len c] ∧ Blk W1 w2.heap.size 26 #[.int .i64 bits, .int .i64 hashes, .int .i64 salt, .slice (some ⟨g, 0, none⟩) len cap]) ⟨HB.out, HS.out, SX.out, HX.out, XX.out⟩ ?_
    clear HB HS SX HX XX q0 q1 q2 q3 x0 x1 x2 x3
    rintro W1 ⟨h1, h2, h3, h4, h5⟩
    have HB := Lib.hid h1
    have HS := Lib.hid h2
    have SX := Lib.hid h3
    have HX := Lib.hid h4
    have XX := Lib.hid h5
    clear h1 h2 h3 h4 h5
    go_loopw [9] (fun i wr => ∃ k : Nat, k ≤ len ∧ i = .int .i64 (k : Int) ∧ Below W1.heap.size W1 wr) (fun i _ => len - (intOf i).toNat)
    case atStart => exact ⟨0, by omega, rfl, Below.refl _ _⟩
    case round =>
      obtain ⟨k, hk, rfl, hbr⟩ := hrel
      have BR := Lib.hid hbr
      have HS := Lib.hid (HS.out.on hbr)
      have SX := Lib.hid (SX.out.on hbr)
      have HX := Lib.hid (HX.out.below hbr HX.out.lt)
      have XX := Lib.hid (XX.out.below hbr XX.out.lt)
      clear hbr
      obtain ⟨q0, q1, q2, q3⟩ := HX.out.facts4
      obtain ⟨x0, x1, x2, x3⟩ := XX.out.facts4
      by_cases hlt : k < len
      · obtain ⟨a1, e1, _, hc1⟩ := HS.out k (by rw [HBL.out]; exact hlt)
        cases e1
        obtain ⟨a2, e2, _, hc2⟩ := SX.out k (by rw [HLX.out]; exact hlt)
        cases e2
        rw [add_zero_off] at hc2
        have hor := HOR.out k
        have hb1 := at_by HBY.out k
        have hb2 := at_by HCB.out k
        generalize B[k]?.getD 0 = xb at hc1 hor hb1
        generalize C[k]?.getD 0 = yb at hc2 hor hb2
        have ho2 : Go.bits .or .u8 xb yb = yb := by rw [or_u8 _ _ hb1 hb2]; exact hor
        have hne : (yb != yb) = false := by simp
        clear hor
        go_wp2_with fail
        go_quiet (fail)
        go_wp2_with fail
        go_roundw
        case rel => exact ⟨k + 1, by omega, by go_num, below_drewN BR.out nq⟩
        case measure => simp [intOf]; omega
      · obtain rfl : len = k := by omega
        go_wp2_with fail
        refine (P2.out _ SX.out).mono ?_; rintro e w5 ⟨b, ⟨hr, g2, cap2, rfl, ho⟩ | ⟨hr, _⟩⟩
        rotate_left 1
        · rw [HRR.out] at hr; cases hr
        rw [HTW.out] at ho
        have BR := Lib.hid (belowOn BR.out b)
        have HS := Lib.hid (HS.out.on b)
        have SX := Lib.hid (SX.out.on b)
        have HX := Lib.hid (HX.out.below b HX.out.lt)
        have XX := Lib.hid (XX.out.below b XX.out.lt)
        have SY := Lib.hid (si_rows ho)
        have HLY := Lib.hid (row_len ho)
        clear b ho hr q0 q1 q2 q3 x0 x1 x2 x3
        have na := nb0 w5 (.cells #[.int .i64 bits, .int .i64 hashes, .int .i64 salt, .slice (some ⟨g2, 0, none⟩) len cap2] 26)
        have BR := Lib.hid (belowOn BR.out na)
        have HS := Lib.hid (HS.out.on na)
        have SX := Lib.hid (SX.out.on na)
        have HX := Lib.hid (HX.out.below na HX.out.lt)
        have XX := Lib.hid (XX.out.below na XX.out.lt)
        have SY := Lib.hid (SY.out.on na)
        have YY := Lib.hid (show Blk (w5.alloc (.cells #[.int .i64 bits, .int .i64 hashes, .int .i64 salt, .slice (some ⟨g2, 0, none⟩) len cap2] 26)) w5.heap.size 26 #[.int .i64 bits, .int .i64 hashes, .int .i64 salt, .slice (some ⟨g2, 0, none⟩) len cap2] from Blk.new_at _ _ _ rfl)
        clear na
        obtain ⟨x0, x1, x2, x3⟩ := XX.out.facts4
        go_wp2_with fail
        refine (HAx.out n _ SX.out).mono ?_; rintro e w6 ⟨rfl, b⟩
        rw [HPn.out]
        have BR := Lib.hid (belowOn BR.out b)
        have HS := Lib.hid (HS.out.on b)
        have SX := Lib.hid (SX.out.on b)
        have HX := Lib.hid (HX.out.below b HX.out.lt)
        have XX := Lib.hid (XX.out.below b XX.out.lt)
        have SY := Lib.hid (SY.out.on b)
        have YY := Lib.hid (YY.out.below b YY.out.lt)
        clear b x0 x1 x2 x3
        obtain ⟨x0, x1, x2, x3⟩ := XX.out.facts4
        obtain ⟨y0, y1, y2, y3⟩ := YY.out.facts4
        go_wp2_with fail
        refine (refSame_yes bits hashes salt _ _ len _ len _ C HLX.out HLY.out _ SX.out SY.out).mono ?_; rintro e w7 ⟨rfl, b⟩
        have BR := Lib.hid (belowOn BR.out b)
        have HS := Lib.hid (HS.out.on b)
        have SX := Lib.hid (SX.out.on b)
        have HX := Lib.hid (HX.out.below b HX.out.lt)
        have XX := Lib.hid (XX.out.below b XX.out.lt)
        have SY := Lib.hid (SY.out.on b)
        have YY := Lib.hid (YY.out.below b YY.out.lt)
        clear b x0 x1 x2 x3 y0 y1 y2 y3
        obtain ⟨x0, x1, x2, x3⟩ := XX.out.facts4
        obtain ⟨q0, q1, q2, q3⟩ := HX.out.facts4
        have e1 : (bits == bits) = true := by simp
        have e2 : (hashes == hashes) = true := by simp
        have e3 : (salt == salt) = true := by simp
        go_wp2_with fail
        go_ret
        exact ⟨rfl, HB.out.trans (BR.out.mono HB.out.size)⟩
end Go.Proofs.Ytgkdkkppeeikoaa
