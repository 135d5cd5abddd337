/- The walk of SieveNever. (Printed by tools/gen_sieve_never.py.) -/
import Derived.Test.YtgkdkkppeeikoaaSieveLive
import Derived.Test.YtgkdkkppeeikoaaRound
namespace Go.Proofs.Ytgkdkkppeeikoaa
open Go.ChangeShapes Go.WideShapes Go.ChangeAt Go.RowKit Gs
set_option linter.unusedVariables false

theorem filter_has {bits hashes salt : Int} (h : mayN bits hashes salt = true) {l : List Int} (hr : rights l = true) : l.filter (hasS bits hashes salt (ofB bits hashes salt l)) = l :=
  List.filter_eq_self.2 fun n hn => has_of h hr hn

set_option maxRecDepth 100000 in
set_option maxHeartbeats 8000000 in
theorem never_walk9 (L : Option Addr) (cl : Nat) (l : List Int) (bits hashes salt : Int) (W : World) (hL : SI W W.heap.size .i64 L l) (hlc : l.length ≤ cl) (hlm : cl ≤ maxLen) :
    Calls Try.prog 3 #[.slice L l.length cl, .int .i64 bits, .int .i64 hashes, .int .i64 salt] W fun e w' => e = .returned (.bool true) ∧ Below W.heap.size W w' := by
  unfold maxLen at hlm
  have hll : l.length ≤ 9223372036854775807 := by omega
  have HL0 := Lib.hid hL
  have HB0 := Lib.hid (Below.refl W.heap.size W)
  clear hL
  by_cases h60 : l.length ≤ 60
  rotate_left 1
  · have hgt : decide ((l.length : Int) ≤ 60) = false := decide_eq_false (by omega)
    go_enter Try.func3, Try.ntmps3
    go_wp2_with fail
    refine (live9 _).mono ?_; rintro e w0 ⟨rfl, b⟩
    have HB := Lib.hid b
    have HL := Lib.hid (HL0.out.on b)
    clear b
    go_wp2_with fail
    go_ret
    exact ⟨rfl, HB.out⟩
  cases hm : mayN bits hashes salt
  · have NO := Lib.hid (Of_no bits hashes salt hm)
    clear hm
    go_enter Try.func3, Try.ntmps3
    go_wp2_with fail
    refine (live9 _).mono ?_; rintro e w0 ⟨rfl, b⟩
    have HB := Lib.hid b
    have HL := Lib.hid (HL0.out.on b)
    clear b
    go_wp2_with fail
    refine (NO.out _ _).mono ?_; rintro e w1 ⟨rfl, b⟩
    have HB := Lib.hid (belowOn HB.out b)
    have HL := Lib.hid (HL.out.on b)
    clear b
    go_wp2_with fail
    go_ret
    exact ⟨rfl, HB.out.alloc HB.out.size _⟩
  · have OF := Lib.hid (Of_may bits hashes salt hm L cl l (by omega))
    have HM := Lib.hid hm
    have hmb := (mayN_iff.1 hm).1
    obtain ⟨m, hm8⟩ : ∃ m : Nat, (bits / 8).toNat = m := ⟨_, rfl⟩
    have hm1 : m ≤ 1024 := by omega
    unfold OfEnd at OF
    rw [hm8] at OF
    have HM8 := Lib.hid hm8
    clear hm hmb hm8
    go_enter Try.func3, Try.ntmps3
    go_wp2_with fail
    refine (live9 _).mono ?_; rintro e w0 ⟨rfl, b⟩
    have HB := Lib.hid b
    have HL := Lib.hid (HL0.out.on b)
    clear b
    go_wp2_with fail
    refine (OF.out _ HL.out).mono ?_; rintro e w1 ⟨b, ⟨hr, g, cap, rfl, ho⟩ | ⟨hr, rfl⟩⟩
    rotate_left 1
    · have HB := Lib.hid (belowOn HB.out b)
      clear b
      go_wp2_with fail
      go_ret
      exact ⟨rfl, HB.out.alloc HB.out.size _⟩
    have HB := Lib.hid (belowOn HB.out b)
    have HL := Lib.hid (HL.out.on b)
    have S1 := Lib.hid (si_rows ho)
    have HLEN := Lib.hid (row_len ho)
    have HR := Lib.hid hr
    clear ho b hr
    have na := nb0 w1 (.cells #[.int .i64 bits, .int .i64 hashes, .int .i64 salt, .slice (some ⟨g, 0, none⟩) m cap] 26)
    have HB := Lib.hid (belowOn HB.out na)
    have HL := Lib.hid (HL.out.on na)
    have S1 := Lib.hid (S1.out.on na)
    have XS := Lib.hid (show Blk (w1.alloc (.cells #[.int .i64 bits, .int .i64 hashes, .int .i64 salt, .slice (some ⟨g, 0, none⟩) m cap] 26)) w1.heap.size 26 #[.int .i64 bits, .int .i64 hashes, .int .i64 salt, .slice (some ⟨g, 0, none⟩) m cap] from Blk.new_at _ _ _ rfl)
    clear na
    go_wp2_with fail
    generalize w1.heap.size = gx at XS ⊢
    refine wp_named (fun W1 => Below W.heap.size W W1 ∧ SI W1 W1.heap.size .i64 L l ∧ SI W1 W1.heap.size .u8 (some ⟨g, 0, none⟩) (ofB bits hashes salt l) ∧ Blk W1 gx 26 #[.int .i64 bits, .int .i64 hashes, .int .i64 salt, .slice (some ⟨g, 0, none⟩) m cap]) ⟨HB.out, HL.out, S1.out, XS.out⟩ ?_
    clear HB HL S1 XS
    rintro W1 ⟨hb1, hl1, hs1, hx1⟩
    have HB := Lib.hid hb1
    have HL := Lib.hid hl1
    have S1 := Lib.hid hs1
    have XS := Lib.hid hx1
    clear hb1 hl1 hs1 hx1
    have HF := Lib.hid (filter_has HM.out HR.out)
    have HH := Lib.hid (fun n W2 hs => Has_any bits hashes salt (some ⟨g, 0, none⟩) m cap (ofB bits hashes salt l) (ofB_by _ _ _ _) HLEN.out (by unfold maxLen; omega) n W2 hs)
    have HSO := Lib.hid (fun W2 hs hL => Some_any bits hashes salt (some ⟨g, 0, none⟩) m cap (ofB bits hashes salt l) (ofB_by _ _ _ _) HLEN.out (by unfold maxLen; omega) L cl l (by omega) W2 hs hL)
    rw [HF.out] at HSO
    have HCH := Lib.hid (show chkS bits hashes salt m = true by have := chk_of HM.out l; rwa [HLEN.out] at this)
    go_loopw [11] (fun i wr => ∃ k : Nat, k ≤ l.length ∧ i = .int .i64 (k : Int) ∧ Below W1.heap.size W1 wr) (fun i _ => l.length - (intOf i).toNat)
    case atStart => exact ⟨0, by omega, rfl, Below.refl _ _⟩
    case round =>
      obtain ⟨k, hk, rfl, hbr⟩ := hrel
      have BR := Lib.hid hbr
      have XR := Lib.hid (XS.out.below hbr XS.out.lt)
      have SR := Lib.hid (S1.out.on hbr)
      have LR := Lib.hid (HL.out.on hbr)
      clear hbr
      by_cases hlt : k < l.length
      · obtain ⟨ad, rfl, _, hc⟩ := LR.out k hlt
        rw [List.getElem?_eq_getElem hlt] at hc
        simp only [Option.getD_some] at hc
        have HN := Lib.hid (has_of HM.out HR.out (List.getElem_mem hlt))
        generalize l[k] = n at hc HN
        obtain ⟨c0, c1, c2, c3⟩ := XR.out.facts4
        go_wp2_with fail
        go_still_tail 5, (by kernel_rfl)
        change wpList _ _ _ _ _ wr.drew
        have BD := Lib.hid (show Below wr.heap.size wr wr.drew from (Below.refl wr.heap.size wr).drew)
        have SD : SI wr.drew wr.drew.heap.size .u8 (some ⟨g, 0, none⟩) (ofB bits hashes salt l) := SR.out
        have SD := Lib.hid SD
        clear c0 c1 c2 c3 hc
        go_wp2_with fail
        refine (HH.out n _ SD.out).mono ?_; rintro e w3 ⟨rfl, b⟩
        rw [HN.out]
        have BR2 := Lib.hid (belowOn BR.out (belowOn BD.out b))
        clear b
        go_wp2_with fail
        go_roundw
        case rel => exact ⟨k + 1, by omega, by go_num, BR2.out⟩
        case measure => simp [intOf]; omega
      · obtain rfl : k = l.length := by omega
        obtain ⟨c0, c1, c2, c3⟩ := XR.out.facts4
        go_wp2_with fail
        refine (Check_ok HCH.out _ _ (by unfold maxLen; omega) _).mono ?_; rintro e w3 ⟨rfl, b⟩
        clear c0 c1 c2 c3
        have BR := Lib.hid (belowOn BR.out b)
        have XR := Lib.hid (XR.out.below b XR.out.lt)
        have SR := Lib.hid (SR.out.on b)
        have LR := Lib.hid (LR.out.on b)
        clear b
        obtain ⟨c0, c1, c2, c3⟩ := XR.out.facts4
        go_wp2_with fail
        refine (HSO.out _ SR.out LR.out).mono ?_; rintro e w4 ⟨v, rfl, ho, b⟩
        obtain ⟨A4, c4, rfl, _, _, h4, _⟩ := own_sliceN ho
        have S4 := Lib.hid h4
        clear c0 c1 c2 c3 ho h4
        have BR := Lib.hid (belowOn BR.out b)
        have XR := Lib.hid (XR.out.below b XR.out.lt)
        have SR := Lib.hid (SR.out.on b)
        have LR := Lib.hid (LR.out.on b)
        clear b
        go_wp2_with fail
        refine (refInts_yes _ _ l.length l.length _ _ l rfl rfl _ _ _ (by omega) S4.out LR.out).mono ?_; rintro e w5 ⟨rfl, nd, rfl⟩
        go_wp2_with fail
        go_ret
        exact ⟨rfl, HB.out.trans ((below_drewN BR.out nd).mono HB.out.size)⟩
end Go.Proofs.Ytgkdkkppeeikoaa
