/- The walk of SieveOrder. (Printed by tools/gen_sieve_order.py.) -/
import Derived.Test.YtgkdkkppeeikoaaSieveH
namespace Go.Proofs.Ytgkdkkppeeikoaa
open Go.ChangeShapes Go.WideShapes Go.ChangeAt Go.RowKit Gs
set_option linter.unusedVariables false

set_option maxRecDepth 100000 in
set_option maxHeartbeats 8000000 in
theorem order_walk9 (L : Option Addr) (cl : Nat) (l : List Int) (bits hashes salt : Int) (W : World) (hL : SI W W.heap.size .i64 L l) (hlc : l.length ≤ cl) (hlm : cl ≤ maxLen) :
    Calls Try.prog 4 #[.slice L l.length cl, .int .i64 bits, .int .i64 hashes, .int .i64 salt] W fun e w' => e = .returned (.bool true) ∧ Below W.heap.size W w' := by
  unfold maxLen at hlm
  have hll : l.length ≤ 9223372036854775807 := by omega
  have HL0 := Lib.hid hL
  clear hL
  by_cases h30 : l.length ≤ 30
  rotate_left 1
  · have hgt : decide ((l.length : Int) ≤ 30) = false := decide_eq_false (by omega)
    go_enter Try.func4, Try.ntmps4
    go_wp2_with fail
    refine (live9 _).mono ?_; rintro e w0 ⟨rfl, b⟩
    have HB := Lib.hid b
    have HL := Lib.hid (HL0.out.on b)
    clear b
    go_wp2_with fail
    go_ret
    exact ⟨rfl, HB.out⟩
  have hgt : decide ((l.length : Int) ≤ 30) = true := decide_eq_true (by omega)
  obtain ⟨i0, hi, hz0, hz1, hz2⟩ := info_parts Try.info3
  have HI := Lib.hid (And.intro hi (And.intro hz0 (And.intro hz1 hz2)))
  clear hi hz0 hz1 hz2
  obtain ⟨bk, hbk⟩ : ∃ bk, l.reverse = bk := ⟨_, rfl⟩
  obtain ⟨lb, hlb⟩ : ∃ lb, l ++ bk = lb := ⟨_, rfl⟩
  have hbl : bk.length = l.length := by rw [← hbk, List.length_reverse]
  have HBKL := Lib.hid hbl
  have hbl30 : bk.length ≤ 30 := by omega
  have hlbl : lb.length ≤ 60 := by rw [← hlb, List.length_append]; omega
  have HBK := Lib.hid hbk
  have HLB := Lib.hid hlb
  have R1 := Lib.hid (show ofR bits hashes salt bk = ofR bits hashes salt l from ofR_same (fun n => by rw [← hbk, List.mem_reverse]))
  have R2 := Lib.hid (show ofR bits hashes salt lb = ofR bits hashes salt l from ofR_same (fun n => by rw [← hlb, ← hbk, List.mem_append, List.mem_reverse, or_self]))
  have OF := Lib.hid (fun X k c x hk hx W2 h => OfS_any bits hashes salt X k c x hk hx W2 h)
  clear hbk hlb hbl
  go_enter Try.func4, Try.ntmps4
  go_wp2_with fail
  refine (live9 _).mono ?_; rintro e w0 ⟨rfl, b⟩
  have HB := Lib.hid b
  have HL := Lib.hid (HL0.out.on b)
  clear b
  go_wp2_with fail
  have OE := Lib.hid (show OwnN (w0.alloc (.cells #[] 3)) w0.heap.size (.slice (some ⟨w0.heap.size, 0, none⟩) 0 0) [] from own_emptyN w0 (Nat.le_refl _) rfl)
  have BE := Lib.hid (nb0 w0 (.cells #[] 3))
  go_loopw [9, 10] (fun v i wr => ∃ k : Nat, k ≤ l.length ∧ i = .int .i64 ((k : Int) - 1) ∧ OwnN wr w0.heap.size v ((l.drop k).reverse) ∧ Below w0.heap.size w0 wr) (fun _ i _ => (intOf i + 1).toNat)
  case atStart => exact ⟨l.length, by omega, rfl, by rw [List.drop_length]; exact OE.out, BE.out⟩
  case round =>
    obtain ⟨k, hk, rfl, ho, hbr⟩ := hrel
    have HO := Lib.hid ho
    have BR := Lib.hid hbr
    have LR := Lib.hid (HL.out.on hbr)
    clear ho hbr
    by_cases hlt : 0 < k
    · obtain ⟨j, rfl⟩ : ∃ j, k = j + 1 := ⟨k - 1, by omega⟩
      obtain ⟨ad, rfl, _, hc⟩ := LR.out j (by omega)
      have hjl : j < l.length := by omega
      rw [List.getElem?_eq_getElem hjl] at hc
      simp only [Option.getD_some] at hc
      have HD := Lib.hid (drop_reverse l j hjl)
      obtain ⟨rv, hrv⟩ : ∃ rv, (l.drop (j + 1)).reverse = rv := ⟨_, rfl⟩
      have hrl : rv.length ≤ 30 := by rw [← hrv, List.length_reverse, List.length_drop]; omega
      rw [hrv] at HO HD
      clear hrv
      generalize l[j] = x at hc HD
      have ej : ((j + 1 : Nat) : Int) - 1 = (j : Int) := by omega
      rw [ej]
      clear ej
      have hz := BR.out.size
      go_wp2_with (at_builtin; refine wpList_append_own _ rfl _ _ 22 rfl w0.heap.size 3 i0 (.int .i64 0) 1 8 Try.underlying22 HI.out.1 HI.out.2.1 HI.out.2.2.1 HI.out.2.2.2 rfl (by decide) _ _ _ rfl (HO.out.alloc _) ⟨wr.heap.size, 0, none⟩ 1 1 [.int .i64 x] rfl rfl (cell_one_new _ _ _) (by simp [Value.oneCell']) (by unfold maxLen; omega) (by omega) (by simp; omega) ?_; intro v' w2 hown' hgrow _; have HO2 := Lib.hid hown'; have HG := Lib.hid hgrow; clear hown' hgrow)
      go_roundw
      case rel =>
        refine ⟨j, by omega, rfl, ?_, ?_⟩
        · rw [HD.out]; exact own_n HO2.out (by simp) (by simp)
        · exact (BR.out.alloc BR.out.size _).grown HG.out (by simp; omega) (fun g e => own_ge HO.out g e)
      case measure => simp [intOf]
    · obtain rfl : k = 0 := by omega
      have hO := HO.out
      rw [List.drop_zero, HBK.out] at hO
      obtain ⟨Ab, cb, rfl, _, _, hbs, _⟩ := own_sliceN hO
      have SBK := Lib.hid hbs
      have HBw := Lib.hid (belowOn HB.out BR.out)
      clear hO hbs HO HB
      go_wp2_with fail
      refine (OF.out L _ cl l rfl (by omega) _ LR.out).mono ?_; rintro e w2 ⟨⟨A1, n1, c1, rfl, hn1, hm1, hs1⟩, b⟩
      have HBw := Lib.hid (belowOn HBw.out b)
      have SBK := Lib.hid (SBK.out.on b)
      have LR := Lib.hid (LR.out.on b)
      have S1 := Lib.hid (hs1)
      have N1 := Lib.hid hn1
      clear b hs1 hn1
      obtain ⟨r, hr⟩ : ∃ r, ofR bits hashes salt l = r := ⟨_, rfl⟩
      rw [hr] at S1 N1 R1 R2 ⊢
      clear hr
      have na := nb0 w2 (.cells #[.int .i64 r.b, .int .i64 r.h, .int .i64 r.s, .slice A1 n1 c1] 26)
      have HBw := Lib.hid (belowOn HBw.out na)
      have SBK := Lib.hid (SBK.out.on na)
      have LR := Lib.hid (LR.out.on na)
      have S1 := Lib.hid (S1.out.on na)
      have X1 := Lib.hid (show Blk (w2.alloc (.cells #[.int .i64 r.b, .int .i64 r.h, .int .i64 r.s, .slice A1 n1 c1] 26)) w2.heap.size 26 #[.int .i64 r.b, .int .i64 r.h, .int .i64 r.s, .slice A1 n1 c1] from Blk.new_at _ _ _ rfl)
      clear na
      go_wp2_with fail
      refine (OF.out Ab _ cb bk rfl (by omega) _ SBK.out).mono ?_; rintro e w3 ⟨⟨A2, n2, c2, rfl, hn2, hm2, hs2⟩, b⟩
      rw [R1.out] at hn2 hs2 ⊢
      have HBw := Lib.hid (belowOn HBw.out b)
      have SBK := Lib.hid (SBK.out.on b)
      have LR := Lib.hid (LR.out.on b)
      have S1 := Lib.hid (S1.out.on b)
      have X1 := Lib.hid (X1.out.below b X1.out.lt)
      have S2 := Lib.hid (hs2)
      have N2 := Lib.hid hn2
      clear b hs2 hn2
      have na := nb0 w3 (.cells #[.int .i64 r.b, .int .i64 r.h, .int .i64 r.s, .slice A2 n2 c2] 26)
      have HBw := Lib.hid (belowOn HBw.out na)
      have SBK := Lib.hid (SBK.out.on na)
      have LR := Lib.hid (LR.out.on na)
      have S1 := Lib.hid (S1.out.on na)
      have X1 := Lib.hid (X1.out.below na X1.out.lt)
      have S2 := Lib.hid (S2.out.on na)
      have X2 := Lib.hid (show Blk (w3.alloc (.cells #[.int .i64 r.b, .int .i64 r.h, .int .i64 r.s, .slice A2 n2 c2] 26)) w3.heap.size 26 #[.int .i64 r.b, .int .i64 r.h, .int .i64 r.s, .slice A2 n2 c2] from Blk.new_at _ _ _ rfl)
      clear na
      have OEa := Lib.hid (own_emptyN (w3.alloc (.cells #[.int .i64 r.b, .int .i64 r.h, .int .i64 r.s, .slice A2 n2 c2] 26)) (B := w3.heap.size + 1) (g := w3.heap.size + 1) (by simp <;> omega) (by simp))
      have BEa := Lib.hid (nb0 (w3.alloc (.cells #[.int .i64 r.b, .int .i64 r.h, .int .i64 r.s, .slice A2 n2 c2] 26)) (.cells #[] 3))
      have RLa := Lib.hid (show Reads ((w3.alloc (.cells #[.int .i64 r.b, .int .i64 r.h, .int .i64 r.s, .slice A2 n2 c2] 26)).alloc (.cells #[] 3)) (w3.alloc (.cells #[.int .i64 r.b, .int .i64 r.h, .int .i64 r.s, .slice A2 n2 c2] 26)).heap.size 1 L l.length (l.map (Value.int .i64)) from (reads_si LR.out).alloc (Nat.le_refl _) _)
      go_wp2_with (first | (at_builtin; refine wpList_append_any _ (by rfl) (.tmp 54) (.tmp 55) _ rfl (w3.heap.size + 1) 3 i0 (.int .i64 0) 1 8 Try.underlying22 HI.out.1 HI.out.2.1 HI.out.2.2.1 HI.out.2.2.2 rfl (by decide) _ 0 [] (by rfl) OEa.out (w3.alloc (.cells #[.int .i64 r.b, .int .i64 r.h, .int .i64 r.s, .slice A2 n2 c2] 26)).heap.size _ l.length _ (l.map (Value.int .i64)) rfl RLa.out (one_i64 _) (by unfold maxLen; omega) (by omega) (by simp <;> omega) ?_; intro va wa hoa hga _; have HOa := Lib.hid hoa; have HBa := Lib.hid (show Below (w3.alloc (.cells #[.int .i64 r.b, .int .i64 r.h, .int .i64 r.s, .slice A2 n2 c2] 26)).heap.size (w3.alloc (.cells #[.int .i64 r.b, .int .i64 r.h, .int .i64 r.s, .slice A2 n2 c2] 26)) wa from BEa.out.grown hga (by simp) (fun k e => by simp [Value.ownBlock] at e; subst e; simp)); have RLb := Lib.hid (show Reads wa (w3.alloc (.cells #[.int .i64 r.b, .int .i64 r.h, .int .i64 r.s, .slice A2 n2 c2] 26)).heap.size 1 Ab bk.length (bk.map (Value.int .i64)) from (reads_si SBK.out).below HBa.out); have hza := HBa.out.size; clear hoa hga) | (at_builtin; refine wpList_append_any _ (by rfl) (.tmp 56) (.tmp 57) _ rfl (w3.heap.size + 1) 3 i0 (.int .i64 0) 1 8 Try.underlying22 HI.out.1 HI.out.2.1 HI.out.2.2.1 HI.out.2.2.2 rfl (by decide) va (0 + l.length) ([] ++ l.map (Value.int .i64)) rfl HOa.out (w3.alloc (.cells #[.int .i64 r.b, .int .i64 r.h, .int .i64 r.s, .slice A2 n2 c2] 26)).heap.size _ bk.length _ (bk.map (Value.int .i64)) rfl RLb.out (one_i64 _) (by unfold maxLen; omega) (by omega) (by first | omega | (simp at hza; omega)) ?_; intro vb wb hob hgb _; obtain ⟨A5, c5, rfl, _, _, hsb, _⟩ := own_sliceN (own_n (xs := lb) hob (by rw [← HLB.out]; simp) (by rw [← HLB.out]; simp)); have HSb := Lib.hid hsb; have HBb := Lib.hid (show Below (w3.alloc (.cells #[.int .i64 r.b, .int .i64 r.h, .int .i64 r.s, .slice A2 n2 c2] 26)).heap.size (w3.alloc (.cells #[.int .i64 r.b, .int .i64 r.h, .int .i64 r.s, .slice A2 n2 c2] 26)) wb from HBa.out.grown hgb hza (fun k e => by have := own_ge HOa.out k e; simp at this ⊢; omega)); clear hob hgb hsb))
      have HBw := Lib.hid (belowOn HBw.out HBb.out)
      have SBK := Lib.hid (SBK.out.on HBb.out)
      have LR := Lib.hid (LR.out.on HBb.out)
      have S1 := Lib.hid (S1.out.on HBb.out)
      have X1 := Lib.hid (X1.out.below HBb.out X1.out.lt)
      have S2 := Lib.hid (S2.out.on HBb.out)
      have X2 := Lib.hid (X2.out.below HBb.out X2.out.lt)
      have SLB := Lib.hid (show SI wb wb.heap.size .i64 A5 lb from HSb.out)
      refine (OF.out A5 _ c5 lb rfl (by omega) _ SLB.out).mono ?_; rintro e w4 ⟨⟨A3, n3, c3, rfl, hn3, hm3, hs3⟩, b⟩
      rw [R2.out] at hn3 hs3 ⊢
      have HBw := Lib.hid (belowOn HBw.out b)
      have SBK := Lib.hid (SBK.out.on b)
      have LR := Lib.hid (LR.out.on b)
      have S1 := Lib.hid (S1.out.on b)
      have X1 := Lib.hid (X1.out.below b X1.out.lt)
      have S2 := Lib.hid (S2.out.on b)
      have X2 := Lib.hid (X2.out.below b X2.out.lt)
      have SLB := Lib.hid (SLB.out.on b)
      have S3 := Lib.hid (hs3)
      have N3 := Lib.hid hn3
      clear b hs3 hn3
      have na := nb0 w4 (.cells #[.int .i64 r.b, .int .i64 r.h, .int .i64 r.s, .slice A3 n3 c3] 26)
      have HBw := Lib.hid (belowOn HBw.out na)
      have SBK := Lib.hid (SBK.out.on na)
      have LR := Lib.hid (LR.out.on na)
      have S1 := Lib.hid (S1.out.on na)
      have X1 := Lib.hid (X1.out.below na X1.out.lt)
      have S2 := Lib.hid (S2.out.on na)
      have X2 := Lib.hid (X2.out.below na X2.out.lt)
      have SLB := Lib.hid (SLB.out.on na)
      have S3 := Lib.hid (S3.out.on na)
      have X3 := Lib.hid (show Blk (w4.alloc (.cells #[.int .i64 r.b, .int .i64 r.h, .int .i64 r.s, .slice A3 n3 c3] 26)) w4.heap.size 26 #[.int .i64 r.b, .int .i64 r.h, .int .i64 r.s, .slice A3 n3 c3] from Blk.new_at _ _ _ rfl)
      clear na
      have e1 : (r.e == r.e) = true := by simp
      obtain ⟨x0, x1, x2, x3⟩ := X1.out.facts4
      obtain ⟨y0, y1, y2, y3⟩ := X2.out.facts4
      go_wp2_with fail
      refine (refSame_yes r.b r.h r.s A1 A2 n1 c1 n2 c2 r.B N1.out N2.out _ S1.out S2.out).mono ?_; rintro e w5 ⟨rfl, b⟩
      have HBw := Lib.hid (belowOn HBw.out b)
      have SBK := Lib.hid (SBK.out.on b)
      have LR := Lib.hid (LR.out.on b)
      have S1 := Lib.hid (S1.out.on b)
      have X1 := Lib.hid (X1.out.below b X1.out.lt)
      have S2 := Lib.hid (S2.out.on b)
      have X2 := Lib.hid (X2.out.below b X2.out.lt)
      have SLB := Lib.hid (SLB.out.on b)
      have S3 := Lib.hid (S3.out.on b)
      have X3 := Lib.hid (X3.out.below b X3.out.lt)
      clear b x0 x1 x2 x3 y0 y1 y2 y3
      obtain ⟨x0, x1, x2, x3⟩ := X1.out.facts4
      obtain ⟨y0, y1, y2, y3⟩ := X3.out.facts4
      go_wp2_with fail
      refine (refSame_yes r.b r.h r.s A1 A3 n1 c1 n3 c3 r.B N1.out N3.out _ S1.out S3.out).mono ?_; rintro e w6 ⟨rfl, b⟩
      have HBw := Lib.hid (belowOn HBw.out b)
      have SBK := Lib.hid (SBK.out.on b)
      have LR := Lib.hid (LR.out.on b)
      have S1 := Lib.hid (S1.out.on b)
      have X1 := Lib.hid (X1.out.below b X1.out.lt)
      have S2 := Lib.hid (S2.out.on b)
      have X2 := Lib.hid (X2.out.below b X2.out.lt)
      have SLB := Lib.hid (SLB.out.on b)
      have S3 := Lib.hid (S3.out.on b)
      have X3 := Lib.hid (X3.out.below b X3.out.lt)
      clear b x0 x1 x2 x3 y0 y1 y2 y3
      go_wp2_with fail
      go_ret
      exact ⟨rfl, HBw.out⟩
end Go.Proofs.Ytgkdkkppeeikoaa
