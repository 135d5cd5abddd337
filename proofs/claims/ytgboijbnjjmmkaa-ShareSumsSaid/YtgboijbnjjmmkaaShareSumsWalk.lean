/- The walk of the law ShareSums. -/
import Derived.Test.YtgboijbnjjmmkaaShareSumsMath
import Derived.Test.YtgboijbnjjmmkaaShareBoth
import Derived.Deep.AppendLies
namespace Go.Proofs.Ytgboijbnjjmmkaa
open Go.ChangeShapes Go.WideShapes Go.ChangeAt Go.RowKit Gs
set_option linter.unusedVariables false

theorem own_oneC (w : World) (x : Int) : (w.alloc (.cells #[.int .u8 x] 5)).ownsRow w.heap.size 5 1 (.slice (some ⟨w.heap.size, 0, none⟩) 1 1) 1 [.int .u8 x] :=
  ⟨rfl, .inr ⟨_, 1, #[.int .u8 x], rfl, Nat.le_refl _, World.alloc_heap_new w _, Nat.le_refl _, by unfold maxLen; omega, rfl, rfl⟩⟩
/-- Split tells some shares, and an error where a secret may not be split. -/
theorem split_told (s t n : Int) (s0 : 0 ≤ s) (A : Option Addr) (c : Nat) (xs : List Int) (hx : ∀ x ∈ xs, 0 ≤ x ∧ x < 256) (hl : xs.length ≤ 1000) (hc : xs.length ≤ c) (hm : c ≤ maxLen) (w : World) (hs : SI w w.heap.size .u8 A xs) :
    Calls Try.prog 13 #[.int .u64 s, .int .i64 t, .int .i64 n, .slice A xs.length c] w fun r w' => ∃ (v : Value) (e : Int), r = .returned (.tuple #[v, .int .i64 e]) ∧ Below w.heap.size w w' := by
  by_cases h : SplitI s t n
  · obtain ⟨t1, tn, n7, s1⟩ := h
    obtain ⟨T, rfl⟩ := Int.eq_ofNat_of_zero_le (show 0 ≤ t by omega)
    obtain ⟨N, rfl⟩ := Int.eq_ofNat_of_zero_le (show 0 ≤ n by omega)
    exact (Split_ok s T N s0 (by omega) (by omega) (by omega) s1 A c xs hx hl hc hm w hs).mono fun r w' ⟨v, e, _, b⟩ => ⟨v, 0, e, b⟩
  · exact (Split_bad s t n s0 h _ w).mono fun r w' ⟨e, b⟩ => ⟨_, 1, e, b⟩
theorem mix_all (m : Int) (S U : List (Int × Int)) : ∀ p ∈ List.zipWith (mixS m) S U, Rb p.2 := fun p hp => by
  obtain ⟨i, hi, rfl⟩ := List.getElem_of_mem hp
  rw [List.getElem_zipWith]
  exact radd_bound _ _
theorem join_mix {c d : List Int} {N : Nat} {S U : List (Int × Int)} (h : Good c N S) (g : Good d N U) (e : S.map Prod.fst = U.map Prod.fst) (hN : N ≤ 7) (h1 : 1 ≤ S.length) (h7 : S.length ≤ 7) (hc : c.length ≤ S.length) (hd : d.length ≤ S.length) {a b : Int} (ha : pval 0 c = a) (hb : pval 0 d = b) (m : Int) (A : Option Addr) (cp n : Nat) (hn : S.length = n) (hlc : n ≤ cp) (hm : cp ≤ maxLen) (w : World) (hS : SS w w.heap.size A (List.zipWith (mixS m) S U)) :
    Calls Try.prog 18 #[.slice A n cp] w fun r w' => r = .returned (.tuple #[.int .u64 (radd a (rmul b m)), .int .i64 0]) ∧ Below w.heap.size w w' := by
  have hl : (List.zipWith (mixS m) S U).length = n := by have := congrArg List.length (mix_fst m S U e); simp only [List.length_map] at this; omega
  have hu := mix_all m S U
  have J := Join_any A cp (List.zipWith (mixS m) S U) (S.map Prod.fst) (mix_fst m S U e) (by omega) (by omega) hm (fun p hp => by have := hu p hp; unfold Rb at this; omega) w hS
  rw [hl] at J
  refine J.mono fun r w' ⟨h2, h3⟩ => ⟨?_, h3⟩
  rw [h2.2.1 (fun e => by rw [e] at hl; simp at hl; omega) ⟨h.right hN h1 h7, List.all_eq_true.2 fun p hp => by have := hu p hp; unfold Rb at this; exact decide_eq_true (by omega)⟩, sums h g e hN h1 h7 hc hd ha hb m]
theorem csplit_fst (c d : List Int) (n : Nat) : (csplit c n).map Prod.fst = (csplit d n).map Prod.fst := by
  unfold csplit; rw [List.map_map, List.map_map]; rfl

set_option maxRecDepth 100000 in
set_option maxHeartbeats 8000000 in
theorem sums_walk5 (a b t n : Int) [ha0 : IsU a] [hb0 : IsU b] (A : Option Addr) (c : Nat) (xs : List Int) (m : Int) [hm0 : IsU m] (w : World) (hs : SI w w.heap.size .u8 A xs) (hc : xs.length ≤ c) (hm : c ≤ maxLen) (hx : ∀ n ∈ xs, (Lit.int .u8 n).wf = true) :
    Calls Try.prog 8 #[.int .u64 a, .int .u64 b, .int .i64 t, .int .i64 n, .slice A xs.length c, .int .u64 m] w fun e w' => e = .returned (.bool true) ∧ Below w.heap.size w w' := by
  have HS := Lib.hid hs
  have B0 := Lib.hid (Below.refl w.heap.size w)
  have hx := fun n hn => u8_wf (hx n hn)
  have a0 := ha0.1
  have b0 := hb0.1
  clear hs
  obtain ⟨i0, hi, hz0, hz1, hz2⟩ := info_parts Try.info5
  have HI := Lib.hid (And.intro hi (And.intro hz0 (And.intro hz1 hz2)))
  obtain ⟨j0, hj, hy0, hy1, hy2⟩ := info_parts Try.info43
  have HJ := Lib.hid (And.intro hj (And.intro hy0 (And.intro hy1 hy2)))
  clear hi hz0 hz1 hz2 hj hy0 hy1 hy2
  by_cases h1 : xs.length ≤ 300
  · obtain ⟨ys, hys⟩ : ∃ ys : List Int, [1] ++ xs = ys := ⟨_, rfl⟩
    have hyl : ys.length = 1 + xs.length := by rw [← hys]; simp; omega
    have hyb : ∀ y ∈ ys, 0 ≤ y ∧ y < 256 := by
      intro y hy
      rw [← hys] at hy
      rcases List.mem_append.1 hy with h | h
      · simp at h; omega
      · exact hx y h
    have HYB := Lib.hid (show ([Value.int .u8 1] ++ xs.map (Value.int .u8)) = ys.map (Value.int .u8) by rw [← hys]; simp)
    have HYL := Lib.hid hyl
    by_cases hsa : SplitI a t n
    · by_cases hsb : SplitI b t n
      · obtain ⟨t1, tn, n7, a1⟩ := hsa
        have b1 : b < 1152921504606845789 := hsb.2.2.2
        obtain ⟨T, rfl⟩ := Int.eq_ofNat_of_zero_le (show 0 ≤ t by omega)
        obtain ⟨N, rfl⟩ := Int.eq_ofNat_of_zero_le (show 0 ≤ n by omega)
        have hT1 : 1 ≤ T := by omega
        have hTN : T ≤ N := by omega
        have hN7 : N ≤ 7 := by omega
        obtain ⟨k0, hk0⟩ : ∃ k0 : Nat, k0 + T = N := ⟨N - T, by omega⟩
        have P1 := Lib.hid (Split_ok a T N a0 hT1 hTN hN7 a1 A c xs hx (by omega) hc hm)
        have P2 := Lib.hid (fun A6 c6 h1 h2 w hs => Split_ok b T N b0 hT1 hTN hN7 b1 A6 c6 ys hyb (by omega) h1 h2 w hs)
        have HC := Lib.hid (cpoly_length a xs T)
        have HD := Lib.hid (cpoly_length b ys T)
        have HP := Lib.hid (cpoly_head (s := a) xs hT1 ⟨a0, a1⟩)
        have HQ := Lib.hid (cpoly_head (s := b) ys hT1 ⟨b0, b1⟩)
        generalize cpoly a xs T = cc at P1 HC HP
        generalize cpoly b ys T = dd at P2 HD HQ
        have HN := Lib.hid (csplit_length cc N)
        have HN2 := Lib.hid (csplit_length dd N)
        have HG := Lib.hid ((csplit_good cc N).drop k0)
        have HG2 := Lib.hid ((csplit_good dd N).drop k0)
        have HF := Lib.hid (show ((csplit cc N).drop k0).map Prod.fst = ((csplit dd N).drop k0).map Prod.fst by rw [List.map_drop, List.map_drop, csplit_fst cc dd])
        have HU := Lib.hid (csplit_good cc N).u
        have HU2 := Lib.hid (csplit_good dd N).u
        generalize csplit cc N = l at P1 HN HG HF HU
        generalize csplit dd N = l2 at P2 HN2 HG2 HF HU2
        have HL := Lib.hid (show (l.drop k0).length = T by rw [List.length_drop, HN.out]; omega)
        have P3 := Lib.hid (fun A cp => join_mix HG.out HG2.out HF.out hN7 (by rw [HL.out]; omega) (by rw [HL.out]; omega) (by rw [HL.out, HC.out]; omega) (by rw [HL.out, HD.out]; omega) HP.out HQ.out m A cp T HL.out)
        obtain ⟨Z, hZ⟩ : ∃ Z, List.zipWith (mixS m) (l.drop k0) (l2.drop k0) = Z := ⟨_, rfl⟩
        have HZL := Lib.hid (show Z.length = T by rw [← hZ, List.length_zipWith, HL.out, List.length_drop, HN2.out]; omega)
        have HZ := Lib.hid (show ∀ (i : Nat) (h : i < T) (g : k0 + i < N), Z[i]'(by rw [HZL.out]; exact h) = ((l[k0 + i]'(by rw [HN.out]; exact g)).1, radd (l[k0 + i]'(by rw [HN.out]; exact g)).2 (rmul (l2[k0 + i]'(by rw [HN2.out]; exact g)).2 m)) by
          intro i h g; subst hZ; rw [List.getElem_zipWith, List.getElem_drop, List.getElem_drop]; rfl)
        rw [hZ] at P3
        have HM1 := Lib.hid (MulR_r b m)
        have HM2 := Lib.hid (AddR_r a (rmul b m))
        have hwk : (N : Int) - (T : Int) = (k0 : Int) := by omega
        have HWK := Lib.hid hwk
        have q1 : decide (N < T) = false := decide_eq_false (by omega)
        have q2 : decide ((T : Int) < 1) = false := decide_eq_false (by omega)
        have q3 : decide ((300 : Int) < (xs.length : Int)) = false := decide_eq_false (by omega)
        clear hx hyb hm hys hZ hsb hwk hyl
        go_enter Try.func8, Try.ntmps8
        go_wp2_with fail
        refine (live5 _).mono ?_; rintro _ w1 ⟨rfl, b⟩; have B1 := Lib.hid (below_on B0.out b); clear b
        go_wp2_with fail
        refine (P1.out _ (HS.out.on B1.out)).mono ?_; rintro _ w2 ⟨v1, rfl, ho, b⟩
        obtain ⟨D1, d1, rfl, _, _, hs, _⟩ := own_sliceS ho
        have B2 := Lib.hid (below_on B1.out b)
        have S2 := Lib.hid hs
        have hz2 := B2.out.size
        clear b ho hs
        rw [HN.out]
        go_wp2_with (at_builtin; refine wpList_append_any _ rfl _ _ 23 rfl w2.heap.size 5 i0 (.int .u8 0) 1 1 Try.underlying23 HI.out.1 HI.out.2.1 HI.out.2.2.1 HI.out.2.2.2 rfl (by decide) _ 1 [.int .u8 1] rfl (own_oneC w2 1) _ _ xs.length _ (xs.map (Value.int .u8)) rfl (reads_on (reads_si (HS.out.on B2.out)) ((Below.refl _ _).alloc (Nat.le_refl _) _)) (fun u hu => by obtain ⟨x, _, rfl⟩ := List.mem_map.1 hu; rfl) (by unfold maxLen; omega) (by omega) (by simp) ?_; intro v' w6 hown' hgrow _; have HO7 := Lib.hid hown'; have HGr := Lib.hid hgrow; clear hown' hgrow)
        have B26 := Lib.hid (((Below.refl w2.heap.size w2).alloc (Nat.le_refl _) (.cells #[.int .u8 1] 5)).grown HGr.out (by simp) (fun g e => own_ge (own_oneC w2 1) g e))
        have B6 := Lib.hid (below_on B2.out B26.out)
        have hob : OwnB w6 w2.heap.size v' ys := own_b HO7.out (by rw [HYL.out]) HYB.out
        obtain ⟨A6, c6, rfl, hc6, hm6, hs6, _⟩ := own_sliceB hob
        have HC6 := Lib.hid hc6
        have HM6 := Lib.hid hm6
        have HS6 := Lib.hid hs6
        clear hob hc6 hm6 hs6 HO7 HGr
        go_wp2_with fail
        refine (P2.out A6 c6 HC6.out HM6.out _ HS6.out).mono ?_; rintro _ w7 ⟨v1, rfl, ho, b⟩
        obtain ⟨D2, d2, rfl, _, _, hs, _⟩ := own_sliceS ho
        have B7 := Lib.hid (below_on B6.out b)
        have S7 := Lib.hid ((S2.out.on B26.out).on b)
        have U7 := Lib.hid hs
        clear b ho hs
        rw [HN2.out]
        go_wp2_with fail
        rw [HWK.out]
        have hz7 := B7.out.size
        go_loopw [17, 18] (fun o j wr => ∃ q : Nat, k0 ≤ q ∧ q ≤ N ∧ j = .int .i64 q ∧ OwnS wr w7.heap.size o (Z.take (q - k0)) ∧ Below w7.heap.size w7 wr) (fun _ j _ => N - (intOf j).toNat)
        case atStart => exact ⟨k0, by omega, by omega, rfl, by rw [Nat.sub_self]; exact own_noneS w7 (Nat.le_refl _), (Below.refl _ _).alloc (Nat.le_refl _) _⟩
        case round =>
          obtain ⟨q, hkq, hqN, rfl, ho, hd⟩ := hrel
          have HO := Lib.hid ho
          have HE := Lib.hid hd
          have hz := hd.size
          clear ho hd
          by_cases hlt : q < N
          · have hq1 : q < l.length := by rw [HN.out]; exact hlt
            have hq2 : q < l2.length := by rw [HN2.out]; exact hlt
            obtain ⟨ad, rfl, had, c0, c1⟩ := (S7.out.below HE.out) q hq1
            obtain ⟨ae, rfl, hae, c2, c3⟩ := (U7.out.below HE.out) q hq2
            clear c2
            have hx := HU.out (l[q]'hq1) (List.getElem_mem _)
            have hy := HU2.out (l2[q]'hq2) (List.getElem_mem _)
            haveI : IsU (l[q]'hq1).2 := ⟨hx.1, hx.2⟩
            haveI : IsU (l2[q]'hq2).2 := ⟨hy.1, hy.2⟩
            have hZ := HZ.out (q - k0) (by omega) (by omega)
            have eq0 : k0 + (q - k0) = q := by omega
            simp only [eq0] at hZ
            have HT := Lib.hid (show Z.take (q + 1 - k0) = Z.take (q - k0) ++ [((l[q]'hq1).1, radd (l[q]'hq1).2 (rmul (l2[q]'hq2).2 m))] by
              rw [show q + 1 - k0 = q - k0 + 1 by omega, List.take_succ_eq_append_getElem (by rw [HZL.out]; omega), hZ])
            have HLen := Lib.hid (show (Z.take (q - k0)).length = q - k0 by rw [List.length_take, HZL.out]; omega)
            have P4 := Lib.hid (MulR_r (l2[q]'hq2).2 m)
            have P5 := Lib.hid (AddR_r (l[q]'hq1).2 (rmul (l2[q]'hq2).2 m))
            have hbk : (ad.add (q * 2)).block < wr.heap.size := by rw [block_of_add]; omega
            have hbk2 : (ae.add (q * 2)).block < wr.heap.size := by rw [block_of_add]; omega
            have hbk' : (ad.add (q * 2)).block < w7.heap.size := by rw [block_of_add]; omega
            have hbk2' : (ae.add (q * 2)).block < w7.heap.size := by rw [block_of_add]; omega
            clear hx hy hZ eq0
            generalize (l[q]'hq1).1 = e1 at c0 HT
            generalize (l[q]'hq1).2 = e2 at *
            generalize (l2[q]'hq2).2 = e3 at *
            generalize rmul e3 m = e4 at *
            generalize radd e2 e4 = e5 at *
            obtain ⟨k, hk⟩ : ∃ k, q - k0 = k := ⟨_, rfl⟩
            rw [hk] at HO HLen HT
            have HO2 := Lib.hid (show wr.ownsRow w7.heap.size 43 2 _ k (cells2 (Z.take k)) by have h := HO.out; unfold OwnS at h; rw [HLen.out] at h; exact h)
            go_wp2_with fail
            have hd : wr.heap.size ≤ wr.drew.heap.size := Nat.le_refl _
            go_region_held_law (fun w' => w'.cell? (ad.add (q * 2)) = some (.int .i64 e1) ∧ w'.cell? ⟨(ad.add (q * 2)).block, (ad.add (q * 2)).off + 1, none⟩ = some (.int .u64 e2) ∧ w'.cell? ⟨(ae.add (q * 2)).block, (ae.add (q * 2)).off + 1, none⟩ = some (.int .u64 e3)) (first | exact ⟨by assumption, by assumption, by assumption⟩ | go_keep)
              (first
                | (go_at_call 28; refine (P4.out _).mono ?_; rintro e w5 ⟨rfl, b5⟩; have hW := (Below.refl wr.heap.size wr).drew.trans (b5.mono (by omega)); have k0' := (hW.cell (p := ad.add (q * 2)) hbk).trans c0; have k1' := (hW.cell (p := ⟨(ad.add (q * 2)).block, (ad.add (q * 2)).off + 1, none⟩) hbk).trans c1; have k3' := (hW.cell (p := ⟨(ae.add (q * 2)).block, (ae.add (q * 2)).off + 1, none⟩) hbk2).trans c3)
                | (go_at_call 27; refine (P5.out _).mono ?_; rintro e w' ⟨rfl, rfl⟩)
                | (refine step_append_any (by rfl) _ _ _ (by rfl) w7.heap.size 43 j0 (.agg #[.int .i64 0, .int .u64 0]) 2 16 Try.underlying24 HJ.out.1 HJ.out.2.1 HJ.out.2.2.1 HJ.out.2.2.2 (by rfl) (by decide) _ k (cells2 (Z.take k)) (by rfl) (own_below HO2.out (hW.alloc hW.size _)) _ _ 1 _ (cells2 [(e1, e5)]) (by rfl) (reads_new (Blk.new_at _ _ _ (by rfl)) 1 rfl) (cells2_one _) (by unfold maxLen; omega) (by omega) (by have := hW.size; simp; omega) ?_; intro v4 w4 ho4 hb4; have hX := ((hW.mono hz).alloc (by have := hW.size; omega) _).trans hb4; have k0' := (hX.cell (p := ad.add (q * 2)) hbk').trans c0; have k1' := (hX.cell (p := ⟨(ad.add (q * 2)).block, (ad.add (q * 2)).off + 1, none⟩) hbk').trans c1; have k3' := (hX.cell (p := ⟨(ae.add (q * 2)).block, (ae.add (q * 2)).off + 1, none⟩) hbk2').trans c3))
            have HX := Lib.hid hX
            have HO4 := Lib.hid ho4
            clear hX ho4 hb4 k0' k1' k3' hW c0 c1 c3
            go_wp2_with fail
            go_roundw
            case rel =>
              refine ⟨q + 1, by omega, by omega, by go_num, ?_, HE.out.trans HX.out⟩
              have h := HO4.out
              rw [← cells2_append] at h
              rw [HT.out]
              exact own_s h (by rw [List.length_append, HLen.out]; rfl) rfl
            case measure => simp [intOf]; omega
          · obtain rfl : q = N := by omega
            have hZt : Z.take (q - k0) = Z := List.take_of_length_le (by rw [HZL.out]; omega)
            have ho := HO.out
            rw [hZt] at ho
            obtain ⟨D3, d3, rfl, hd1, hd2, hs, _⟩ := own_sliceS ho
            have S8 := Lib.hid hs
            have B8 := Lib.hid (B7.out.trans (HE.out.mono hz7))
            rw [HZL.out] at hd1 ⊢
            have HD1 := Lib.hid hd1
            have HD2 := Lib.hid hd2
            clear ho hs hd1 hd2
            go_wp2_with fail
            refine (P3.out D3 d3 HD1.out HD2.out _ S8.out).mono ?_; rintro _ w9 ⟨rfl, b⟩
            have B9 := Lib.hid (below_on B8.out b)
            clear b
            go_wp2_with fail
            refine (HM1.out _).mono ?_; rintro _ w10 ⟨rfl, b⟩
            have B10 := Lib.hid (below_on B9.out b)
            clear b
            go_wp2_with fail
            refine (HM2.out _).mono ?_; rintro _ w11 ⟨rfl, rfl⟩
            go_wp2_with fail
            go_ret
            exact ⟨by simp, B10.out⟩
      · have P1 := Lib.hid (split_told a t n a0 A c xs hx (by omega) hc hm)
        have P2 := Lib.hid (fun v w => Split_bad b t n b0 hsb v w)
        clear hx hyb hm hys hsa hsb hyl
        go_enter Try.func8, Try.ntmps8
        go_wp2_with fail
        refine (live5 _).mono ?_; rintro _ w1 ⟨rfl, b⟩; have B1 := Lib.hid (below_on B0.out b); clear b
        go_wp2_with fail
        refine (P1.out _ (HS.out.on B1.out)).mono ?_; rintro _ w2 ⟨v1, e1, rfl, b⟩
        have B2 := Lib.hid (below_on B1.out b)
        have hz2 := B2.out.size
        clear b
        go_wp2_with (at_builtin; refine wpList_append_any _ rfl _ _ 23 rfl w2.heap.size 5 i0 (.int .u8 0) 1 1 Try.underlying23 HI.out.1 HI.out.2.1 HI.out.2.2.1 HI.out.2.2.2 rfl (by decide) _ 1 [.int .u8 1] rfl (own_oneC w2 1) _ _ xs.length _ (xs.map (Value.int .u8)) rfl (reads_on (reads_si (HS.out.on B2.out)) ((Below.refl _ _).alloc (Nat.le_refl _) _)) (fun u hu => by obtain ⟨x, _, rfl⟩ := List.mem_map.1 hu; rfl) (by unfold maxLen; omega) (by omega) (by simp) ?_; intro v' w6 hown' hgrow _; have HO7 := Lib.hid hown'; have HGr := Lib.hid hgrow; clear hown' hgrow)
        have B26 := Lib.hid (((Below.refl w2.heap.size w2).alloc (Nat.le_refl _) (.cells #[.int .u8 1] 5)).grown HGr.out (by simp) (fun g e => own_ge (own_oneC w2 1) g e))
        have B6 := Lib.hid (below_on B2.out B26.out)
        have hob : OwnB w6 w2.heap.size v' ys := own_b HO7.out (by rw [HYL.out]) HYB.out
        obtain ⟨A6, c6, rfl, hc6, hm6, hs6, _⟩ := own_sliceB hob
        have HC6 := Lib.hid hc6
        have HM6 := Lib.hid hm6
        have HS6 := Lib.hid hs6
        clear hob hc6 hm6 hs6 HO7 HGr
        go_wp2_with fail
        refine (P2.out _ _).mono ?_; rintro _ w7 ⟨rfl, b⟩
        have B7 := Lib.hid (below_on B6.out b)
        clear b
        by_cases he : e1 = 0
        all_goals
          have hq : (e1 != 0) = !decide (e1 = 0) := by by_cases h : e1 = 0 <;> simp [h]
          go_wp2_with fail
          go_ret
          exact ⟨rfl, B7.out⟩
    · have P1 := Lib.hid (Split_bad a t n a0 hsa (.slice A xs.length c))
      have P2 := Lib.hid (fun A6 c6 h1 h2 w hs => split_told b t n b0 A6 c6 ys hyb (by omega) h1 h2 w hs)
      clear hx hyb hm hys hsa hyl
      go_enter Try.func8, Try.ntmps8
      go_wp2_with fail
      refine (live5 _).mono ?_; rintro _ w1 ⟨rfl, b⟩; have B1 := Lib.hid (below_on B0.out b); clear b
      go_wp2_with fail
      refine (P1.out _).mono ?_; rintro _ w2 ⟨rfl, b⟩
      have B2 := Lib.hid (below_on B1.out b)
      have hz2 := B2.out.size
      clear b
      go_wp2_with (at_builtin; refine wpList_append_any _ rfl _ _ 23 rfl w2.heap.size 5 i0 (.int .u8 0) 1 1 Try.underlying23 HI.out.1 HI.out.2.1 HI.out.2.2.1 HI.out.2.2.2 rfl (by decide) _ 1 [.int .u8 1] rfl (own_oneC w2 1) _ _ xs.length _ (xs.map (Value.int .u8)) rfl (reads_on (reads_si (HS.out.on B2.out)) ((Below.refl _ _).alloc (Nat.le_refl _) _)) (fun u hu => by obtain ⟨x, _, rfl⟩ := List.mem_map.1 hu; rfl) (by unfold maxLen; omega) (by omega) (by simp) ?_; intro v' w6 hown' hgrow _; have HO7 := Lib.hid hown'; have HGr := Lib.hid hgrow; clear hown' hgrow)
      have B26 := Lib.hid (((Below.refl w2.heap.size w2).alloc (Nat.le_refl _) (.cells #[.int .u8 1] 5)).grown HGr.out (by simp) (fun g e => own_ge (own_oneC w2 1) g e))
      have B6 := Lib.hid (below_on B2.out B26.out)
      have hob : OwnB w6 w2.heap.size v' ys := own_b HO7.out (by rw [HYL.out]) HYB.out
      obtain ⟨A6, c6, rfl, hc6, hm6, hs6, _⟩ := own_sliceB hob
      have HC6 := Lib.hid hc6
      have HM6 := Lib.hid hm6
      have HS6 := Lib.hid hs6
      clear hob hc6 hm6 hs6 HO7 HGr
      go_wp2_with fail
      refine (P2.out A6 c6 HC6.out HM6.out _ HS6.out).mono ?_; rintro _ w7 ⟨v1, e1, rfl, b⟩
      have B7 := Lib.hid (below_on B6.out b)
      clear b
      go_wp2_with fail
      go_ret
      exact ⟨rfl, B7.out⟩
  · clear hm hx
    go_enter Try.func8, Try.ntmps8
    go_wp2_with fail
    refine (live5 _).mono ?_; rintro _ w1 ⟨rfl, b⟩; have B1 := Lib.hid (below_on B0.out b); clear b
    go_wp2_with fail
    go_ret
    exact ⟨rfl, B1.out⟩
end Go.Proofs.Ytgboijbnjjmmkaa
