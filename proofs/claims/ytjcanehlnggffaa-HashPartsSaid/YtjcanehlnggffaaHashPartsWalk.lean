/- The walk of the law HashParts. -/
import Derived.Test.YtjcanehlnggffaaHashTagsWalk
import Derived.Test.YtjcanehlnggffaaHashT
import Derived.RegionTactic
import Derived.Deep.RegionHeldLaw
import Derived.Deep.DrawnRows
import Derived.Deep.Cut
namespace Go.Proofs.Ytjcanehlnggffaa
open Go.ChangeShapes Go.WideShapes Go.ChangeAt Go.RowKit Gs
set_option linter.unusedVariables false

theorem reads_new4 (w : World) (a b c d : Int) (t : TypeId) (B : Nat) (hB : w.heap.size < B) : Reads (w.alloc (.cells #[.int .u8 a, .int .u8 b, .int .u8 c, .int .u8 d] t)) B 1 (some ⟨w.heap.size, 0, none⟩) 4 ([a, b, c, d].map (Value.int .u8)) := by
  refine ⟨rfl, fun _ => ⟨_, rfl, hB, fun j u hj => ?_⟩⟩
  have hb := Blk.new w t #[.int .u8 a, .int .u8 b, .int .u8 c, .int .u8 d]
  rcases j with _ | _ | _ | _ | j
  · cases hj; exact hb.cell 0
  · cases hj; exact hb.cell 1
  · cases hj; exact hb.cell 2
  · cases hj; exact hb.cell 3
  · simp at hj

set_option maxRecDepth 100000 in
set_option maxHeartbeats 4000000 in
theorem parts_walk (s : ByteArray) (A : Option Addr) (c : Nat) (ps : List (List Int)) (hs : s.size ≤ 140737488351232) (hn : ps.length ≤ 140737488351232) (hp : ∀ p ∈ ps, p.length ≤ 140737488351232 ∧ ∀ x ∈ p, 0 ≤ x ∧ x < 256) (w : World) (hsp : SP w w.heap.size A ps) :
    Calls Try.prog 10 #[.string s, .slice A ps.length c] w fun e w' => e = .returned (.bool true) ∧ Below w.heap.size w w' := by
  obtain ⟨i0, hi, hz0, hz1, hz2⟩ := info_parts Try.info5
  have HI := Lib.hid (And.intro hi (And.intro hz0 (And.intro hz1 hz2)))
  have HP := Lib.hid hsp
  have HH := Lib.hid hp
  have hcnt := parts_count ps
  have n2 := eq2_same
  clear hsp hp hi hz0 hz1 hz2
  by_cases hf : s.size + psz ps ≤ 400
  · have HCN := Lib.hid hcnt
    have hpl : ps.length ≤ 400 := by omega
    have hss : s.size ≤ 400 := by omega
    have HF := Lib.hid hf
    clear hcnt hf
    go_enter Try.func10, Try.ntmps10
    go_wp2_with fail
    refine (live_any _).mono ?_
    rintro e w1 ⟨rfl, hb1⟩
    have HB1 := Lib.hid hb1
    have hz1 := hb1.size
    clear hb1
    go_wp2_with fail
    refine (few_any s A c ps true (decide_eq_true HF.out).symm hs hn (fun p h => (HH.out p h).1) _ _ (HP.out.on HB1.out)).mono ?_
    rintro e w2 ⟨rfl, rfl⟩
    go_wp2_with (at_builtin; refine Lib.wpList_append_own_string _ rfl _ _ 27 9 rfl w.heap.size 5 i0 Try.underlying27 Try.underlying9 HI.out.1 HI.out.2.1 HI.out.2.2.1 HI.out.2.2.2 _ 1 _ rfl (own_oneB w1 ((s.size : Int) % 256) hz1 rfl) s rfl (by unfold maxLen; omega) (by omega) (by simp; omega) ?_; intro v3 w3 hown3 hgrow3 _; have HO3 := Lib.hid hown3; have HG3 := Lib.hid hgrow3; clear hown3 hgrow3)
    have hb3 : Below w.heap.size w w3 := (HB1.out.alloc hz1 _).grown HG3.out (by simp; omega) (fun g e => own_ge (own_oneB w1 ((s.size : Int) % 256) hz1 rfl) g e)
    have HO3' : Hid (OwnB w3 w.heap.size v3 (be (s.size : Int) 1 ++ sbytes s)) := by
      have h := HO3.out
      rw [strCells_eq] at h
      exact own_b h (by simp [be_length, sbytes_length]) (by simp [be, byt])
    have HB3 := Lib.hid hb3
    clear hb3
    go_loopw [6, 7] (fun b i wr => ∃ k : Nat, k ≤ ps.length ∧ i = .int .i64 k ∧ OwnB wr w.heap.size b (be (s.size : Int) 1 ++ sbytes s ++ pbytes (ps.take k)) ∧ Below w.heap.size w wr) (fun _ i _ => ps.length - (intOf i).toNat)
    case atStart => exact ⟨0, by omega, rfl, by simpa [pbytes] using HO3'.out, HB3.out⟩
    case round =>
      obtain ⟨k, hk, rfl, hoR, hbR⟩ := hrel
      have HOR := Lib.hid hoR
      have HBR := Lib.hid hbR
      have hzR := hbR.size
      have HLR := Lib.hid (show (be (s.size : Int) 1 ++ sbytes s ++ pbytes (ps.take k)).length = 1 + s.size + psz (ps.take k) by rw [List.length_append, List.length_append, be_length, sbytes_length, pbytes_length])
      have hle := psz_le ps k
      have hf := HF.out
      clear hoR hbR
      by_cases hlt : k < ps.length
      · obtain ⟨ad, rfl, had, A', c', hc, h1, h2, hs⟩ := HP.out k hlt
        have HS := Lib.hid (psz_take ps k hlt)
        have HPB := Lib.hid (pbytes_take ps k hlt)
        have hle1 := psz_le ps (k + 1)
        rw [HS.out] at hle1
        have hsz2 : ps[k].length ≤ 400 := by omega
        have hca : wr.cell? (ad.add k) = some (.slice A' ps[k].length c') := (HBR.out.cell (by rw [block_of_add]; exact had)).trans hc
        have HC := Lib.hid hc
        have HSI := Lib.hid hs
        have HLE := Lib.hid (And.intro hle hle1)
        clear hs hc h1 h2 hf hle hle1
        go_upto_region 11 with (fail)
        go_wp2_with (first | (at_builtin; refine wpList_append_any _ rfl _ _ 27 rfl w.heap.size 5 i0 (.int .u8 0) 1 1 Try.underlying27 HI.out.1 HI.out.2.1 HI.out.2.2.1 HI.out.2.2.2 rfl (by decide) _ _ _ rfl (own_below HOR.out ((Below.refl _ _).alloc (Nat.le_refl _) _)) (wr.heap.size + 1) _ _ _ _ rfl (reads_new4 _ _ _ _ _ _ _ (Nat.lt_succ_self _)) (one_u8 _) (by have := HLE.out; have := HF.out; rw [HLR.out]; unfold maxLen; omega) (by have := HLE.out; have := HF.out; rw [HLR.out]; omega) (by simp; omega) ?_; intro v6 w6 hown6 hgrow6 _; have HO6 := Lib.hid hown6; have HB6 := Lib.hid ((HBR.out.alloc hzR _).grown hgrow6 (by simp; omega) (fun g e => own_ge HOR.out g e)); have hca6 : w6.cell? (ad.add k) = some (.slice A' ps[k].length c') := (HB6.out.cell (by rw [block_of_add]; exact had)).trans HC.out; have HR6 := Lib.hid (reads_si (HSI.out.below HB6.out)); have hz6 := HB6.out.size; clear hown6 hgrow6) | (at_builtin; refine wpList_append_any _ rfl _ _ 27 rfl w.heap.size 5 i0 (.int .u8 0) 1 1 Try.underlying27 HI.out.1 HI.out.2.1 HI.out.2.2.1 HI.out.2.2.2 rfl (by decide) _ _ _ rfl HO6.out _ _ _ _ _ rfl HR6.out (one_u8 _) (by have := HLE.out; have := HF.out; rw [HLR.out]; unfold maxLen; omega) (by have := HLE.out; have := HF.out; rw [HLR.out]; omega) hz6 ?_; intro v7 w7 hown7 hgrow7 _; have HO7 := Lib.hid hown7; have HB7 := Lib.hid (HB6.out.trans ((Below.refl w.heap.size w6).grown hgrow7 hz6 (fun g e => own_ge HO6.out g e))); clear hown7 hgrow7))
        go_roundw
        case rel =>
          refine ⟨k + 1, by omega, by go_num, ?_, HB7.out⟩
          rw [HPB.out]
          have h := HO7.out
          exact own_b h (by simp [be_length]; omega) (by simp [be, byt]; omega)
        case measure => simp [intOf]; omega
      · obtain rfl : k = ps.length := by omega
        have hor := HOR.out
        rw [List.take_length] at hor
        obtain ⟨A7, c7, rfl, hl7, hm7, hs7, _⟩ := own_sliceB hor
        have hpre : (be (s.size : Int) 1 ++ sbytes s).length = 1 + s.size := by rw [List.length_append, be_length, sbytes_length]
        have hXL : (be (s.size : Int) 1 ++ sbytes s ++ pbytes ps).length = 1 + s.size + psz ps := by rw [List.length_append, hpre, pbytes_length]
        obtain ⟨ad7, rfl, _, _⟩ := hs7 0 (by rw [hXL]; omega)
        have HT := Lib.hid (taken_any (be (s.size : Int) 1 ++ sbytes s) s.size hpre ps ad7 c7 HF.out hl7 hm7 wr hs7)
        have hXC : be (s.size : Int) 1 ++ sbytes s ++ pbytes ps = coded (sbytes s) ps := by rw [coded, sbytes_length]
        rw [hXC] at HT hl7 hs7 hXL ⊢
        have HS7 := Lib.hid hs7
        have HXL := Lib.hid hXL
        have HBB := Lib.hid (coded_bound (sbytes s) ps (sbytes_bound s) (fun p h => (HH.out p h).2))
        clear hor hs7 hm7 hpre hXC hXL hle hf
        obtain ⟨X, hX⟩ : ∃ X, coded (sbytes s) ps = X := ⟨_, rfl⟩
        have HX := Lib.hid hX
        rw [hX] at HT hl7 HS7 HXL HBB ⊢
        clear hX
        go_wp2_with fail
        refine HT.out.mono ?_
        rintro e w4 ⟨Al, cl, rfl, hspl, hb4⟩
        have HL4 := Lib.hid hspl
        have HB4 := Lib.hid hb4
        clear hspl hb4
        go_wp2_with fail
        go_loopw [11] (fun i w5 => ∃ k : Nat, k ≤ ps.length ∧ i = .int .i64 k ∧ Below w4.heap.size w4 w5) (fun i _ => ps.length - (intOf i).toNat)
        case atStart => exact ⟨0, by omega, rfl, Below.refl _ _⟩
        case round =>
          obtain ⟨q, hq, rfl, h5⟩ := hrel
          have H5 := Lib.hid h5
          have HBW := Lib.hid (HBR.out.trans ((HB4.out.trans (h5.mono HB4.out.size)).mono hzR))
          have hz5 : w.heap.size ≤ wr.heap.size := HBW.out.size
          clear h5
          by_cases hqt : q < ps.length
          · obtain ⟨ad, rfl, had, A', c', hc, _, _, hs⟩ := HP.out q hqt
            obtain ⟨adl, rfl, hadl, B', d', hd, _, _, hsl⟩ := HL4.out q hqt
            have HD := Lib.hid ((Below.refl wr.heap.size wr).drew)
            have k1 : wr.drew.cell? (ad.add q) = some (.slice A' ps[q].length c') := (HBW.out.drew.cell (by rw [block_of_add]; exact had)).trans hc
            have k2 : wr.drew.cell? (adl.add q) = some (.slice B' ps[q].length d') := (H5.out.drew.cell (by rw [block_of_add]; exact hadl)).trans hd
            have v1 := conv_si (c := c') (n := ps[q].length) rfl (hs.below HBW.out.drew)
            have v2 := conv_si (c := d') (n := ps[q].length) rfl (hsl.below H5.out.drew)
            clear hs hsl hc hd
            go_wp2_with fail
            go_region_held_law (fun w' => w'.cell? (ad.add q) = some (.slice A' ps[q].length c') ∧ w'.cell? (adl.add q) = some (.slice B' ps[q].length d') ∧ (convert 27 9 (.slice A' ps[q].length c')).run Try.prog w' = .ok (.string (strOfNums ps[q])) w' ∧ (convert 27 9 (.slice B' ps[q].length d')).run Try.prog w' = .ok (.string (strOfNums ps[q])) w') (first | exact ⟨by assumption, by assumption, by assumption, by assumption⟩ | go_keep) (fail)
            all_goals
              go_wp2_with fail
              go_roundw
              case rel => exact ⟨q + 1, by omega, by go_num, H5.out.drew⟩
              case measure => simp [intOf]; omega
          · obtain rfl : q = ps.length := by omega
            go_wp2_with fail
            refine (Tagged_any s A c ps (fun p h => (HH.out p h).2) (by have := HF.out; omega) (by omega) _ (HP.out.on HBW.out)).mono ?_
            rintro e w6 ⟨rfl, hb6⟩
            rw [HX.out]
            have HB6 := Lib.hid hb6
            clear hb6
            go_wp2_with fail
            have hS := Sum_any (some ad7) c7 X HBB.out (by rw [HXL.out]; have := HF.out; omega) hl7 _ (((HS7.out.on HB4.out).on H5.out).on HB6.out)
            refine hS.mono ?_
            rintro e w7 ⟨rfl, hb7⟩
            have HB7 := Lib.hid (HBW.out.trans ((HB6.out.trans (hb7.mono HB6.out.size)).mono hz5))
            clear hb7 hS
            go_wp2_with fail
            go_ret
            exact ⟨rfl, HB7.out⟩
  · go_enter Try.func10, Try.ntmps10
    go_wp2_with fail
    refine (live_any _).mono ?_
    rintro e w1 ⟨rfl, hb1⟩
    have HB1 := Lib.hid hb1
    clear hb1
    go_wp2_with fail
    refine (few_any s A c ps false (decide_eq_false hf).symm hs hn (fun p h => (HH.out p h).1) _ _ (HP.out.on HB1.out)).mono ?_
    rintro e w2 ⟨rfl, rfl⟩
    go_wp2_with fail
    go_ret
    exact ⟨rfl, HB1.out⟩
end Go.Proofs.Ytjcanehlnggffaa
