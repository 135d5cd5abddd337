/- Several texts of one kind, one behind the other: QuorumV, QuorumV2, QuorumW. -/
import Derived.Test.YtlannmedefjfhaaGreatQuorumU
/- What those of a crew that are chosen tell, and what is combined of it. -/
namespace Go.Proofs.YtlannmedefjfhaaGreat
open Go.ChangeShapes Go.WideShapes Go.ChangeAt Go.RowKit Gs
set_option linter.unusedVariables false

def comsB (who n : Int) (ms : List Int) (l : List (Int × Int)) (k : Nat) : List (Int × Int) := (pickB who l k).map fun x => qcom x n ms
def partsB (K who n : Int) (ms : List Int) (l : List (Int × Int)) (cs : List (Int × Int)) (k : Nat) : List (Int × Int) := (pickB who l k).map (qpart K n ms cs)
theorem comsB_yes {who n : Int} {ms : List Int} {l : List (Int × Int)} (k : Nat) (hk : k < l.length) (h : bitAt who k = 1) : comsB who n ms l (k + 1) = comsB who n ms l k ++ [qcom l[k] n ms] := by unfold comsB; rw [pickB_yes k hk h, List.map_append]; rfl
theorem comsB_no {who n : Int} {ms : List Int} {l : List (Int × Int)} (k : Nat) (h : bitAt who k ≠ 1) : comsB who n ms l (k + 1) = comsB who n ms l k := by unfold comsB; rw [pickB_no k h]
theorem partsB_yes {K who n : Int} {ms : List Int} {l cs : List (Int × Int)} (k : Nat) (hk : k < l.length) (h : bitAt who k = 1) : partsB K who n ms l cs (k + 1) = partsB K who n ms l cs k ++ [qpart K n ms cs l[k]] := by unfold partsB; rw [pickB_yes k hk h, List.map_append]; rfl
theorem partsB_no {K who n : Int} {ms : List Int} {l cs : List (Int × Int)} (k : Nat) (h : bitAt who k ≠ 1) : partsB K who n ms l cs (k + 1) = partsB K who n ms l cs k := by unfold partsB; rw [pickB_no k h]
theorem comsB_len (who n : Int) (ms : List Int) (l : List (Int × Int)) (k : Nat) : (comsB who n ms l k).length ≤ k := by unfold comsB; rw [List.length_map]; exact pickB_le _ _ _
theorem comsB_u (who n : Int) (ms : List Int) (l : List (Int × Int)) (k : Nat) : ∀ p ∈ comsB who n ms l k, 0 ≤ p.2 ∧ p.2 < 18446744073709551616 := fun p hp => by
  obtain ⟨x, _, rfl⟩ := List.mem_map.1 hp
  have := qpow_bound 4 (qnonce x n ms)
  exact ⟨this.1, by show qpow 4 (qnonce x n ms) < _; omega⟩
theorem partsB_u (K who n : Int) (ms : List Int) (l cs : List (Int × Int)) (k : Nat) : ∀ p ∈ partsB K who n ms l cs k, 0 ≤ p.2 ∧ p.2 < 18446744073709551616 := fun p hp => by
  obtain ⟨x, _, rfl⟩ := List.mem_map.1 hp
  have h := qpart_rb K n ms cs x
  unfold Rb at h
  omega

theorem ss_set2 {w : World} {A : Option Addr} {l : List (Int × Int)} {g o1 o2 : Nat} {v1 v2 : Value} (h : SS w w.heap.size A l) (hn : ∀ ad, A = some ad → ad.block ≠ g) : SS ((w.setCell ⟨g, o1, none⟩ v1).setCell ⟨g, o2, none⟩ v2) ((w.setCell ⟨g, o1, none⟩ v1).setCell ⟨g, o2, none⟩ v2).heap.size A l :=
  (ss_set (ss_set h hn) hn).more (below_setR (below_setR (Below.refl 0 w) (Nat.zero_le g) v1) (Nat.zero_le g) v2).size
theorem ss_drew {w : World} {A : Option Addr} {l : List (Int × Int)} (h : SS w w.heap.size A l) : SS w.drew w.drew.heap.size A l := h
theorem pickB_in {who : Int} {l : List (Int × Int)} (k : Nat) (hk : k < l.length) (h : bitAt who k = 1) : ∀ m, k < m → l[k] ∈ pickB who l m
  | 0, g => by omega
  | m + 1, g => by
    by_cases e : k = m
    · subst e; rw [pickB_yes k hk h]; simp
    · have ih := pickB_in k hk h m (by omega)
      show l[k] ∈ (if bitAt who m = 1 then pickB who l m ++ [l[m]?.getD (0, 0)] else pickB who l m)
      split
      · exact List.mem_append_left _ ih
      · exact ih
theorem pickB_nil {who : Int} {l : List (Int × Int)} : ∀ k, (∀ j, j < k → bitAt who j ≠ 1) → pickB who l k = []
  | 0, _ => rfl
  | k + 1, h => by rw [pickB_no k (h k (by omega))]; exact pickB_nil k (fun j g => h j (by omega))
theorem firstE_0 (es : List Int) : firstE (0 :: es) = firstE es := if_pos rfl
section
variable {who K n : Int} {T : Int} {N : Nat} {pol : List Int} {ms : List Int}
theorem picked_ahead (hcr : crewF T (N : Int) K (spubs (csplit pol N)) = 0) {x : Int × Int} (hso : SignerOk x n) : aheadF T (N : Int) K (spubs (csplit pol N)) x n (comsB who n ms (csplit pol N) N) = enoughF T (comsB who n ms (csplit pol N) N) := by
  unfold aheadF
  rw [hcr, show signerF x n = 0 from if_pos hso, show commF (N : Int) (comsB who n ms (csplit pol N) N) = 0 from if_pos (picked_commits (Nat.le_refl N) n ms), firstE_0, firstE_0, firstE_0]
  by_cases h : enoughF T (comsB who n ms (csplit pol N) N) = 0
  · rw [h]; rfl
  · exact if_neg h
theorem picked_head (hcr : crewF T (N : Int) K (spubs (csplit pol N)) = 0) : headF T (N : Int) K (spubs (csplit pol N)) (comsB who n ms (csplit pol N) N) = enoughF T (comsB who n ms (csplit pol N) N) := by
  unfold headF
  rw [hcr, show commF (N : Int) (comsB who n ms (csplit pol N) N) = 0 from if_pos (picked_commits (Nat.le_refl N) n ms), firstE_0, firstE_0]
  by_cases h : enoughF T (comsB who n ms (csplit pol N) N) = 0
  · rw [h]; rfl
  · exact if_neg h
theorem picked_spart (hcr : crewF T (N : Int) K (spubs (csplit pol N)) = 0) {x : Int × Int} (hso : SignerOk x n) (hx : x ∈ pickB who (csplit pol N) N) (he : ¬ ((comsB who n ms (csplit pol N) N).length : Int) < T) : spartF T (N : Int) K (spubs (csplit pol N)) x n ms (comsB who n ms (csplit pol N) N) = 0 ∧ spartV T (N : Int) K (spubs (csplit pol N)) x n ms (comsB who n ms (csplit pol N) N) = qpart K n ms (comsB who n ms (csplit pol N) N) x := by
  have h1 : aheadF T (N : Int) K (spubs (csplit pol N)) x n (comsB who n ms (csplit pol N) N) = 0 := by rw [picked_ahead hcr hso]; exact if_neg he
  have h2 : spartF T (N : Int) K (spubs (csplit pol N)) x n ms (comsB who n ms (csplit pol N) N) = 0 := by
    unfold spartF
    rw [if_pos h1]
    exact if_pos (List.mem_map.2 ⟨x, hx, rfl⟩)
  exact ⟨h2, if_pos h2⟩
theorem few_spart (hcr : crewF T (N : Int) K (spubs (csplit pol N)) = 0) {x : Int × Int} (hso : SignerOk x n) (he : ((comsB who n ms (csplit pol N) N).length : Int) < T) : spartF T (N : Int) K (spubs (csplit pol N)) x n ms (comsB who n ms (csplit pol N) N) = 50 ∧ spartV T (N : Int) K (spubs (csplit pol N)) x n ms (comsB who n ms (csplit pol N) N) = (0, 0) := by
  have h1 : aheadF T (N : Int) K (spubs (csplit pol N)) x n (comsB who n ms (csplit pol N) N) = 50 := by rw [picked_ahead hcr hso]; exact if_pos he
  have h2 : spartF T (N : Int) K (spubs (csplit pol N)) x n ms (comsB who n ms (csplit pol N) N) = 50 := by
    unfold spartF
    rw [if_neg (by rw [h1]; omega), h1]
  exact ⟨h2, if_neg (by rw [h2]; omega)⟩
theorem parts_fst (S : List (Int × Int)) (cs : List (Int × Int)) : (S.map (qpart K n ms cs)).map Prod.fst = S.map Prod.fst := by rw [List.map_map]; rfl
theorem picked_wrong : wrongF (chalF K ms (comsB who n ms (csplit pol N) N)) (spubs (csplit pol N)) (comsB who n ms (csplit pol N) N) (partsB K who n ms (csplit pol N) (comsB who n ms (csplit pol N) N) N) = 0 :=
  firstE_none _ (fun i h => by
    rw [List.getElem_map]
    unfold partsB
    rw [List.getElem_map]
    exact picked_parts n ms K _ (List.getElem_mem _))
theorem picked_comb (hcr : crewF T (N : Int) K (spubs (csplit pol N)) = 0) (he : ¬ ((comsB who n ms (csplit pol N) N).length : Int) < T) : combF T (N : Int) K (spubs (csplit pol N)) ms (comsB who n ms (csplit pol N) N) (partsB K who n ms (csplit pol N) (comsB who n ms (csplit pol N) N) N) = 0 := by
  have h1 : headF T (N : Int) K (spubs (csplit pol N)) (comsB who n ms (csplit pol N) N) = 0 := by rw [picked_head hcr]; exact if_neg he
  unfold combF
  rw [if_pos h1, if_pos (by
    unfold partsB
    rw [parts_fst]
    exact (picked_ids _ n ms).symm)]
  exact picked_wrong
theorem few_comb (hcr : crewF T (N : Int) K (spubs (csplit pol N)) = 0) (he : ((comsB who n ms (csplit pol N) N).length : Int) < T) (l : List (Int × Int)) : combF T (N : Int) K (spubs (csplit pol N)) ms (comsB who n ms (csplit pol N) N) l = 50 ∧ combS T (N : Int) K (spubs (csplit pol N)) ms (comsB who n ms (csplit pol N) N) l = (0, 0) := by
  have h1 : headF T (N : Int) K (spubs (csplit pol N)) (comsB who n ms (csplit pol N) N) = 50 := by rw [picked_head hcr]; exact if_pos he
  have h2 : combF T (N : Int) K (spubs (csplit pol N)) ms (comsB who n ms (csplit pol N) N) l = 50 := by
    unfold combF
    rw [if_neg (by rw [h1]; omega), h1]
  exact ⟨h2, if_neg (by rw [h2]; omega)⟩
end

set_option maxRecDepth 100000 in
set_option maxHeartbeats 4000000 in
theorem signed_ok (T N : Nat) (K who n : Int) [IsU K] (A : Option Addr) (c : Nat) (pol : List Int) (hp : ShFix c (spubs (csplit pol N))) (M : Option Addr) (cm : Nat) (ms : List Int) (hm : ByFix cm ms) (n7 : N ≤ 7) (hn0 : 0 ≤ n) (hn1 : n ≤ 1099511627776) (hcr : crewF (T : Int) (N : Int) K (spubs (csplit pol N)) = 0) (he : ¬ ((comsB who n ms (csplit pol N) N).length : Int) < (T : Int)) (E : Option Addr) (ce : Nat) (w : World) (hsp : SS w w.heap.size A (spubs (csplit pol N))) (hsm : SI w w.heap.size .u8 M ms) (hsl : SS w w.heap.size E (csplit pol N)) :
    Calls Tryz.prog 29 #[crewV (T : Int) (N : Int) K A N c, .slice E N ce, .int .i64 who, .int .i64 n, .slice M ms.length cm] w fun e w' => ∃ D cd F cf, e = .returned (.tuple #[.slice D (comsB who n ms (csplit pol N) N).length cd, .slice F (partsB K who n ms (csplit pol N) (comsB who n ms (csplit pol N) N) N).length cf, .agg #[.int .u64 (chalF K ms (comsB who n ms (csplit pol N) N)), .int .u64 (rsum ((partsB K who n ms (csplit pol N) (comsB who n ms (csplit pol N) N) N).map Prod.snd))], .int .i64 0]) ∧ ((comsB who n ms (csplit pol N) N).length ≤ cd ∧ cd ≤ maxLen ∧ SS w' w'.heap.size D (comsB who n ms (csplit pol N) N)) ∧ ((partsB K who n ms (csplit pol N) (comsB who n ms (csplit pol N) N) N).length ≤ cf ∧ cf ≤ maxLen ∧ SS w' w'.heap.size F (partsB K who n ms (csplit pol N) (comsB who n ms (csplit pol N) N) N)) ∧ Below w.heap.size w w' := by
  have D0 := Lib.hid (((Below.refl w.heap.size w).alloc (Nat.le_refl _) (.cells #[.int .i64 (T : Int), .int .i64 (N : Int), .int .u64 K, .slice A N c] 26)).alloc (by simp) (.cells #[.int .u64 0, .int .u64 0] 45))
  have K1 := Lib.hid ((Blk.new w 26 #[.int .i64 (T : Int), .int .i64 (N : Int), .int .u64 K, .slice A N c]).alloc (.cells #[.int .u64 0, .int .u64 0] 45))
  have K2 := Lib.hid (Blk.new_at (w.alloc (.cells #[.int .i64 (T : Int), .int .i64 (N : Int), .int .u64 K, .slice A N c] 26)) 45 #[.int .u64 0, .int .u64 0] (g := w.heap.size + 1) (by simp))
  have HL := Lib.hid (csplit_length pol N)
  have HPL := Lib.hid (show (spubs (csplit pol N)).length = N by rw [spubs_length, csplit_length])
  have HSL := Lib.hid hsl
  have HSM := Lib.hid hsm
  have HSP := Lib.hid hsp
  have HLA := Lib.hid (csplit_good pol N).all
  have HMM := Lib.hid hm
  have HPP := Lib.hid hp
  obtain ⟨j0, hj, hy0, hy1, hy2⟩ := info_parts Tryz.info37
  have HJ := Lib.hid (And.intro hj (And.intro hy0 (And.intro hy1 hy2)))
  have HCR := Lib.hid hcr
  have HE := Lib.hid he
  have HSPT := Lib.hid (fun (x : Int × Int) (h : SignerOk x n) (hx : x ∈ pickB who (csplit pol N) N) => picked_spart (who := who) (ms := ms) hcr h hx he)
  have HCF := Lib.hid (picked_comb (who := who) (ms := ms) hcr he)
  have HCB := Lib.hid (show combS (T : Int) (N : Int) K (spubs (csplit pol N)) ms (comsB who n ms (csplit pol N) N) (partsB K who n ms (csplit pol N) (comsB who n ms (csplit pol N) N) N) = (chalF K ms (comsB who n ms (csplit pol N) N), rsum ((partsB K who n ms (csplit pol N) (comsB who n ms (csplit pol N) N) N).map Prod.snd)) from if_pos (picked_comb (who := who) (ms := ms) hcr he))
  clear hj hy0 hy1 hy2 hsl hsm hsp hm hp hcr he
  generalize spubs (csplit pol N) = ps at *
  generalize csplit pol N = l at *
  have P1 := Lib.hid (fun (x : Int × Int) (hu : IsU x.2) (h : SignerOk x n) W h' => Commit_ok x n h M cm ms HMM.out W h')
  have P2 := Lib.hid (fun D cd (hc : ShFix cd (comsB who n ms l N)) (x : Int × Int) (hu : IsU x.2) W h1 h2 h3 => Part_any (T : Int) (N : Int) K A c ps HPP.out M cm ms HMM.out D cd (comsB who n ms l N) hc x n W h1 h2 h3)
  have P3 := Lib.hid (fun D cd (hc : ShFix cd (comsB who n ms l N)) E ce l' (hl : ShFix ce l') W h1 h2 h3 h4 => Combine_any (T : Int) (N : Int) K A c ps HPP.out M cm ms HMM.out D cd (comsB who n ms l N) hc E ce l' hl W h1 h2 h3 h4)
  unfold crewV at P2 P3 ⊢
  rw [HPL.out] at P2 P3
  have HCL := Lib.hid (comsB_len who n ms l N)
  have HCU := Lib.hid (comsB_u who n ms l N)
  obtain ⟨CS, hCS⟩ : ∃ CS, comsB who n ms l N = CS := ⟨_, rfl⟩
  rw [hCS] at HE HSPT HCB P2 P3 HCL HCU HCF
  rw [hCS]
  have HCS := Lib.hid hCS
  clear hCS
  go_enter Tryz.func29, Tryz.ntmps29
  go_wp2_with fail
  refine wp_named (fun W => Blk W w.heap.size 26 #[.int .i64 (T : Int), .int .i64 (N : Int), .int .u64 K, .slice A N c] ∧ Blk W (w.heap.size + 1) 45 #[.int .u64 0, .int .u64 0] ∧ Below w.heap.size w W) ⟨K1.out, K2.out, D0.out⟩ ?_
  clear K1 K2 D0
  rintro W0 ⟨hk1, hk2, hD⟩
  have D0 := Lib.hid hD
  have K1 := Lib.hid hk1
  have K2 := Lib.hid hk2
  have hz1 := hk2.lt
  clear hk1 hk2 hD
  go_loopw [14, 16] (fun o i wr => ∃ k : Nat, k ≤ N ∧ i = .int .i64 k ∧ OwnS wr W0.heap.size o (comsB who n ms l k) ∧ Below W0.heap.size W0 wr) (fun _ i _ => N - (intOf i).toNat)
  case atStart => exact ⟨0, by omega, rfl, ⟨rfl, .inl ⟨rfl, rfl⟩⟩, Below.refl _ _⟩
  case round =>
    obtain ⟨k, hk, rfl, ho, hb⟩ := hrel
    have HO := Lib.hid ho
    have HB := Lib.hid hb
    have hz := hb.size
    clear ho hb
    by_cases hlt : k < N
    · have hkl : k < l.length := by rw [HL.out]; exact hlt
      obtain ⟨ad, rfl, had, c0, c1⟩ := ((HSL.out.on D0.out).below HB.out) k hkl
      have hal := HLA.out l[k] (List.getElem_mem hkl)
      have HYES := Lib.hid (fun h => comsB_yes (who := who) (n := n) (ms := ms) k hkl h)
      have HNO := Lib.hid (fun h => comsB_no (who := who) (n := n) (ms := ms) (l := l) k h)
      have HLen := Lib.hid (comsB_len who n ms l k)
      have hk7 : (k : Int) < 7 := by omega
      have HSO := Lib.hid (show SignerOk l[k] n by
        have h2 := pval_rb l[k].1 pol
        rw [← hal.2.2] at h2
        unfold Rb at h2
        exact ⟨hal.1, by omega, h2.2, hn0, hn1⟩)
      have HXU := Lib.hid (show IsU l[k].2 by
        have h2 := pval_rb l[k].1 pol
        rw [← hal.2.2] at h2
        exact rb_u h2)
      clear hal
      generalize l[k] = x at *
      have P := Lib.hid (P1.out x HXU.out HSO.out)
      generalize qcom x n ms = y at *
      have hb2 := bitAt_two who k
      by_cases hbt : bitAt who k = 1
      · have hq : (bits .and .i64 (who / 2 ^ k) 1 == 1) = true := by
          have h : bits .and .i64 (who / 2 ^ k) 1 = 1 := hbt
          rw [h]; rfl
        have HY := Lib.hid (HYES.out hbt)
        clear HYES HNO hbt hb2
        go_wp2_with fail
        refine (P.out _ ((HSM.out.on D0.out).on HB.out)).mono ?_; rintro _ w5 ⟨rfl, b⟩
        have B5 := Lib.hid (HB.out.trans (b.mono hz))
        have HO5 := Lib.hid (own_below HO.out b)
        have hz5 := b.size
        obtain ⟨ck, hck⟩ : ∃ ck, comsB who n ms l k = ck := ⟨_, rfl⟩
        rw [hck] at HY HO5 HLen HO
        have HLn := HLen.out
        clear b c0 c1 hck
        go_wp2_with (at_builtin; refine wpList_append_any _ rfl _ _ 24 rfl W0.heap.size 37 j0 (.agg #[.int .i64 0, .int .u64 0]) 2 16 Tryz.underlying24 HJ.out.1 HJ.out.2.1 HJ.out.2.2.1 HJ.out.2.2.2 rfl (by decide) _ _ _ rfl (own_below HO5.out (((Below.refl _ _).alloc (Nat.le_refl _) _).alloc (by simp) _)) _ _ 1 _ (cells2 [y]) rfl (reads_new (Blk.new_at (w5.alloc (.cells #[.int .i64 y.1, .int .u64 y.2] 37)) _ _ (by simp)) 1 rfl) (cells2_one _) (by unfold maxLen; omega) (by omega) (by simp; omega) ?_; intro v' w6 hown' hgrow _; have HO7 := Lib.hid hown'; have HG := Lib.hid hgrow; clear hown' hgrow)
        go_roundw
        case rel =>
          refine ⟨k + 1, by omega, by go_num, ?_, ?_⟩
          · have h := HO7.out
            rw [← cells2_append] at h
            rw [HY.out]
            exact own_s h (by simp) rfl
          · refine B5.out.trans ((((Below.refl W0.heap.size w5).alloc (by omega) _).alloc (by simp; omega) _).grown HG.out (by simp; omega) (fun g e => ?_))
            exact own_ge HO.out g e
        case measure => simp [intOf]; omega
      · have hq : (bits .and .i64 (who / 2 ^ k) 1 == 1) = false := by
          have h : bits .and .i64 (who / 2 ^ k) 1 = 0 := by rcases hb2 with h | h; exact h; exact absurd h hbt
          rw [h]; rfl
        have HY := Lib.hid (HNO.out hbt)
        clear HYES HNO hbt hb2
        go_wp2_with fail
        refine (P.out _ ((HSM.out.on D0.out).on HB.out)).mono ?_; rintro _ w5 ⟨rfl, b⟩
        have B5 := Lib.hid (HB.out.trans (b.mono hz))
        have HO5 := Lib.hid (own_below HO.out b)
        have hz5 := b.size
        have HO6 := Lib.hid (own_below HO5.out ((Below.refl w5.heap.size w5).alloc (Nat.le_refl _) (.cells #[.int .i64 y.1, .int .u64 y.2] 37)))
        clear b c0 c1
        go_wp2_with fail
        go_roundw
        case rel => exact ⟨k + 1, by omega, by go_num, by rw [HY.out]; exact HO6.out, B5.out.alloc (by omega) _⟩
        case measure => simp [intOf]; omega
    · obtain rfl : N = k := by omega
      rw [HCS.out] at HO
      obtain ⟨D, cd, rfl, q1, q2, hs1, hgD⟩ := own_sliceS HO.out
      have HGD := Lib.hid (fun ad (e : D = some ad) => (show ad.block ≠ w.heap.size + 1 by have := hgD ad e; omega))
      have HQD := Lib.hid (And.intro q1 q2)
      clear hgD
      have HCX := Lib.hid (show ShFix cd CS from ⟨by have := HCL.out; omega, q1, q2, HCU.out⟩)
      have HSD := Lib.hid hs1
      clear q1 q2 hs1
      have K1r := Lib.hid (K1.out.below HB.out (by omega))
      have K2r := Lib.hid (K2.out.below HB.out (by omega))
      have HSPr := Lib.hid ((HSP.out.on D0.out).on HB.out)
      have HSMr := Lib.hid ((HSM.out.on D0.out).on HB.out)
      have HSLr := Lib.hid ((HSL.out.on D0.out).on HB.out)
      have P2' := Lib.hid (fun (x : Int × Int) (hu : IsU x.2) W h1 h2 h3 => P2.out D cd HCX.out x hu W h1 h2 h3)
      clear P1 P2 K1 K2
      go_wp2_with fail
      refine wp_named (fun W => Blk W w.heap.size 26 #[.int .i64 (T : Int), .int .i64 (N : Int), .int .u64 K, .slice A N c] ∧ Blk W (w.heap.size + 1) 45 #[.int .u64 0, .int .u64 0] ∧ Below w.heap.size w W ∧ SS W W.heap.size D CS) ⟨K1r.out, K2r.out, D0.out.trans (HB.out.mono (by omega)), HSD.out⟩ ?_
      clear K1r K2r HSD HSPr HSMr HSLr HO HB hz
      rintro W1 ⟨hk1, hk2, hD1, hs1⟩
      have D1 := Lib.hid hD1
      have K1r := Lib.hid hk1
      have K2r := Lib.hid hk2
      have HSD := Lib.hid hs1
      have HSPr := Lib.hid (HSP.out.on hD1)
      have HSMr := Lib.hid (HSM.out.on hD1)
      have HSLr := Lib.hid (HSL.out.on hD1)
      have hz2 := hk2.lt
      clear hk1 hk2 hD1 hs1
      go_loopw [15, 19] (fun o i wr => ∃ k : Nat, k ≤ N ∧ i = .int .i64 k ∧ OwnS wr W1.heap.size o (partsB K who n ms l CS k) ∧ Below W1.heap.size W1 wr) (fun _ i _ => N - (intOf i).toNat)
      case atStart => exact ⟨0, by omega, rfl, ⟨rfl, .inl ⟨rfl, rfl⟩⟩, Below.refl _ _⟩
      case round =>
        obtain ⟨k, hk, rfl, ho, hb⟩ := hrel
        have HO := Lib.hid ho
        have HBq := Lib.hid hb
        have hzq := hb.size
        have kq := K1r.out.below hb (by have := K1r.out.lt; omega)
        have d0 := kq.cell 0
        have d1 := kq.cell 1
        have d2 := kq.cell 2
        have d3 := kq.cell 3
        have hwq := kq.lt
        clear hb kq ho
        by_cases hlt : k < N
        · have hkl : k < l.length := by rw [HL.out]; exact hlt
          have hal := HLA.out l[k] (List.getElem_mem hkl)
          have HSO := Lib.hid (show SignerOk l[k] n by
            have h2 := pval_rb l[k].1 pol
            rw [← hal.2.2] at h2
            unfold Rb at h2
            exact ⟨hal.1, by omega, h2.2, hn0, hn1⟩)
          have HXU := Lib.hid (show IsU l[k].2 by
            have h2 := pval_rb l[k].1 pol
            rw [← hal.2.2] at h2
            exact rb_u h2)
          clear hal
          have hk7 : (k : Int) < 7 := by omega
          have hb2 := bitAt_two who k
          by_cases hbt : bitAt who k = 1
          · have hq : (bits .and .i64 (who / 2 ^ k) 1 == 0) = false := by
              have h : bits .and .i64 (who / 2 ^ k) 1 = 1 := hbt
              rw [h]; rfl
            obtain ⟨ad, rfl, had, c0, c1⟩ := ((HSLr.out).below HBq.out) k hkl
            have hbk : (ad.add (k * 2)).block < wr.heap.size := by rw [block_of_add]; omega
            have HPT := Lib.hid (HSPT.out l[k] HSO.out (pickB_in k hkl hbt N hlt))
            have HY := Lib.hid (partsB_yes (K := K) (who := who) (n := n) (ms := ms) (cs := CS) k hkl hbt)
            have HLen := Lib.hid (show (partsB K who n ms l CS k).length ≤ k by unfold partsB; rw [List.length_map]; exact pickB_le _ _ _)
            obtain ⟨pk, hpk⟩ : ∃ pk, partsB K who n ms l CS k = pk := ⟨_, rfl⟩
            rw [hpk] at HY HLen HO
            have HLn := HLen.out
            clear hpk
            have P2x := Lib.hid (P2'.out l[k] HXU.out)
            rw [HPT.out.1, HPT.out.2] at P2x
            generalize qpart K n ms CS l[k] = z at *
            generalize l[k] = x at *
            clear HPT HSPT hbt hb2 P2' HSO HXU
            have hW : Below wr.heap.size wr wr.drew := (Below.refl wr.heap.size wr).drew
            go_wp2_with fail
            go_region_held_law (fun w' => w'.cell? ⟨w.heap.size, 0, none⟩ = some (.int .i64 (T : Int)) ∧ w'.cell? ⟨w.heap.size, 1, none⟩ = some (.int .i64 (N : Int)) ∧ w'.cell? ⟨w.heap.size, 2, none⟩ = some (.int .u64 K) ∧ w'.cell? ⟨w.heap.size, 3, none⟩ = some (.slice A N c) ∧ w'.cell? (ad.add (k * 2)) = some (.int .i64 x.1) ∧ w'.cell? ⟨(ad.add (k * 2)).block, (ad.add (k * 2)).off + 1, none⟩ = some (.int .u64 x.2)) (first | exact ⟨by assumption, by assumption, by assumption, by assumption, by assumption, by assumption⟩ | exact ⟨cell_setA (by first | omega | (simp only []; omega)) (by assumption), cell_setA (by first | omega | (simp only []; omega)) (by assumption), cell_setA (by first | omega | (simp only []; omega)) (by assumption), cell_setA (by first | omega | (simp only []; omega)) (by assumption), cell_setA (by first | omega | (simp only []; omega)) (by assumption), cell_setA (by first | omega | (simp only []; omega)) (by assumption)⟩ | go_keep)
              (first
                | (go_at_call 22; refine (P2x.out _ (HSPr.out.on (below_on HBq.out (by first | exact hW | exact hW.alloc hW.size _))) (HSMr.out.on (below_on HBq.out (by first | exact hW | exact hW.alloc hW.size _))) (HSD.out.on (below_on HBq.out (by first | exact hW | exact hW.alloc hW.size _)))).mono ?_; rintro _ w5 ⟨rfl, bb⟩; (first | (have GB := Lib.hid (show Blk w5 wr.heap.size 37 #[.int .i64 0, .int .u64 0] from (Blk.new_at wr.drew 37 #[.int .i64 0, .int .u64 0] rfl).below bb (by simp <;> omega))) | skip); have hW := below_on (by first | exact hW | exact hW.alloc hW.size _) bb; have e0 := (hW.cell (p := ⟨w.heap.size, 0, none⟩) hwq).trans d0; have e1 := (hW.cell (p := ⟨w.heap.size, 1, none⟩) hwq).trans d1; have e2 := (hW.cell (p := ⟨w.heap.size, 2, none⟩) hwq).trans d2; have e3 := (hW.cell (p := ⟨w.heap.size, 3, none⟩) hwq).trans d3; have a0 := (hW.cell (p := ad.add (k * 2)) hbk).trans c0; have a1 := (hW.cell (p := ⟨(ad.add (k * 2)).block, (ad.add (k * 2)).off + 1, none⟩) hbk).trans c1; (try (obtain ⟨⟨g0, g1⟩, f0, f1⟩ := GB.out.facts2))))
            all_goals
              clear e0 e1 e2 e3 a0 a1 c0 c1 d0 d1 d2 d3 P2x
              first
                | (have hg0 := GB.out.set2 (x' := .int .i64 z.1) (y' := .int .u64 z.2); have hVB := below_setR (below_setR hW (Nat.le_refl _) (.int .i64 z.1) (o := 0)) (Nat.le_refl _) (.int .u64 z.2) (o := 1); have hG := Nat.le_refl wr.heap.size; clear GB g0 g1 f0 f1; generalize (w5.setCell ⟨wr.heap.size, 0, none⟩ (.int .i64 z.1)).setCell ⟨wr.heap.size, 1, none⟩ (.int .u64 z.2) = V at *)
                | (have hg0 := Blk.new w5 37 #[.int .i64 z.1, .int .u64 z.2]; have hVB := hW.alloc hW.size (.cells #[.int .i64 z.1, .int .u64 z.2] 37); have hG : wr.heap.size ≤ w5.heap.size := hW.size; generalize w5.alloc (.cells #[.int .i64 z.1, .int .u64 z.2] 37) = V at *; generalize w5.heap.size = gg at *)
              have gc0 := hg0.cell 0
              have gc1 := hg0.cell 1
              have HVB := Lib.hid hVB
              have hVz := hVB.size
              have hgl := hg0.lt
              clear hW hg0 hVB
              go_wp2_with (at_builtin; refine wpList_append_any _ rfl _ _ 24 rfl W1.heap.size 37 j0 (.agg #[.int .i64 0, .int .u64 0]) 2 16 Tryz.underlying24 HJ.out.1 HJ.out.2.1 HJ.out.2.2.1 HJ.out.2.2.2 rfl (by decide) _ _ _ rfl (own_below HO.out (HVB.out.alloc hVz _)) _ _ 1 _ (cells2 [z]) rfl (reads_new (Blk.new_at V _ _ rfl) 1 rfl) (cells2_one _) (by unfold maxLen; omega) (by omega) (by simp; omega) ?_; intro v' w6 hown' hgrow _; have HO7 := Lib.hid hown'; have HG := Lib.hid hgrow; clear hown' hgrow)
              go_roundw
              case rel =>
                refine ⟨k + 1, by omega, by go_num, ?_, ?_⟩
                · have h := HO7.out
                  rw [← cells2_append] at h
                  rw [HY.out]
                  exact own_s h (by simp) rfl
                · refine HBq.out.trans (((HVB.out.mono hzq).alloc (by omega) _).grown HG.out (by simp; omega) (fun g e => ?_))
                  exact own_ge HO.out g e
              case measure => simp [intOf]; omega
          · have hq : (bits .and .i64 (who / 2 ^ k) 1 == 0) = true := by
              have h : bits .and .i64 (who / 2 ^ k) 1 = 0 := by rcases hb2 with h | h; exact h; exact absurd h hbt
              rw [h]; rfl
            have HY := Lib.hid (partsB_no (K := K) (n := n) (ms := ms) (l := l) (cs := CS) k hbt)
            clear hbt hb2 d0 d1 d2 d3
            go_wp2_with fail
            go_roundw
            case rel =>
              exact ⟨k + 1, by omega, by go_num, by rw [HY.out]; exact HO.out, HBq.out⟩
            case measure => simp [intOf]; omega
        · obtain rfl : N = k := by omega
          obtain ⟨PS, hPS⟩ : ∃ PS, partsB K who n ms l CS N = PS := ⟨_, rfl⟩
          have hPU := partsB_u K who n ms l CS N
          have hPL : (partsB K who n ms l CS N).length ≤ N := by unfold partsB; rw [List.length_map]; exact pickB_le _ _ _
          rw [hPS] at HO HCF HCB hPU hPL
          have HPS := Lib.hid hPS
          obtain ⟨F, cf, rfl, q1, q2, hs2, hgF⟩ := own_sliceS HO.out
          have HQF := Lib.hid (And.intro q1 q2)
          have HFX := Lib.hid (show ShFix cf PS from ⟨by omega, q1, q2, hPU⟩)
          have P3x := Lib.hid (P3.out D cd HCX.out F cf PS HFX.out)
          obtain ⟨ch, hch⟩ : ∃ ch, chalF K ms CS = ch := ⟨_, rfl⟩
          obtain ⟨rs, hrs⟩ : ∃ rs, rsum (PS.map Prod.snd) = rs := ⟨_, rfl⟩
          rw [hch, hrs] at HCB
          have HCH := Lib.hid (And.intro hch hrs)
          rw [HCF.out, HCB.out] at P3x
          have HSF := Lib.hid hs2
          have HGF := Lib.hid (fun ad (e : F = some ad) => (show ad.block ≠ w.heap.size + 1 by have := hgF ad e; omega))
          clear q1 q2 hs2 hgF hPU hPS hch hrs
          clear P2' HSPT
          go_wp2_with fail
          refine (P3x.out _ (HSPr.out.on HBq.out) (HSMr.out.on HBq.out) (HSD.out.on HBq.out) HSF.out).mono ?_; rintro _ w7 ⟨rfl, b⟩
          have B7 := Lib.hid (below_on HBq.out b)
          have K2w := Lib.hid ((K2r.out.below HBq.out hz2).below b (by omega))
          have hz7 := b.size
          have HSF7 := Lib.hid (HSF.out.on b)
          have HSD7 := Lib.hid (HSD.out.on B7.out)
          clear b d0 d1 d2 d3
          go_wp2_with fail
          have K2x := Lib.hid (K2w.out.alloc (.cells #[.int .u64 ch, .int .u64 rs] 45))
          obtain ⟨⟨g0, g1⟩, f0, f1⟩ := K2x.out.facts2
          have KS := (Blk.new w7 45 #[.int .u64 ch, .int .u64 rs])
          have s0 := KS.cell 0
          have s1 := KS.cell 1
          have hlw : w.heap.size + 1 < w7.heap.size := by omega
          refine wp_named (fun V => (V.cell? ⟨w7.heap.size, 0, none⟩ = some (.int .u64 ch) ∧ V.cell? ⟨w7.heap.size, 1, none⟩ = some (.int .u64 rs)) ∧ Blk V (w.heap.size + 1) 45 #[.int .u64 0, .int .u64 0] ∧ Below w7.heap.size w7 V) ⟨⟨s0, s1⟩, K2x.out, (Below.refl w7.heap.size w7).alloc (Nat.le_refl _) _⟩ ?_
          clear s0 s1 K2x K2w KS g0 g1 f0 f1
          rintro V ⟨⟨s0, s1⟩, hkv, hV⟩
          have KV := Lib.hid hkv
          obtain ⟨⟨g0, g1⟩, f0, f1⟩ := hkv.facts2
          have BV := Lib.hid (below_on D1.out (below_on B7.out hV))
          have HSFv := Lib.hid (HSF7.out.on hV)
          have HSDv := Lib.hid (HSD7.out.on hV)
          clear hkv hV
          go_region_held_law (fun w' => w'.cell? ⟨w7.heap.size, 0, none⟩ = some (.int .u64 ch) ∧ w'.cell? ⟨w7.heap.size, 1, none⟩ = some (.int .u64 rs)) (first | exact ⟨by assumption, by assumption⟩ | exact ⟨cell_setA (by simp only []; omega) (by assumption), cell_setA (by simp only []; omega) (by assumption)⟩ | go_keep) (fail)
          all_goals
            go_wp2_with fail
            have h := (KV.out.set2 (x' := .int .u64 ch) (y' := .int .u64 rs)).facts2.1
            refine bodyPost_ret (v := .tuple #[.slice D CS.length cd, .slice F PS.length cf, .agg #[.int .u64 ch, .int .u64 rs], .int .i64 0]) (by simp [results, Tryz.results29, go_sem, h.1, h.2]) rfl ?_
            rw [HPS.out, HCH.out.1, HCH.out.2]
            first
              | exact ⟨D, cd, F, cf, rfl, ⟨HQD.out.1, HQD.out.2, ss_set2 HSDv.out HGD.out⟩, ⟨HQF.out.1, HQF.out.2, ss_set2 HSFv.out HGF.out⟩, below_setR (below_setR BV.out (by omega) _) (by omega) _⟩
              | exact ⟨D, cd, F, cf, rfl, ⟨HQD.out.1, HQD.out.2, ss_drew (ss_set2 HSDv.out HGD.out)⟩, ⟨HQF.out.1, HQF.out.2, ss_drew (ss_set2 HSFv.out HGF.out)⟩, (below_setR (below_setR BV.out (by omega) _) (by omega) _).drew⟩
              | (trace_state; sorry)
end Go.Proofs.YtlannmedefjfhaaGreat

/- What those of a crew that are chosen tell, if they are too few. -/
namespace Go.Proofs.YtlannmedefjfhaaGreat
open Go.ChangeShapes Go.WideShapes Go.ChangeAt Go.RowKit Gs
set_option linter.unusedVariables false

set_option maxRecDepth 100000 in
set_option maxHeartbeats 4000000 in
theorem signed_few (T N : Nat) (K who n : Int) [IsU K] (A : Option Addr) (c : Nat) (pol : List Int) (hp : ShFix c (spubs (csplit pol N))) (M : Option Addr) (cm : Nat) (ms : List Int) (hm : ByFix cm ms) (n7 : N ≤ 7) (hn0 : 0 ≤ n) (hn1 : n ≤ 1099511627776) (hcr : crewF (T : Int) (N : Int) K (spubs (csplit pol N)) = 0) (he : ((comsB who n ms (csplit pol N) N).length : Int) < (T : Int)) (E : Option Addr) (ce : Nat) (w : World) (hsp : SS w w.heap.size A (spubs (csplit pol N))) (hsm : SI w w.heap.size .u8 M ms) (hsl : SS w w.heap.size E (csplit pol N)) :
    Calls Tryz.prog 29 #[crewV (T : Int) (N : Int) K A N c, .slice E N ce, .int .i64 who, .int .i64 n, .slice M ms.length cm] w fun e w' => ∃ v1 v2, e = .returned (.tuple #[v1, v2, .agg #[.int .u64 0, .int .u64 0], .int .i64 50]) ∧ Below w.heap.size w w' := by
  have D0 := Lib.hid (((Below.refl w.heap.size w).alloc (Nat.le_refl _) (.cells #[.int .i64 (T : Int), .int .i64 (N : Int), .int .u64 K, .slice A N c] 26)).alloc (by simp) (.cells #[.int .u64 0, .int .u64 0] 45))
  have K1 := Lib.hid ((Blk.new w 26 #[.int .i64 (T : Int), .int .i64 (N : Int), .int .u64 K, .slice A N c]).alloc (.cells #[.int .u64 0, .int .u64 0] 45))
  have K2 := Lib.hid (Blk.new_at (w.alloc (.cells #[.int .i64 (T : Int), .int .i64 (N : Int), .int .u64 K, .slice A N c] 26)) 45 #[.int .u64 0, .int .u64 0] (g := w.heap.size + 1) (by simp))
  have HL := Lib.hid (csplit_length pol N)
  have HPL := Lib.hid (show (spubs (csplit pol N)).length = N by rw [spubs_length, csplit_length])
  have HSL := Lib.hid hsl
  have HSM := Lib.hid hsm
  have HSP := Lib.hid hsp
  have HLA := Lib.hid (csplit_good pol N).all
  have HMM := Lib.hid hm
  have HPP := Lib.hid hp
  obtain ⟨j0, hj, hy0, hy1, hy2⟩ := info_parts Tryz.info37
  have HJ := Lib.hid (And.intro hj (And.intro hy0 (And.intro hy1 hy2)))
  have HCR := Lib.hid hcr
  have HE := Lib.hid he
  have HSPT := Lib.hid (fun (x : Int × Int) (h : SignerOk x n) => few_spart (who := who) (ms := ms) hcr h he)
  have HCB := Lib.hid (fun (l' : List (Int × Int)) => few_comb (who := who) (ms := ms) hcr he l')
  clear hj hy0 hy1 hy2 hsl hsm hsp hm hp hcr he
  generalize spubs (csplit pol N) = ps at *
  generalize csplit pol N = l at *
  have P1 := Lib.hid (fun (x : Int × Int) (hu : IsU x.2) (h : SignerOk x n) W h' => Commit_ok x n h M cm ms HMM.out W h')
  have P2 := Lib.hid (fun D cd (hc : ShFix cd (comsB who n ms l N)) (x : Int × Int) (hu : IsU x.2) W h1 h2 h3 => Part_any (T : Int) (N : Int) K A c ps HPP.out M cm ms HMM.out D cd (comsB who n ms l N) hc x n W h1 h2 h3)
  have P3 := Lib.hid (fun D cd (hc : ShFix cd (comsB who n ms l N)) E ce l' (hl : ShFix ce l') W h1 h2 h3 h4 => Combine_any (T : Int) (N : Int) K A c ps HPP.out M cm ms HMM.out D cd (comsB who n ms l N) hc E ce l' hl W h1 h2 h3 h4)
  unfold crewV at P2 P3 ⊢
  rw [HPL.out] at P2 P3
  have HCL := Lib.hid (comsB_len who n ms l N)
  have HCU := Lib.hid (comsB_u who n ms l N)
  obtain ⟨CS, hCS⟩ : ∃ CS, comsB who n ms l N = CS := ⟨_, rfl⟩
  rw [hCS] at HE HSPT HCB P2 P3 HCL HCU
  have HCS := Lib.hid hCS
  clear hCS
  go_enter Tryz.func29, Tryz.ntmps29
  go_wp2_with fail
  refine wp_named (fun W => Blk W w.heap.size 26 #[.int .i64 (T : Int), .int .i64 (N : Int), .int .u64 K, .slice A N c] ∧ Blk W (w.heap.size + 1) 45 #[.int .u64 0, .int .u64 0] ∧ Below w.heap.size w W) ⟨K1.out, K2.out, D0.out⟩ ?_
  clear K1 K2 D0
  rintro W0 ⟨hk1, hk2, hD⟩
  have D0 := Lib.hid hD
  have K1 := Lib.hid hk1
  have K2 := Lib.hid hk2
  have hz1 := hk2.lt
  clear hk1 hk2 hD
  go_loopw [14, 16] (fun o i wr => ∃ k : Nat, k ≤ N ∧ i = .int .i64 k ∧ OwnS wr W0.heap.size o (comsB who n ms l k) ∧ Below W0.heap.size W0 wr) (fun _ i _ => N - (intOf i).toNat)
  case atStart => exact ⟨0, by omega, rfl, ⟨rfl, .inl ⟨rfl, rfl⟩⟩, Below.refl _ _⟩
  case round =>
    obtain ⟨k, hk, rfl, ho, hb⟩ := hrel
    have HO := Lib.hid ho
    have HB := Lib.hid hb
    have hz := hb.size
    clear ho hb
    by_cases hlt : k < N
    · have hkl : k < l.length := by rw [HL.out]; exact hlt
      obtain ⟨ad, rfl, had, c0, c1⟩ := ((HSL.out.on D0.out).below HB.out) k hkl
      have hal := HLA.out l[k] (List.getElem_mem hkl)
      have HYES := Lib.hid (fun h => comsB_yes (who := who) (n := n) (ms := ms) k hkl h)
      have HNO := Lib.hid (fun h => comsB_no (who := who) (n := n) (ms := ms) (l := l) k h)
      have HLen := Lib.hid (comsB_len who n ms l k)
      have hk7 : (k : Int) < 7 := by omega
      have HSO := Lib.hid (show SignerOk l[k] n by
        have h2 := pval_rb l[k].1 pol
        rw [← hal.2.2] at h2
        unfold Rb at h2
        exact ⟨hal.1, by omega, h2.2, hn0, hn1⟩)
      have HXU := Lib.hid (show IsU l[k].2 by
        have h2 := pval_rb l[k].1 pol
        rw [← hal.2.2] at h2
        exact rb_u h2)
      clear hal
      generalize l[k] = x at *
      have P := Lib.hid (P1.out x HXU.out HSO.out)
      generalize qcom x n ms = y at *
      have hb2 := bitAt_two who k
      by_cases hbt : bitAt who k = 1
      · have hq : (bits .and .i64 (who / 2 ^ k) 1 == 1) = true := by
          have h : bits .and .i64 (who / 2 ^ k) 1 = 1 := hbt
          rw [h]; rfl
        have HY := Lib.hid (HYES.out hbt)
        clear HYES HNO hbt hb2
        go_wp2_with fail
        refine (P.out _ ((HSM.out.on D0.out).on HB.out)).mono ?_; rintro _ w5 ⟨rfl, b⟩
        have B5 := Lib.hid (HB.out.trans (b.mono hz))
        have HO5 := Lib.hid (own_below HO.out b)
        have hz5 := b.size
        obtain ⟨ck, hck⟩ : ∃ ck, comsB who n ms l k = ck := ⟨_, rfl⟩
        rw [hck] at HY HO5 HLen HO
        have HLn := HLen.out
        clear b c0 c1 hck
        go_wp2_with (at_builtin; refine wpList_append_any _ rfl _ _ 24 rfl W0.heap.size 37 j0 (.agg #[.int .i64 0, .int .u64 0]) 2 16 Tryz.underlying24 HJ.out.1 HJ.out.2.1 HJ.out.2.2.1 HJ.out.2.2.2 rfl (by decide) _ _ _ rfl (own_below HO5.out (((Below.refl _ _).alloc (Nat.le_refl _) _).alloc (by simp) _)) _ _ 1 _ (cells2 [y]) rfl (reads_new (Blk.new_at (w5.alloc (.cells #[.int .i64 y.1, .int .u64 y.2] 37)) _ _ (by simp)) 1 rfl) (cells2_one _) (by unfold maxLen; omega) (by omega) (by simp; omega) ?_; intro v' w6 hown' hgrow _; have HO7 := Lib.hid hown'; have HG := Lib.hid hgrow; clear hown' hgrow)
        go_roundw
        case rel =>
          refine ⟨k + 1, by omega, by go_num, ?_, ?_⟩
          · have h := HO7.out
            rw [← cells2_append] at h
            rw [HY.out]
            exact own_s h (by simp) rfl
          · refine B5.out.trans ((((Below.refl W0.heap.size w5).alloc (by omega) _).alloc (by simp; omega) _).grown HG.out (by simp; omega) (fun g e => ?_))
            exact own_ge HO.out g e
        case measure => simp [intOf]; omega
      · have hq : (bits .and .i64 (who / 2 ^ k) 1 == 1) = false := by
          have h : bits .and .i64 (who / 2 ^ k) 1 = 0 := by rcases hb2 with h | h; exact h; exact absurd h hbt
          rw [h]; rfl
        have HY := Lib.hid (HNO.out hbt)
        clear HYES HNO hbt hb2
        go_wp2_with fail
        refine (P.out _ ((HSM.out.on D0.out).on HB.out)).mono ?_; rintro _ w5 ⟨rfl, b⟩
        have B5 := Lib.hid (HB.out.trans (b.mono hz))
        have HO5 := Lib.hid (own_below HO.out b)
        have hz5 := b.size
        have HO6 := Lib.hid (own_below HO5.out ((Below.refl w5.heap.size w5).alloc (Nat.le_refl _) (.cells #[.int .i64 y.1, .int .u64 y.2] 37)))
        clear b c0 c1
        go_wp2_with fail
        go_roundw
        case rel => exact ⟨k + 1, by omega, by go_num, by rw [HY.out]; exact HO6.out, B5.out.alloc (by omega) _⟩
        case measure => simp [intOf]; omega
    · obtain rfl : N = k := by omega
      rw [HCS.out] at HO
      obtain ⟨D, cd, rfl, q1, q2, hs1, hgD⟩ := own_sliceS HO.out
      have HGD := Lib.hid (fun ad (e : D = some ad) => (show ad.block ≠ w.heap.size + 1 by have := hgD ad e; omega))
      have HQD := Lib.hid (And.intro q1 q2)
      clear hgD
      have HCX := Lib.hid (show ShFix cd CS from ⟨by have := HCL.out; omega, q1, q2, HCU.out⟩)
      have HSD := Lib.hid hs1
      clear q1 q2 hs1
      have K1r := Lib.hid (K1.out.below HB.out (by omega))
      have K2r := Lib.hid (K2.out.below HB.out (by omega))
      have HSPr := Lib.hid ((HSP.out.on D0.out).on HB.out)
      have HSMr := Lib.hid ((HSM.out.on D0.out).on HB.out)
      have HSLr := Lib.hid ((HSL.out.on D0.out).on HB.out)
      have P2' := Lib.hid (fun (x : Int × Int) (hu : IsU x.2) W h1 h2 h3 => P2.out D cd HCX.out x hu W h1 h2 h3)
      clear P1 P2 K1 K2
      go_wp2_with fail
      refine wp_named (fun W => Blk W w.heap.size 26 #[.int .i64 (T : Int), .int .i64 (N : Int), .int .u64 K, .slice A N c] ∧ Blk W (w.heap.size + 1) 45 #[.int .u64 0, .int .u64 0] ∧ Below w.heap.size w W ∧ SS W W.heap.size D CS) ⟨K1r.out, K2r.out, D0.out.trans (HB.out.mono (by omega)), HSD.out⟩ ?_
      clear K1r K2r HSD HSPr HSMr HSLr HO HB hz
      rintro W1 ⟨hk1, hk2, hD1, hs1⟩
      have D1 := Lib.hid hD1
      have K1r := Lib.hid hk1
      have K2r := Lib.hid hk2
      have HSD := Lib.hid hs1
      have HSPr := Lib.hid (HSP.out.on hD1)
      have HSMr := Lib.hid (HSM.out.on hD1)
      have HSLr := Lib.hid (HSL.out.on hD1)
      have hz2 := hk2.lt
      clear hk1 hk2 hD1 hs1
      go_loopw [15, 19] (fun o i wr => ∃ k : Nat, k ≤ N ∧ i = .int .i64 k ∧ o = .slice none 0 0 ∧ (∀ j, j < k → bitAt who j ≠ 1) ∧ Below W1.heap.size W1 wr) (fun _ i _ => N - (intOf i).toNat)
      case atStart => exact ⟨0, by omega, rfl, rfl, fun j g => by omega, Below.refl _ _⟩
      case round =>
        obtain ⟨k, hk, rfl, rfl, h0, hb⟩ := hrel
        have HO := Lib.hid h0
        have HBq := Lib.hid hb
        have hzq := hb.size
        have kq := K1r.out.below hb (by have := K1r.out.lt; omega)
        have d0 := kq.cell 0
        have d1 := kq.cell 1
        have d2 := kq.cell 2
        have d3 := kq.cell 3
        have hwq := kq.lt
        clear hb kq h0
        by_cases hlt : k < N
        · have hkl : k < l.length := by rw [HL.out]; exact hlt
          have hal := HLA.out l[k] (List.getElem_mem hkl)
          have HSO := Lib.hid (show SignerOk l[k] n by
            have h2 := pval_rb l[k].1 pol
            rw [← hal.2.2] at h2
            unfold Rb at h2
            exact ⟨hal.1, by omega, h2.2, hn0, hn1⟩)
          have HXU := Lib.hid (show IsU l[k].2 by
            have h2 := pval_rb l[k].1 pol
            rw [← hal.2.2] at h2
            exact rb_u h2)
          clear hal
          have hk7 : (k : Int) < 7 := by omega
          have hb2 := bitAt_two who k
          by_cases hbt : bitAt who k = 1
          · have hq : (bits .and .i64 (who / 2 ^ k) 1 == 0) = false := by
              have h : bits .and .i64 (who / 2 ^ k) 1 = 1 := hbt
              rw [h]; rfl
            obtain ⟨ad, rfl, had, c0, c1⟩ := ((HSLr.out).below HBq.out) k hkl
            have hbk : (ad.add (k * 2)).block < wr.heap.size := by rw [block_of_add]; omega
            have HPT := Lib.hid (HSPT.out l[k] HSO.out)
            have P2x := Lib.hid (P2'.out l[k] HXU.out)
            rw [HPT.out.1, HPT.out.2] at P2x
            generalize l[k] = x at *
            clear HPT HSPT hbt hb2 P2' HSO HXU
            have hW : Below wr.heap.size wr wr.drew := (Below.refl wr.heap.size wr).drew
            go_wp2_with fail
            go_region_held_law (fun w' => w'.cell? ⟨w.heap.size, 0, none⟩ = some (.int .i64 (T : Int)) ∧ w'.cell? ⟨w.heap.size, 1, none⟩ = some (.int .i64 (N : Int)) ∧ w'.cell? ⟨w.heap.size, 2, none⟩ = some (.int .u64 K) ∧ w'.cell? ⟨w.heap.size, 3, none⟩ = some (.slice A N c) ∧ w'.cell? (ad.add (k * 2)) = some (.int .i64 x.1) ∧ w'.cell? ⟨(ad.add (k * 2)).block, (ad.add (k * 2)).off + 1, none⟩ = some (.int .u64 x.2)) (first | exact ⟨by assumption, by assumption, by assumption, by assumption, by assumption, by assumption⟩ | exact ⟨cell_setA (by first | omega | (simp only []; omega)) (by assumption), cell_setA (by first | omega | (simp only []; omega)) (by assumption), cell_setA (by first | omega | (simp only []; omega)) (by assumption), cell_setA (by first | omega | (simp only []; omega)) (by assumption), cell_setA (by first | omega | (simp only []; omega)) (by assumption), cell_setA (by first | omega | (simp only []; omega)) (by assumption)⟩ | go_keep)
              (first
                | (go_at_call 22; refine (P2x.out _ (HSPr.out.on (below_on HBq.out (by first | exact hW | exact hW.alloc hW.size _))) (HSMr.out.on (below_on HBq.out (by first | exact hW | exact hW.alloc hW.size _))) (HSD.out.on (below_on HBq.out (by first | exact hW | exact hW.alloc hW.size _)))).mono ?_; rintro _ w5 ⟨rfl, bb⟩; (first | (have GB := Lib.hid (show Blk w5 wr.heap.size 37 #[.int .i64 0, .int .u64 0] from (Blk.new_at wr.drew 37 #[.int .i64 0, .int .u64 0] rfl).below bb (by simp <;> omega))) | skip); have hW := below_on (by first | exact hW | exact hW.alloc hW.size _) bb; have e0 := (hW.cell (p := ⟨w.heap.size, 0, none⟩) hwq).trans d0; have e1 := (hW.cell (p := ⟨w.heap.size, 1, none⟩) hwq).trans d1; have e2 := (hW.cell (p := ⟨w.heap.size, 2, none⟩) hwq).trans d2; have e3 := (hW.cell (p := ⟨w.heap.size, 3, none⟩) hwq).trans d3; have a0 := (hW.cell (p := ad.add (k * 2)) hbk).trans c0; have a1 := (hW.cell (p := ⟨(ad.add (k * 2)).block, (ad.add (k * 2)).off + 1, none⟩) hbk).trans c1; (try (obtain ⟨⟨g0, g1⟩, f0, f1⟩ := GB.out.facts2))))
            all_goals
              clear e0 e1 e2 e3 a0 a1 c0 c1 d0 d1 d2 d3 P2x
              first
                | (have hg0 := GB.out.set2 (x' := .int .i64 0) (y' := .int .u64 0); have hVB := below_setR (below_setR hW (Nat.le_refl _) (.int .i64 0) (o := 0)) (Nat.le_refl _) (.int .u64 0) (o := 1); have hG := Nat.le_refl wr.heap.size; clear GB g0 g1 f0 f1; generalize (w5.setCell ⟨wr.heap.size, 0, none⟩ (.int .i64 0)).setCell ⟨wr.heap.size, 1, none⟩ (.int .u64 0) = V at *)
                | (have hg0 := Blk.new w5 37 #[.int .i64 0, .int .u64 0]; have hVB := hW.alloc hW.size (.cells #[.int .i64 0, .int .u64 0] 37); have hG : wr.heap.size ≤ w5.heap.size := hW.size; generalize w5.alloc (.cells #[.int .i64 0, .int .u64 0] 37) = V at *; generalize w5.heap.size = gg at *)
              have gc0 := hg0.cell 0
              have gc1 := hg0.cell 1
              have HVB := Lib.hid hVB
              have hVz := hVB.size
              have hgl := hg0.lt
              clear hW hg0 hVB
              have K2v := Lib.hid ((K2r.out.below HBq.out hz2).below HVB.out (by omega))
              obtain ⟨⟨g0, g1⟩, f0, f1⟩ := K2v.out.facts2
              go_wp2_with fail
              have h := (K2v.out.set2 (x' := .int .u64 0) (y' := .int .u64 0)).facts2.1
              refine bodyPost_ret (v := .tuple #[.slice D CS.length cd, .slice none 0 0, .agg #[.int .u64 0, .int .u64 0], .int .i64 50]) (by simp [results, Tryz.results29, go_sem, h.1, h.2]) rfl ⟨_, _, rfl, ?_⟩
              exact below_setR (below_setR (below_on D1.out (below_on HBq.out HVB.out)) (by omega) _) (by omega) _
          · have hq : (bits .and .i64 (who / 2 ^ k) 1 == 0) = true := by
              have h : bits .and .i64 (who / 2 ^ k) 1 = 0 := by rcases hb2 with h | h; exact h; exact absurd h hbt
              rw [h]; rfl
            have HBT := Lib.hid hbt
            clear hbt hb2 d0 d1 d2 d3
            go_wp2_with fail
            go_roundw
            case rel =>
              refine ⟨k + 1, by omega, by go_num, rfl, fun j g => ?_, HBq.out⟩
              by_cases e : j = k
              · subst e; exact HBT.out
              · exact HO.out j (by omega)
            case measure => simp [intOf]; omega
        · obtain rfl : N = k := by omega
          have P3x := Lib.hid (P3.out D cd HCX.out none 0 [] ⟨by simp, by simp, by unfold maxLen; omega, fun p hp => absurd hp (by simp)⟩)
          rw [(HCB.out []).1, (HCB.out []).2] at P3x
          have HSQ := Lib.hid (fun W => (show SS W W.heap.size none ([] : List (Int × Int)) from fun j hj => absurd hj (by simp)))
          clear P2' HSPT
          go_wp2_with fail
          refine (P3x.out _ (HSPr.out.on HBq.out) (HSMr.out.on HBq.out) (HSD.out.on HBq.out) (HSQ.out _)).mono ?_; rintro _ w7 ⟨rfl, b⟩
          have B7 := Lib.hid (below_on HBq.out b)
          have K2w := Lib.hid ((K2r.out.below HBq.out hz2).below b (by omega))
          have hz7 := b.size
          clear b d0 d1 d2 d3
          go_wp2_with fail
          have K2x := Lib.hid (K2w.out.alloc (.cells #[.int .u64 0, .int .u64 0] 45))
          obtain ⟨⟨g0, g1⟩, f0, f1⟩ := K2x.out.facts2
          have KS := (Blk.new w7 45 #[.int .u64 0, .int .u64 0])
          have s0 := KS.cell 0
          have s1 := KS.cell 1
          have hlw : w.heap.size + 1 < w7.heap.size := by omega
          refine wp_named (fun V => (V.cell? ⟨w7.heap.size, 0, none⟩ = some (.int .u64 0) ∧ V.cell? ⟨w7.heap.size, 1, none⟩ = some (.int .u64 0)) ∧ Blk V (w.heap.size + 1) 45 #[.int .u64 0, .int .u64 0] ∧ Below w7.heap.size w7 V) ⟨⟨s0, s1⟩, K2x.out, (Below.refl w7.heap.size w7).alloc (Nat.le_refl _) _⟩ ?_
          clear s0 s1 K2x K2w KS g0 g1 f0 f1
          rintro V ⟨⟨s0, s1⟩, hkv, hV⟩
          have KV := Lib.hid hkv
          obtain ⟨⟨g0, g1⟩, f0, f1⟩ := hkv.facts2
          have BV := Lib.hid (below_on D1.out (below_on B7.out hV))
          clear hkv hV
          go_region_held_law (fun w' => w'.cell? ⟨w7.heap.size, 0, none⟩ = some (.int .u64 0) ∧ w'.cell? ⟨w7.heap.size, 1, none⟩ = some (.int .u64 0)) (first | exact ⟨by assumption, by assumption⟩ | exact ⟨cell_setA (by simp only []; omega) (by assumption), cell_setA (by simp only []; omega) (by assumption)⟩ | go_keep) (fail)
          all_goals
            go_wp2_with fail
            have h := (KV.out.set2 (x' := .int .u64 0) (y' := .int .u64 0)).facts2.1
            refine bodyPost_ret (v := .tuple #[.slice D CS.length cd, .slice none 0 0, .agg #[.int .u64 0, .int .u64 0], .int .i64 50]) (by simp [results, Tryz.results29, go_sem, h.1, h.2]) rfl ⟨_, _, rfl, ?_⟩
            first
              | exact below_setR (below_setR BV.out (by omega) _) (by omega) _
              | exact (below_setR (below_setR BV.out (by omega) _) (by omega) _).drew
end Go.Proofs.YtlannmedefjfhaaGreat

/- Plain: what is combined is a signature; the chapter's example. -/
namespace Go.Proofs.YtlannmedefjfhaaGreat
open Go.ChangeShapes Go.WideShapes Go.ChangeAt Go.RowKit Gs
set_option linter.unusedVariables false

/-- WHAT IS COMBINED IS A SIGNATURE BY THE CREW'S KEY. -/
theorem comb_chk {T N K : Int} {ps cs l : List (Int × Int)} {ms : List Int} (hl : ∀ p ∈ l, 0 ≤ p.2) (h : combF T N K ps ms cs l = 0) : chk K ms (chalF K ms cs) (rsum (l.map Prod.snd)) = 0 := by
  have h1 : headF T N K ps cs = 0 := by
    by_cases g : headF T N K ps cs = 0
    · exact g
    · unfold combF at h; rw [if_neg g] at h; exact absurd h g
  unfold combF at h
  rw [if_pos h1] at h
  by_cases hi : l.map Prod.fst = cs.map Prod.fst
  · rw [if_pos hi] at h
    obtain ⟨⟨hok, hfit⟩, hco, hen⟩ := headF_zero h1
    have hw := firstE_zero (es := l.map (partF (chalF K ms cs) ps cs)) h
    obtain ⟨L, hL, hLb⟩ := logs ps (grp_mem (crew_grp hok))
    have hfst : L.map Prod.fst = ps.map Prod.fst := by rw [hL, spubs_fst]
    have hlen : L.length = ps.length := by rw [hL, spubs_length]
    obtain ⟨t1, tn, n7, _, hpl, hpo⟩ := hok
    have hok' : CrewOk T N K ps := ⟨t1, tn, n7, by assumption, hpl, hpo⟩
    have hlc : l.length = cs.length := by have := congrArg List.length hi; simpa using this
    have hget : ∀ i (h : i < l.length) (g : i < cs.length), l[i].1 = cs[i].1 := fun i h g => by
      have := List.getElem_of_eq hi (show i < (l.map Prod.fst).length by simpa using h)
      simpa using this
    have hJr := commits_right hco n7 (by omega)
    refine combined (T := T.toNat) (L := L) (ids := ps.map Prod.fst) hfst (crew_right hok') (by omega) hLb (by rw [← hL]; exact hfit.1) (fun i hi => ?_) (by rw [← hL]; exact hfit.2) (C := cs) (P := l) (J := cs.map Prod.fst) rfl hJr (by omega) (fun c hc => ?_) (fun c hc => ?_) hl (by omega) ms (fun i h g => ?_)
    · have := List.getElem_of_eq hfst (show i < (L.map Prod.fst).length by simpa using hi)
      simp only [List.getElem_map] at this
      rw [this]
      exact (hpo i (by omega)).1
    · obtain ⟨i, hi, rfl⟩ := List.getElem_of_mem hc
      have := (hco i hi).1
      omega
    · obtain ⟨i, hi, rfl⟩ := List.getElem_of_mem hc
      exact (hco i hi).1.2.2
    · have hz := hw (partF (chalF K ms cs) ps cs l[i]) (List.mem_map_of_mem (List.getElem_mem g))
      have hp := (partF_zero hz).2
      rw [hget i g h, cAt_eq hco i h] at hp
      rw [← hL]
      exact hp
  · rw [if_neg hi] at h; omega

theorem five_bits : bitAt 5 0 = 1 ∧ bitAt 5 1 = 0 ∧ bitAt 5 2 = 1 := by unfold bitAt; simp only [bit_and_one]; decide
theorem one_bits : bitAt 1 0 = 1 ∧ bitAt 1 1 = 0 ∧ bitAt 1 2 = 0 := by unfold bitAt; simp only [bit_and_one]; decide
theorem pick_five {l : List (Int × Int)} {a b c : Int × Int} (h : l = [a, b, c]) : pickB 5 l 3 = [a, c] := by
  subst h
  show (if bitAt 5 2 = 1 then (if bitAt 5 1 = 1 then (if bitAt 5 0 = 1 then ([] : List (Int × Int)) ++ [a] else []) ++ [b] else (if bitAt 5 0 = 1 then ([] : List (Int × Int)) ++ [a] else [])) ++ [c] else _) = _
  rw [if_pos five_bits.2.2, if_neg (by rw [five_bits.2.1]; omega), if_pos five_bits.1]
  rfl
theorem sum_one : sumB 1 3 = 1 := by
  show 0 + bitAt 1 0 + bitAt 1 1 + bitAt 1 2 = 1
  rw [one_bits.1, one_bits.2.1, one_bits.2.2]; omega
theorem sum_five : sumB 5 3 = 2 := by
  show 0 + bitAt 5 0 + bitAt 5 1 + bitAt 5 2 = 2
  rw [five_bits.1, five_bits.2.1, five_bits.2.2]; omega

/-- One more in a part is found out. -/
theorem wrong_comb {T : Int} {N : Nat} {K who n : Int} {pol ms : List Int} (hcr : crewF T (N : Int) K (spubs (csplit pol N)) = 0) (he : ¬ ((comsB who n ms (csplit pol N) N).length : Int) < T) (b : Int) (hb : b % 1152921504606845789 ≠ 0) (k : Nat) (hk : k < (partsB K who n ms (csplit pol N) (comsB who n ms (csplit pol N) N) N).length) :
    combF T (N : Int) K (spubs (csplit pol N)) ms (comsB who n ms (csplit pol N) N) ((partsB K who n ms (csplit pol N) (comsB who n ms (csplit pol N) N) N).set k ((partsB K who n ms (csplit pol N) (comsB who n ms (csplit pol N) N) N)[k].1, radd (partsB K who n ms (csplit pol N) (comsB who n ms (csplit pol N) N) N)[k].2 b)) = 60
    ∧ combS T (N : Int) K (spubs (csplit pol N)) ms (comsB who n ms (csplit pol N) N) ((partsB K who n ms (csplit pol N) (comsB who n ms (csplit pol N) N) N).set k ((partsB K who n ms (csplit pol N) (comsB who n ms (csplit pol N) N) N)[k].1, radd (partsB K who n ms (csplit pol N) (comsB who n ms (csplit pol N) N) N)[k].2 b)) = (0, 0) := by
  have h1 : headF T (N : Int) K (spubs (csplit pol N)) (comsB who n ms (csplit pol N) N) = 0 := by rw [picked_head hcr]; exact if_neg he
  have hw := picked_wrong (who := who) (K := K) (n := n) (N := N) (pol := pol) (ms := ms)
  have hf : (partsB K who n ms (csplit pol N) (comsB who n ms (csplit pol N) N) N).map Prod.fst = (comsB who n ms (csplit pol N) N).map Prod.fst := by
    unfold partsB
    rw [parts_fst]
    exact (picked_ids _ n ms).symm
  have hrb : ∀ p ∈ partsB K who n ms (csplit pol N) (comsB who n ms (csplit pol N) N) N, Rb p.2 := fun p hp => by
    obtain ⟨x, _, rfl⟩ := List.mem_map.1 hp
    exact qpart_rb _ _ _ _ _
  generalize partsB K who n ms (csplit pol N) (comsB who n ms (csplit pol N) N) N = PS at *
  generalize comsB who n ms (csplit pol N) N = CS at *
  generalize spubs (csplit pol N) = ps at *
  have hz := firstE_zero (es := PS.map (partF (chalF K ms CS) ps CS)) hw
  have hzi : ∀ i (h : i < PS.length), partF (chalF K ms CS) ps CS PS[i] = 0 := fun i h => hz _ (List.mem_map_of_mem (List.getElem_mem h))
  have e : combF T (N : Int) K ps ms CS (PS.set k (PS[k].1, radd PS[k].2 b)) = 60 := by
    unfold combF
    rw [if_pos h1, if_pos (by
      rw [List.map_set, ← hf]
      show (PS.map Prod.fst).set k PS[k].1 = PS.map Prod.fst
      apply List.ext_getElem
      · simp
      · intro i g1 g2
        rw [List.getElem_set]
        split
        · rename_i e; subst e; simp
        · rfl)]
    have hk' : k < (PS.set k (PS[k].1, radd PS[k].2 b)).length := by simpa using hk
    have h60 : partF (chalF K ms CS) ps CS (PS[k].1, radd PS[k].2 b) = 60 :=
      other_part (hrb _ (List.getElem_mem hk)) (radd_bound _ _) (hzi k hk) (radd_ne (hrb _ (List.getElem_mem hk)) hb)
    rw [wrong_stop k hk' (fun j g hj => by
      rw [List.getElem_set_ne (by omega)]
      exact hzi j (by simpa using g)) (by rw [List.getElem_set_self, h60]; omega), List.getElem_set_self, h60]
  exact ⟨e, if_neg (by rw [e]; omega)⟩
theorem wrong_comb2 {T : Int} {N : Nat} {K who n : Int} {pol ms : List Int} (hcr : crewF T (N : Int) K (spubs (csplit pol N)) = 0) (b : Int) (hb : b % 1152921504606845789 ≠ 0) (CS PS : List (Int × Int)) (hCS : comsB who n ms (csplit pol N) N = CS) (hPS : partsB K who n ms (csplit pol N) CS N = PS) (he : ¬ (CS.length : Int) < T) (k : Nat) (hk : k < PS.length) :
    combF T (N : Int) K (spubs (csplit pol N)) ms CS (PS.set k (PS[k].1, radd PS[k].2 b)) = 60 ∧ combS T (N : Int) K (spubs (csplit pol N)) ms CS (PS.set k (PS[k].1, radd PS[k].2 b)) = (0, 0) := by
  subst hCS
  subst hPS
  exact wrong_comb hcr he b hb k hk
end Go.Proofs.YtlannmedefjfhaaGreat
