/- The document's own answers on quorums, from the inside out: ids, the product of weighted ones, places, commitments, what is challenged. -/
import Derived.Test.YtlannmedefjfhaaGreatQuorumG
namespace Go.Proofs.YtlannmedefjfhaaGreat
open Go.ChangeShapes Go.WideShapes Go.ChangeAt Go.RowKit Gs
set_option linter.unusedVariables false

set_option maxHeartbeats 2000000 in
theorem ids6_any (A : Option Addr) (n c : Nat) (l : List (Int × Int)) (hn : l.length = n) (hl : n ≤ 1048576) (w : World) (hs : SS w w.heap.size A l) :
    Calls Tryz.prog 102 #[.slice A n c] w fun e w' => ∃ v', e = .returned v' ∧ OwnI w' w.heap.size v' (l.map Prod.fst) ∧ Below w.heap.size w w' := by
  subst hn
  have HS := Lib.hid hs
  obtain ⟨i0, hi, hz0, hz1, hz2⟩ := info_parts Tryz.info3
  have HI := Lib.hid (And.intro hi (And.intro hz0 (And.intro hz1 hz2)))
  clear hi hz0 hz1 hz2 hs
  go_enter Tryz.func102, Tryz.ntmps102
  go_wp2_with fail
  go_loopw [3, 4] (fun b i wr => ∃ k : Nat, k ≤ l.length ∧ i = .int .i64 k ∧ OwnI wr w.heap.size b ((l.map Prod.fst).take k) ∧ Below w.heap.size w wr) (fun _ i _ => l.length - (intOf i).toNat)
  case atStart => exact ⟨0, by omega, rfl, ⟨rfl, .inl ⟨rfl, rfl⟩⟩, Below.refl _ _⟩
  case round =>
    obtain ⟨k, hk, rfl, ho, hb⟩ := hrel
    have HO' := Lib.hid ho
    have HB := Lib.hid hb
    clear ho hb
    by_cases hlt : k < l.length
    · obtain ⟨ad, rfl, had, c0, c1⟩ := (HS.out.below HB.out) k hlt
      have HLen := Lib.hid (show ((l.map Prod.fst).take k).length = k by rw [List.length_take, List.length_map, Nat.min_eq_left hk])
      have HT := Lib.hid (show (l.map Prod.fst).take (k + 1) = (l.map Prod.fst).take k ++ [l[k].1] by rw [List.take_succ_eq_append_getElem (by simpa using hlt)]; simp)
      have hz := HB.out.size
      go_wp2_with (at_builtin; refine wpList_append_own _ rfl _ _ 85 rfl w.heap.size 3 i0 (.int .i64 0) 1 8 Tryz.underlying85 HI.out.1 HI.out.2.1 HI.out.2.2.1 HI.out.2.2.2 rfl (by decide) _ _ _ rfl (HO'.out.alloc _) ⟨wr.heap.size, 0, none⟩ 1 1 [.int .i64 l[k].1] rfl rfl (cell_one_new _ _ _) (by simp [Value.oneCell']) (by rw [HLen.out]; unfold maxLen; omega) (by rw [HLen.out]; omega) (by simp; omega) ?_; intro v' w1 hown' hgrow _; have HO2 := Lib.hid hown'; have HG := Lib.hid hgrow; clear hown' hgrow)
      go_roundw
      case rel =>
        refine ⟨k + 1, by omega, by go_num, ?_, ?_⟩
        · rw [HT.out]
          exact own_i HO2.out (by simp) (by simp)
        · refine (HB.out.alloc HB.out.size _).grown HG.out (by simp; omega) (fun g e => ?_)
          exact own_ge HO'.out g e
      case measure => simp [intOf]; omega
    · obtain rfl : k = l.length := by omega
      have HA := Lib.hid (show (l.map Prod.fst).take l.length = l.map Prod.fst by rw [List.take_of_length_le (by simp)])
      go_wp2_with fail
      go_ret
      exact ⟨_, rfl, by have h := HO'.out; rwa [HA.out] at h, HB.out⟩

set_option maxRecDepth 100000 in
set_option maxHeartbeats 4000000 in
theorem joint6_any (A : Option Addr) (n c : Nat) (l : List (Int × Int)) (hn : l.length = n) (J : List Int) (hJ : l.map Prod.fst = J) (hr : RightI J) (hu : ∀ p ∈ l, 0 ≤ p.2 ∧ p.2 < 18446744073709551616) (w : World) (hs : SS w w.heap.size A l) :
    Calls Tryz.prog 47 #[.slice A n c] w fun e w' => e = .returned (.int .u64 (qat J 0 l)) ∧ Below w.heap.size w w' := by
  have hl : n ≤ 7 := by have := hr.2.1; rw [← hJ] at this; simp at this; omega
  have HS := Lib.hid hs
  have HU := Lib.hid hu
  have HR := Lib.hid hr
  have HN := Lib.hid hn
  have HJL := Lib.hid (show J.length = n by rw [← hJ, List.length_map, hn])
  have HMem := Lib.hid (show ∀ k (h : k < l.length), l[k].1 ∈ J by rw [← hJ]; exact fun k h => List.mem_map_of_mem (List.getElem_mem h))
  have P7 := Lib.hid (fun w hs => ids6_any A n c l hn (by omega) w hs)
  rw [hJ] at P7
  have P8 := Lib.hid (fun A c (i : Int) (hi : i ∈ J) w hs => (refWeight_any A c J (by rw [HJL.out]; omega) i w.heap.size w hs).mono fun r w' (h : WeightE J i r ∧ Dr w w') => (⟨h.1.1 ⟨HR.out, hi⟩, h.2.below _⟩ : r = .returned (.tuple #[.int .u64 (wat J i 0), .int .i64 0]) ∧ Below w.heap.size w w'))
  rw [HJL.out] at P8
  clear hs hu hr hJ hn
  go_enter Tryz.func47, Tryz.ntmps47
  go_wp2_with fail
  go_loopw [3, 4] (fun o j wr => ∃ k : Nat, k ≤ n ∧ j = .int .i64 k ∧ o = .int .u64 (qat J 0 (l.take k)) ∧ Below w.heap.size w wr) (fun _ j _ => n - (intOf j).toNat)
  case atStart => exact ⟨0, by omega, rfl, rfl, Below.refl _ _⟩
  case round =>
    obtain ⟨k, hk, rfl, rfl, hd⟩ := hrel
    have HD := Lib.hid hd
    have hz := hd.size
    clear hd
    by_cases hlt : k < n
    · have hkS : k < l.length := by rw [HN.out]; exact hlt
      obtain ⟨ad, rfl, had, c0, c1⟩ := (HS.out.on HD.out) k hkS
      have HT := Lib.hid (show qat J 0 (l.take (k + 1)) = qmul (qat J 0 (l.take k)) (qpow l[k].2 (wat J l[k].1 0)) by rw [qat_take J 0 l k hkS]; rfl)
      have hq := HU.out _ (List.getElem_mem hkS)
      haveI : IsU l[k].2 := ⟨hq.1, hq.2⟩
      have P9 := Lib.hid (ref_Pow l[k].2 (wat J l[k].1 0))
      have P10 := Lib.hid (ref_Mul (qat J 0 (l.take k)) (qpow l[k].2 (wat J l[k].1 0)))
      have HMk := Lib.hid (HMem.out k hkS)
      have HUr := Lib.hid (HS.out.on HD.out)
      have hbk : (ad.add (k * 2)).block < wr.heap.size := by rw [block_of_add]; exact had
      clear hq
      generalize l[k].1 = pi at P9 P10 HT HMk c0 ⊢
      generalize l[k].2 = px at P9 P10 HT c1 ⊢
      go_wp2_with fail
      have hd : wr.heap.size ≤ wr.drew.heap.size := Nat.le_refl _
      go_region_held_law (fun w' => w'.cell? (ad.add (k * 2)) = some (.int .i64 pi)) (first | assumption | go_keep)
        (first
          | (go_at_call 102; refine (P7.out _ (HUr.out.on ((Below.refl _ _).drew))).mono ?_; rintro _ w5 ⟨v5, rfl, ho5, b5⟩; obtain ⟨A5, c5, rfl, q1, q2, hs5, _⟩ := own_sliceI ho5; have hW := (Below.refl wr.heap.size wr).drew.trans (b5.mono (by omega)); have k0 := (hW.cell (p := ad.add (k * 2)) hbk).trans c0)
          | (go_at_call 101; rw [HJL.out]; refine (P8.out A5 c5 pi HMk.out _ hs5).mono ?_; rintro _ w6 ⟨rfl, b6⟩; have hW := hW.trans (b6.mono hW.size); have k0 := (hW.cell (p := ad.add (k * 2)) hbk).trans c0))
      have c1' := (hW.cell (p := ⟨(ad.add (k * 2)).block, (ad.add (k * 2)).off + 1, none⟩) hbk).trans c1
      have B6 := Lib.hid (below_on HD.out hW)
      clear hW k0 c0 c1 hd
      go_wp2_with fail
      refine (P9.out _).mono ?_; rintro _ w7 ⟨rfl, rfl⟩
      go_wp2_with fail
      refine (P10.out _).mono ?_; rintro _ w8 ⟨rfl, rfl⟩
      go_wp2_with fail
      go_roundw
      case rel => exact ⟨k + 1, by omega, by go_num, by rw [HT.out], B6.out⟩
      case measure => simp [intOf]; omega
    · obtain rfl : k = n := by omega
      have hq : qat J 0 (l.take k) = qat J 0 l := by rw [List.take_of_length_le (by rw [HN.out]; omega)]
      rw [hq]
      go_wp2_with fail
      go_ret
      exact ⟨rfl, HD.out⟩

set_option maxHeartbeats 2000000 in
theorem find6_any (A : Option Addr) (n c : Nat) (l : List (Int × Int)) (hn : l.length = n) (hl : n ≤ 1048576) (i : Int) (w : World) (hs : SS w w.heap.size A l) :
    Calls Tryz.prog 60 #[.slice A n c, .int .i64 i] w fun e w' => e = .returned (.int .i64 (idxF (l.map Prod.fst) i)) ∧ Below w.heap.size w w' := by
  subst hn
  have HS := Lib.hid hs
  clear hs
  have hlm : (l.map Prod.fst).length = l.length := by simp
  go_enter Tryz.func60, Tryz.ntmps60
  go_wp2_with fail
  go_loopw [5] (fun j wr => ∃ k : Nat, k ≤ l.length ∧ j = .int .i64 k ∧ (∀ j (g : j < l.length), j < k → i ≠ l[j].1) ∧ Below w.heap.size w wr) (fun j _ => l.length - (intOf j).toNat)
  case atStart => exact ⟨0, by omega, rfl, fun j g h => by omega, Below.refl _ _⟩
  case round =>
    obtain ⟨k, hk, rfl, h0, hb⟩ := hrel
    have HB := Lib.hid hb
    have H0 := Lib.hid h0
    have hz := hb.size
    clear hb h0
    by_cases hlt : k < l.length
    · obtain ⟨ad, rfl, had, c0, c1⟩ := (HS.out.below HB.out) k hlt
      have HY := Lib.hid (fun (e : i = l[k].1) => idxF_at (l := l.map Prod.fst) (x := i) k (by rw [hlm]; exact hlt) (by rw [List.getElem_map]; exact e) (fun j g => by rw [List.getElem_map]; exact H0.out j (by omega) g))
      have HN := Lib.hid (fun (e : i ≠ l[k].1) => (show ∀ j (g : j < l.length), j < k + 1 → i ≠ l[j].1 from fun j g h => by
        by_cases ej : j = k
        · subst ej; exact e
        · exact H0.out j g (by omega)))
      by_cases he : i = l[k].1
      · have hq : (l[k].1 == i) = true := by simpa using he.symm
        have HY2 := Lib.hid (HY.out he)
        clear HY HN he c1
        generalize l[k].1 = y at *
        go_wp2_with fail
        go_ret
        exact ⟨by rw [HY2.out]; rfl, HB.out⟩
      · have hq : (l[k].1 == i) = false := by simpa using fun e => he e.symm
        have HN2 := Lib.hid (HN.out he)
        clear HY HN he c1
        generalize l[k].1 = y at *
        go_wp2_with fail
        go_roundw
        case rel => exact ⟨k + 1, by omega, by go_num, HN2.out, HB.out⟩
        case measure => simp [intOf]; omega
    · obtain rfl : k = l.length := by omega
      have HA := Lib.hid (idxF_none (l := l.map Prod.fst) (not_mem_all (fun j g => by rw [List.getElem_map]; exact H0.out j (by simpa using g) (by simpa using g))))
      go_wp2_with fail
      go_ret
      exact ⟨by rw [HA.out]; rfl, HB.out⟩
end Go.Proofs.YtlannmedefjfhaaGreat
