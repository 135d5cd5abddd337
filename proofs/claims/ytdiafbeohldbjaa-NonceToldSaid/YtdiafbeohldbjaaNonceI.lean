/- Contracts of nonce: the document's Use. -/
import Derived.Test.YtdiafbeohldbjaaNonceH
namespace Go.Proofs.Ytdiafbeohldbjaa
open Go.ChangeShapes Go.WideShapes Go.ChangeAt Go.RowKit Gs
set_option linter.unusedVariables false
set_option linter.unusedSimpArgs false

def keepF (n now : Int) (L : List (Int × Int)) : List (Int × Int) := L.filter (fun p => !hitF n now p)
theorem keep_take {n now : Int} {L : List (Int × Int)} (k : Nat) (h : k < L.length) : keepF n now (L.take (k + 1)) = if hitF n now L[k] then keepF n now (L.take k) else keepF n now (L.take k) ++ [L[k]] := by
  unfold keepF
  rw [List.take_succ_eq_append_getElem h, List.filter_append]
  cases hq : hitF n now L[k] <;> simp [hq]
theorem keep_len {n now : Int} {L : List (Int × Int)} (k : Nat) : (keepF n now (L.take k)).length ≤ k := by
  unfold keepF; exact Nat.le_trans (List.length_filter_le _ _) (List.length_take_le _ _)
theorem any_take_succ {n now : Int} {L : List (Int × Int)} (k : Nat) (h : k < L.length) : (L.take (k + 1)).any (hitF n now) = ((L.take k).any (hitF n now) || hitF n now L[k]) := by
  rw [List.take_succ_eq_append_getElem h, List.any_append]; simp

set_option maxHeartbeats 4000000 in
theorem refUse_any (nx n now : Int) (A : Option Addr) (c : Nat) (L : List (Int × Int)) (hl : L.length ≤ 1048576) (w : World) (hs : NS w w.heap.size A L) :
    Calls Try.prog 21 #[fv nx A L.length c, .int .i64 n, .int .i64 now] w fun e w' => UseE w' w.heap.size (useF nx L n now) e ∧ Below w.heap.size w w' := by
  have HS := Lib.hid hs
  have HC := Lib.hid (fun w hs => refCheck_any nx A c L (by omega) w hs)
  have HT := Lib.hid (fun w => time_any now w)
  clear hs
  have Bw := Lib.hid (((Below.refl w.heap.size w).alloc (Nat.le_refl _) (.cells #[.int .i64 nx, .slice A L.length c] 24)).alloc (by simp) (.cells #[.int .i64 0, .slice none 0 0] 24))
  generalize hW : (w.alloc (.cells #[.int .i64 nx, .slice A L.length c] 24)).alloc (.cells #[.int .i64 0, .slice none 0 0] 24) = W at Bw
  have hz : W.heap.size = w.heap.size + 1 + 1 := by rw [← hW]; simp
  have b0 : Blk W w.heap.size 24 #[.int .i64 nx, .slice A L.length c] := by rw [← hW]; exact (Blk.new _ _ _).alloc _
  have b2 : Blk W (w.heap.size + 1) 24 #[.int .i64 0, .slice none 0 0] := by rw [← hW]; exact Blk.new_at _ _ _ (by simp)
  have B0 := Lib.hid b0
  have B2 := Lib.hid b2
  have HZ := Lib.hid hz
  have HW := Lib.hid hW
  clear b0 b2 hz hW
  have HE : Hid (∀ w1 err, Below w.heap.size w w1 → useF nx L n now = (0, [], err) → UseE ((w1.setCell ⟨w.heap.size + 1, 0, none⟩ (.int .i64 0)).setCell ⟨w.heap.size + 1, 1, none⟩ (.slice none 0 0)) w.heap.size (useF nx L n now) (.returned (.tuple #[.agg #[.int .i64 0, .slice none 0 0], .int .i64 err])) ∧ Below w.heap.size w ((w1.setCell ⟨w.heap.size + 1, 0, none⟩ (.int .i64 0)).setCell ⟨w.heap.size + 1, 1, none⟩ (.slice none 0 0))) := Lib.hid fun w1 err hb he => ⟨⟨_, by rw [he], by rw [he]; exact fence_zero _ _⟩, below_setR (below_setR hb (by omega) _) (by omega) _⟩
  by_cases h : chkF nx L = 0
  · cases ht : tm now with
    | true =>
      have HK := Lib.hid h
      have HTm := Lib.hid ht
      rw [h] at HC
      rw [ht] at HT
      clear h ht
      obtain ⟨i0, hi, hz0, hz1, hz2⟩ := info_parts Try.info41
      have HI := Lib.hid (And.intro hi (And.intro hz0 (And.intro hz1 hz2)))
      clear hi hz0 hz1 hz2
      go_enter Try.func21, Try.ntmps21
      go_wp2_with fail
      rw [HW.out]
      refine (HC.out _ (HS.out.on Bw.out)).mono ?_; rintro e w1 ⟨rfl, k1⟩
      have K1 := Lib.hid k1
      have hz1 : w.heap.size + 1 < w1.heap.size := by have := k1.size; have := HZ.out; omega
      have D0 := Lib.hid (B0.out.below k1 (by rw [HZ.out]; omega))
      have D2 := Lib.hid (B2.out.below k1 (by rw [HZ.out]; omega))
      clear k1
      obtain ⟨⟨x0, x1⟩, x2, x3⟩ := D0.out.facts2
      go_wp2_with fail
      refine (HT.out _).mono ?_; rintro e w2 ⟨rfl, rfl⟩
      have hzl : w.heap.size < w1.heap.size := by omega
      go_wp2_with fail
      clear x0 x1 x2 x3
      go_loopw [10, 11] (fun met i wr => ∃ (k : Nat) (v : Value), k ≤ L.length ∧ i = .int .i64 k ∧ met = .bool ((L.take k).any (hitF n now)) ∧ Blk wr w.heap.size 24 #[.int .i64 nx, .slice A L.length c] ∧ Blk wr (w.heap.size + 1) 24 #[.int .i64 0, .slice none 0 0] ∧ Blk wr w1.heap.size 24 #[.int .i64 nx, v] ∧ OwnN wr (w1.heap.size + 1) v (keepF n now (L.take k)) ∧ Below w.heap.size w wr) (fun _ i _ => L.length - (intOf i).toNat)
      case atStart =>
        refine ⟨0, _, by omega, rfl, by simp, D0.out.alloc _, D2.out.alloc _, Blk.new_at _ _ _ (by simp), ?_, (Bw.out.trans (K1.out.mono (by rw [HZ.out]; omega))).alloc (by omega) _⟩
        rw [List.take_zero]; exact own_nilN _ _
      case round =>
        obtain ⟨k, v, hk, rfl, rfl, b0, b1, b2, ho, hb⟩ := hrel
        have HB := Lib.hid hb
        have HO := Lib.hid ho
        have B0 := Lib.hid b0
        have B1 := Lib.hid b1
        have B2 := Lib.hid b2
        have hsz : w1.heap.size < wr.heap.size := b2.lt
        obtain ⟨⟨x0, x1⟩, x2, x3⟩ := b0.facts2
        obtain ⟨⟨y0, y1⟩, y2, y3⟩ := b1.facts2
        obtain ⟨⟨z0, z1⟩, z2, z3⟩ := b2.facts2
        clear hb ho b0 b1 b2
        obtain ⟨mt, hmt⟩ : ∃ mt, (L.take k).any (hitF n now) = mt := ⟨_, rfl⟩
        rw [hmt]
        by_cases hlt : k < L.length
        · obtain ⟨ad, rfl, had, c0, c1⟩ := (HS.out.below HB.out) k hlt
          have HT := Lib.hid (keep_take (n := n) (now := now) k hlt)
          have HL := Lib.hid (keep_len (n := n) (now := now) (L := L) k)
          have HY := Lib.hid (any_take_succ (n := n) (now := now) k hlt)
          rw [hmt] at HY
          have HE : Hid (L[k] = (L[k].1, L[k].2)) := Lib.hid rfl
          generalize hN : L[k].1 = x, hU : L[k].2 = u at c0 c1 HE
          rw [HE.out] at HY HT
          clear hN hU hmt
          by_cases hx : x = n
          · have hx1 : (x == n) = true := by simpa using hx
            by_cases hu : now ≤ u
            · have hh : hitF n now (x, u) = true := by unfold hitF freshF; simp [hx, hu]
              have HY' := Lib.hid HY.out
              rw [hh, Bool.or_true] at HY'
              have HT' := Lib.hid HT.out
              rw [hh, if_pos rfl] at HT'
              clear hx hh
              go_wp2_with fail
              go_roundw
              case rel => exact ⟨k + 1, v, by omega, by go_num, by rw [HY'.out], B0.out, B1.out, B2.out, by rw [HT'.out]; exact HO.out, HB.out⟩
              case measure => simp [intOf]; omega
            · have hh : hitF n now (x, u) = false := by unfold hitF freshF; simp [hu]
              have HY' := Lib.hid HY.out
              rw [hh, Bool.or_false] at HY'
              have HT' := Lib.hid HT.out
              rw [hh, if_neg (by simp)] at HT'
              clear hx hh
              obtain ⟨A2, c2, rfl, _, _, _, _⟩ := own_sliceN HO.out
              obtain ⟨m, hm⟩ : ∃ m, (keepF n now (L.take k)).length = m := ⟨_, rfl⟩
              have HM := Lib.hid hm
              have hmk : m ≤ k := by rw [← hm]; exact HL.out
              have HO2 := Lib.hid (show wr.ownsRow (w1.heap.size + 1) 41 2 (.slice A2 m c2) m (cellsN (keepF n now (L.take k))) by have h := HO.out; unfold OwnN at h; rw [hm] at h; exact h)
              rw [hm] at z1 B2
              clear hm HO
              have HB1 := Lib.hid (HB.out.alloc HB.out.size (.cells #[.int .i64 x, .int .i64 u] 41))
              go_wp2_with fail
              go_region_law (refine step_app_any (by rfl) _ _ 22 (by rfl) (w1.heap.size + 1) 41 i0 (.agg #[.int .i64 0, .int .i64 0]) 2 16 Try.underlying22 HI.out.1 HI.out.2.1 HI.out.2.2.1 HI.out.2.2.2 (by rfl) (by decide) _ m (cellsN (keepF n now (L.take k))) (by rfl) (HO2.out.alloc _) _ _ 1 _ (cellsN [(x, u)]) (by rfl) (reads_newN (Blk.new_at _ _ _ (by rfl)) 1 rfl) (cellsN_one _) (by unfold maxLen; omega) (by omega) (by simp; omega) ?_; intro v4 w4 ho4 hb4; have HO5 := Lib.hid (own_n (l := keepF n now (L.take k) ++ [(x, u)]) ho4 (by simp [HM.out]) (by rw [cellsN_append])); obtain ⟨A4, c4, rfl, _, _, _, _⟩ := own_sliceN HO5.out; have HG4 := Lib.hid hb4; clear ho4 hb4; have c0' := Lib.hid ((B0.out.alloc (.cells #[.int .i64 x, .int .i64 u] 41)).drew.below HG4.out (by omega)); have c1' := Lib.hid ((B1.out.alloc (.cells #[.int .i64 x, .int .i64 u] 41)).drew.below HG4.out (by omega)); have c2' := Lib.hid ((B2.out.alloc (.cells #[.int .i64 x, .int .i64 u] 41)).drew.below HG4.out (by omega)); have HB4 := Lib.hid (HB1.out.drew.trans (HG4.out.mono (by omega))); obtain ⟨⟨s0, s1⟩, s2, s3⟩ := c2'.out.facts2)
              all_goals
                go_wp2_with fail
                go_roundw
                case rel =>
                  refine ⟨k + 1, _, by omega, by go_num, by rw [HY'.out], c0'.out.other (by simp; omega) _, c1'.out.other (by show w.heap.size + 1 ≠ w1.heap.size; omega) _, c2'.out.set 1 _, ?_, below_setR HB4.out (by omega) _⟩
                  rw [HT'.out]
                  have hf := HO5.out.set (g := w1.heap.size) (o := 1) (by omega) (.slice A4 (keepF n now (L.take k) ++ [(x, u)]).length c4)
                  simpa using hf
                case measure => simp [intOf]; omega
          · have hx1 : (x == n) = false := by simpa using hx
            have hh : hitF n now (x, u) = false := by unfold hitF; simp [hx]
            have HY' := Lib.hid HY.out
            rw [hh, Bool.or_false] at HY'
            have HT' := Lib.hid HT.out
            rw [hh, if_neg (by simp)] at HT'
            clear hx hh
            obtain ⟨A2, c2, rfl, _, _, _, _⟩ := own_sliceN HO.out
            obtain ⟨m, hm⟩ : ∃ m, (keepF n now (L.take k)).length = m := ⟨_, rfl⟩
            have HM := Lib.hid hm
            have hmk : m ≤ k := by rw [← hm]; exact HL.out
            have HO2 := Lib.hid (show wr.ownsRow (w1.heap.size + 1) 41 2 (.slice A2 m c2) m (cellsN (keepF n now (L.take k))) by have h := HO.out; unfold OwnN at h; rw [hm] at h; exact h)
            rw [hm] at z1 B2
            clear hm HO
            have HB1 := Lib.hid (HB.out.alloc HB.out.size (.cells #[.int .i64 x, .int .i64 u] 41))
            go_wp2_with fail
            go_region_law (refine step_app_any (by rfl) _ _ 22 (by rfl) (w1.heap.size + 1) 41 i0 (.agg #[.int .i64 0, .int .i64 0]) 2 16 Try.underlying22 HI.out.1 HI.out.2.1 HI.out.2.2.1 HI.out.2.2.2 (by rfl) (by decide) _ m (cellsN (keepF n now (L.take k))) (by rfl) (HO2.out.alloc _) _ _ 1 _ (cellsN [(x, u)]) (by rfl) (reads_newN (Blk.new_at _ _ _ (by rfl)) 1 rfl) (cellsN_one _) (by unfold maxLen; omega) (by omega) (by simp; omega) ?_; intro v4 w4 ho4 hb4; have HO5 := Lib.hid (own_n (l := keepF n now (L.take k) ++ [(x, u)]) ho4 (by simp [HM.out]) (by rw [cellsN_append])); obtain ⟨A4, c4, rfl, _, _, _, _⟩ := own_sliceN HO5.out; have HG4 := Lib.hid hb4; clear ho4 hb4; have c0' := Lib.hid ((B0.out.alloc (.cells #[.int .i64 x, .int .i64 u] 41)).drew.below HG4.out (by omega)); have c1' := Lib.hid ((B1.out.alloc (.cells #[.int .i64 x, .int .i64 u] 41)).drew.below HG4.out (by omega)); have c2' := Lib.hid ((B2.out.alloc (.cells #[.int .i64 x, .int .i64 u] 41)).drew.below HG4.out (by omega)); have HB4 := Lib.hid (HB1.out.drew.trans (HG4.out.mono (by omega))); obtain ⟨⟨s0, s1⟩, s2, s3⟩ := c2'.out.facts2)
            all_goals
              go_wp2_with fail
              go_roundw
              case rel =>
                refine ⟨k + 1, _, by omega, by go_num, by rw [HY'.out], c0'.out.other (by simp; omega) _, c1'.out.other (by show w.heap.size + 1 ≠ w1.heap.size; omega) _, c2'.out.set 1 _, ?_, below_setR HB4.out (by omega) _⟩
                rw [HT'.out]
                have hf := HO5.out.set (g := w1.heap.size) (o := 1) (by omega) (.slice A4 (keepF n now (L.take k) ++ [(x, u)]).length c4)
                simpa using hf
              case measure => simp [intOf]; omega
        · obtain rfl : k = L.length := by omega
          have HTk := Lib.hid (show keepF n now (L.take L.length) = keepF n now L by rw [List.take_length])
          rw [List.take_length] at hmt
          have HM := Lib.hid hmt
          clear hmt
          cases mt with
          | true =>
            obtain ⟨A2, c2, rfl, _, _, _, _⟩ := own_sliceN HO.out
            have HU := Lib.hid (use_ok (nx := nx) HK.out HTm.out HM.out)
            go_wp2_with fail
            refine bodyPost_ret (v := .tuple #[.agg #[.int .i64 nx, .slice A2 (keepF n now (L.take L.length)).length c2], .int .i64 0]) (by simp [results, Try.results21, go_sem, y0, y1, y2, y3]) rfl ⟨⟨_, by rw [HU.out], ?_⟩, ?_⟩
            · rw [HU.out]
              refine ⟨_, rfl, ?_⟩
              have hf := ((HO.out.set (g := w.heap.size + 1) (o := 0) (by omega) (.int .i64 nx)).set (g := w.heap.size + 1) (o := 1) (by omega) (.slice A2 (keepF n now (L.take L.length)).length c2)).base (show w.heap.size ≤ w1.heap.size + 1 by omega)
              rw [HTk.out] at hf ⊢
              exact hf
            · exact below_setR (below_setR HB.out (by omega) _) (by omega) _
          | false =>
            have HU := Lib.hid (use_stale (nx := nx) HK.out HTm.out HM.out)
            go_wp2_with fail
            exact bodyPost_ret (v := .tuple #[.agg #[.int .i64 0, .slice none 0 0], .int .i64 210]) (by simp [results, Try.results21, go_sem, y0, y1, y2, y3]) rfl (HE.out _ _ HB.out HU.out)
    | false =>
      have HU := Lib.hid (use_arg (n := n) h ht)
      rw [h] at HC
      rw [ht] at HT
      clear h ht
      go_enter Try.func21, Try.ntmps21
      go_wp2_with fail
      rw [HW.out]
      refine (HC.out _ (HS.out.on Bw.out)).mono ?_; rintro e w1 ⟨rfl, k1⟩
      have K1 := Lib.hid (Bw.out.trans (k1.mono (by rw [HZ.out]; omega)))
      obtain ⟨⟨y0, y1⟩, y2, y3⟩ := (B2.out.below k1 (by rw [HZ.out]; omega)).facts2
      clear k1
      go_wp2_with fail
      refine (HT.out _).mono ?_; rintro e w2 ⟨rfl, rfl⟩
      go_wp2_with fail
      exact bodyPost_ret (v := .tuple #[.agg #[.int .i64 0, .slice none 0 0], .int .i64 1]) (by simp [results, Try.results21, go_sem, y0, y1, y2, y3]) rfl (HE.out _ _ K1.out HU.out)
  · have HU := Lib.hid (use_chk (n := n) (now := now) h)
    have hx : (chkF nx L != 0) = true := by simpa using h
    generalize chkF nx L = r at HC HU hx
    clear h
    go_enter Try.func21, Try.ntmps21
    go_wp2_with fail
    rw [HW.out]
    refine (HC.out _ (HS.out.on Bw.out)).mono ?_; rintro e w1 ⟨rfl, k1⟩
    have K1 := Lib.hid (Bw.out.trans (k1.mono (by rw [HZ.out]; omega)))
    obtain ⟨⟨y0, y1⟩, y2, y3⟩ := (B2.out.below k1 (by rw [HZ.out]; omega)).facts2
    clear k1
    go_wp2_with fail
    exact bodyPost_ret (v := .tuple #[.agg #[.int .i64 0, .slice none 0 0], .int .i64 r]) (by simp [results, Try.results21, go_sem, y0, y1, y2, y3]) rfl (HE.out _ _ K1.out HU.out)
end Go.Proofs.Ytdiafbeohldbjaa
