/- What the document deals; crews that are alike. -/
import Derived.Test.YtlannmedefjfhaaGreatQuorumU
import Derived.Test.YtlannmedefjfhaaGreatQuorumR3
import Derived.Test.YtlannmedefjfhaaGreatQuorumJoinsWalk
namespace Go.Proofs.YtlannmedefjfhaaGreat
open Go.ChangeShapes Go.WideShapes Go.ChangeAt Go.RowKit Gs
set_option linter.unusedVariables false

set_option maxRecDepth 100000 in
set_option maxHeartbeats 4000000 in
theorem Deal6_ok (T N : Nat) (t1 : 1 ≤ T) (tn : T ≤ N) (n7 : N ≤ 7) (A : Option Addr) (c : Nat) (xs : List Int) (hm : ByFix c xs) (w : World) (hs : SI w w.heap.size .u8 A xs) :
    Calls Tryz.prog 15 #[.slice A xs.length c, .int .i64 (T : Int), .int .i64 (N : Int)] w fun e w' => (∃ D d E d', e = .returned (.tuple #[crewV (T : Int) (N : Int) (qpow 4 (ssecret xs)) D N d, .slice E N d', .int .i64 0]) ∧ (N ≤ d ∧ d ≤ maxLen ∧ SS w' w'.heap.size D (spubs (dshares xs T N))) ∧ (N ≤ d' ∧ d' ≤ maxLen ∧ SS w' w'.heap.size E (dshares xs T N))) ∧ Below w.heap.size w w' := by
  have D0 := Lib.hid ((Below.refl w.heap.size w).alloc (Nat.le_refl _) (.cells #[.int .i64 0, .int .i64 0, .int .u64 0, .slice none 0 0] 26))
  have K := Lib.hid (Blk.new w 26 #[.int .i64 0, .int .i64 0, .int .u64 0, .slice none 0 0])
  have HS := Lib.hid (hs.on D0.out)
  have hb := ssecret_bound xs
  have P1 := Lib.hid (fun W h => refSecret_any A c xs hm.u hm.len hm.cap hm.max W h)
  have P2 := Lib.hid (fun W h => refSplit_ok (ssecret xs) T N (by omega) t1 tn n7 hb.2 A c xs hm.u hm.len hm.cap hm.max W h)
  have P3 := Lib.hid (refPublic_ok (ssecret xs) hb.1 hb.2)
  have HN := Lib.hid (dshares_length xs T N)
  have HG := Lib.hid (show JoinI ((dshares xs T N).map Prod.fst) (dshares xs T N) from (csplit_good _ N).join n7 (by rw [csplit_length]; omega) (by rw [csplit_length]; omega))
  have HU := Lib.hid (show ∀ p ∈ dshares xs T N, 0 ≤ p.2 ∧ p.2 < 18446744073709551616 from (csplit_good _ N).u)
  have HNP := Lib.hid (show (spubs (dshares xs T N)).length = N by rw [spubs_length, HN.out])
  rw [show csplit (cpoly (ssecret xs) xs T) N = dshares xs T N from rfl] at P2
  clear hs hm hb
  generalize dshares xs T N = l at *
  generalize ssecret xs = s at *
  generalize qpow 4 s = key at *
  have P4 := Lib.hid (fun E d' (h1 : N ≤ d') (h2 : d' ≤ maxLen) W h => (refPublic_any E d' l _ rfl (by rw [HN.out]; omega) HU.out W h).mono fun r w' (h : PublicE W (l.map Prod.fst) l r w' ∧ Below W.heap.size W w') => (⟨h.1.1 HG.out, h.2⟩ : (∃ v, r = .returned (.tuple #[v, .int .i64 0]) ∧ OwnS w' W.heap.size v (spubs l)) ∧ Below W.heap.size W w'))
  rw [HN.out] at P4
  unfold crewV
  go_enter Tryz.func15, Tryz.ntmps15
  go_wp2_with fail
  refine (P1.out _ HS.out).mono ?_; rintro _ w1 ⟨rfl, b⟩
  have B1 := Lib.hid (below_on D0.out b)
  have K1 := Lib.hid (K.out.below b K.out.lt)
  have HS1 := Lib.hid (HS.out.on b)
  clear b K HS D0
  go_wp2_with fail
  refine (P2.out _ HS1.out).mono ?_; rintro _ w2 ⟨v2, rfl, ho, b⟩
  obtain ⟨E, d', rfl, q1, q2, hs2, hg2⟩ := own_sliceS ho
  have HGE := Lib.hid (fun ad (e : E = some ad) => (show ad.block ≠ w.heap.size by have h1 := hg2 ad e; have h2 := K1.out.lt; omega))
  clear hg2
  rw [HN.out] at q1 ⊢
  have HQ := Lib.hid (And.intro q1 q2)
  have HE := Lib.hid hs2
  have B2 := Lib.hid (below_on B1.out b)
  have K2 := Lib.hid (K1.out.below b K1.out.lt)
  clear b K1 HS1 B1 ho q1 q2 hs2
  go_wp2_with fail
  refine (P4.out E d' HQ.out.1 HQ.out.2 _ HE.out).mono ?_; rintro _ w3 ⟨⟨v4, rfl, ho⟩, b⟩
  obtain ⟨D, d, rfl, q1, q2, hs4, hg4⟩ := own_sliceS ho
  have HGD := Lib.hid (fun ad (e : D = some ad) => (show ad.block ≠ w.heap.size by have h1 := hg4 ad e; have h2 := K2.out.lt; omega))
  clear hg4
  rw [HNP.out] at q1 ⊢
  have HQ2 := Lib.hid (And.intro q1 q2)
  have HD := Lib.hid hs4
  have B4 := Lib.hid (below_on B2.out b)
  have HE4 := Lib.hid (HE.out.on b)
  have K4 := Lib.hid (K2.out.below b K2.out.lt)
  clear b K2 B2 HE ho q1 q2 hs4
  go_wp2_with fail
  refine (P3.out _).mono ?_; rintro _ _ ⟨rfl, rfl⟩
  have c0 := K4.out.cell 0
  have c1 := K4.out.cell 1
  have c2 := K4.out.cell 2
  have c3 := K4.out.cell 3
  have f0 := K4.out.free 0
  have f1 := K4.out.free 1
  have f2 := K4.out.free 2
  have f3 := K4.out.free 3
  have hlt := K4.out.lt
  go_wp2_with fail
  have hk := (((K4.out.set 0 (.int .i64 (T : Int))).set 1 (.int .i64 (N : Int))).set 2 (.int .u64 key)).set 3 (.slice D N d)
  have h0 := hk.cell 0
  have h1 := hk.cell 1
  have h2 := hk.cell 2
  have h3 := hk.cell 3
  refine bodyPost_ret (v := .tuple #[.agg #[.int .i64 (T : Int), .int .i64 (N : Int), .int .u64 key, .slice D N d], .slice E N d', .int .i64 0]) (by simp [results, Tryz.results15, go_sem, h0, h1, h2, h3]) rfl ?_
  exact ⟨⟨D, d, E, d', rfl, ⟨HQ2.out.1, HQ2.out.2, ss_set4 HD.out HGD.out⟩, HQ.out.1, HQ.out.2, ss_set4 HE4.out HGE.out⟩, below_setR (below_setR (below_setR (below_setR B4.out (Nat.le_refl _) _) (Nat.le_refl _) _) (Nat.le_refl _) _) (Nat.le_refl _) _⟩

theorem Deal6_bad (t n : Int) (A : Option Addr) (c : Nat) (xs : List Int) (hm : ByFix c xs) (h : ¬ SplitI (ssecret xs) t n) (w : World) (hs : SI w w.heap.size .u8 A xs) :
    Calls Tryz.prog 15 #[.slice A xs.length c, .int .i64 t, .int .i64 n] w fun e w' => e = .returned (.tuple #[crewV 0 0 0 none 0 0, .slice none 0 0, .int .i64 1]) ∧ Below w.heap.size w w' := by
  have D0 := Lib.hid ((Below.refl w.heap.size w).alloc (Nat.le_refl _) (.cells #[.int .i64 0, .int .i64 0, .int .u64 0, .slice none 0 0] 26))
  have K := Lib.hid (Blk.new w 26 #[.int .i64 0, .int .i64 0, .int .u64 0, .slice none 0 0])
  have HS := Lib.hid (hs.on D0.out)
  have P1 := Lib.hid (fun W h => refSecret_any A c xs hm.u hm.len hm.cap hm.max W h)
  have P2 := Lib.hid (refSplit_bad (ssecret xs) t n (ssecret_rb xs).1 h (.slice A xs.length c))
  clear hs hm h
  generalize ssecret xs = s at *
  unfold crewV
  go_enter Tryz.func15, Tryz.ntmps15
  go_wp2_with fail
  refine (P1.out _ HS.out).mono ?_; rintro _ w1 ⟨rfl, b⟩
  have B1 := Lib.hid (below_on D0.out b)
  have K1 := Lib.hid (K.out.below b K.out.lt)
  clear b K HS D0
  go_wp2_with fail
  refine (P2.out _).mono ?_; rintro _ _ ⟨rfl, rfl⟩
  have B2 := B1
  have K4 := K1
  have c0 := K4.out.cell 0
  have c1 := K4.out.cell 1
  have c2 := K4.out.cell 2
  have c3 := K4.out.cell 3
  have f0 := K4.out.free 0
  have f1 := K4.out.free 1
  have f2 := K4.out.free 2
  have f3 := K4.out.free 3
  have hlt := K4.out.lt
  clear K1 B1
  go_wp2_with fail
  have hk := (((K4.out.set 0 (.int .i64 0)).set 1 (.int .i64 0)).set 2 (.int .u64 0)).set 3 (.slice none 0 0)
  have h0 := hk.cell 0
  have h1 := hk.cell 1
  have h2 := hk.cell 2
  have h3 := hk.cell 3
  refine bodyPost_ret (v := .tuple #[.agg #[.int .i64 0, .int .i64 0, .int .u64 0, .slice none 0 0], .slice none 0 0, .int .i64 1]) (by simp [results, Tryz.results15, go_sem, h0, h1, h2, h3]) rfl ?_
  exact ⟨rfl, below_setR (below_setR (below_setR (below_setR B2.out (Nat.le_refl _) _) (Nat.le_refl _) _) (Nat.le_refl _) _) (Nat.le_refl _) _⟩

/-- Crews alike. -/
theorem Same6_yes (T N K : Int) (A A' : Option Addr) (c c' : Nat) (l : List (Int × Int)) (hl : l.length ≤ 1048576) (w : World) (hs : SS w w.heap.size A l) (hs' : SS w w.heap.size A' l) :
    Calls Tryz.prog 16 #[crewV T N K A l.length c, crewV T N K A' l.length c'] w fun e w' => e = .returned (.bool true) ∧ Below w.heap.size w w' := by
  unfold crewV
  have D0 := Lib.hid (((Below.refl w.heap.size w).alloc (Nat.le_refl _) (.cells #[.int .i64 T, .int .i64 N, .int .u64 K, .slice A l.length c] 26)).alloc (by simp) (.cells #[.int .i64 T, .int .i64 N, .int .u64 K, .slice A' l.length c'] 26))
  have K1 := (Blk.new w 26 #[.int .i64 T, .int .i64 N, .int .u64 K, .slice A l.length c]).alloc (.cells #[.int .i64 T, .int .i64 N, .int .u64 K, .slice A' l.length c'] 26)
  have K2 := Blk.new_at (w.alloc (.cells #[.int .i64 T, .int .i64 N, .int .u64 K, .slice A l.length c] 26)) 26 #[.int .i64 T, .int .i64 N, .int .u64 K, .slice A' l.length c'] (g := w.heap.size + 1) (by simp)
  have c0 := K1.cell 0
  have c1 := K1.cell 1
  have c2 := K1.cell 2
  have c3 := K1.cell 3
  have d0 := K2.cell 0
  have d1 := K2.cell 1
  have d2 := K2.cell 2
  have d3 := K2.cell 3
  have HS := Lib.hid (hs.on D0.out)
  have HS' := Lib.hid (hs'.on D0.out)
  have P := Lib.hid (fun W a b => Shares6_yes A A' c c' l hl W.heap.size W a b)
  have b1 : (T == T) = true := by simp
  have b2 : (N == N) = true := by simp
  have b3 : (K == K) = true := by simp
  clear hs hs' K1 K2
  go_enter Tryz.func16, Tryz.ntmps16
  go_wp2_with fail
  refine (P.out _ HS.out HS'.out).mono ?_; rintro _ w3 ⟨rfl, dr⟩
  go_wp2_with fail
  go_ret
  exact ⟨rfl, below_on D0.out (dr.below _)⟩
end Go.Proofs.YtlannmedefjfhaaGreat
