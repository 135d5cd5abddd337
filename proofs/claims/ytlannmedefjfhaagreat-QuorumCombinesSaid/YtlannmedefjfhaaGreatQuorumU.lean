/- What package quorum deals. -/
import Derived.Test.YtlannmedefjfhaaGreatQuorumLib
import Derived.Test.YtlannmedefjfhaaGreatQuorumPlains
namespace Go.Proofs.YtlannmedefjfhaaGreat
open Go.ChangeShapes Go.WideShapes Go.ChangeAt Go.RowKit Gs
set_option linter.unusedVariables false

/-- The shares that are dealt. -/
def dshares (xs : List Int) (T N : Nat) : List (Int × Int) := csplit (cpoly (ssecret xs) xs T) N
theorem dshares_length (xs : List Int) (T N : Nat) : (dshares xs T N).length = N := csplit_length _ _
theorem ssecret_rb (xs : List Int) : Rb (ssecret xs) := ⟨by have := ssecret_bound xs; omega, (ssecret_bound xs).2⟩

theorem ss_set {w : World} {B : Nat} {A : Option Addr} {l : List (Int × Int)} {g o : Nat} {v : Value} (h : SS w B A l) (hn : ∀ ad, A = some ad → ad.block ≠ g) : SS (w.setCell ⟨g, o, none⟩ v) B A l := fun j hj => by
  obtain ⟨ad, e, hb, c0, c1⟩ := h j hj
  have hne := hn ad e
  exact ⟨ad, e, hb, cell_far c0 (by rw [block_of_add]; exact hne), cell_far c1 (by show (ad.add (j * 2)).block ≠ _; rw [block_of_add]; exact hne)⟩
theorem ss_set4 {w : World} {A : Option Addr} {l : List (Int × Int)} {g o1 o2 o3 o4 : Nat} {v1 v2 v3 v4 : Value} (h : SS w w.heap.size A l) (hn : ∀ ad, A = some ad → ad.block ≠ g) : SS ((((w.setCell ⟨g, o1, none⟩ v1).setCell ⟨g, o2, none⟩ v2).setCell ⟨g, o3, none⟩ v3).setCell ⟨g, o4, none⟩ v4) ((((w.setCell ⟨g, o1, none⟩ v1).setCell ⟨g, o2, none⟩ v2).setCell ⟨g, o3, none⟩ v3).setCell ⟨g, o4, none⟩ v4).heap.size A l :=
  (ss_set (ss_set (ss_set (ss_set h hn) hn) hn) hn).more (below_setR (below_setR (below_setR (below_setR (Below.refl 0 w) (Nat.zero_le g) v1) (Nat.zero_le g) v2) (Nat.zero_le g) v3) (Nat.zero_le g) v4).size

set_option maxRecDepth 100000 in
set_option maxHeartbeats 4000000 in
theorem Deal_ok (T N : Nat) (t1 : 1 ≤ T) (tn : T ≤ N) (n7 : N ≤ 7) (A : Option Addr) (c : Nat) (xs : List Int) (hm : ByFix c xs) (w : World) (hs : SI w w.heap.size .u8 A xs) :
    Calls Tryz.prog 14 #[.slice A xs.length c, .int .i64 (T : Int), .int .i64 (N : Int)] w fun e w' => (∃ D d E d', e = .returned (.tuple #[crewV (T : Int) (N : Int) (qpow 4 (ssecret xs)) D N d, .slice E N d', .int .i64 0]) ∧ (N ≤ d ∧ d ≤ maxLen ∧ SS w' w'.heap.size D (spubs (dshares xs T N))) ∧ (N ≤ d' ∧ d' ≤ maxLen ∧ SS w' w'.heap.size E (dshares xs T N))) ∧ Below w.heap.size w w' := by
  have D0 := Lib.hid ((Below.refl w.heap.size w).alloc (Nat.le_refl _) (.cells #[.int .i64 0, .int .i64 0, .int .u64 0, .slice none 0 0] 26))
  have K := Lib.hid (Blk.new w 26 #[.int .i64 0, .int .i64 0, .int .u64 0, .slice none 0 0])
  have HS := Lib.hid (hs.on D0.out)
  have hb := ssecret_bound xs
  have P1 := Lib.hid (fun W h => Secret_any A c xs hm.u hm.len hm.cap hm.max W h)
  have P2 := Lib.hid (fun W h => Split_ok (ssecret xs) T N (by omega) t1 tn n7 hb.2 A c xs hm.u hm.len hm.cap hm.max W h)
  have P3 := Lib.hid (Public_ok (ssecret xs) hb.1 hb.2)
  have HN := Lib.hid (dshares_length xs T N)
  have HG := Lib.hid (show JoinI ((dshares xs T N).map Prod.fst) (dshares xs T N) from (csplit_good _ N).join n7 (by rw [csplit_length]; omega) (by rw [csplit_length]; omega))
  have HU := Lib.hid (show ∀ p ∈ dshares xs T N, 0 ≤ p.2 ∧ p.2 < 18446744073709551616 from (csplit_good _ N).u)
  have HNP := Lib.hid (show (spubs (dshares xs T N)).length = N by rw [spubs_length, HN.out])
  rw [show csplit (cpoly (ssecret xs) xs T) N = dshares xs T N from rfl] at P2
  clear hs hm hb
  generalize dshares xs T N = l at *
  generalize ssecret xs = s at *
  generalize qpow 4 s = key at *
  have P4 := Lib.hid (fun E d' (h1 : N ≤ d') (h2 : d' ≤ maxLen) W h => (Public_any E d' l _ rfl (by rw [HN.out]; omega) (by rw [HN.out]; exact h1) h2 HU.out W h).mono fun r w' (h : PublicE W (l.map Prod.fst) l r w' ∧ Below W.heap.size W w') => (⟨h.1.1 HG.out, h.2⟩ : (∃ v, r = .returned (.tuple #[v, .int .i64 0]) ∧ OwnS w' W.heap.size v (spubs l)) ∧ Below W.heap.size W w'))
  rw [HN.out] at P4
  unfold crewV
  go_enter Tryz.func14, Tryz.ntmps14
  go_wp2_with fail
  refine (P1.out _ HS.out).mono ?_; rintro _ w1 ⟨rfl, b⟩
  have B1 := Lib.hid (below_on D0.out b)
  have K1 := Lib.hid (K.out.below b K.out.lt)
  have HS1 := Lib.hid (HS.out.on b)
  clear b K HS D0
  go_wp2_with fail
  refine (P2.out _ HS1.out).mono ?_; rintro _ w2 ⟨v2, rfl, ho, b⟩
  obtain ⟨E, d', rfl, q1, q2, hs2, hg2⟩ := own_sliceS ho
  have HGE := Lib.hid (fun ad (e : E = some ad) => (show ad.block ≠ w.heap.size by have h1 := hg2 ad e; have h2 := K1.out.lt; omega))
  clear hg2
  rw [HN.out] at q1 ⊢
  have HQ := Lib.hid (And.intro q1 q2)
  have HE := Lib.hid hs2
  have B2 := Lib.hid (below_on B1.out b)
  have K2 := Lib.hid (K1.out.below b K1.out.lt)
  clear b K1 HS1 B1 ho q1 q2 hs2
  go_wp2_with fail
  refine (P3.out _).mono ?_; rintro _ w3 ⟨rfl, b⟩
  have B3 := Lib.hid (below_on B2.out b)
  have HE3 := Lib.hid (HE.out.on b)
  have K3 := Lib.hid (K2.out.below b K2.out.lt)
  clear b K2 B2 HE
  go_wp2_with fail
  refine (P4.out E d' HQ.out.1 HQ.out.2 _ HE3.out).mono ?_; rintro _ w4 ⟨⟨v4, rfl, ho⟩, b⟩
  obtain ⟨D, d, rfl, q1, q2, hs4, hg4⟩ := own_sliceS ho
  have HGD := Lib.hid (fun ad (e : D = some ad) => (show ad.block ≠ w.heap.size by have h1 := hg4 ad e; have h2 := K3.out.lt; omega))
  clear hg4
  rw [HNP.out] at q1 ⊢
  have HQ2 := Lib.hid (And.intro q1 q2)
  have HD := Lib.hid hs4
  have B4 := Lib.hid (below_on B3.out b)
  have HE4 := Lib.hid (HE3.out.on b)
  have K4 := Lib.hid (K3.out.below b K3.out.lt)
  have c0 := K4.out.cell 0
  have c1 := K4.out.cell 1
  have c2 := K4.out.cell 2
  have c3 := K4.out.cell 3
  have f0 := K4.out.free 0
  have f1 := K4.out.free 1
  have f2 := K4.out.free 2
  have f3 := K4.out.free 3
  have hlt := K4.out.lt
  clear b K3 B3 HE3 ho q1 q2 hs4
  go_wp2_with fail
  have hk := (((K4.out.set 0 (.int .i64 (T : Int))).set 1 (.int .i64 (N : Int))).set 2 (.int .u64 key)).set 3 (.slice D N d)
  have h0 := hk.cell 0
  have h1 := hk.cell 1
  have h2 := hk.cell 2
  have h3 := hk.cell 3
  refine bodyPost_ret (v := .tuple #[.agg #[.int .i64 (T : Int), .int .i64 (N : Int), .int .u64 key, .slice D N d], .slice E N d', .int .i64 0]) (by simp [results, Tryz.results14, go_sem, h0, h1, h2, h3]) rfl ?_
  exact ⟨⟨D, d, E, d', rfl, ⟨HQ2.out.1, HQ2.out.2, ss_set4 HD.out HGD.out⟩, HQ.out.1, HQ.out.2, ss_set4 HE4.out HGE.out⟩, below_setR (below_setR (below_setR (below_setR B4.out (Nat.le_refl _) _) (Nat.le_refl _) _) (Nat.le_refl _) _) (Nat.le_refl _) _⟩

theorem Deal_bad (t n : Int) (A : Option Addr) (c : Nat) (xs : List Int) (hm : ByFix c xs) (h : ¬ SplitI (ssecret xs) t n) (w : World) (hs : SI w w.heap.size .u8 A xs) :
    Calls Tryz.prog 14 #[.slice A xs.length c, .int .i64 t, .int .i64 n] w fun e w' => e = .returned (.tuple #[crewV 0 0 0 none 0 0, .slice none 0 0, .int .i64 1]) ∧ Below w.heap.size w w' := by
  have D0 := Lib.hid ((Below.refl w.heap.size w).alloc (Nat.le_refl _) (.cells #[.int .i64 0, .int .i64 0, .int .u64 0, .slice none 0 0] 26))
  have K := Lib.hid (Blk.new w 26 #[.int .i64 0, .int .i64 0, .int .u64 0, .slice none 0 0])
  have HS := Lib.hid (hs.on D0.out)
  have P1 := Lib.hid (fun W h => Secret_any A c xs hm.u hm.len hm.cap hm.max W h)
  have P2 := Lib.hid (Split_bad (ssecret xs) t n (ssecret_rb xs).1 h (.slice A xs.length c))
  clear hs hm h
  generalize ssecret xs = s at *
  unfold crewV
  go_enter Tryz.func14, Tryz.ntmps14
  go_wp2_with fail
  refine (P1.out _ HS.out).mono ?_; rintro _ w1 ⟨rfl, b⟩
  have B1 := Lib.hid (below_on D0.out b)
  have K1 := Lib.hid (K.out.below b K.out.lt)
  clear b K HS D0
  go_wp2_with fail
  refine (P2.out _).mono ?_; rintro _ w2 ⟨rfl, b⟩
  have B2 := Lib.hid (below_on B1.out b)
  have K4 := Lib.hid (K1.out.below b K1.out.lt)
  have c0 := K4.out.cell 0
  have c1 := K4.out.cell 1
  have c2 := K4.out.cell 2
  have c3 := K4.out.cell 3
  have f0 := K4.out.free 0
  have f1 := K4.out.free 1
  have f2 := K4.out.free 2
  have f3 := K4.out.free 3
  have hlt := K4.out.lt
  clear b K1 B1
  go_wp2_with fail
  have hk := (((K4.out.set 0 (.int .i64 0)).set 1 (.int .i64 0)).set 2 (.int .u64 0)).set 3 (.slice none 0 0)
  have h0 := hk.cell 0
  have h1 := hk.cell 1
  have h2 := hk.cell 2
  have h3 := hk.cell 3
  refine bodyPost_ret (v := .tuple #[.agg #[.int .i64 0, .int .i64 0, .int .u64 0, .slice none 0 0], .slice none 0 0, .int .i64 1]) (by simp [results, Tryz.results14, go_sem, h0, h1, h2, h3]) rfl ?_
  exact ⟨rfl, below_setR (below_setR (below_setR (below_setR B2.out (Nat.le_refl _) _) (Nat.le_refl _) _) (Nat.le_refl _) _) (Nat.le_refl _) _⟩
end Go.Proofs.YtlannmedefjfhaaGreat
