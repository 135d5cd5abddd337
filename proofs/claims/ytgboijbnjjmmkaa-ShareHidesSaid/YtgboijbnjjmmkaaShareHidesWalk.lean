/- The walk of the law ShareHides. -/
import Derived.Test.YtgboijbnjjmmkaaShareHidesMath
import Derived.Test.YtgboijbnjjmmkaaShareSpoiltWalk
import Derived.Deep.RegionWith
namespace Go.Proofs.Ytgboijbnjjmmkaa
open Go.ChangeShapes Go.WideShapes Go.ChangeAt Go.RowKit Gs
set_option linter.unusedVariables false

theorem reads_ss {w : World} {B : Nat} {A : Option Addr} {l : List (Int × Int)} (h : SS w B A l) (n : Nat) (hn : l.length = n) : Reads w B 2 A n (cells2 l) := by
  subst hn
  refine ⟨cells2_length l, fun h0 => ?_⟩
  obtain ⟨ad, e, hb, _⟩ := h 0 h0
  refine ⟨ad, e, hb, fun j u hu => ?_⟩
  have hj : j < (cells2 l).length := (List.getElem?_eq_some_iff.1 hu).1
  rw [cells2_length] at hj
  obtain ⟨ad', e', _, c0, c1⟩ := h (j / 2) (by omega)
  rw [e] at e'
  cases e'
  have hc := cells2_at l (j / 2) (by omega)
  by_cases hp : j % 2 = 0
  · have e2 : j / 2 * 2 = j := by omega
    rw [e2] at hc c0
    rw [hc.1] at hu
    cases hu
    exact c0
  · have e2 : j / 2 * 2 + 1 = j := by omega
    rw [e2] at hc
    rw [hc.2] at hu
    cases hu
    have e3 : (⟨(ad.add (j / 2 * 2)).block, (ad.add (j / 2 * 2)).off + 1, none⟩ : Addr) = ad.add j := by
      unfold Addr.add
      by_cases hz : j / 2 * 2 = 0
      · simp [show j = 1 by omega]
      · simp [hz, show j ≠ 0 by omega]; omega
    rw [← e3]
    exact c1

theorem below_setC {B : Nat} {w w' : World} (h : Below B w w') {g o : Nat} (hg : B ≤ g) (v : Value) : Below B w (w'.setCell ⟨g, o, none⟩ v) := h.setCell hg v

set_option maxRecDepth 100000 in
set_option maxHeartbeats 8000000 in
theorem hides_ok (s o : Int) [hs0 : IsU s] [ho0 : IsU o] (k N : Nat) (A : Option Addr) (c : Nat) (xs : List Int) (w : World) (hs : SI w w.heap.size .u8 A xs) (hc : xs.length ≤ c) (hm : c ≤ maxLen) (hx : ∀ x ∈ xs, 0 ≤ x ∧ x < 256) (h1 : xs.length ≤ 300) (ho : o < 1152921504606845789) (hTN : k + 1 ≤ N) (hN7 : N ≤ 7) (s1 : s < 1152921504606845789) :
    Calls Try.prog 7 #[.int .u64 s, .int .u64 o, .int .i64 ((k : Int) + 1), .int .i64 (N : Int), .slice A xs.length c] w fun e w' => e = .returned (.bool true) ∧ Below w.heap.size w w' := by
  have HS := Lib.hid hs
  have B0 := Lib.hid (Below.refl w.heap.size w)
  have s0 := hs0.1
  have o0 := ho0.1
  clear hs
  obtain ⟨T, hT⟩ : ∃ T, T = k + 1 := ⟨_, rfl⟩
  have P1 := Lib.hid (Split_ok s T N s0 (by omega) (by omega) hN7 s1 A c xs hx (by omega) hc hm)
  have hTi : ((T : Nat) : Int) = (k : Int) + 1 := by omega
  rw [hTi] at P1
  have HC := Lib.hid (cpoly_length s xs T)
  have HH := Lib.hid (cpoly_head (s := s) xs (show 1 ≤ T by omega) ⟨s0, s1⟩)
  have HN := Lib.hid (csplit_length (cpoly s xs T) N)
  have HG := Lib.hid ((csplit_good (cpoly s xs T) N).take T)
  generalize cpoly s xs T = cc at P1 HC HH HN HG
  generalize csplit cc N = l at P1 HN HG
  subst hT
  have HSL := Lib.hid (show (l.take (k + 1)).length = k + 1 by rw [List.length_take, HN.out]; omega)
  have hkS : k < (l.take (k + 1)).length := by rw [HSL.out]; omega
  have HX := Lib.hid (hides HG.out hN7 (by rw [HSL.out]; omega) (by rw [HSL.out]; omega) (by rw [HC.out, HSL.out]; omega) HH.out k hkS ⟨o0, ho⟩)
  have HNE := Lib.hid (weight_ne HG.out hN7 (by rw [HSL.out]; omega) (by rw [HSL.out]; omega) k hkS)
  have HRI := Lib.hid (HG.out.right hN7 (by rw [HSL.out]; omega) (by rw [HSL.out]; omega))
  have HSB := Lib.hid HG.out.u
  have HAL := Lib.hid (HG.out.join hN7 (by rw [HSL.out]; omega) (by rw [HSL.out]; omega)).2
  obtain ⟨j0, hj, hy0, hy1, hy2⟩ := info_parts Try.info43
  have HJ := Lib.hid (And.intro hj (And.intro hy0 (And.intro hy1 hy2)))
  clear hm hx hj hy0 hy1 hy2 hTi
  have q1 : decide ((300 : Int) < (xs.length : Int)) = false := decide_eq_false (by omega)
  have q2 : decide ((1152921504606845789 : Int) ≤ o) = false := decide_eq_false (by omega)
  go_enter Try.func7, Try.ntmps7
  go_wp2_with fail
  refine (live5 _).mono ?_; rintro _ w1 ⟨rfl, b⟩; have B1 := Lib.hid (below_on B0.out b); clear b
  go_wp2_with fail
  refine (P1.out _ (HS.out.on B1.out)).mono ?_; rintro _ w2 ⟨v1, rfl, hown, b⟩
  obtain ⟨D1, d1, rfl, k1, k2, hs, _⟩ := own_sliceS hown
  have B2 := Lib.hid (below_on B1.out b)
  have hz2 := B2.out.size
  have R2 := Lib.hid (reads_ss (hs.take (k + 1)) (k + 1) HSL.out)
  rw [HN.out] at k1
  rw [HN.out]
  have hkd : k + 1 ≤ d1 := by omega
  clear b hown hs k1 k2
  go_wp2_with (at_builtin; refine wpList_append_any _ rfl _ _ 24 rfl w.heap.size 43 j0 (.agg #[.int .i64 0, .int .u64 0]) 2 16 Try.underlying24 HJ.out.1 HJ.out.2.1 HJ.out.2.2.1 HJ.out.2.2.2 rfl (by decide) _ 0 [] rfl (own_noneS w2 hz2) _ _ (k + 1) _ (cells2 (l.take (k + 1))) rfl (reads_on R2.out ((Below.refl _ _).alloc (Nat.le_refl _) _)) (cells2_one _) (by unfold maxLen; omega) (by omega) (by simp; omega) ?_; intro v' w6 hown' hgrow _; have HO7 := Lib.hid hown'; have HGr := Lib.hid hgrow; clear hown' hgrow)
  have hof : OwnS w6 w.heap.size v' (l.take (k + 1)) := by
    have h := HO7.out
    rw [List.nil_append] at h
    exact own_s h (by rw [HSL.out]; omega) rfl
  have B6 := Lib.hid (B2.out.trans (((Below.refl w.heap.size w2).alloc hz2 _).grown HGr.out (by simp; omega) (fun g e => own_ge (own_noneS w2 hz2) g e)))
  obtain ⟨g, d, rfl, k1, k2, hg⟩ := own_formS hof (by rw [HSL.out]; omega)
  have HO := Lib.hid hof
  obtain ⟨c0, c1, fr⟩ := own_atS hof rfl k hkS
  obtain ⟨A9, d9, hv9, _, _, hs9, _⟩ := own_sliceS hof
  cases hv9
  have S6 := Lib.hid hs9
  rw [HSL.out] at k1
  have HK1 := Lib.hid k1
  have HK2 := Lib.hid k2
  have HGG := Lib.hid hg
  have HSBk := Lib.hid (HSB.out _ (List.getElem_mem hkS))
  obtain ⟨J, hJ⟩ : ∃ J, (l.take (k + 1)).map Prod.fst = J := ⟨_, rfl⟩
  have HMk := Lib.hid (show (l.take (k + 1))[k].1 ∈ J by rw [← hJ]; exact List.mem_map_of_mem (List.getElem_mem hkS))
  have HJL := Lib.hid (show J.length = k + 1 by rw [← hJ, List.length_map, HSL.out])
  have P7 := Lib.hid (Ids_n (some ⟨g, 0, none⟩) (k + 1) d (l.take (k + 1)) HSL.out (by omega))
  rw [hJ] at P7 HX HNE HRI
  have HIF := Lib.hid (show ∀ y, ((l.take (k + 1)).set k ((l.take (k + 1))[k].1, y)).map Prod.fst = J from fun y => by rw [set_fst _ k hkS, hJ])
  have P8 := Lib.hid (fun A c (h1 : J.length ≤ c) (h2 : c ≤ maxLen) (i : Int) (hi : i ∈ J) w hs => (Weight_any A c J (by rw [HJL.out]; omega) h1 h2 i w hs).mono fun r w' (h : WeightE J i r ∧ Below w.heap.size w w') => (⟨h.1.1 ⟨HRI.out, hi⟩, h.2⟩ : r = .returned (.tuple #[.int .u64 (wat J i 0), .int .i64 0]) ∧ Below w.heap.size w w'))
  have HP := Lib.hid (show ∀ y, Rb y → ∀ p ∈ (l.take (k + 1)).set k ((l.take (k + 1))[k].1, y), Rb p.2 from fun y hy p hp => by
    rcases List.mem_or_eq_of_mem_set hp with h | h
    · have h1 := HSB.out p h
      have h2 := List.all_eq_true.1 HAL.out p h
      have h3 := of_decide_eq_true h2
      exact ⟨h1.1, h3⟩
    · subst h; exact hy)
  have hlg : g < w6.heap.size := by
    rcases hof.2 with ⟨e, _⟩ | ⟨g', cap, cur, e, _, hg', _⟩
    · cases e
    · cases e; exact (Array.getElem?_eq_some_iff.1 hg').1
  rw [HSL.out]
  clear hof hs9 k1 k2 hg hJ
  generalize hL : l.take (k + 1) = L at *
  generalize hpi : L[k].1 = pi at c0 HX HNE HMk HIF HP
  generalize hpx : L[k].2 = px at c1 HX HSBk
  have HPX := Lib.hid hpx
  clear hpx
  haveI : IsU px := ⟨HSBk.out.1, HSBk.out.2⟩
  have HPI := Lib.hid hpi
  clear hpi hL
  have P9 := Lib.hid (InvR_r (wat J pi 0))
  rw [show rerr (wat J pi 0) = 0 by unfold rerr; rw [if_neg (fun e => HNE.out (z_iff.2 e))]] at P9
  have P10 := Lib.hid (SubR_r o s)
  have P11 := Lib.hid (MulR_r (rsub o s) (rinv (wat J pi 0)))
  have P12 := Lib.hid (AddR_r px (rmul (rsub o s) (rinv (wat J pi 0))))
  have HRX := Lib.hid (radd_bound px (rmul (rsub o s) (rinv (wat J pi 0))))
  generalize radd px (rmul (rsub o s) (rinv (wat J pi 0))) = X at P12 HX HRX
  generalize rmul (rsub o s) (rinv (wat J pi 0)) = mm at P11 P12
  generalize rinv (wat J pi 0) = iv at P9 P11
  generalize rsub o s = dd at P10 P11
  have P13 := Lib.hid (fun (A : Option Addr) (c : Nat) (h1 : k + 1 ≤ c) (h2 : c ≤ maxLen) (w : World) (hs : SS w w.heap.size A (L.set k (pi, X))) => by
    have hlen : (L.set k (pi, X)).length = k + 1 := by rw [List.length_set, HSL.out]
    have h := Join_any A c (L.set k (pi, X)) J (HIF.out X) (by omega) (by omega) h2 (fun p hp => by have := HP.out X HRX.out p hp; unfold Rb at this; omega) w hs
    rw [hlen] at h
    exact h.mono fun r w' h => (⟨by rw [h.1.2.1 (fun e => by rw [e] at hlen; simp at hlen) ⟨HRI.out, List.all_eq_true.2 fun p hp => decide_eq_true (HP.out X HRX.out p hp).2⟩, HX.out], h.2⟩ : r = .returned (.tuple #[.int .u64 o, .int .i64 0]) ∧ Below w.heap.size w w'))
  have hd : w6.heap.size ≤ w6.drew.heap.size := Nat.le_refl _
  have hki : (k : Int) < (k : Int) + 1 := by omega
  have hki0 : (0 : Int) ≤ (k : Int) := by omega
  have hkn : k < k + 1 := by omega
  have hkw : IntKind.i64.wrap (k : Int) = (k : Int) := by rw [IntKind.wrap_i64]; omega
  go_wp2_with fail
  go_region_held_law (fun w' => w'.cell? ⟨g, k * 2, none⟩ = some (.int .i64 pi)) (first | assumption | go_keep)
    (first
      | (go_at_call 25; refine (P7.out _ (S6.out.on ((Below.refl _ _).drew))).mono ?_; rintro _ w7 ⟨v5, rfl, ho5, b5⟩; obtain ⟨A5, c5, rfl, q1, q2, hs5, _⟩ := own_sliceI ho5; have hW := (Below.refl w6.heap.size w6).drew.trans (b5.mono (by omega)); have k0 := (hW.cell (p := ⟨g, k * 2, none⟩) hlg).trans c0)
      | (go_at_call 20; refine (P8.out A5 c5 q1 q2 pi HMk.out _ hs5).mono ?_; rintro _ w8 ⟨rfl, b6⟩; have hW := hW.trans (b6.mono hW.size); have k0 := (hW.cell (p := ⟨g, k * 2, none⟩) hlg).trans c0))
  have B8 := Lib.hid (B6.out.trans (hW.mono B6.out.size))
  have HO8 := Lib.hid (show OwnS w8 w.heap.size (.slice (some ⟨g, 0, none⟩) (k + 1) d) L by have h : OwnS w8 w.heap.size (.slice (some ⟨g, 0, none⟩) L.length d) L := own_below HO.out hW; rwa [HSL.out] at h)
  clear hW k0 c0 c1 fr hd q1
  go_wp2_with fail
  refine (P9.out _).mono ?_; rintro _ w9 ⟨rfl, b⟩
  have B9 := Lib.hid (below_on B8.out b)
  have HO9 := Lib.hid (show OwnS w9 w.heap.size (.slice (some ⟨g, 0, none⟩) (k + 1) d) L from own_below HO8.out b)
  clear b
  have hkL : k < L.length := by rw [HSL.out]; omega
  obtain ⟨c0, c1, fr⟩ := own_atS HO9.out HSL.out k hkL
  rw [HPX.out] at c1
  clear c0
  have hlg9 : g < w9.heap.size := cell_lt c1
  have hgg := HGG.out
  go_wp2_with fail
  have hd : w9.heap.size ≤ w9.drew.heap.size := Nat.le_refl _
  go_region_with (first
      | (go_at_call 29; refine (P10.out _).mono ?_; rintro e w' ⟨rfl, rfl⟩)
      | (go_at_call 28; refine (P11.out _).mono ?_; rintro e w10 ⟨rfl, b5⟩; have hW := (Below.refl w9.heap.size w9).drew.trans (b5.mono (by omega)); have k1 := (hW.cell (p := ⟨g, k * 2 + 1, none⟩) hlg9).trans c1; have kf := (hW.frozen (p := ⟨g, k * 2 + 1, none⟩) hlg9).trans fr)
      | (go_at_call 27; refine (P12.out _).mono ?_; rintro e w' ⟨rfl, rfl⟩))
  all_goals
    have HO10 := Lib.hid (own_storeS (show OwnS w10 w.heap.size (.slice (some ⟨g, 0, none⟩) (k + 1) d) L from own_below HO9.out hW) HSL.out k hkL X)
    rw [HPI.out] at HO10
    have B10 := Lib.hid (below_setC (o := k * 2 + 1) (B9.out.trans (hW.mono B9.out.size)) HGG.out (.int .u64 X))
    obtain ⟨A11, d11, hv11, _, _, hs11, _⟩ := own_sliceS HO10.out
    injection hv11 with e1 e2 e3
    clear e2
    subst e1 e3
    have S11 := Lib.hid hs11
    clear hs11 hW k1 kf c1 fr hd
    go_wp2_with fail
    refine (P13.out _ _ HK1.out HK2.out _ S11.out).mono ?_; rintro _ w12 ⟨rfl, b⟩
    have B12 := Lib.hid (below_on B10.out b)
    clear b
    go_wp2_with fail
    go_ret
    exact ⟨by simp, B12.out⟩

set_option maxHeartbeats 4000000 in
theorem hides_walk5 (s o t n : Int) [hs0 : IsU s] [ho0 : IsU o] (A : Option Addr) (c : Nat) (xs : List Int) (w : World) (hs : SI w w.heap.size .u8 A xs) (hc : xs.length ≤ c) (hm : c ≤ maxLen) (hx : ∀ n ∈ xs, (Lit.int .u8 n).wf = true) :
    Calls Try.prog 7 #[.int .u64 s, .int .u64 o, .int .i64 t, .int .i64 n, .slice A xs.length c] w fun e w' => e = .returned (.bool true) ∧ Below w.heap.size w w' := by
  have hx := fun n hn => u8_wf (hx n hn)
  have s0 := hs0.1
  have o0 := ho0.1
  have B0 := Lib.hid (Below.refl w.heap.size w)
  by_cases h1 : xs.length ≤ 300
  · by_cases ho : o < 1152921504606845789
    · by_cases hsp : SplitI s t n
      · obtain ⟨t1, tn, n7, s1⟩ := hsp
        obtain ⟨k, rfl⟩ : ∃ k : Nat, t = (k : Int) + 1 := ⟨(t - 1).toNat, by omega⟩
        obtain ⟨N, rfl⟩ := Int.eq_ofNat_of_zero_le (show 0 ≤ n by omega)
        exact hides_ok s o k N A c xs w hs hc hm hx h1 ho (by omega) (by omega) s1
      · have P1 := Lib.hid (Split_bad s t n s0 hsp (.slice A xs.length c))
        clear hm hx hsp hs
        go_enter Try.func7, Try.ntmps7
        go_wp2_with fail
        refine (live5 _).mono ?_; rintro _ w1 ⟨rfl, b⟩; have B1 := Lib.hid (below_on B0.out b); clear b
        go_wp2_with fail
        refine (P1.out _).mono ?_; rintro _ w2 ⟨rfl, b⟩; have B2 := Lib.hid (below_on B1.out b); clear b
        go_wp2_with fail
        go_ret
        exact ⟨rfl, B2.out⟩
    · clear hm hx hs
      go_enter Try.func7, Try.ntmps7
      go_wp2_with fail
      refine (live5 _).mono ?_; rintro _ w1 ⟨rfl, b⟩; have B1 := Lib.hid (below_on B0.out b); clear b
      go_wp2_with fail
      go_ret
      exact ⟨rfl, B1.out⟩
  · clear hm hx hs
    go_enter Try.func7, Try.ntmps7
    go_wp2_with fail
    refine (live5 _).mono ?_; rintro _ w1 ⟨rfl, b⟩; have B1 := Lib.hid (below_on B0.out b); clear b
    go_wp2_with fail
    go_ret
    exact ⟨rfl, B1.out⟩
end Go.Proofs.Ytgboijbnjjmmkaa
