/- The walk of the law ShareSpoilt. -/
import Derived.Test.YtgboijbnjjmmkaaShareSpoil
namespace Go.Proofs.Ytgboijbnjjmmkaa
open Go.ChangeShapes Go.WideShapes Go.ChangeAt Go.RowKit Gs
set_option linter.unusedVariables false

theorem cells2_set : ∀ (l : List (Int × Int)) (k : Nat) (h : k < l.length) (y : Int), (cells2 l).set (k * 2 + 1) (.int .u64 y) = cells2 (l.set k (l[k].1, y))
  | p :: l, 0, _, y => rfl
  | p :: l, k + 1, h, y => by
    have ih := cells2_set l k (by simpa using h) y
    rw [cells2_cons, show (k + 1) * 2 + 1 = k * 2 + 1 + 1 + 1 by omega, List.set_cons_succ, List.set_cons_succ, ih]
    rfl
theorem own_formS {w : World} {B : Nat} {v : Value} {l : List (Int × Int)} (h : OwnS w B v l) (hl : 1 ≤ l.length) : ∃ g c, v = .slice (some ⟨g, 0, none⟩) l.length c ∧ l.length ≤ c ∧ c ≤ maxLen ∧ B ≤ g := by
  rcases h.2 with ⟨_, h0⟩ | ⟨g, cap, cur, rfl, hb, hg, hn, hc, _, _⟩
  · omega
  · exact ⟨g, cap, rfl, hn, hc, hb⟩
theorem own_storeS {w : World} {B g c n : Nat} {l : List (Int × Int)} (h : OwnS w B (.slice (some ⟨g, 0, none⟩) n c) l) (hn : l.length = n) (k : Nat) (hk : k < l.length) (y : Int) : OwnS (w.setCell ⟨g, k * 2 + 1, none⟩ (.int .u64 y)) B (.slice (some ⟨g, 0, none⟩) n c) (l.set k (l[k].1, y)) := by
  subst hn
  unfold OwnS at *
  rw [List.length_set, ← cells2_set l k hk]
  exact (h.stored (k * 2 + 1) _).1
theorem own_atS {w : World} {B g c n : Nat} {l : List (Int × Int)} (h : OwnS w B (.slice (some ⟨g, 0, none⟩) n c) l) (hn : l.length = n) (k : Nat) (hk : k < l.length) : w.cell? ⟨g, k * 2, none⟩ = some (.int .i64 l[k].1) ∧ w.cell? ⟨g, k * 2 + 1, none⟩ = some (.int .u64 l[k].2) ∧ w.frozen? ⟨g, k * 2 + 1, none⟩ = false := by
  subst hn
  have hl := cells2_length l
  have h2 := cells2_at l k hk
  refine ⟨?_, ?_, World.ownsRow.frozenAt h _⟩
  · rw [World.ownsRow.cellAt h (k * 2) (by omega)]; exact h2.1
  · rw [World.ownsRow.cellAt h (k * 2 + 1) (by omega)]; exact h2.2

set_option maxHeartbeats 4000000 in
theorem spoilt_walk5 (s t n : Int) [hs0 : IsU s] (A : Option Addr) (c : Nat) (xs : List Int) (f : Int) (f0 : 0 ≤ f) (f1 : f < 256) (o : Int) [ho0 : IsU o] (w : World) (hs : SI w w.heap.size .u8 A xs) (hc : xs.length ≤ c) (hm : c ≤ maxLen) (hx : ∀ n ∈ xs, (Lit.int .u8 n).wf = true) :
    Calls Try.prog 10 #[.int .u64 s, .int .i64 t, .int .i64 n, .slice A xs.length c, .int .u8 f, .int .u64 o] w fun e w' => e = .returned (.bool true) ∧ Below w.heap.size w w' := by
  have HS := Lib.hid hs
  have B0 := Lib.hid (Below.refl w.heap.size w)
  have hx := fun n hn => u8_wf (hx n hn)
  have s0 := hs0.1
  clear hs
  by_cases h1 : xs.length ≤ 300
  · by_cases hnt : n ≤ t
    · clear hm hx
      go_enter Try.func10, Try.ntmps10
      go_wp2_with fail
      refine (live5 _).mono ?_; rintro _ w1 ⟨rfl, b⟩; have B1 := Lib.hid (below_on B0.out b); clear b
      go_wp2_with fail
      go_ret
      exact ⟨rfl, B1.out⟩
    · by_cases hsp : SplitI s t n
      · obtain ⟨t1, tn, n7, s1⟩ := hsp
        obtain ⟨T, rfl⟩ := Int.eq_ofNat_of_zero_le (show 0 ≤ t by omega)
        obtain ⟨N, rfl⟩ := Int.eq_ofNat_of_zero_le (show 0 ≤ n by omega)
        have hT1 : 1 ≤ T := by omega
        have hTN : T < N := by omega
        have hN7 : N ≤ 7 := by omega
        obtain ⟨k, hk, hkN⟩ : ∃ k : Nat, f % (N : Int) = k ∧ k < N := by
          have h2 := Int.emod_nonneg f (show (N : Int) ≠ 0 by omega)
          have h3 := Int.emod_lt_of_pos f (show (0 : Int) < (N : Int) by omega)
          exact ⟨(f % (N : Int)).toNat, by omega, by omega⟩
        have hN0 : ((N : Int) == 0) = false := beq_eq_false_iff_ne.2 (by omega)
        have P1 := Lib.hid (Split_ok s T N s0 hT1 (by omega) hN7 s1 A c xs hx (by omega) hc hm)
        have HC := cpoly_length s xs T
        have HN := Lib.hid (csplit_length (cpoly s xs T) N)
        have HG := Lib.hid (csplit_good (cpoly s xs T) N)
        obtain ⟨ids, hids⟩ : ∃ ids, (spubs (csplit (cpoly s xs T) N)).map Prod.fst = ids := ⟨_, rfl⟩
        have HPC := pub_check HC hT1 (by omega) hN7 hids
        have HSP := Lib.hid (spoilt HC hT1 hTN hN7 hids k (by rw [HN.out]; exact hkN) o ho0.1)
        have HI := Lib.hid hids
        have HBA := Lib.hid HPC.1
        have HGR := Lib.hid HPC.2.1
        have P2 := Lib.hid (Base_q o)
        clear HC HPC hids
        generalize cpoly s xs T = cc at P1 HN HG HSP HI HGR
        generalize csplit cc N = l at P1 HN HG HSP HI HGR
        have HU := Lib.hid HG.out.u
        have HJI := Lib.hid (HG.out.join hN7 (by rw [HN.out]; omega) (by rw [HN.out]; omega))
        have hkl : k < l.length := by rw [HN.out]; exact hkN
        have HNP := Lib.hid (show (spubs l).length = N by rw [spubs_length, HN.out])
        have hkP : k < (spubs l).length := by rw [HNP.out]; exact hkN
        have HGK := Lib.hid (spubs_get l k hkP)
        have HMr := Lib.hid (And.intro hk (And.intro hN0 (And.intro f0 f1)))
        -- what Check tells of the shares, one of them changed
        obtain ⟨e, he1, he2⟩ : ∃ e : Int, (∀ r, CheckE (T : Int) ids ((spubs l).set k (l[k].1, qpow 4 o)) r → r = .returned (.int .i64 e)) ∧ ((e = 0 ∧ (qpow 4 l[k].2 == qpow 4 o) = true) ∨ (e = 60 ∧ (qpow 4 l[k].2 == qpow 4 o) = false)) := by
          have hgr : Grp ((spubs l).set k (l[k].1, qpow 4 o)) := fun i h => by
            rw [List.getElem_set]
            split
            · exact qin_base ho0.1
            · exact HGR.out i (by simpa using h)
          have hlen : ¬ (((spubs l).set k (l[k].1, qpow 4 o)).length : Int) < (T : Int) := by rw [List.length_set, HNP.out]; omega
          have hTt : (T : Int).toNat = T := by omega
          by_cases hq : qpow 4 l[k].2 = qpow 4 o
          · exact ⟨0, fun r hr => hr.ok HBA.out hgr hlen (by rw [hTt]; exact HSP.out.2 hq), .inl ⟨rfl, beq_iff_eq.2 hq⟩⟩
          · exact ⟨60, fun r hr => hr.part HBA.out hgr hlen (by rw [hTt]; exact fun h => hq (HSP.out.1 h)), .inr ⟨rfl, beq_eq_false_iff_ne.2 hq⟩⟩
        have HE := Lib.hid he1
        have HLU := Lib.hid (show ∀ p ∈ (spubs l).set k (l[k].1, qpow 4 o), 0 ≤ p.2 ∧ p.2 < 18446744073709551616 from fun p hp => by
          rcases List.mem_or_eq_of_mem_set hp with g | g
          · exact spubs_u l p g
          · have := qpow_bound 4 o
            rw [g]; exact ⟨this.1, by show qpow 4 o < _; omega⟩)
        have HIF := Lib.hid (show ((spubs l).set k (l[k].1, qpow 4 o)).map Prod.fst = ids by
          rw [← HI.out]
          have h := set_fst (spubs l) k hkP (qpow 4 o)
          rw [HGK.out] at h
          exact h)
        have HEE := Lib.hid he2
        clear hm hx he1 he2 f0 f1 hk hN0
        go_enter Try.func10, Try.ntmps10
        go_wp2_with fail
        refine (live5 _).mono ?_; rintro _ w1 ⟨rfl, b⟩; have B1 := Lib.hid (below_on B0.out b); clear b
        go_wp2_with fail
        refine (P1.out _ (HS.out.on B1.out)).mono ?_; rintro _ w2 ⟨v1, rfl, ho, b⟩
        obtain ⟨D1, d1, rfl, k1, k2, hs, _⟩ := own_sliceS ho
        have B2 := Lib.hid (below_on B1.out b)
        have S2 := Lib.hid hs
        have P3 := Lib.hid (fun w hs => (Public_any D1 d1 l _ rfl (by rw [HN.out]; omega) k1 k2 HU.out w hs).mono fun r w' (h : PublicE w _ l r w' ∧ Below w.heap.size w w') => (show ∃ v, r = .returned (.tuple #[v, .int .i64 0]) ∧ OwnS w' w.heap.size v (spubs l) ∧ Below w.heap.size w w' by obtain ⟨v, e, ho⟩ := h.1.1 HJI.out; exact ⟨v, e, ho, h.2⟩))
        rw [HN.out] at P3
        rw [HN.out]
        clear b ho hs k1 k2
        go_wp2_with fail
        refine (P3.out _ S2.out).mono ?_; rintro _ w3 ⟨v2, rfl, ho, b⟩
        obtain ⟨g, d2, rfl, k1, k2, hg⟩ := own_formS ho (by rw [HNP.out]; omega)
        have B3 := Lib.hid (below_on B2.out b)
        have HO := Lib.hid ho
        have HK1 := Lib.hid k1
        have HK2 := Lib.hid k2
        have HWG := Lib.hid (show w.heap.size ≤ g from Nat.le_trans B2.out.size hg)
        rw [HNP.out] at ho
        rw [HNP.out]
        clear b k1 k2 P3 hg
        obtain ⟨hk, hN0, f0, f1⟩ := HMr.out
        have hwf : wrap64 f = f := by unfold wrap64; omega
        go_wp2_with fail
        refine (P2.out _).mono ?_; rintro _ w4 ⟨rfl, b⟩
        have B4 := Lib.hid (below_on B3.out b)
        have HO4 := Lib.hid (own_below HO.out b)
        clear b ho
        obtain ⟨c0, c1, fr⟩ := own_atS HO4.out rfl k hkP
        rw [HGK.out] at c0 c1
        go_wp2_with fail
        have ho4 : OwnS w4 w2.heap.size (.slice (some ⟨g, 0, none⟩) N d2) (spubs l) := by
          have h := HO4.out
          unfold OwnS at h
          rw [HNP.out] at h
          exact own_s h HNP.out.symm rfl
        have ho5 : OwnS (w4.setCell ⟨g, k * 2 + 1, none⟩ (.int .u64 (qpow 4 o))) w2.heap.size (.slice (some ⟨g, 0, none⟩) N d2) ((spubs l).set k (l[k].1, qpow 4 o)) := by
          have h := own_storeS ho4 HNP.out k hkP (qpow 4 o)
          rw [HGK.out] at h
          exact h
        have B5 := Lib.hid (show Below w.heap.size w (w4.setCell ⟨g, k * 2 + 1, none⟩ (.int .u64 (qpow 4 o))) from B4.out.setCell (show w.heap.size ≤ (Addr.mk g (k * 2 + 1) none).block from HWG.out) _)
        clear ho4
        generalize w4.setCell ⟨g, k * 2 + 1, none⟩ (.int .u64 (qpow 4 o)) = w5 at ho5 B5 ⊢
        have HLn := Lib.hid (show ((spubs l).set k (l[k].1, qpow 4 o)).length = N by rw [List.length_set, HNP.out])
        obtain ⟨D5, d5, hv5, k1, k2, hs5, _⟩ := own_sliceS ho5
        rw [HLn.out] at hv5 k1
        cases hv5
        have S5 := Lib.hid hs5
        have P4 := Lib.hid (Check_any5 (T : Int) (some ⟨g, 0, none⟩) d2 _ ids HIF.out (by rw [HLn.out]; omega) (by rw [HLn.out]; exact k1) k2 HLU.out)
        rw [HLn.out] at P4
        have hee := HEE.out
        clear ho5 k1 k2 hs5 c0 c1 fr HO4 HO
        rcases hee with ⟨rfl, hq⟩ | ⟨rfl, hq⟩
        · rw [hq]
          refine (P4.out _ S5.out).mono ?_; rintro r w6 ⟨he, b⟩; have he := HE.out r he; subst he; have B6 := Lib.hid (below_on B5.out b); clear b
          go_wp2_with fail
          go_ret
          exact ⟨rfl, B6.out⟩
        · rw [hq]
          refine (P4.out _ S5.out).mono ?_; rintro r w6 ⟨he, b⟩; have he := HE.out r he; subst he; have B6 := Lib.hid (below_on B5.out b); have S6 := Lib.hid (S5.out.on b); clear b
          go_wp2_with fail
          refine (P4.out _ S6.out).mono ?_; rintro r w7 ⟨he, b⟩; have he := HE.out r he; subst he; have B7 := Lib.hid (below_on B6.out b); clear b
          go_wp2_with fail
          go_ret
          exact ⟨rfl, B7.out⟩
      · have P1 := Lib.hid (Split_bad s t n s0 hsp (.slice A xs.length c))
        clear hm hx hsp
        go_enter Try.func10, Try.ntmps10
        go_wp2_with fail
        refine (live5 _).mono ?_; rintro _ w1 ⟨rfl, b⟩; have B1 := Lib.hid (below_on B0.out b); clear b
        go_wp2_with fail
        refine (P1.out _).mono ?_; rintro _ w2 ⟨rfl, b⟩; have B2 := Lib.hid (below_on B1.out b); clear b
        go_wp2_with fail
        go_ret
        exact ⟨rfl, B2.out⟩
  · clear hm hx
    go_enter Try.func10, Try.ntmps10
    go_wp2_with fail
    refine (live5 _).mono ?_; rintro _ w1 ⟨rfl, b⟩; have B1 := Lib.hid (below_on B0.out b); clear b
    go_wp2_with fail
    go_ret
    exact ⟨rfl, B1.out⟩
end Go.Proofs.Ytgboijbnjjmmkaa
