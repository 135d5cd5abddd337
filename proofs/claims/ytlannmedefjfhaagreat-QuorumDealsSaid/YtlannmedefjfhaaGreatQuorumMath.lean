/- Plain: logarithms in the group; a crew whose parts fit has one polynomial; what is combined is right. -/
import Derived.Test.YtlannmedefjfhaaGreatShareLib
import Derived.Test.YtlannmedefjfhaaGreatShareSpoil
import Derived.Test.YtlannmedefjfhaaGreatSignLib2
namespace Go.Proofs.YtlannmedefjfhaaGreat
open Go.ChangeShapes Go.WideShapes Go.ChangeAt Go.RowKit Gs
set_option linter.unusedVariables false

theorem dlog {x : Int} (h : qin x = true) : ∃ y, Rb y ∧ x = qpow 4 y := by
  obtain ⟨n, rfl, n0, nQ, hs⟩ := qin_of h
  obtain ⟨k, hk, e⟩ := QQ_gen.surj n n0 nQ
  have two : ¬ (2 ^ RR % QQ = 1) := fun g => QQ_gen.inj 0 RR (by decide) (by decide) (by rw [g]; decide)
  rcases Nat.mod_two_eq_zero_or_one k with hk2 | hk2
  · obtain ⟨j, rfl⟩ : ∃ j, k = 2 * j := ⟨k / 2, by omega⟩
    have e2 : (4 : Nat) ^ j % QQ = n := by rw [← e, Nat.pow_mul]
    refine ⟨((j % RR : Nat) : Int), ⟨by omega, ?_⟩, ?_⟩
    · have := Nat.mod_lt j (show 0 < RR by decide)
      have h2 : ((j % RR : Nat) : Int) < ((RR : Nat) : Int) := by omega
      rwa [castR] at h2
    · have := qpow_nat 4 (j % RR)
      rw [show ((4 : Nat) : Int) = 4 from rfl] at this
      rw [this, ← four_mod, e2]
  · exfalso
    obtain ⟨j, rfl⟩ : ∃ j, k = 2 * j + 1 := ⟨k / 2, by omega⟩
    have h1 : (2 ^ (2 * j + 1)) ^ RR % QQ = 1 := by
      have h2 : Sq n := hs
      rw [← e] at h2
      exact Sq.mod.1 h2
    have h3 : Sq (4 ^ j) := Sq.four.pow j
    have h4 : (2 ^ (2 * j + 1)) ^ RR = (4 ^ j) ^ RR * 2 ^ RR := by
      rw [← Nat.mul_pow, Nat.pow_succ, Nat.pow_mul]
    rw [h4, Nat.mul_mod, show (4 ^ j) ^ RR % QQ = 1 from h3, Nat.one_mul, Nat.mod_mod] at h1
    exact two h1

theorem logs : ∀ ps : List (Int × Int), (∀ p ∈ ps, qin p.2 = true) → ∃ L : List (Int × Int), ps = spubs L ∧ ∀ p ∈ L, Rb p.2
  | [], _ => ⟨[], rfl, fun p hp => by simp at hp⟩
  | p :: ps, h => by
    obtain ⟨L, e, hL⟩ := logs ps (fun q hq => h q (List.mem_cons_of_mem _ hq))
    obtain ⟨y, hy, e2⟩ := dlog (h p List.mem_cons_self)
    refine ⟨(p.1, y) :: L, ?_, fun q hq => ?_⟩
    · rw [e]; unfold spubs; rw [List.map_cons, ← e2]
    · rcases List.mem_cons.1 hq with rfl | hq
      · exact hy
      · exact hL q hq
theorem grp_mem {l : List (Int × Int)} (h : Grp l) : ∀ p ∈ l, qin p.2 = true := fun p hp => by
  obtain ⟨i, hi, rfl⟩ := List.getElem_of_mem hp
  exact h i hi
theorem spubs_take (L : List (Int × Int)) (T : Nat) : (spubs L).take T = spubs (L.take T) := by unfold spubs; rw [List.map_take]

/-- Public shares that fit are of one polynomial. -/
theorem fits_poly {T : Nat} {L : List (Int × Int)} {ids : List Int} (hids : L.map Prod.fst = ids) (hr : RightI ids) (hT : T ≤ L.length) (hb : ∀ p ∈ L, Rb p.2) (hf : Fits T ids (spubs L)) :
    ∃ c : List Int, c.length ≤ T ∧ (∀ p ∈ L, Z (p.2 - pe c p.1)) ∧ ∀ x, Z (jat (ids.take T) x (L.take T) - pe c x) := by
  have hti : (L.take T).map Prod.fst = ids.take T := by rw [List.map_take, hids]
  have hmem : ∀ p ∈ L.take T, p.1 ∈ ids.take T := fun p hp => by rw [← hti]; exact List.mem_map_of_mem hp
  have hlen : (ids.take T).length = T := by rw [← hids, List.length_take, List.length_map]; omega
  obtain ⟨c, hc, hpe⟩ := jI_pf (ids.take T) (L.take T) hmem
  rw [hlen] at hc
  have hap : Apart (ids.take T) := (right_apart hr).sublist (List.take_sublist _ _)
  have hjz : ∀ x, Z (jat (ids.take T) x (L.take T) - pe c x) := fun x => (jat_z (ids.take T) x (L.take T)).cast (by have := hpe x; simp only at this; rw [this])
  refine ⟨c, hc, fun p hp => ?_, hjz⟩
  obtain ⟨i, hi, rfl⟩ := List.getElem_of_mem hp
  by_cases hiT : i < T
  · have hmem2 : L[i] ∈ L.take T := List.mem_take_iff_getElem.2 ⟨i, by omega, rfl⟩
    have h1 := jI_at (ids.take T) hap L[i] (L.take T) (by rw [hti]; exact apart_ne hap) hmem hmem2
    have h2 := hpe L[i].1
    simp only at h2
    rw [h2] at h1
    exact h1.neg.cast (by omega)
  · have hi2 : i < (spubs L).length := by rw [spubs_length]; exact hi
    have h1 := hf i hi2 (by omega)
    rw [spubs_get L i hi2] at h1
    simp only at h1
    rw [spubs_take] at h1
    have hq := qat_base (ids.take T) L[i].1 (L.take T) (fun p hp => (hb p (List.mem_of_mem_take hp)).1)
    rw [show (L.take T).map (fun p => (p.1, qpow 4 p.2)) = spubs (L.take T) from rfl] at hq
    rw [hq] at h1
    have h2 := (base_zz (jat_rb _ _ _).1 (hb L[i] (List.getElem_mem hi)).1).1 h1
    exact ((hjz L[i].1).sub h2).cast (by omega)

/-- The product of numbers, the sum of numbers. -/
def qprod (l : List Int) : Int := l.foldl qmul 1
def rsum (l : List Int) : Int := l.foldl radd 0
theorem prod_log : ∀ (l : List Int) (o : Int), 0 ≤ o → (∀ a ∈ l, 0 ≤ a) → (l.map (qpow 4)).foldl qmul (qpow 4 o) = qpow 4 (l.foldl radd o)
  | [], o, _, _ => rfl
  | a :: l, o, h, hl => by
    rw [List.map_cons, List.foldl_cons, List.foldl_cons, ← base_add h (hl a List.mem_cons_self)]
    exact prod_log l _ (radd_bound _ _).1 (fun b hb => hl b (List.mem_cons_of_mem _ hb))
theorem sum_z : ∀ (l : List Int) (o : Int), Z (l.foldl radd o - (o + l.sum))
  | [], o => Z.zero.cast (by simp)
  | a :: l, o => by
    have h1 := sum_z l (radd o a)
    have h2 := z_radd o a
    rw [List.foldl_cons, List.sum_cons]
    exact (h1.add h2).cast (by omega)
theorem sum_rb : ∀ (l : List Int) (o : Int), Rb o → Rb (l.foldl radd o)
  | [], o, h => h
  | a :: l, o, h => sum_rb l _ (radd_bound _ _)
theorem rsum_rb (l : List Int) : Rb (rsum l) := sum_rb l 0 rb_zero
theorem prod_b : ∀ (l : List Int) (o : Int), (0 ≤ o ∧ o < 2305843009213691579) → 0 ≤ l.foldl qmul o ∧ l.foldl qmul o < 2305843009213691579
  | [], o, h => h
  | a :: l, o, h => prod_b l _ (qmul_bound _ _)
theorem qprod_b (l : List Int) : 0 ≤ qprod l ∧ qprod l < 2305843009213691579 := prod_b l 1 (by omega)
instance (l : List Int) : IsU (qprod l) := ⟨(qprod_b l).1, by have := (qprod_b l).2; omega⟩
instance (l : List Int) : IsU (rsum l) := ⟨(rsum_rb l).1, by have := (rsum_rb l).2; omega⟩

/-- A part fits: what it should be, in the group. -/
def PartFits (e : Int) (J : List Int) (ps : List (Int × Int)) (c p : Int × Int) : Prop := qpow 4 p.2 = qmul c.2 (qpow (ps[(c.1 - 1).toNat]?.getD (0, 0)).2 (rmul e (wat J c.1 0)))
theorem part_z {e a y x w : Int} (he : 0 ≤ e) (ha : 0 ≤ a) (hy : 0 ≤ y) (hx : 0 ≤ x) (h : qpow 4 x = qmul (qpow 4 a) (qpow (qpow 4 y) (rmul e w))) : Z (x - (a + e * (w * y))) := by
  have hm := rmul_bound e w
  rw [← base_mul hy hm.1, ← base_add ha (rmul_bound _ _).1] at h
  have h1 := (base_zz hx (radd_bound _ _).1).1 h
  have h2 := z_radd a (rmul y (rmul e w))
  have h3 := z_rmul y (rmul e w)
  have h4 := (z_rmul e w).mul y
  exact (((h1.add h2).add h3).add h4).cast (by grind)
theorem parts_sum (e : Int) (he : 0 ≤ e) (J : List Int) (ps : List (Int × Int)) (L : List (Int × Int)) (hps : ps = spubs L) (hL : ∀ p ∈ L, Rb p.2) : ∀ (C P : List (Int × Int)), (∀ c ∈ C, 1 ≤ c.1 ∧ c.1 ≤ L.length) → (∀ c ∈ C, Rb c.2) → (∀ p ∈ P, 0 ≤ p.2) → C.length = P.length → (∀ i (h : i < C.length) (g : i < P.length), PartFits e J ps (C[i].1, qpow 4 C[i].2) P[i]) →
    Z ((P.map Prod.snd).sum - ((C.map Prod.snd).sum + e * jI J 0 (C.map fun c => (c.1, (L[(c.1 - 1).toNat]?.getD (0, 0)).2))))
  | [], [], _, _, _, _, _ => Z.zero.cast (by simp [jI])
  | [], p :: P, _, _, _, h, _ => by simp at h
  | c :: C, [], _, _, _, h, _ => by simp at h
  | c :: C, p :: P, h1, h2, h3, h4, h5 => by
    have ih := parts_sum e he J ps L hps hL C P (fun x hx => h1 x (List.mem_cons_of_mem _ hx)) (fun x hx => h2 x (List.mem_cons_of_mem _ hx)) (fun x hx => h3 x (List.mem_cons_of_mem _ hx)) (by simpa using h4) (fun i h g => by
      have := h5 (i + 1) (by simpa using h) (by simpa using g)
      simpa using this)
    have h0 := h5 0 (by simp) (by simp)
    simp only [List.getElem_cons_zero] at h0
    have hc := h1 c List.mem_cons_self
    have hk : (c.1 - 1).toNat < L.length := by omega
    unfold PartFits at h0
    simp only at h0
    rw [hps, show (spubs L)[(c.1 - 1).toNat]? = some (L[(c.1 - 1).toNat].1, qpow 4 L[(c.1 - 1).toNat].2) by
      rw [List.getElem?_eq_getElem (by rw [spubs_length]; exact hk), spubs_get]] at h0
    simp only [Option.getD_some] at h0
    have hz := part_z he (h2 c List.mem_cons_self).1 (hL _ (List.getElem_mem hk)).1 (h3 p List.mem_cons_self) h0
    have hw := ((wat_z J c.1 0).mul_right L[(c.1 - 1).toNat].2).mul e
    rw [List.map_cons, List.map_cons, List.map_cons, List.sum_cons, List.sum_cons, jI_cons]
    simp only [List.getElem?_eq_getElem hk, Option.getD_some]
    exact ((ih.add hz).add hw).cast (by grind)

/-- What is combined is a right signature. -/
theorem combined {T : Nat} {L : List (Int × Int)} {ids : List Int} (hids : L.map Prod.fst = ids) (hr : RightI ids) (hT : T ≤ L.length) (hb : ∀ p ∈ L, Rb p.2) (hf : Fits T ids (spubs L)) (hn : ∀ i (h : i < L.length), L[i].1 = (i : Int) + 1)
    {K : Int} (hK : qat (ids.take T) 0 ((spubs L).take T) = K) {C P : List (Int × Int)} {J : List Int} (hJ : C.map Prod.fst = J) (hJr : RightI J) (hTC : T ≤ C.length) (hC1 : ∀ c ∈ C, 1 ≤ c.1 ∧ c.1 ≤ L.length) (hC2 : ∀ c ∈ C, qin c.2 = true) (hP : ∀ p ∈ P, 0 ≤ p.2) (hCP : C.length = P.length) (xs : List Int)
    (h : ∀ i (h : i < C.length) (g : i < P.length), PartFits (schal (qprod (C.map Prod.snd)) K xs) J (spubs L) C[i] P[i]) :
    chk K xs (schal (qprod (C.map Prod.snd)) K xs) (rsum (P.map Prod.snd)) = 0 := by
  obtain ⟨c, hc, hz, hj⟩ := fits_poly hids hr hT hb hf
  obtain ⟨D, hD, hDb⟩ := logs C hC2
  have hDf : D.map Prod.fst = J := by rw [← hJ, hD, spubs_fst]
  have hDl : D.length = C.length := by rw [hD, spubs_length]
  have hA : qprod (C.map Prod.snd) = qpow 4 (rsum (D.map Prod.snd)) := by
    rw [hD]
    unfold qprod rsum spubs
    rw [List.map_map, show (Prod.snd ∘ fun p : Int × Int => (p.1, qpow 4 p.2)) = (qpow 4 ∘ Prod.snd) from rfl, ← List.map_map, ← prod_log _ 0 (by omega) (fun a ha => by
      obtain ⟨p, hp, rfl⟩ := List.mem_map.1 ha
      exact (hDb p hp).1), base_none]
  have hk : K = qpow 4 (jat (ids.take T) 0 (L.take T)) := by
    rw [← hK, spubs_take]
    exact qat_base (ids.take T) 0 (L.take T) (fun p hp => (hb p (List.mem_of_mem_take hp)).1)
  have he := schal_bound (qprod (C.map Prod.snd)) K xs
  have hs := parts_sum (schal (qprod (C.map Prod.snd)) K xs) he.1 J (spubs L) L rfl hb D P (fun d hd => by
      obtain ⟨i, hi, rfl⟩ := List.getElem_of_mem hd
      have h1 := hC1 (D[i].1, qpow 4 D[i].2) (by rw [hD]; exact List.mem_map_of_mem (List.getElem_mem hi))
      exact h1) hDb hP (by omega) (fun i hi g => by
      have h1 := h i (by omega) g
      have h2 : C[i]'(by omega) = (D[i].1, qpow 4 D[i].2) := by simp only [hD]; rw [spubs_get]
      rw [h2] at h1
      exact h1)
  have hi := interp (c := c) (l := D.map fun d => (d.1, (L[(d.1 - 1).toNat]?.getD (0, 0)).2)) (by rw [List.length_map]; omega) (by rw [List.map_map]; exact (show (D.map Prod.fst) = J from hDf) ▸ right_apart hJr) (fun p hp => by
    obtain ⟨d, hd, rfl⟩ := List.mem_map.1 hp
    obtain ⟨i, hi, rfl⟩ := List.getElem_of_mem hd
    have h1 := hC1 (D[i].1, qpow 4 D[i].2) (by rw [hD]; exact List.mem_map_of_mem (List.getElem_mem hi))
    simp only at h1
    have hkk : (D[i].1 - 1).toNat < L.length := by omega
    simp only [List.getElem?_eq_getElem hkk, Option.getD_some]
    have h2 := hz L[(D[i].1 - 1).toNat] (List.getElem_mem hkk)
    have h3 := hn (D[i].1 - 1).toNat hkk
    rwa [show L[(D[i].1 - 1).toNat].1 = D[i].1 by omega] at h2) 0
  rw [List.map_map, show (D.map (Prod.fst ∘ fun d : Int × Int => (d.1, (L[(d.1 - 1).toNat]?.getD (0, 0)).2))) = J from hDf] at hi
  have hsum := sum_z (P.map Prod.snd) 0
  have hsumD := sum_z (D.map Prod.snd) 0
  have hjj := hj 0
  have hR := chk_signed (s := jat (ids.take T) 0 (L.take T)) (k := rsum (D.map Prod.snd)) xs (jat_rb _ _ _).1 (rsum_rb _).1
  rw [← hk, ← hA] at hR
  have hfin : rsum (P.map Prod.snd) = radd (rsum (D.map Prod.snd)) (rmul (schal (qprod (C.map Prod.snd)) K xs) (jat (ids.take T) 0 (L.take T))) := by
    refine z_eq (rsum_rb _).1 (rsum_rb _).2 (radd_bound _ _).1 (radd_bound _ _).2 ?_
    have h1 := z_radd (rsum (D.map Prod.snd)) (rmul (schal (qprod (C.map Prod.snd)) K xs) (jat (ids.take T) 0 (L.take T)))
    have h2 := z_rmul (schal (qprod (C.map Prod.snd)) K xs) (jat (ids.take T) 0 (L.take T))
    unfold rsum at h1 ⊢
    generalize List.foldl radd 0 (P.map Prod.snd) = sP at *
    generalize List.foldl radd 0 (D.map Prod.snd) = sD at *
    generalize schal (qprod (C.map Prod.snd)) K xs = e at *
    generalize jat (ids.take T) 0 (L.take T) = k0 at *
    generalize (P.map Prod.snd).sum = SP at *
    generalize (D.map Prod.snd).sum = SD at *
    generalize jI J 0 _ = jj at hs hi
    generalize pe c 0 = pc at *
    have h3 := (hi.sub hjj).mul e
    exact (((((hsum.add hs).sub hsumD).add h3).sub h1).sub h2).cast (by grind)
  rw [hfin]
  exact hR
end Go.Proofs.YtlannmedefjfhaaGreat
