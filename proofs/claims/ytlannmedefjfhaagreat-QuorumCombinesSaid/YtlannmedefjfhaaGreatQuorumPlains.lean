/- Several texts of one kind, one behind the other: QuorumMath, QuorumPlain, QuorumSpec, QuorumT. -/
import Derived.Test.YtlannmedefjfhaaGreatShareLib
import Derived.Test.YtlannmedefjfhaaGreatShareSpoil
import Derived.Test.YtlannmedefjfhaaGreatSignLib2
/- Plain: logarithms in the group; a crew whose parts fit has one polynomial; what is combined is right. -/
namespace Go.Proofs.YtlannmedefjfhaaGreat
open Go.ChangeShapes Go.WideShapes Go.ChangeAt Go.RowKit Gs
set_option linter.unusedVariables false

theorem dlog {x : Int} (h : qin x = true) : ∃ y, Rb y ∧ x = qpow 4 y := by
  obtain ⟨n, rfl, n0, nQ, hs⟩ := qin_of h
  obtain ⟨k, hk, e⟩ := QQ_gen.surj n n0 nQ
  have two : ¬ (2 ^ RR % QQ = 1) := fun g => QQ_gen.inj 0 RR (by decide) (by decide) (by rw [g]; decide)
  rcases Nat.mod_two_eq_zero_or_one k with hk2 | hk2
  · obtain ⟨j, rfl⟩ : ∃ j, k = 2 * j := ⟨k / 2, by omega⟩
    have e2 : (4 : Nat) ^ j % QQ = n := by rw [← e, Nat.pow_mul]
    refine ⟨((j % RR : Nat) : Int), ⟨by omega, ?_⟩, ?_⟩
    · have := Nat.mod_lt j (show 0 < RR by decide)
      have h2 : ((j % RR : Nat) : Int) < ((RR : Nat) : Int) := by omega
      rwa [castR] at h2
    · have := qpow_nat 4 (j % RR)
      rw [show ((4 : Nat) : Int) = 4 from rfl] at this
      rw [this, ← four_mod, e2]
  · exfalso
    obtain ⟨j, rfl⟩ : ∃ j, k = 2 * j + 1 := ⟨k / 2, by omega⟩
    have h1 : (2 ^ (2 * j + 1)) ^ RR % QQ = 1 := by
      have h2 : Sq n := hs
      rw [← e] at h2
      exact Sq.mod.1 h2
    have h3 : Sq (4 ^ j) := Sq.four.pow j
    have h4 : (2 ^ (2 * j + 1)) ^ RR = (4 ^ j) ^ RR * 2 ^ RR := by
      rw [← Nat.mul_pow, Nat.pow_succ, Nat.pow_mul]
    rw [h4, Nat.mul_mod, show (4 ^ j) ^ RR % QQ = 1 from h3, Nat.one_mul, Nat.mod_mod] at h1
    exact two h1

theorem logs : ∀ ps : List (Int × Int), (∀ p ∈ ps, qin p.2 = true) → ∃ L : List (Int × Int), ps = spubs L ∧ ∀ p ∈ L, Rb p.2
  | [], _ => ⟨[], rfl, fun p hp => by simp at hp⟩
  | p :: ps, h => by
    obtain ⟨L, e, hL⟩ := logs ps (fun q hq => h q (List.mem_cons_of_mem _ hq))
    obtain ⟨y, hy, e2⟩ := dlog (h p List.mem_cons_self)
    refine ⟨(p.1, y) :: L, ?_, fun q hq => ?_⟩
    · rw [e]; unfold spubs; rw [List.map_cons, ← e2]
    · rcases List.mem_cons.1 hq with rfl | hq
      · exact hy
      · exact hL q hq
theorem grp_mem {l : List (Int × Int)} (h : Grp l) : ∀ p ∈ l, qin p.2 = true := fun p hp => by
  obtain ⟨i, hi, rfl⟩ := List.getElem_of_mem hp
  exact h i hi
theorem spubs_take (L : List (Int × Int)) (T : Nat) : (spubs L).take T = spubs (L.take T) := by unfold spubs; rw [List.map_take]

/-- Public shares that fit are of one polynomial. -/
theorem fits_poly {T : Nat} {L : List (Int × Int)} {ids : List Int} (hids : L.map Prod.fst = ids) (hr : RightI ids) (hT : T ≤ L.length) (hb : ∀ p ∈ L, Rb p.2) (hf : Fits T ids (spubs L)) :
    ∃ c : List Int, c.length ≤ T ∧ (∀ p ∈ L, Z (p.2 - pe c p.1)) ∧ ∀ x, Z (jat (ids.take T) x (L.take T) - pe c x) := by
  have hti : (L.take T).map Prod.fst = ids.take T := by rw [List.map_take, hids]
  have hmem : ∀ p ∈ L.take T, p.1 ∈ ids.take T := fun p hp => by rw [← hti]; exact List.mem_map_of_mem hp
  have hlen : (ids.take T).length = T := by rw [← hids, List.length_take, List.length_map]; omega
  obtain ⟨c, hc, hpe⟩ := jI_pf (ids.take T) (L.take T) hmem
  rw [hlen] at hc
  have hap : Apart (ids.take T) := (right_apart hr).sublist (List.take_sublist _ _)
  have hjz : ∀ x, Z (jat (ids.take T) x (L.take T) - pe c x) := fun x => (jat_z (ids.take T) x (L.take T)).cast (by have := hpe x; simp only at this; rw [this])
  refine ⟨c, hc, fun p hp => ?_, hjz⟩
  obtain ⟨i, hi, rfl⟩ := List.getElem_of_mem hp
  by_cases hiT : i < T
  · have hmem2 : L[i] ∈ L.take T := List.mem_take_iff_getElem.2 ⟨i, by omega, rfl⟩
    have h1 := jI_at (ids.take T) hap L[i] (L.take T) (by rw [hti]; exact apart_ne hap) hmem hmem2
    have h2 := hpe L[i].1
    simp only at h2
    rw [h2] at h1
    exact h1.neg.cast (by omega)
  · have hi2 : i < (spubs L).length := by rw [spubs_length]; exact hi
    have h1 := hf i hi2 (by omega)
    rw [spubs_get L i hi2] at h1
    simp only at h1
    rw [spubs_take] at h1
    have hq := qat_base (ids.take T) L[i].1 (L.take T) (fun p hp => (hb p (List.mem_of_mem_take hp)).1)
    rw [show (L.take T).map (fun p => (p.1, qpow 4 p.2)) = spubs (L.take T) from rfl] at hq
    rw [hq] at h1
    have h2 := (base_zz (jat_rb _ _ _).1 (hb L[i] (List.getElem_mem hi)).1).1 h1
    exact ((hjz L[i].1).sub h2).cast (by omega)

/-- The product of numbers, the sum of numbers. -/
def qprod (l : List Int) : Int := l.foldl qmul 1
def rsum (l : List Int) : Int := l.foldl radd 0
theorem prod_log : ∀ (l : List Int) (o : Int), 0 ≤ o → (∀ a ∈ l, 0 ≤ a) → (l.map (qpow 4)).foldl qmul (qpow 4 o) = qpow 4 (l.foldl radd o)
  | [], o, _, _ => rfl
  | a :: l, o, h, hl => by
    rw [List.map_cons, List.foldl_cons, List.foldl_cons, ← base_add h (hl a List.mem_cons_self)]
    exact prod_log l _ (radd_bound _ _).1 (fun b hb => hl b (List.mem_cons_of_mem _ hb))
theorem sum_z : ∀ (l : List Int) (o : Int), Z (l.foldl radd o - (o + l.sum))
  | [], o => Z.zero.cast (by simp)
  | a :: l, o => by
    have h1 := sum_z l (radd o a)
    have h2 := z_radd o a
    rw [List.foldl_cons, List.sum_cons]
    exact (h1.add h2).cast (by omega)
theorem sum_rb : ∀ (l : List Int) (o : Int), Rb o → Rb (l.foldl radd o)
  | [], o, h => h
  | a :: l, o, h => sum_rb l _ (radd_bound _ _)
theorem rsum_rb (l : List Int) : Rb (rsum l) := sum_rb l 0 rb_zero
theorem prod_b : ∀ (l : List Int) (o : Int), (0 ≤ o ∧ o < 2305843009213691579) → 0 ≤ l.foldl qmul o ∧ l.foldl qmul o < 2305843009213691579
  | [], o, h => h
  | a :: l, o, h => prod_b l _ (qmul_bound _ _)
theorem qprod_b (l : List Int) : 0 ≤ qprod l ∧ qprod l < 2305843009213691579 := prod_b l 1 (by omega)
instance (l : List Int) : IsU (qprod l) := ⟨(qprod_b l).1, by have := (qprod_b l).2; omega⟩
instance (l : List Int) : IsU (rsum l) := ⟨(rsum_rb l).1, by have := (rsum_rb l).2; omega⟩

/-- A part fits: what it should be, in the group. -/
def PartFits (e : Int) (J : List Int) (ps : List (Int × Int)) (c p : Int × Int) : Prop := qpow 4 p.2 = qmul c.2 (qpow (ps[(c.1 - 1).toNat]?.getD (0, 0)).2 (rmul e (wat J c.1 0)))
theorem part_z {e a y x w : Int} (he : 0 ≤ e) (ha : 0 ≤ a) (hy : 0 ≤ y) (hx : 0 ≤ x) (h : qpow 4 x = qmul (qpow 4 a) (qpow (qpow 4 y) (rmul e w))) : Z (x - (a + e * (w * y))) := by
  have hm := rmul_bound e w
  rw [← base_mul hy hm.1, ← base_add ha (rmul_bound _ _).1] at h
  have h1 := (base_zz hx (radd_bound _ _).1).1 h
  have h2 := z_radd a (rmul y (rmul e w))
  have h3 := z_rmul y (rmul e w)
  have h4 := (z_rmul e w).mul y
  exact (((h1.add h2).add h3).add h4).cast (by grind)
theorem parts_sum (e : Int) (he : 0 ≤ e) (J : List Int) (ps : List (Int × Int)) (L : List (Int × Int)) (hps : ps = spubs L) (hL : ∀ p ∈ L, Rb p.2) : ∀ (C P : List (Int × Int)), (∀ c ∈ C, 1 ≤ c.1 ∧ c.1 ≤ L.length) → (∀ c ∈ C, Rb c.2) → (∀ p ∈ P, 0 ≤ p.2) → C.length = P.length → (∀ i (h : i < C.length) (g : i < P.length), PartFits e J ps (C[i].1, qpow 4 C[i].2) P[i]) →
    Z ((P.map Prod.snd).sum - ((C.map Prod.snd).sum + e * jI J 0 (C.map fun c => (c.1, (L[(c.1 - 1).toNat]?.getD (0, 0)).2))))
  | [], [], _, _, _, _, _ => Z.zero.cast (by simp [jI])
  | [], p :: P, _, _, _, h, _ => by simp at h
  | c :: C, [], _, _, _, h, _ => by simp at h
  | c :: C, p :: P, h1, h2, h3, h4, h5 => by
    have ih := parts_sum e he J ps L hps hL C P (fun x hx => h1 x (List.mem_cons_of_mem _ hx)) (fun x hx => h2 x (List.mem_cons_of_mem _ hx)) (fun x hx => h3 x (List.mem_cons_of_mem _ hx)) (by simpa using h4) (fun i h g => by
      have := h5 (i + 1) (by simpa using h) (by simpa using g)
      simpa using this)
    have h0 := h5 0 (by simp) (by simp)
    simp only [List.getElem_cons_zero] at h0
    have hc := h1 c List.mem_cons_self
    have hk : (c.1 - 1).toNat < L.length := by omega
    unfold PartFits at h0
    simp only at h0
    rw [hps, show (spubs L)[(c.1 - 1).toNat]? = some (L[(c.1 - 1).toNat].1, qpow 4 L[(c.1 - 1).toNat].2) by
      rw [List.getElem?_eq_getElem (by rw [spubs_length]; exact hk), spubs_get]] at h0
    simp only [Option.getD_some] at h0
    have hz := part_z he (h2 c List.mem_cons_self).1 (hL _ (List.getElem_mem hk)).1 (h3 p List.mem_cons_self) h0
    have hw := ((wat_z J c.1 0).mul_right L[(c.1 - 1).toNat].2).mul e
    rw [List.map_cons, List.map_cons, List.map_cons, List.sum_cons, List.sum_cons, jI_cons]
    simp only [List.getElem?_eq_getElem hk, Option.getD_some]
    exact ((ih.add hz).add hw).cast (by grind)

/-- What is combined is a right signature. -/
theorem combined {T : Nat} {L : List (Int × Int)} {ids : List Int} (hids : L.map Prod.fst = ids) (hr : RightI ids) (hT : T ≤ L.length) (hb : ∀ p ∈ L, Rb p.2) (hf : Fits T ids (spubs L)) (hn : ∀ i (h : i < L.length), L[i].1 = (i : Int) + 1)
    {K : Int} (hK : qat (ids.take T) 0 ((spubs L).take T) = K) {C P : List (Int × Int)} {J : List Int} (hJ : C.map Prod.fst = J) (hJr : RightI J) (hTC : T ≤ C.length) (hC1 : ∀ c ∈ C, 1 ≤ c.1 ∧ c.1 ≤ L.length) (hC2 : ∀ c ∈ C, qin c.2 = true) (hP : ∀ p ∈ P, 0 ≤ p.2) (hCP : C.length = P.length) (xs : List Int)
    (h : ∀ i (h : i < C.length) (g : i < P.length), PartFits (schal (qprod (C.map Prod.snd)) K xs) J (spubs L) C[i] P[i]) :
    chk K xs (schal (qprod (C.map Prod.snd)) K xs) (rsum (P.map Prod.snd)) = 0 := by
  obtain ⟨c, hc, hz, hj⟩ := fits_poly hids hr hT hb hf
  obtain ⟨D, hD, hDb⟩ := logs C hC2
  have hDf : D.map Prod.fst = J := by rw [← hJ, hD, spubs_fst]
  have hDl : D.length = C.length := by rw [hD, spubs_length]
  have hA : qprod (C.map Prod.snd) = qpow 4 (rsum (D.map Prod.snd)) := by
    rw [hD]
    unfold qprod rsum spubs
    rw [List.map_map, show (Prod.snd ∘ fun p : Int × Int => (p.1, qpow 4 p.2)) = (qpow 4 ∘ Prod.snd) from rfl, ← List.map_map, ← prod_log _ 0 (by omega) (fun a ha => by
      obtain ⟨p, hp, rfl⟩ := List.mem_map.1 ha
      exact (hDb p hp).1), base_none]
  have hk : K = qpow 4 (jat (ids.take T) 0 (L.take T)) := by
    rw [← hK, spubs_take]
    exact qat_base (ids.take T) 0 (L.take T) (fun p hp => (hb p (List.mem_of_mem_take hp)).1)
  have he := schal_bound (qprod (C.map Prod.snd)) K xs
  have hs := parts_sum (schal (qprod (C.map Prod.snd)) K xs) he.1 J (spubs L) L rfl hb D P (fun d hd => by
      obtain ⟨i, hi, rfl⟩ := List.getElem_of_mem hd
      have h1 := hC1 (D[i].1, qpow 4 D[i].2) (by rw [hD]; exact List.mem_map_of_mem (List.getElem_mem hi))
      exact h1) hDb hP (by omega) (fun i hi g => by
      have h1 := h i (by omega) g
      have h2 : C[i]'(by omega) = (D[i].1, qpow 4 D[i].2) := by simp only [hD]; rw [spubs_get]
      rw [h2] at h1
      exact h1)
  have hi := interp (c := c) (l := D.map fun d => (d.1, (L[(d.1 - 1).toNat]?.getD (0, 0)).2)) (by rw [List.length_map]; omega) (by rw [List.map_map]; exact (show (D.map Prod.fst) = J from hDf) ▸ right_apart hJr) (fun p hp => by
    obtain ⟨d, hd, rfl⟩ := List.mem_map.1 hp
    obtain ⟨i, hi, rfl⟩ := List.getElem_of_mem hd
    have h1 := hC1 (D[i].1, qpow 4 D[i].2) (by rw [hD]; exact List.mem_map_of_mem (List.getElem_mem hi))
    simp only at h1
    have hkk : (D[i].1 - 1).toNat < L.length := by omega
    simp only [List.getElem?_eq_getElem hkk, Option.getD_some]
    have h2 := hz L[(D[i].1 - 1).toNat] (List.getElem_mem hkk)
    have h3 := hn (D[i].1 - 1).toNat hkk
    rwa [show L[(D[i].1 - 1).toNat].1 = D[i].1 by omega] at h2) 0
  rw [List.map_map, show (D.map (Prod.fst ∘ fun d : Int × Int => (d.1, (L[(d.1 - 1).toNat]?.getD (0, 0)).2))) = J from hDf] at hi
  have hsum := sum_z (P.map Prod.snd) 0
  have hsumD := sum_z (D.map Prod.snd) 0
  have hjj := hj 0
  have hR := chk_signed (s := jat (ids.take T) 0 (L.take T)) (k := rsum (D.map Prod.snd)) xs (jat_rb _ _ _).1 (rsum_rb _).1
  rw [← hk, ← hA] at hR
  have hfin : rsum (P.map Prod.snd) = radd (rsum (D.map Prod.snd)) (rmul (schal (qprod (C.map Prod.snd)) K xs) (jat (ids.take T) 0 (L.take T))) := by
    refine z_eq (rsum_rb _).1 (rsum_rb _).2 (radd_bound _ _).1 (radd_bound _ _).2 ?_
    have h1 := z_radd (rsum (D.map Prod.snd)) (rmul (schal (qprod (C.map Prod.snd)) K xs) (jat (ids.take T) 0 (L.take T)))
    have h2 := z_rmul (schal (qprod (C.map Prod.snd)) K xs) (jat (ids.take T) 0 (L.take T))
    unfold rsum at h1 ⊢
    generalize List.foldl radd 0 (P.map Prod.snd) = sP at *
    generalize List.foldl radd 0 (D.map Prod.snd) = sD at *
    generalize schal (qprod (C.map Prod.snd)) K xs = e at *
    generalize jat (ids.take T) 0 (L.take T) = k0 at *
    generalize (P.map Prod.snd).sum = SP at *
    generalize (D.map Prod.snd).sum = SD at *
    generalize jI J 0 _ = jj at hs hi
    generalize pe c 0 = pc at *
    have h3 := (hi.sub hjj).mul e
    exact (((((hsum.add hs).sub hsumD).add h3).sub h1).sub h2).cast (by grind)
  rw [hfin]
  exact hR
end Go.Proofs.YtlannmedefjfhaaGreat

/- Plain: what crews may be, what commitments may be, what a signer's nonce is; the first of some errors. -/
namespace Go.Proofs.YtlannmedefjfhaaGreat
open Go.ChangeShapes Go.WideShapes Go.ChangeAt Go.RowKit Gs
set_option linter.unusedVariables false

/-- The first error of some. -/
def firstE : List Int → Int
  | [] => 0
  | e :: es => if e = 0 then firstE es else e
theorem firstE_stop : ∀ (es : List Int) (k : Nat) (h : k < es.length), (∀ i (g : i < es.length), i < k → es[i] = 0) → es[k] ≠ 0 → firstE es = es[k]
  | e :: es, 0, _, _, hk => if_neg hk
  | e :: es, k + 1, h, h0, hk => by
    have e0 : e = 0 := h0 0 (by simp) (by omega)
    rw [show firstE (e :: es) = firstE es from if_pos e0]
    exact firstE_stop es k (by simpa using h) (fun i g gi => h0 (i + 1) (by simpa using g) (by omega)) hk
theorem firstE_none : ∀ (es : List Int), (∀ i (g : i < es.length), es[i] = 0) → firstE es = 0
  | [], _ => rfl
  | e :: es, h => by
    rw [show firstE (e :: es) = firstE es from if_pos (h 0 (by simp))]
    exact firstE_none es (fun i g => h (i + 1) (by simpa using g))

def PartsOk (ps : List (Int × Int)) : Prop := ∀ i (h : i < ps.length), ps[i].1 = (i : Int) + 1 ∧ qin ps[i].2 = true
def CrewOk (T N K : Int) (ps : List (Int × Int)) : Prop := 1 ≤ T ∧ T ≤ N ∧ N ≤ 7 ∧ qin K = true ∧ (ps.length : Int) = N ∧ PartsOk ps
/-- The parts of a crew fit together, and make its key. -/
def CrewFits (T K : Int) (ps : List (Int × Int)) : Prop := Fits T.toNat (ps.map Prod.fst) ps ∧ qat ((ps.map Prod.fst).take T.toNat) 0 (ps.take T.toNat) = K
/-- What is told of a crew. -/
def CrewE (T N K : Int) (ps : List (Int × Int)) (e : Int) : Prop := (¬ CrewOk T N K ps → e = 1) ∧ (CrewOk T N K ps → ¬ CrewFits T K ps → e = 60) ∧ (CrewOk T N K ps → CrewFits T K ps → e = 0)
theorem crewE_some (T N K : Int) (ps : List (Int × Int)) : ∃ e, CrewE T N K ps e := by
  by_cases h : CrewOk T N K ps
  · by_cases g : CrewFits T K ps
    · exact ⟨0, fun h' => absurd h h', fun _ g' => absurd g g', fun _ _ => rfl⟩
    · exact ⟨60, fun h' => absurd h h', fun _ _ => rfl, fun _ g' => absurd g' g⟩
  · exact ⟨1, fun _ => rfl, fun h' => absurd h' h, fun h' => absurd h' h⟩
theorem crewE_zero {T N K : Int} {ps : List (Int × Int)} (h : CrewE T N K ps 0) : CrewOk T N K ps ∧ CrewFits T K ps := by
  by_cases g : CrewOk T N K ps
  · by_cases f : CrewFits T K ps
    · exact ⟨g, f⟩
    · have := h.2.1 g f; omega
  · have := h.1 g; omega
theorem crewE_vals {T N K e : Int} {ps : List (Int × Int)} (h : CrewE T N K ps e) : e = 0 ∨ e = 1 ∨ e = 60 := by
  by_cases g : CrewOk T N K ps
  · by_cases f : CrewFits T K ps
    · exact .inl (h.2.2 g f)
    · exact .inr (.inr (h.2.1 g f))
  · exact .inr (.inl (h.1 g))
/-- The Ids of a crew's parts are right. -/
theorem crew_right {T N K : Int} {ps : List (Int × Int)} (h : CrewOk T N K ps) : RightI (ps.map Prod.fst) := by
  obtain ⟨h1, h2, h3, _, h5, h6⟩ := h
  refine ⟨by simp; omega, by simp; omega, fun i hi => ?_⟩
  have hi' : i < ps.length := by simpa using hi
  have hg : ∀ j (h : j < ps.length), (ps.map Prod.fst)[j]'(by simpa using h) = (j : Int) + 1 := fun j h => by rw [List.getElem_map]; exact (h6 j h).1
  rw [hg i hi']
  exact ⟨by omega, fun j g => by rw [hg j (by omega)]; omega⟩
theorem crew_grp {T N K : Int} {ps : List (Int × Int)} (h : CrewOk T N K ps) : Grp ps := fun i hi => (h.2.2.2.2.2 i hi).2

/-- A signer's share and session may be. -/
def SignerOk (x : Int × Int) (n : Int) : Prop := 1 ≤ x.1 ∧ x.1 ≤ 7 ∧ x.2 < 1152921504606845789 ∧ 0 ≤ n ∧ n ≤ 1099511627776
def qnonce (x : Int × Int) (n : Int) (ms : List Int) : Int := 1 + hof ⟨#[99, 111, 109, 109, 105, 116]⟩ [be x.2 8, be x.1 8, be n 8, ms] 1152921504606845788

/-- Commitments may be. -/
def CommitsOk (N : Int) (cs : List (Int × Int)) : Prop := ∀ i (h : i < cs.length), (1 ≤ cs[i].1 ∧ cs[i].1 ≤ N ∧ qin cs[i].2 = true) ∧ ∀ j (g : j < i), cs[j].1 < cs[i].1
/-- What is told of commitments. -/
def MayE (T N : Int) (cs : List (Int × Int)) (e : Int) : Prop := (¬ CommitsOk N cs → e = 1) ∧ (CommitsOk N cs → (cs.length : Int) < T → e = 50) ∧ (CommitsOk N cs → ¬ (cs.length : Int) < T → e = 0)
theorem mayE_some (T N : Int) (cs : List (Int × Int)) : ∃ e, MayE T N cs e := by
  by_cases h : CommitsOk N cs
  · by_cases g : (cs.length : Int) < T
    · exact ⟨50, fun h' => absurd h h', fun _ _ => rfl, fun _ g' => absurd g g'⟩
    · exact ⟨0, fun h' => absurd h h', fun _ g' => absurd g' g, fun _ _ => rfl⟩
  · exact ⟨1, fun _ => rfl, fun h' => absurd h' h, fun h' => absurd h' h⟩
theorem mayE_zero {T N : Int} {cs : List (Int × Int)} (h : MayE T N cs 0) : CommitsOk N cs ∧ ¬ (cs.length : Int) < T := by
  by_cases g : CommitsOk N cs
  · by_cases f : (cs.length : Int) < T
    · have := h.2.1 g f; omega
    · exact ⟨g, f⟩
  · have := h.1 g; omega
theorem commits_high {N : Int} {cs : List (Int × Int)} (h : CommitsOk N cs) : ∀ i (hi : i < cs.length), (i : Int) + 1 ≤ cs[i].1
  | 0, hi => by have := (h 0 hi).1.1; omega
  | i + 1, hi => by
    have h1 := commits_high h i (by omega)
    have h2 := (h (i + 1) hi).2 i (by omega)
    omega
theorem commits_few {N : Int} {cs : List (Int × Int)} (h : CommitsOk N cs) (h0 : 0 < cs.length) : (cs.length : Int) ≤ N := by
  have h1 := commits_high h (cs.length - 1) (by omega)
  have h2 := (h (cs.length - 1) (by omega)).1.2.1
  omega
theorem commits_right {N : Int} {cs : List (Int × Int)} (h : CommitsOk N cs) (hN : N ≤ 7) (h0 : 0 < cs.length) : RightI (cs.map Prod.fst) := by
  have h7 := commits_few h h0
  refine ⟨by simp; omega, by simp; omega, fun i hi => ?_⟩
  have hi' : i < cs.length := by simpa using hi
  have h1 := h i hi'
  simp only [List.getElem_map]
  exact ⟨by omega, fun j g => by have := h1.2 j g; omega⟩
end Go.Proofs.YtlannmedefjfhaaGreat

/- Plain: what is told of a crew and of commitments, of a part, of parts; what a signer tells. -/
namespace Go.Proofs.YtlannmedefjfhaaGreat
open Go.ChangeShapes Go.WideShapes Go.ChangeAt Go.RowKit Gs
set_option linter.unusedVariables false

open Classical in
noncomputable def crewF (T N K : Int) (ps : List (Int × Int)) : Int := if CrewOk T N K ps then (if CrewFits T K ps then 0 else 60) else 1
theorem crewF_is (T N K : Int) (ps : List (Int × Int)) : CrewE T N K ps (crewF T N K ps) := by
  unfold crewF
  by_cases h : CrewOk T N K ps
  · by_cases g : CrewFits T K ps
    · rw [if_pos h, if_pos g]; exact ⟨fun h' => absurd h h', fun _ g' => absurd g g', fun _ _ => rfl⟩
    · rw [if_pos h, if_neg g]; exact ⟨fun h' => absurd h h', fun _ _ => rfl, fun _ g' => absurd g' g⟩
  · rw [if_neg h]; exact ⟨fun _ => rfl, fun h' => absurd h' h, fun h' => absurd h' h⟩
theorem crewF_zero {T N K : Int} {ps : List (Int × Int)} (h : crewF T N K ps = 0) : CrewOk T N K ps ∧ CrewFits T K ps := crewE_zero (h ▸ crewF_is T N K ps)
open Classical in
noncomputable def signerF (x : Int × Int) (n : Int) : Int := if SignerOk x n then 0 else 1
theorem signerF_zero {x : Int × Int} {n : Int} (h : signerF x n = 0) : SignerOk x n := by
  unfold signerF at h
  by_cases g : SignerOk x n
  · exact g
  · rw [if_neg g] at h; omega
open Classical in
noncomputable def commF (N : Int) (cs : List (Int × Int)) : Int := if CommitsOk N cs then 0 else 1
theorem commF_zero {N : Int} {cs : List (Int × Int)} (h : commF N cs = 0) : CommitsOk N cs := by
  unfold commF at h
  by_cases g : CommitsOk N cs
  · exact g
  · rw [if_neg g] at h; omega
def enoughF (T : Int) (cs : List (Int × Int)) : Int := if (cs.length : Int) < T then 50 else 0
noncomputable def mayF (T N : Int) (cs : List (Int × Int)) : Int := firstE [commF N cs, enoughF T cs]
theorem mayF_zero {T N : Int} {cs : List (Int × Int)} (h : mayF T N cs = 0) : CommitsOk N cs ∧ ¬ (cs.length : Int) < T := by
  unfold mayF firstE at h
  by_cases g : commF N cs = 0
  · refine ⟨commF_zero g, fun k => ?_⟩
    rw [if_pos g] at h
    unfold firstE enoughF at h
    rw [if_pos k] at h
    simp at h
  · rw [if_neg g] at h; exact absurd h g
theorem mayF_is (T N : Int) (cs : List (Int × Int)) : MayE T N cs (mayF T N cs) := by
  unfold mayF
  by_cases h : CommitsOk N cs
  · have h1 : commF N cs = 0 := if_pos h
    by_cases g : (cs.length : Int) < T
    · have h2 : enoughF T cs = 50 := if_pos g
      rw [h1, h2]; exact ⟨fun h' => absurd h h', fun _ _ => rfl, fun _ g' => absurd g g'⟩
    · have h2 : enoughF T cs = 0 := if_neg g
      rw [h1, h2]; exact ⟨fun h' => absurd h h', fun _ g' => absurd g' g, fun _ _ => rfl⟩
  · have h1 : commF N cs = 1 := if_neg h
    rw [h1]; exact ⟨fun _ => rfl, fun h' => absurd h' h, fun h' => absurd h' h⟩

/-- The commitment of an Id. -/
def cAt (cs : List (Int × Int)) (i : Int) : Int × Int := (cs.find? fun c => c.1 == i).getD (0, 0)
theorem cAt_eq {N : Int} {cs : List (Int × Int)} (h : CommitsOk N cs) (i : Nat) (hi : i < cs.length) : cAt cs cs[i].1 = cs[i] := by
  unfold cAt
  rw [List.find?_eq_some_iff_getElem.2 ⟨by simp, i, hi, rfl, fun j hj => by
    have h1 := (h i hi).2 j hj
    simp; omega⟩]
  rfl
theorem ids_at {cs : List (Int × Int)} {i : Int} (h : i ∈ cs.map Prod.fst) : ∃ (k : Nat) (hk : k < cs.length), cs[k].1 = i := by
  obtain ⟨c, hc, rfl⟩ := List.mem_map.1 h
  obtain ⟨k, hk, rfl⟩ := List.getElem_of_mem hc
  exact ⟨k, hk, rfl⟩

/-- What is challenged. -/
def chalF (K : Int) (ms : List Int) (cs : List (Int × Int)) : Int := schal (qprod (cs.map Prod.snd)) K ms
theorem chalF_bound (K : Int) (ms : List Int) (cs : List (Int × Int)) : 0 ≤ chalF K ms cs ∧ chalF K ms cs < 1152921504606845789 := schal_bound _ _ _
instance (K : Int) (ms : List Int) (cs : List (Int × Int)) : IsU (chalF K ms cs) := ⟨by have := chalF_bound K ms cs; omega, by have := chalF_bound K ms cs; omega⟩
open Classical in
/-- What is told of a part. -/
noncomputable def partF (e : Int) (ps cs : List (Int × Int)) (p : Int × Int) : Int :=
  if p.1 ∈ cs.map Prod.fst ∧ p.2 < 1152921504606845789 then (if PartFits e (cs.map Prod.fst) ps (cAt cs p.1) p then 0 else 60) else 1
theorem partF_out {e : Int} {ps cs : List (Int × Int)} {p : Int × Int} (h : ¬ (p.1 ∈ cs.map Prod.fst ∧ p.2 < 1152921504606845789)) : partF e ps cs p = 1 := if_neg h
theorem partF_yes {e : Int} {ps cs : List (Int × Int)} {p : Int × Int} (h : p.1 ∈ cs.map Prod.fst ∧ p.2 < 1152921504606845789) (g : PartFits e (cs.map Prod.fst) ps (cAt cs p.1) p) : partF e ps cs p = 0 := by unfold partF; rw [if_pos h, if_pos g]
theorem partF_no {e : Int} {ps cs : List (Int × Int)} {p : Int × Int} (h : p.1 ∈ cs.map Prod.fst ∧ p.2 < 1152921504606845789) (g : ¬ PartFits e (cs.map Prod.fst) ps (cAt cs p.1) p) : partF e ps cs p = 60 := by unfold partF; rw [if_pos h, if_neg g]
theorem partF_zero {e : Int} {ps cs : List (Int × Int)} {p : Int × Int} (h : partF e ps cs p = 0) : (p.1 ∈ cs.map Prod.fst ∧ p.2 < 1152921504606845789) ∧ PartFits e (cs.map Prod.fst) ps (cAt cs p.1) p := by
  by_cases h1 : p.1 ∈ cs.map Prod.fst ∧ p.2 < 1152921504606845789
  · by_cases g : PartFits e (cs.map Prod.fst) ps (cAt cs p.1) p
    · exact ⟨h1, g⟩
    · rw [partF_no h1 g] at h; omega
  · rw [partF_out h1] at h; omega
theorem partF_vals (e : Int) (ps cs : List (Int × Int)) (p : Int × Int) : partF e ps cs p = 0 ∨ partF e ps cs p = 1 ∨ partF e ps cs p = 60 := by
  by_cases h1 : p.1 ∈ cs.map Prod.fst ∧ p.2 < 1152921504606845789
  · by_cases g : PartFits e (cs.map Prod.fst) ps (cAt cs p.1) p
    · exact .inl (partF_yes h1 g)
    · exact .inr (.inr (partF_no h1 g))
  · exact .inr (.inl (partF_out h1))
noncomputable def wrongF (e : Int) (ps cs l : List (Int × Int)) : Int := firstE (l.map (partF e ps cs))
theorem firstE_zero : ∀ {es : List Int}, firstE es = 0 → ∀ e ∈ es, e = 0
  | [], _, e, h => by simp at h
  | a :: es, h, e, he => by
    by_cases ha : a = 0
    · rw [show firstE (a :: es) = firstE es from if_pos ha] at h
      rcases List.mem_cons.1 he with rfl | he
      · exact ha
      · exact firstE_zero h e he
    · rw [show firstE (a :: es) = a from if_neg ha] at h
      exact absurd h ha
/-- What stands ahead of parts. -/
noncomputable def headF (T N K : Int) (ps cs : List (Int × Int)) : Int := firstE [crewF T N K ps, commF N cs, enoughF T cs]
theorem headF_zero {T N K : Int} {ps cs : List (Int × Int)} (h : headF T N K ps cs = 0) : (CrewOk T N K ps ∧ CrewFits T K ps) ∧ CommitsOk N cs ∧ ¬ (cs.length : Int) < T := by
  have h0 := firstE_zero h
  have h1 := crewF_zero (h0 (crewF T N K ps) (by simp))
  have h2 := commF_zero (h0 (commF N cs) (by simp))
  have h3 : enoughF T cs = 0 := h0 _ (by simp)
  refine ⟨h1, h2, fun k => ?_⟩
  unfold enoughF at h3
  rw [if_pos k] at h3
  omega
noncomputable def cpartF (T N K : Int) (ps : List (Int × Int)) (ms : List Int) (cs : List (Int × Int)) (p : Int × Int) : Int :=
  if headF T N K ps cs = 0 then partF (chalF K ms cs) ps cs p else headF T N K ps cs
noncomputable def combF (T N K : Int) (ps : List (Int × Int)) (ms : List Int) (cs l : List (Int × Int)) : Int :=
  if headF T N K ps cs = 0 then (if l.map Prod.fst = cs.map Prod.fst then wrongF (chalF K ms cs) ps cs l else 1) else headF T N K ps cs
/-- What is told ahead of a signer's part. -/
noncomputable def aheadF (T N K : Int) (ps : List (Int × Int)) (x : Int × Int) (n : Int) (cs : List (Int × Int)) : Int := firstE [crewF T N K ps, signerF x n, commF N cs, enoughF T cs]
theorem aheadF_zero {T N K : Int} {ps cs : List (Int × Int)} {x : Int × Int} {n : Int} (h : aheadF T N K ps x n cs = 0) : (CrewOk T N K ps ∧ CrewFits T K ps) ∧ SignerOk x n ∧ CommitsOk N cs ∧ ¬ (cs.length : Int) < T := by
  have h0 := firstE_zero h
  have h1 := crewF_zero (h0 (crewF T N K ps) (by simp))
  have h2 := commF_zero (h0 (commF N cs) (by simp))
  have h4 := signerF_zero (h0 (signerF x n) (by simp))
  have h3 : enoughF T cs = 0 := h0 _ (by simp)
  refine ⟨h1, h4, h2, fun k => ?_⟩
  unfold enoughF at h3
  rw [if_pos k] at h3
  omega
/-- A signer's own commitment, its answer. -/
def qcom (x : Int × Int) (n : Int) (ms : List Int) : Int × Int := (x.1, qpow 4 (qnonce x n ms))
def qans (K : Int) (x : Int × Int) (n : Int) (ms : List Int) (cs : List (Int × Int)) : Int :=
  radd (qnonce x n ms) (rmul (rmul (chalF K ms cs) (wat (cs.map Prod.fst) x.1 0)) x.2)
noncomputable def spartF (T N K : Int) (ps : List (Int × Int)) (x : Int × Int) (n : Int) (ms : List Int) (cs : List (Int × Int)) : Int :=
  if aheadF T N K ps x n cs = 0 then (if qcom x n ms ∈ cs then 0 else 60) else aheadF T N K ps x n cs
end Go.Proofs.YtlannmedefjfhaaGreat

/- Plain: a crew that is dealt may be; whoever is chosen of it has a right part; another part is found out. -/
namespace Go.Proofs.YtlannmedefjfhaaGreat
open Go.ChangeShapes Go.WideShapes Go.ChangeAt Go.RowKit Gs
set_option linter.unusedVariables false

theorem bit_and_one (n : Int) : bits .and .i64 n 1 = n % 2 := by
  have h1 : (BitVec.ofInt 64 1).toNat = 2 ^ 1 - 1 := by decide
  have key : (BitVec.ofInt 64 n &&& BitVec.ofInt 64 1).toNat = (n % ((2 ^ 64 : Nat) : Int)).toNat % 2 ^ 1 := by
    rw [BitVec.toNat_and, BitVec.toNat_ofInt, h1, Nat.and_two_pow_sub_one_eq_mod]
  show IntKind.i64.wrap ((BitVec.ofInt 64 n &&& BitVec.ofInt 64 1).toNat : Nat) = n % 2
  rw [key, IntKind.wrap_i64]
  omega
/-- Whether somebody is chosen. -/
def bitAt (who : Int) (i : Nat) : Int := bits .and .i64 (who / 2 ^ i) 1
theorem bitAt_two (who : Int) (i : Nat) : bitAt who i = 0 ∨ bitAt who i = 1 := by unfold bitAt; rw [bit_and_one]; omega
def pickB (who : Int) (l : List (Int × Int)) : Nat → List (Int × Int)
  | 0 => []
  | k + 1 => if bitAt who k = 1 then pickB who l k ++ [l[k]?.getD (0, 0)] else pickB who l k
def sumB (who : Int) : Nat → Int
  | 0 => 0
  | k + 1 => sumB who k + bitAt who k
theorem pickB_yes {who : Int} {l : List (Int × Int)} (k : Nat) (hk : k < l.length) (h : bitAt who k = 1) : pickB who l (k + 1) = pickB who l k ++ [l[k]] := by
  show (if bitAt who k = 1 then _ else _) = _
  rw [if_pos h, List.getElem?_eq_getElem hk]; rfl
theorem pickB_no {who : Int} {l : List (Int × Int)} (k : Nat) (h : bitAt who k ≠ 1) : pickB who l (k + 1) = pickB who l k := if_neg h
theorem pickB_len (who : Int) (l : List (Int × Int)) : ∀ k, ((pickB who l k).length : Int) = sumB who k
  | 0 => rfl
  | k + 1 => by
    have ih := pickB_len who l k
    show ((if bitAt who k = 1 then pickB who l k ++ [l[k]?.getD (0, 0)] else pickB who l k).length : Int) = sumB who k + bitAt who k
    rcases bitAt_two who k with h | h
    · rw [if_neg (by omega), h]; omega
    · rw [if_pos h, h, List.length_append, List.length_singleton]; omega
theorem sumB_b (who : Int) : ∀ k, 0 ≤ sumB who k ∧ sumB who k ≤ k
  | 0 => ⟨by show (0 : Int) ≤ 0; omega, by show (0 : Int) ≤ ((0 : Nat) : Int); omega⟩
  | k + 1 => by
    have ih := sumB_b who k
    have h := bitAt_two who k
    show 0 ≤ sumB who k + bitAt who k ∧ sumB who k + bitAt who k ≤ ((k + 1 : Nat) : Int)
    omega
theorem pickB_le (who : Int) (l : List (Int × Int)) (k : Nat) : (pickB who l k).length ≤ k := by
  have h1 := pickB_len who l k
  have h2 := sumB_b who k
  omega
theorem pickB_mem {who : Int} {c : List Int} {N : Nat} : ∀ {k : Nat}, k ≤ N → ∀ p ∈ pickB who (csplit c N) k, ∃ j : Nat, j < k ∧ p = ((j : Int) + 1, pval ((j : Int) + 1) c)
  | 0, _, p, h => by simp [pickB] at h
  | k + 1, hk, p, h => by
    by_cases hb : bitAt who k = 1
    · rw [pickB_yes k (by rw [csplit_length]; omega) hb, csplit_get] at h
      rcases List.mem_append.1 h with h | h
      · obtain ⟨j, hj, e⟩ := pickB_mem (by omega) p h
        exact ⟨j, by omega, e⟩
      · rw [List.mem_singleton] at h
        exact ⟨k, by omega, h⟩
    · rw [pickB_no k hb] at h
      obtain ⟨j, hj, e⟩ := pickB_mem (by omega) p h
      exact ⟨j, by omega, e⟩
theorem pickB_up {who : Int} {c : List Int} {N : Nat} : ∀ {k : Nat}, k ≤ N → (pickB who (csplit c N) k).Pairwise (fun a b => a.1 < b.1)
  | 0, _ => List.Pairwise.nil
  | k + 1, hk => by
    by_cases hb : bitAt who k = 1
    · rw [pickB_yes k (by rw [csplit_length]; omega) hb, csplit_get]
      refine List.pairwise_append.2 ⟨pickB_up (by omega), by simp, fun a ha b hb' => ?_⟩
      rw [List.mem_singleton] at hb'
      obtain ⟨j, hj, e⟩ := pickB_mem (by omega) a ha
      subst hb' e
      show (j : Int) + 1 < (k : Int) + 1
      omega
    · rw [pickB_no k hb]; exact pickB_up (by omega)
theorem pickB_good {who : Int} {c : List Int} {N k : Nat} (hk : k ≤ N) : Good c N (pickB who (csplit c N) k) :=
  ⟨fun p hp => by
    obtain ⟨j, hj, rfl⟩ := pickB_mem hk p hp
    exact ⟨by show 1 ≤ (j : Int) + 1; omega, by show (j : Int) + 1 ≤ N; omega, rfl⟩, by
    rw [List.pairwise_map]
    exact (pickB_up hk).imp (fun h e => by omega)⟩

theorem qin_qcom (x : Int × Int) (n : Int) (ms : List Int) : qin (qcom x n ms).2 = true := qin_base (by
  unfold qnonce
  have := hof_bound ⟨#[99, 111, 109, 109, 105, 116]⟩ [be x.2 8, be x.1 8, be n 8, ms] (m := 1152921504606845788) (by omega)
  omega)
theorem picked_commits {who : Int} {c : List Int} {N k : Nat} (hk : k ≤ N) (n : Int) (ms : List Int) : CommitsOk N ((pickB who (csplit c N) k).map fun x => qcom x n ms) := fun i hi => by
  have hi' : i < (pickB who (csplit c N) k).length := by simpa using hi
  rw [List.getElem_map]
  have h1 := (pickB_good (who := who) (c := c) hk).all _ (List.getElem_mem hi')
  refine ⟨⟨h1.1, h1.2.1, qin_qcom _ _ _⟩, fun j g => ?_⟩
  rw [List.getElem_map]
  exact List.pairwise_iff_getElem.1 (pickB_up hk) j i (by omega) hi' g
theorem picked_ids (S : List (Int × Int)) (n : Int) (ms : List Int) : (S.map fun x => qcom x n ms).map Prod.fst = S.map Prod.fst := by rw [List.map_map]; rfl

/-- A crew that is dealt may be, and its parts fit. -/
theorem dealt_crew {s : Int} {xs : List Int} {T N : Nat} (hs : Rb s) (t1 : 1 ≤ T) (tn : T ≤ N) (n7 : N ≤ 7) : CrewOk (T : Int) (N : Int) (qpow 4 s) (spubs (csplit (cpoly s xs T) N)) ∧ CrewFits (T : Int) (qpow 4 s) (spubs (csplit (cpoly s xs T) N)) := by
  have hg := csplit_good (cpoly s xs T) N
  obtain ⟨_, h2, _, h4⟩ := pub_check (cpoly_length s xs T) t1 tn n7 rfl
  have hgt := hg.take T
  have hl : ((csplit (cpoly s xs T) N).take T).length = T := by rw [List.length_take, csplit_length]; omega
  refine ⟨⟨by omega, by omega, by omega, qin_base hs.1, by rw [spubs_length, csplit_length], fun i hi => ⟨?_, h2 i hi⟩⟩, h4, ?_⟩
  · rw [spubs_get, csplit_get]
  · rw [show ((T : Int)).toNat = T by omega, spubs_fst, ← List.map_take, spubs_take]
    show qat _ _ (((csplit (cpoly s xs T) N).take T).map fun p => (p.1, qpow 4 p.2)) = _
    rw [qat_base _ _ _ (fun p hp => (hgt.u p hp).1), hgt.jat n7 (by omega) (by omega) (by rw [cpoly_length]; omega), cpoly_head xs t1 hs]
theorem dealt_zero {s : Int} {xs : List Int} {T N : Nat} (hs : Rb s) (t1 : 1 ≤ T) (tn : T ≤ N) (n7 : N ≤ 7) : crewF (T : Int) (N : Int) (qpow 4 s) (spubs (csplit (cpoly s xs T) N)) = 0 := by
  have h := dealt_crew (xs := xs) hs t1 tn n7
  exact (crewF_is _ _ _ _).2.2 h.1 h.2

/-- Part of a signer that is chosen. -/
def qpart (K : Int) (n : Int) (ms : List Int) (cs : List (Int × Int)) (x : Int × Int) : Int × Int := (x.1, qans K x n ms cs)
theorem qpart_rb (K n : Int) (ms : List Int) (cs : List (Int × Int)) (x : Int × Int) : Rb (qpart K n ms cs x).2 := radd_bound _ _
theorem picked_fits {who : Int} {c : List Int} {N : Nat} (n : Int) (ms : List Int) (K : Int) (x : Int × Int) (hx : x ∈ pickB who (csplit c N) N) :
    PartFits (chalF K ms ((pickB who (csplit c N) N).map fun x => qcom x n ms)) (((pickB who (csplit c N) N).map fun x => qcom x n ms).map Prod.fst) (spubs (csplit c N)) (cAt ((pickB who (csplit c N) N).map fun x => qcom x n ms) x.1) (qpart K n ms ((pickB who (csplit c N) N).map fun x => qcom x n ms) x) := by
  have hco := picked_commits (who := who) (c := c) (Nat.le_refl N) n ms
  obtain ⟨j, hj, hxe⟩ := pickB_mem (Nat.le_refl N) x hx
  have hmem : qcom x n ms ∈ (pickB who (csplit c N) N).map fun x => qcom x n ms := List.mem_map_of_mem hx
  obtain ⟨i, hi, e⟩ := List.getElem_of_mem hmem
  have hc : cAt ((pickB who (csplit c N) N).map fun x => qcom x n ms) x.1 = qcom x n ms := by
    have := cAt_eq hco i hi
    rw [e] at this
    exact this
  rw [hc]
  unfold PartFits qpart qans
  have hps : (spubs (csplit c N))[((qcom x n ms).1 - 1).toNat]?.getD (0, 0) = (x.1, qpow 4 x.2) := by
    have h1 : ((qcom x n ms).1 - 1).toNat = j := by
      show (x.1 - 1).toNat = j
      rw [hxe]
      show (((j : Int) + 1) - 1).toNat = j
      omega
    rw [h1, List.getElem?_eq_getElem (by rw [spubs_length, csplit_length]; exact hj), spubs_get, csplit_get, hxe]
    rfl
  rw [hps]
  have hx0 : 0 ≤ x.2 := by rw [hxe]; exact (pval_rb _ _).1
  have hm := rmul_bound (chalF K ms ((pickB who (csplit c N) N).map fun x => qcom x n ms)) (wat (((pickB who (csplit c N) N).map fun x => qcom x n ms).map Prod.fst) x.1 0)
  show qpow 4 (radd (qnonce x n ms) (rmul (rmul _ (wat _ x.1 0)) x.2)) = qmul (qpow 4 (qnonce x n ms)) (qpow (qpow 4 x.2) (rmul _ (wat _ x.1 0)))
  rw [base_add (by
    unfold qnonce
    have := hof_bound ⟨#[99, 111, 109, 109, 105, 116]⟩ [be x.2 8, be x.1 8, be n 8, ms] (m := 1152921504606845788) (by omega)
    omega) (rmul_bound _ _).1, rmul_comm _ x.2, base_mul hx0 hm.1]
/-- What is chosen has right parts. -/
theorem picked_parts {who : Int} {c : List Int} {N : Nat} (n : Int) (ms : List Int) (K : Int) (x : Int × Int) (hx : x ∈ pickB who (csplit c N) N) :
    partF (chalF K ms ((pickB who (csplit c N) N).map fun x => qcom x n ms)) (spubs (csplit c N)) ((pickB who (csplit c N) N).map fun x => qcom x n ms) (qpart K n ms ((pickB who (csplit c N) N).map fun x => qcom x n ms) x) = 0 :=
  partF_yes ⟨by rw [picked_ids]; exact List.mem_map.2 ⟨x, hx, rfl⟩, (qpart_rb _ _ _ _ _).2⟩ (picked_fits n ms K x hx)
/-- Another part of somebody is found out. -/
theorem other_part {e : Int} {ps cs : List (Int × Int)} {i a b : Int} (ha : Rb a) (hb : Rb b) (h : partF e ps cs (i, a) = 0) (hne : a ≠ b) : partF e ps cs (i, b) = 60 := by
  obtain ⟨h1, h2⟩ := partF_zero h
  refine partF_no ⟨h1.1, hb.2⟩ (fun g => hne ?_)
  unfold PartFits at h2 g
  exact (base_same ha.1 ha.2 hb.1 hb.2).1 (h2.trans g.symm)
theorem radd_ne {a b : Int} (ha : Rb a) (hb : b % 1152921504606845789 ≠ 0) : a ≠ radd a b := by
  unfold radd; unfold Rb at ha
  omega
end Go.Proofs.YtlannmedefjfhaaGreat
