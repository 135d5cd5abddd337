/- Several texts of one kind, one behind the other: ShareMath, ShareNums, ShareWMath, ShareLiveMath. -/
import Derived.Test.YtlannmedefjfhaaGreatPlain
/- Plain facts on shares: polynomials modulo the group's order, weights, and what as many values as are enough make. -/
namespace Gs
set_option linter.unusedVariables false

/-- A number is 0 modulo R. -/
def Z (a : Int) : Prop := (1152921504606845789 : Int) ∣ a
theorem Z.add {a b : Int} (ha : Z a) (hb : Z b) : Z (a + b) := Int.dvd_add ha hb
theorem Z.sub {a b : Int} (ha : Z a) (hb : Z b) : Z (a - b) := Int.dvd_sub ha hb
theorem Z.mul (a : Int) {b : Int} (hb : Z b) : Z (a * b) := Int.dvd_mul_of_dvd_right hb
theorem Z.mul_right (a : Int) {b : Int} (hb : Z b) : Z (b * a) := Int.dvd_mul_of_dvd_left hb
theorem Z.zero : Z 0 := Int.dvd_zero _
theorem Z.neg {a : Int} (ha : Z a) : Z (-a) := Int.dvd_neg.2 ha
theorem Z.cast {a b : Int} (h : Z a) (e : a = b) : Z b := e ▸ h
theorem z_iff {a : Int} : Z a ↔ a % 1152921504606845789 = 0 := Int.dvd_iff_emod_eq_zero
theorem z_same {a b : Int} : Z (a - b) ↔ a % 1152921504606845789 = b % 1152921504606845789 := by rw [z_iff]; omega
theorem z_mod (a : Int) : Z (a % 1152921504606845789 - a) := by rw [z_iff]; omega
theorem z_eq {a b : Int} (a0 : 0 ≤ a) (a1 : a < 1152921504606845789) (b0 : 0 ≤ b) (b1 : b < 1152921504606845789) (h : Z (a - b)) : a = b := by
  rw [z_iff] at h; omega
theorem z_unlike {a b : Int} (a0 : 0 ≤ a) (a1 : a < 1152921504606845789) (b0 : 0 ≤ b) (b1 : b < 1152921504606845789) (h : a ≠ b) : ¬ Z (a - b) := fun g => h (z_eq a0 a1 b0 b1 g)
theorem z_euclid {a b : Int} (h : Z (a * b)) : Z a ∨ Z b := by
  have c : ∀ x : Int, Z x ↔ RR ∣ x.natAbs := fun x => by
    unfold Z; rw [← castR]; exact Int.ofNat_dvd_left
  rw [c, Int.natAbs_mul] at h
  rw [c, c]
  exact RR_gen.prime.euclid h
theorem z_one : ¬ Z 1 := by rw [z_iff]; decide
theorem z_rmul (a b : Int) : Z (rmul a b - a * b) := z_mod _
theorem z_radd (a b : Int) : Z (radd a b - (a + b)) := z_mod _
theorem z_rsub (a b : Int) : Z (rsub a b - (a - b)) := z_mod _
theorem z_inv {x : Int} (h0 : 0 ≤ x) (h : ¬ Z x) : Z (x * rinv x - 1) := by
  have e := rmul_inv h0 (fun g => h (z_iff.2 g))
  have := z_rmul x (rinv x)
  rw [e] at this
  exact this.neg.cast (by omega)

/-- A polynomial, the lowest coefficient first, at a place. -/
def pe : List Int → Int → Int
  | [], _ => 0
  | c :: r, x => c + x * pe r x
theorem pe_div : ∀ (c : List Int) (r : Int), ∃ q : List Int, q.length = c.length - 1 ∧ ∀ x, pe c x = (x - r) * pe q x + pe c r
  | [], r => ⟨[], rfl, fun x => by simp [pe]⟩
  | [a], r => ⟨[], rfl, fun x => by simp [pe]⟩
  | a :: b :: t, r => by
    obtain ⟨q, hq, h⟩ := pe_div (b :: t) r
    refine ⟨pe (b :: t) r :: q, by simp at hq ⊢; omega, fun x => ?_⟩
    have := h x
    show a + x * pe (b :: t) x = (x - r) * (pe (b :: t) r + x * pe q x) + (a + r * pe (b :: t) r)
    rw [this]
    grind
/-- As many roots, unlike, as there are coefficients: the polynomial is 0. -/
theorem pe_roots : ∀ (l c : List Int), c.length ≤ l.length → l.Pairwise (fun a b => ¬ Z (b - a)) → (∀ r ∈ l, Z (pe c r)) → ∀ x, Z (pe c x)
  | [], c, hc, _, _, x => by
    obtain rfl : c = [] := List.length_eq_zero_iff.1 (by simpa using hc)
    exact Z.zero
  | r :: l, c, hc, hp, hr, x => by
    obtain ⟨q, hq, h⟩ := pe_div c r
    have hp' := List.pairwise_cons.1 hp
    have z0 := hr r (by simp)
    have hz : ∀ s ∈ l, Z (pe q s) := fun s hs => by
      have h1 := hr s (List.mem_cons_of_mem _ hs)
      have h2 : Z ((s - r) * pe q s) := (h1.sub z0).cast (by rw [h s]; omega)
      exact (z_euclid h2).resolve_left (hp'.1 s hs)
    have := pe_roots l q (by rw [hq]; simp at hc; omega) hp'.2 hz x
    rw [h x]
    exact (this.mul (x - r)).add z0

/-- A function is a polynomial of n coefficients at most. -/
def PF (n : Nat) (f : Int → Int) : Prop := ∃ c : List Int, c.length ≤ n ∧ ∀ x, f x = pe c x
def cadd : List Int → List Int → List Int
  | [], b => b
  | a, [] => a
  | a :: s, b :: t => (a + b) :: cadd s t
theorem cadd_length : ∀ a b : List Int, (cadd a b).length = max a.length b.length
  | [], b => by simp [cadd]
  | a :: s, [] => by simp [cadd]
  | a :: s, b :: t => by simp [cadd, cadd_length s t]
theorem pe_cadd (x : Int) : ∀ a b : List Int, pe (cadd a b) x = pe a x + pe b x
  | [], b => by simp [cadd, pe]
  | a :: s, [] => by simp [cadd, pe]
  | a :: s, b :: t => by simp only [cadd, pe, pe_cadd x s t]; grind
theorem pe_scale (k x : Int) : ∀ a : List Int, pe (a.map (k * ·)) x = k * pe a x
  | [] => by simp [pe]
  | a :: s => by simp only [List.map_cons, pe, pe_scale k x s]; grind
theorem PF.mono {n m : Nat} {f : Int → Int} (h : PF n f) (hm : n ≤ m) : PF m f := by
  obtain ⟨c, hc, e⟩ := h
  exact ⟨c, by omega, e⟩
theorem PF.pe (c : List Int) : PF c.length (Gs.pe c) := ⟨c, Nat.le_refl _, fun _ => rfl⟩
theorem PF.const (a : Int) : PF 1 (fun _ => a) := ⟨[a], by simp, fun x => by simp [Gs.pe]⟩
theorem PF.add {n : Nat} {f g : Int → Int} (hf : PF n f) (hg : PF n g) : PF n (fun x => f x + g x) := by
  obtain ⟨c, hc, e⟩ := hf
  obtain ⟨d, hd, e'⟩ := hg
  exact ⟨cadd c d, by rw [cadd_length]; omega, fun x => by show f x + g x = _; rw [pe_cadd, e, e']⟩
theorem PF.scale {n : Nat} {f : Int → Int} (k : Int) (hf : PF n f) : PF n (fun x => k * f x) := by
  obtain ⟨c, hc, e⟩ := hf
  exact ⟨c.map (k * ·), by simpa using hc, fun x => by show k * f x = _; rw [pe_scale, e]⟩
theorem PF.times {n : Nat} {f : Int → Int} (k : Int) (hf : PF n f) : PF (n + 1) (fun x => (x - k) * f x) := by
  obtain ⟨c, hc, e⟩ := hf
  refine ⟨cadd (0 :: c) (c.map (-k * ·)), by rw [cadd_length]; simp; omega, fun x => ?_⟩
  show (x - k) * f x = _
  rw [pe_cadd, pe_scale, e]
  simp only [Gs.pe]
  grind
theorem PF.zero (n : Nat) : PF n (fun _ => 0) := ⟨[], by simp, fun x => rfl⟩

/-- The weight of one of ids at a place, as a whole number. -/
def wI (ids : List Int) (i x : Int) : Int := ids.foldr (fun k p => if k = i then p else (x - k) * (rinv (rsub i k) * p)) 1
theorem wI_nil (i x : Int) : wI [] i x = 1 := rfl
theorem wI_same (r : List Int) (i x : Int) : wI (i :: r) i x = wI r i x := by simp [wI]
theorem wI_cons {k i : Int} (r : List Int) (x : Int) (h : k ≠ i) : wI (k :: r) i x = (x - k) * (rinv (rsub i k) * wI r i x) := by simp [wI, h]
theorem wI_pf (i : Int) : ∀ ids : List Int, PF (ids.length + 1) (wI ids i) ∧ (i ∈ ids → PF ids.length (wI ids i))
  | [] => ⟨⟨[1], by simp, fun x => by simp [pe, wI]⟩, fun h => by cases h⟩
  | k :: r => by
    have ih := wI_pf i r
    by_cases h : k = i
    · subst h
      have e : wI (k :: r) k = wI r k := funext fun x => wI_same r k x
      rw [e]
      exact ⟨ih.1.mono (by simp), fun _ => ih.1⟩
    · have e : wI (k :: r) i = fun x => (x - k) * (rinv (rsub i k) * wI r i x) := funext fun x => wI_cons r x h
      rw [e]
      exact ⟨(ih.1.scale _).times k, fun g => ((ih.2 ((List.mem_cons.1 g).resolve_left (fun e => h e.symm))).scale _).times k⟩
theorem wI_none {j i : Int} (h : j ≠ i) : ∀ {ids : List Int}, j ∈ ids → wI ids i j = 0
  | k :: r, g => by
    by_cases e : k = i
    · subst e
      rw [wI_same]
      exact wI_none h ((List.mem_cons.1 g).resolve_left h)
    · rw [wI_cons r j e]
      rcases List.mem_cons.1 g with rfl | g
      · simp
      · rw [wI_none h g]; simp
theorem z_sub_rsub {i k : Int} (h : ¬ Z (i - k)) : ¬ Z (rsub i k) := fun g => h ((g.sub (z_rsub i k)).cast (by omega))
theorem wI_own (i : Int) : ∀ ids : List Int, (∀ k ∈ ids, k ≠ i → ¬ Z (i - k)) → Z (wI ids i i - 1)
  | [], _ => Z.zero
  | k :: r, hk => by
    have ih := wI_own i r (fun k' h' => hk k' (List.mem_cons_of_mem _ h'))
    by_cases e : k = i
    · subst e; rwa [wI_same]
    · rw [wI_cons r i e]
      have h := hk k (by simp) e
      have h1 := z_inv (rsub_bound i k).1 (z_sub_rsub h)
      have h2 : Z ((i - k) * rinv (rsub i k) - 1) := ((h1.sub ((z_rsub i k).mul_right (rinv (rsub i k))))).cast (by grind)
      exact ((h2.mul_right (wI r i i)).add ih).cast (by grind)
theorem rinv_ne {x : Int} (h0 : 0 ≤ x) (h : ¬ Z x) : ¬ Z (rinv x) := fun g => z_one ((Z.sub (g.mul x) (z_inv h0 h)).cast (by omega))
/-- At a place that is none of the others a weight is not 0. -/
theorem wI_ne (i x : Int) : ∀ ids : List Int, (∀ k ∈ ids, k ≠ i → ¬ Z (i - k) ∧ ¬ Z (x - k)) → ¬ Z (wI ids i x)
  | [], _ => z_one
  | k :: r, hk => by
    have ih := wI_ne i x r (fun k' h' => hk k' (List.mem_cons_of_mem _ h'))
    by_cases e : k = i
    · subst e; rwa [wI_same]
    · rw [wI_cons r x e]
      obtain ⟨h, g⟩ := hk k (by simp) e
      intro hz
      rcases z_euclid hz with hz | hz
      · exact g hz
      · rcases z_euclid hz with hz | hz
        · exact rinv_ne (rsub_bound i k).1 (z_sub_rsub h) hz
        · exact ih hz

/-- What shares make at a place, as a whole number. -/
def jI (ids : List Int) (x : Int) (l : List (Int × Int)) : Int := (l.map fun p => p.2 * wI ids p.1 x).sum
theorem jI_nil (ids : List Int) (x : Int) : jI ids x [] = 0 := rfl
theorem jI_cons (ids : List Int) (x : Int) (p : Int × Int) (l : List (Int × Int)) : jI ids x (p :: l) = p.2 * wI ids p.1 x + jI ids x l := by simp [jI]
theorem jI_pf (ids : List Int) : ∀ l : List (Int × Int), (∀ p ∈ l, p.1 ∈ ids) → PF ids.length (fun x => jI ids x l)
  | [], _ => PF.zero _
  | p :: l, h => by
    have ih := jI_pf ids l (fun q hq => h q (List.mem_cons_of_mem _ hq))
    have e : (fun x => jI ids x (p :: l)) = fun x => p.2 * wI ids p.1 x + jI ids x l := funext fun x => jI_cons ids x p l
    rw [e]
    exact (((wI_pf p.1 ids).2 (h p (by simp))).scale _).add ih
theorem jI_away (ids : List Int) (j : Int) (hj : j ∈ ids) : ∀ l : List (Int × Int), (∀ p ∈ l, p.1 ≠ j) → jI ids j l = 0
  | [], _ => rfl
  | p :: l, h => by
    rw [jI_cons, jI_away ids j hj l (fun q hq => h q (List.mem_cons_of_mem _ hq)), wI_none (fun e => h p (by simp) e.symm) hj]; simp
/-- Ids that are unlike modulo R. -/
def Apart (ids : List Int) : Prop := ids.Pairwise (fun a b => ¬ Z (b - a))
theorem apart_of {ids : List Int} (h : Apart ids) {a b : Int} (ha : a ∈ ids) (hb : b ∈ ids) (hn : a ≠ b) : ¬ Z (a - b) := by
  induction ids with
  | nil => cases ha
  | cons k r ih =>
    obtain ⟨h1, h2⟩ := List.pairwise_cons.1 h
    rcases List.mem_cons.1 ha with e | ha'
    · subst e
      rcases List.mem_cons.1 hb with e | hb'
      · exact absurd e.symm hn
      · exact fun g => h1 b hb' (g.neg.cast (by omega))
    · rcases List.mem_cons.1 hb with e | hb'
      · subst e; exact h1 a ha'
      · exact ih h2 ha' hb'
theorem apart_ne {ids : List Int} (h : Apart ids) : ids.Pairwise (fun a b => b ≠ a) := List.Pairwise.imp (fun g e => g (by rw [e, Int.sub_self]; exact Z.zero)) h
theorem jI_at (ids : List Int) (hids : Apart ids) (p : Int × Int) : ∀ l : List (Int × Int), (l.map Prod.fst).Pairwise (fun a b => b ≠ a) → (∀ q ∈ l, q.1 ∈ ids) → p ∈ l → Z (jI ids p.1 l - p.2)
  | q :: l, hp, hm, hin => by
    obtain ⟨h1, h2⟩ := List.pairwise_cons.1 (by rw [List.map_cons] at hp; exact hp)
    rcases List.mem_cons.1 hin with rfl | hin
    · rw [jI_cons, jI_away ids p.1 (hm p (by simp)) l (fun q hq e => h1 q.1 (List.mem_map_of_mem hq) e)]
      have := wI_own p.1 ids (fun k hk e => apart_of hids (hm p (by simp)) hk (fun g => e g.symm))
      exact (this.mul p.2).cast (by grind)
    · rw [jI_cons, wI_none (fun e => h1 p.1 (List.mem_map_of_mem hin) e) (hm p (List.mem_cons_of_mem _ hin))]
      exact (jI_at ids hids p l h2 (fun q hq => hm q (List.mem_cons_of_mem _ hq)) hin).cast (by simp)
/-- AS MANY AS ARE ENOUGH make the polynomial at each place. -/
theorem interp {c : List Int} {l : List (Int × Int)} (hc : c.length ≤ l.length) (hids : Apart (l.map Prod.fst)) (hl : ∀ p ∈ l, Z (p.2 - pe c p.1)) (x : Int) : Z (jI (l.map Prod.fst) x l - pe c x) := by
  have hm : ∀ q ∈ l, q.1 ∈ l.map Prod.fst := fun q hq => List.mem_map_of_mem hq
  obtain ⟨d, hd, e⟩ := (jI_pf (l.map Prod.fst) l hm).add (((PF.pe c).mono (m := (l.map Prod.fst).length) (by simpa using hc)).scale (-1))
  have hz := pe_roots (l.map Prod.fst) d hd hids (fun r hr => by
    obtain ⟨p, hp, rfl⟩ := List.mem_map.1 hr
    rw [← e p.1]
    exact ((jI_at (l.map Prod.fst) hids p l (apart_ne hids) hm hp).add (hl p hp)).cast (by grind)) x
  rw [← e x] at hz
  exact hz.cast (by grind)
end Gs

/- Plain: weights, values and what shares make, as they are reckoned modulo R. -/
namespace Gs
set_option linter.unusedVariables false

def wstep (i x o k : Int) : Int := if k = i then o else rmul o (rmul (rsub x k) (rinv (rsub i k)))
/-- The weight of one of ids at a place. -/
def wat (ids : List Int) (i x : Int) : Int := ids.foldl (wstep i x) 1
def Rb (a : Int) : Prop := 0 ≤ a ∧ a < 1152921504606845789
theorem wstep_rb {i x o k : Int} (h : Rb o) : Rb (wstep i x o k) := by
  unfold wstep; split
  · exact h
  · exact rmul_bound _ _
theorem wfold_rb (i x : Int) : ∀ (ids : List Int) (o : Int), Rb o → Rb (ids.foldl (wstep i x) o)
  | [], o, h => h
  | k :: r, o, h => wfold_rb i x r _ (wstep_rb h)
theorem rb_one : Rb 1 := by unfold Rb; omega
theorem rb_zero : Rb 0 := by unfold Rb; omega
theorem wat_rb (ids : List Int) (i x : Int) : Rb (wat ids i x) := wfold_rb i x ids 1 rb_one
theorem wat_take (ids : List Int) (i x : Int) (k : Nat) (h : k < ids.length) : wat (ids.take (k + 1)) i x = wstep i x (wat (ids.take k) i x) ids[k] := by
  unfold wat
  rw [List.take_succ_eq_append_getElem h, List.foldl_append]; rfl
theorem wfold_z (i x : Int) : ∀ (ids : List Int) (o : Int), Z (ids.foldl (wstep i x) o - o * wI ids i x)
  | [], o => Z.cast Z.zero (by simp [wI])
  | k :: r, o => by
    show Z (r.foldl (wstep i x) (wstep i x o k) - o * wI (k :: r) i x)
    have ih := wfold_z i x r (wstep i x o k)
    by_cases h : k = i
    · subst h
      rw [wI_same]
      have e : wstep k x o k = o := by unfold wstep; rw [if_pos rfl]
      rw [e] at ih ⊢
      exact ih
    · rw [wI_cons r x h]
      have e : wstep i x o k = rmul o (rmul (rsub x k) (rinv (rsub i k))) := by unfold wstep; rw [if_neg h]
      rw [e] at ih ⊢
      have h1 := z_rmul o (rmul (rsub x k) (rinv (rsub i k)))
      have h2 := z_rmul (rsub x k) (rinv (rsub i k))
      have h3 := z_rsub x k
      exact (ih.add (((h1.add (h2.mul o)).add ((h3.mul_right (rinv (rsub i k))).mul o)).mul_right (wI r i x))).cast (by grind)
theorem wat_z (ids : List Int) (i x : Int) : Z (wat ids i x - wI ids i x) := (wfold_z i x ids 1).cast (by unfold wat; omega)

/-- What shares make at a place: the sum of each number times its weight. -/
def jstep (ids : List Int) (x o : Int) (p : Int × Int) : Int := radd o (rmul p.2 (wat ids p.1 x))
def jat (ids : List Int) (x : Int) (l : List (Int × Int)) : Int := l.foldl (jstep ids x) 0
theorem jfold_rb (ids : List Int) (x : Int) : ∀ (l : List (Int × Int)) (o : Int), Rb o → Rb (l.foldl (jstep ids x) o)
  | [], o, h => h
  | p :: r, o, h => jfold_rb ids x r _ (radd_bound _ _)
theorem jat_rb (ids : List Int) (x : Int) (l : List (Int × Int)) : Rb (jat ids x l) := jfold_rb ids x l 0 rb_zero
theorem jat_take (ids : List Int) (x : Int) (l : List (Int × Int)) (k : Nat) (h : k < l.length) : jat ids x (l.take (k + 1)) = jstep ids x (jat ids x (l.take k)) l[k] := by
  unfold jat
  rw [List.take_succ_eq_append_getElem h, List.foldl_append]; rfl
theorem jfold_z (ids : List Int) (x : Int) : ∀ (l : List (Int × Int)) (o : Int), Z (l.foldl (jstep ids x) o - (o + jI ids x l))
  | [], o => Z.cast Z.zero (by simp [jI])
  | p :: r, o => by
    show Z (r.foldl (jstep ids x) (jstep ids x o p) - (o + jI ids x (p :: r)))
    have ih := jfold_z ids x r (jstep ids x o p)
    rw [jI_cons]
    have h1 := z_radd o (rmul p.2 (wat ids p.1 x))
    have h2 := z_rmul p.2 (wat ids p.1 x)
    have h3 := (wat_z ids p.1 x).mul p.2
    rw [show radd o (rmul p.2 (wat ids p.1 x)) = jstep ids x o p from rfl] at h1
    exact (((ih.add h1).add h2).add h3).cast (by grind)
theorem jat_z (ids : List Int) (x : Int) (l : List (Int × Int)) : Z (jat ids x l - jI ids x l) := (jfold_z ids x l 0).cast (by unfold jat; omega)

/-- A polynomial's value at a place. -/
def pval (x : Int) : List Int → Int
  | [] => 0
  | c :: r => radd (rmul (pval x r) x) c
theorem pval_rb (x : Int) : ∀ c, Rb (pval x c)
  | [] => rb_zero
  | _ :: _ => radd_bound _ _
theorem pval_drop (x : Int) (l : List Int) (k : Nat) (h : k < l.length) : pval x (l.drop k) = radd (rmul (pval x (l.drop (k + 1))) x) l[k] := by
  rw [List.drop_eq_getElem_cons h]; rfl
theorem pval_z (x : Int) : ∀ c, Z (pval x c - pe c x)
  | [] => Z.cast Z.zero (by simp [pval, pe])
  | c :: r => by
    have ih := pval_z x r
    have h1 := z_radd (rmul (pval x r) x) c
    have h2 := z_rmul (pval x r) x
    exact ((h1.add h2).add (ih.mul_right x)).cast (by simp only [pval, pe]; grind)

/-- What public shares make at a place: the product of each to the power of its weight. -/
def qstep (ids : List Int) (x o : Int) (p : Int × Int) : Int := qmul o (qpow p.2 (wat ids p.1 x))
def qat (ids : List Int) (x : Int) (l : List (Int × Int)) : Int := l.foldl (qstep ids x) 1
theorem qfold_b (ids : List Int) (x : Int) : ∀ (l : List (Int × Int)) (o : Int), (0 ≤ o ∧ o < 2305843009213691579) → 0 ≤ l.foldl (qstep ids x) o ∧ l.foldl (qstep ids x) o < 2305843009213691579
  | [], o, h => h
  | p :: r, o, h => qfold_b ids x r _ (qmul_bound _ _)
theorem qat_b (ids : List Int) (x : Int) (l : List (Int × Int)) : 0 ≤ qat ids x l ∧ qat ids x l < 2305843009213691579 := qfold_b ids x l 1 (by omega)
theorem qat_take (ids : List Int) (x : Int) (l : List (Int × Int)) (k : Nat) (h : k < l.length) : qat ids x (l.take (k + 1)) = qstep ids x (qat ids x (l.take k)) l[k] := by
  unfold qat
  rw [List.take_succ_eq_append_getElem h, List.foldl_append]; rfl
/-- Of shares' public keys it is the public key of what the shares make. -/
theorem qfold_base (ids : List Int) (x : Int) : ∀ (l : List (Int × Int)) (o : Int), 0 ≤ o → (∀ p ∈ l, 0 ≤ p.2) → (l.map fun p => (p.1, qpow 4 p.2)).foldl (qstep ids x) (qpow 4 o) = qpow 4 (l.foldl (jstep ids x) o)
  | [], o, _, _ => rfl
  | p :: r, o, ho, h => by
    have hp := h p (by simp)
    have e : qstep ids x (qpow 4 o) (p.1, qpow 4 p.2) = qpow 4 (jstep ids x o p) := by
      unfold qstep jstep
      rw [← base_mul hp (wat_rb ids p.1 x).1, ← base_add ho (rmul_bound _ _).1]
    show (r.map fun p => (p.1, qpow 4 p.2)).foldl (qstep ids x) (qstep ids x (qpow 4 o) (p.1, qpow 4 p.2)) = _
    rw [e]
    exact qfold_base ids x r _ (radd_bound _ _).1 (fun q hq => h q (List.mem_cons_of_mem _ hq))
theorem qat_base (ids : List Int) (x : Int) (l : List (Int × Int)) (h : ∀ p ∈ l, 0 ≤ p.2) : qat ids x (l.map fun p => (p.1, qpow 4 p.2)) = qpow 4 (jat ids x l) := by
  have := qfold_base ids x l 0 (by omega) h
  rw [pow_none] at this
  exact this

/-- Ids that are right are apart. -/
theorem apart_right {ids : List Int} (h1 : ∀ x ∈ ids, 1 ≤ x ∧ x < 1152921504606845789) (h2 : ids.Pairwise (fun a b => a ≠ b)) : Apart ids := by
  unfold Apart
  induction ids with
  | nil => exact List.Pairwise.nil
  | cons k r ih =>
    obtain ⟨g1, g2⟩ := List.pairwise_cons.1 h2
    refine List.pairwise_cons.2 ⟨fun b hb => ?_, ih (fun x hx => h1 x (List.mem_cons_of_mem _ hx)) g2⟩
    have := h1 k (by simp)
    have := h1 b (List.mem_cons_of_mem _ hb)
    exact z_unlike (by omega) (by omega) (by omega) (by omega) (fun e => g1 b hb e.symm)
/-- AS MANY AS ARE ENOUGH make the value at each place. -/
theorem jat_pval {c : List Int} {l : List (Int × Int)} (hc : c.length ≤ l.length) (hids : Apart (l.map Prod.fst)) (hl : ∀ p ∈ l, p.2 = pval p.1 c) (x : Int) : jat (l.map Prod.fst) x l = pval x c := by
  have h := interp hc hids (fun p hp => by rw [hl p hp]; exact pval_z p.1 c) x
  refine z_eq (jat_rb _ _ _).1 (jat_rb _ _ _).2 (pval_rb x c).1 (pval_rb x c).2 ?_
  exact ((jat_z (l.map Prod.fst) x l).add (h.sub (pval_z x c))).cast (by omega)
theorem pval_none (c : Int) (r : List Int) (h : Rb c) : pval 0 (c :: r) = c := by
  refine z_eq (pval_rb 0 _).1 (pval_rb 0 _).2 h.1 h.2 ?_
  exact (pval_z 0 (c :: r)).cast (by simp [pe])
end Gs

/- Plain: a weight as the program reckons it: all numbers above, all below, and one division. -/
namespace Gs
set_option linter.unusedVariables false

def ustep (i x o k : Int) : Int := if k = i then o else rmul o (rsub x k)
/-- The product of what lies between a place and each other one of ids. -/
def wup (ids : List Int) (i x : Int) : Int := ids.foldl (ustep i x) 1
def uI (ids : List Int) (i x : Int) : Int := ids.foldr (fun k p => if k = i then p else (x - k) * p) 1
theorem ustep_rb {i x o k : Int} (h : Rb o) : Rb (ustep i x o k) := by
  unfold ustep; split
  · exact h
  · exact rmul_bound _ _
theorem ufold_rb (i x : Int) : ∀ (ids : List Int) (o : Int), Rb o → Rb (ids.foldl (ustep i x) o)
  | [], o, h => h
  | k :: r, o, h => ufold_rb i x r _ (ustep_rb h)
theorem wup_rb (ids : List Int) (i x : Int) : Rb (wup ids i x) := ufold_rb i x ids 1 rb_one
theorem wup_take (ids : List Int) (i x : Int) (k : Nat) (h : k < ids.length) : wup (ids.take (k + 1)) i x = ustep i x (wup (ids.take k) i x) ids[k] := by
  unfold wup
  rw [List.take_succ_eq_append_getElem h, List.foldl_append]; rfl
theorem ufold_z (i x : Int) : ∀ (ids : List Int) (o : Int), Z (ids.foldl (ustep i x) o - o * uI ids i x)
  | [], o => Z.cast Z.zero (by simp [uI])
  | k :: r, o => by
    show Z (r.foldl (ustep i x) (ustep i x o k) - o * uI (k :: r) i x)
    have ih := ufold_z i x r (ustep i x o k)
    by_cases h : k = i
    · have e : ustep i x o k = o := by unfold ustep; rw [if_pos h]
      have e2 : uI (k :: r) i x = uI r i x := by simp [uI, h]
      rw [e2]
      rw [e] at ih ⊢
      exact ih
    · have e : ustep i x o k = rmul o (rsub x k) := by unfold ustep; rw [if_neg h]
      have e2 : uI (k :: r) i x = (x - k) * uI r i x := by simp [uI, h]
      rw [e2]
      rw [e] at ih ⊢
      have h1 := z_rmul o (rsub x k)
      have h3 := z_rsub x k
      exact (ih.add ((h1.add (h3.mul o)).mul_right (uI r i x))).cast (by grind)
theorem wup_z (ids : List Int) (i x : Int) : Z (wup ids i x - uI ids i x) := (ufold_z i x ids 1).cast (by unfold wup; omega)
theorem uI_ne (i : Int) : ∀ ids : List Int, (∀ k ∈ ids, k ≠ i → ¬ Z (i - k)) → ¬ Z (uI ids i i)
  | [], _ => z_one
  | k :: r, hk => by
    have ih := uI_ne i r (fun k' h' => hk k' (List.mem_cons_of_mem _ h'))
    by_cases e : k = i
    · have e2 : uI (k :: r) i i = uI r i i := by simp [uI, e]
      rwa [e2]
    · have e2 : uI (k :: r) i i = (i - k) * uI r i i := by simp [uI, e]
      rw [e2]
      intro hz
      rcases z_euclid hz with hz | hz
      · exact hk k (by simp) e hz
      · exact ih hz
theorem wI_up (i x : Int) : ∀ ids : List Int, (∀ k ∈ ids, k ≠ i → ¬ Z (i - k)) → Z (wI ids i x * uI ids i i - uI ids i x)
  | [], _ => Z.cast Z.zero (by simp [uI, wI])
  | k :: r, hk => by
    have ih := wI_up i x r (fun k' h' => hk k' (List.mem_cons_of_mem _ h'))
    by_cases e : k = i
    · have e2 : ∀ y, uI (k :: r) i y = uI r i y := fun y => by simp [uI, e]
      rw [e2, e2]
      subst e
      rwa [wI_same]
    · have e2 : ∀ y, uI (k :: r) i y = (y - k) * uI r i y := fun y => by simp [uI, e]
      rw [e2, e2, wI_cons r x e]
      have h := hk k (by simp) e
      have h1 := z_inv (rsub_bound i k).1 (z_sub_rsub h)
      have h2 : Z ((i - k) * rinv (rsub i k) - 1) := ((h1.sub ((z_rsub i k).mul_right (rinv (rsub i k))))).cast (by grind)
      have h3 := h2.mul_right ((x - k) * (wI r i x * uI r i i))
      exact (h3.add (ih.mul (x - k))).cast (by grind)
/-- The weight as the program reckons it is the weight. -/
theorem wup_wat {ids : List Int} {i : Int} (x : Int) (h : ∀ k ∈ ids, k ≠ i → ¬ Z (i - k)) : rmul (wup ids i x) (rinv (wup ids i i)) = wat ids i x := by
  have hb := wup_rb ids i i
  have hn : ¬ Z (wup ids i i) := fun g => uI_ne i ids h ((g.sub (wup_z ids i i)).cast (by omega))
  have h1 := z_inv hb.1 hn
  have h2 := z_rmul (wup ids i x) (rinv (wup ids i i))
  have h3 := wup_z ids i x
  have h4 := wI_up i x ids h
  have h5 := wup_z ids i i
  have h6 := wat_z ids i x
  have b1 := rmul_bound (wup ids i x) (rinv (wup ids i i))
  have b2 := wat_rb ids i x
  refine z_eq b1.1 b1.2 b2.1 b2.2 ?_
  -- up * inv - W = (up - uI)inv + (uI_x - W uI_i) inv + W (uI_i - up_i) inv + W (up_i inv - 1)
  generalize rinv (wup ids i i) = v at *
  generalize wup ids i i = b at *
  generalize wup ids i x = a at *
  exact ((((h2.add (h3.mul_right v)).sub (h4.mul_right v)).sub ((h5.mul (wI ids i x)).mul_right v)).add ((h1.mul (wI ids i x)).sub h6)).cast (by grind)
end Gs

/- Plain: the chapter's examples of shares. -/
namespace Gs
set_option linter.unusedVariables false

theorem apart12 : Apart [1, 2] := apart_right (by decide) (by decide)
theorem live_w1 : wat [1, 2] 1 0 = 2 := by
  have e : rsub 1 2 = 1152921504606845788 := by decide
  have h := wat_z [1, 2] 1 0
  rw [wI_same, wI_cons [] 0 (show (2 : Int) ≠ 1 by decide), wI_nil, e] at h
  have i := z_inv (x := 1152921504606845788) (by omega) (by rw [z_iff]; decide)
  generalize rinv 1152921504606845788 = r at h i
  refine z_eq (wat_rb _ _ _).1 (wat_rb _ _ _).2 (by omega) (by omega) ?_
  have k : Z (1152921504606845789 * (2 * r)) := ⟨2 * r, rfl⟩
  exact ((h.add (i.mul 2)).sub k).cast (by omega)
theorem live_w2 : wat [1, 2] 2 0 = 1152921504606845788 := by
  have e : rsub 2 1 = 1 := by decide
  have h := wat_z [1, 2] 2 0
  rw [wI_cons [2] 0 (show (1 : Int) ≠ 2 by decide), wI_same, wI_nil, e] at h
  have i := z_inv (x := 1) (by omega) z_one
  generalize rinv 1 = r at h i
  refine z_eq (wat_rb _ _ _).1 (wat_rb _ _ _).2 (by omega) (by omega) ?_
  have k : Z 1152921504606845789 := ⟨1, rfl⟩
  exact ((h.sub i).sub k).cast (by omega)
theorem live_join : jat [1, 2] 0 [(1, 5), (2, 7)] = 3 := by
  have h := jat_pval (c := [3, 2]) (l := [(1, 5), (2, 7)]) (by decide) apart12 (by decide) 0
  rw [show pval 0 [3, 2] = 3 by decide] at h
  exact h
theorem live_pub : qpow 4 3 = 64 := by decide +kernel
end Gs
