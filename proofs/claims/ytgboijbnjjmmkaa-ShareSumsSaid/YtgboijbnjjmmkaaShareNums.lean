/- Plain: weights, values and what shares make, as they are reckoned modulo R. -/
import Derived.Test.YtgboijbnjjmmkaaShareMath
namespace Gs
set_option linter.unusedVariables false

def wstep (i x o k : Int) : Int := if k = i then o else rmul o (rmul (rsub x k) (rinv (rsub i k)))
/-- The weight of one of ids at a place. -/
def wat (ids : List Int) (i x : Int) : Int := ids.foldl (wstep i x) 1
def Rb (a : Int) : Prop := 0 ≤ a ∧ a < 1152921504606845789
theorem wstep_rb {i x o k : Int} (h : Rb o) : Rb (wstep i x o k) := by
  unfold wstep; split
  · exact h
  · exact rmul_bound _ _
theorem wfold_rb (i x : Int) : ∀ (ids : List Int) (o : Int), Rb o → Rb (ids.foldl (wstep i x) o)
  | [], o, h => h
  | k :: r, o, h => wfold_rb i x r _ (wstep_rb h)
theorem rb_one : Rb 1 := by unfold Rb; omega
theorem rb_zero : Rb 0 := by unfold Rb; omega
theorem wat_rb (ids : List Int) (i x : Int) : Rb (wat ids i x) := wfold_rb i x ids 1 rb_one
theorem wat_take (ids : List Int) (i x : Int) (k : Nat) (h : k < ids.length) : wat (ids.take (k + 1)) i x = wstep i x (wat (ids.take k) i x) ids[k] := by
  unfold wat
  rw [List.take_succ_eq_append_getElem h, List.foldl_append]; rfl
theorem wfold_z (i x : Int) : ∀ (ids : List Int) (o : Int), Z (ids.foldl (wstep i x) o - o * wI ids i x)
  | [], o => Z.cast Z.zero (by simp [wI])
  | k :: r, o => by
    show Z (r.foldl (wstep i x) (wstep i x o k) - o * wI (k :: r) i x)
    have ih := wfold_z i x r (wstep i x o k)
    by_cases h : k = i
    · subst h
      rw [wI_same]
      have e : wstep k x o k = o := by unfold wstep; rw [if_pos rfl]
      rw [e] at ih ⊢
      exact ih
    · rw [wI_cons r x h]
      have e : wstep i x o k = rmul o (rmul (rsub x k) (rinv (rsub i k))) := by unfold wstep; rw [if_neg h]
      rw [e] at ih ⊢
      have h1 := z_rmul o (rmul (rsub x k) (rinv (rsub i k)))
      have h2 := z_rmul (rsub x k) (rinv (rsub i k))
      have h3 := z_rsub x k
      exact (ih.add (((h1.add (h2.mul o)).add ((h3.mul_right (rinv (rsub i k))).mul o)).mul_right (wI r i x))).cast (by grind)
theorem wat_z (ids : List Int) (i x : Int) : Z (wat ids i x - wI ids i x) := (wfold_z i x ids 1).cast (by unfold wat; omega)

/-- What shares make at a place: the sum of each number times its weight. -/
def jstep (ids : List Int) (x o : Int) (p : Int × Int) : Int := radd o (rmul p.2 (wat ids p.1 x))
def jat (ids : List Int) (x : Int) (l : List (Int × Int)) : Int := l.foldl (jstep ids x) 0
theorem jfold_rb (ids : List Int) (x : Int) : ∀ (l : List (Int × Int)) (o : Int), Rb o → Rb (l.foldl (jstep ids x) o)
  | [], o, h => h
  | p :: r, o, h => jfold_rb ids x r _ (radd_bound _ _)
theorem jat_rb (ids : List Int) (x : Int) (l : List (Int × Int)) : Rb (jat ids x l) := jfold_rb ids x l 0 rb_zero
theorem jat_take (ids : List Int) (x : Int) (l : List (Int × Int)) (k : Nat) (h : k < l.length) : jat ids x (l.take (k + 1)) = jstep ids x (jat ids x (l.take k)) l[k] := by
  unfold jat
  rw [List.take_succ_eq_append_getElem h, List.foldl_append]; rfl
theorem jfold_z (ids : List Int) (x : Int) : ∀ (l : List (Int × Int)) (o : Int), Z (l.foldl (jstep ids x) o - (o + jI ids x l))
  | [], o => Z.cast Z.zero (by simp [jI])
  | p :: r, o => by
    show Z (r.foldl (jstep ids x) (jstep ids x o p) - (o + jI ids x (p :: r)))
    have ih := jfold_z ids x r (jstep ids x o p)
    rw [jI_cons]
    have h1 := z_radd o (rmul p.2 (wat ids p.1 x))
    have h2 := z_rmul p.2 (wat ids p.1 x)
    have h3 := (wat_z ids p.1 x).mul p.2
    rw [show radd o (rmul p.2 (wat ids p.1 x)) = jstep ids x o p from rfl] at h1
    exact (((ih.add h1).add h2).add h3).cast (by grind)
theorem jat_z (ids : List Int) (x : Int) (l : List (Int × Int)) : Z (jat ids x l - jI ids x l) := (jfold_z ids x l 0).cast (by unfold jat; omega)

/-- A polynomial's value at a place. -/
def pval (x : Int) : List Int → Int
  | [] => 0
  | c :: r => radd (rmul (pval x r) x) c
theorem pval_rb (x : Int) : ∀ c, Rb (pval x c)
  | [] => rb_zero
  | _ :: _ => radd_bound _ _
theorem pval_drop (x : Int) (l : List Int) (k : Nat) (h : k < l.length) : pval x (l.drop k) = radd (rmul (pval x (l.drop (k + 1))) x) l[k] := by
  rw [List.drop_eq_getElem_cons h]; rfl
theorem pval_z (x : Int) : ∀ c, Z (pval x c - pe c x)
  | [] => Z.cast Z.zero (by simp [pval, pe])
  | c :: r => by
    have ih := pval_z x r
    have h1 := z_radd (rmul (pval x r) x) c
    have h2 := z_rmul (pval x r) x
    exact ((h1.add h2).add (ih.mul_right x)).cast (by simp only [pval, pe]; grind)

/-- What public shares make at a place: the product of each to the power of its weight. -/
def qstep (ids : List Int) (x o : Int) (p : Int × Int) : Int := qmul o (qpow p.2 (wat ids p.1 x))
def qat (ids : List Int) (x : Int) (l : List (Int × Int)) : Int := l.foldl (qstep ids x) 1
theorem qfold_b (ids : List Int) (x : Int) : ∀ (l : List (Int × Int)) (o : Int), (0 ≤ o ∧ o < 2305843009213691579) → 0 ≤ l.foldl (qstep ids x) o ∧ l.foldl (qstep ids x) o < 2305843009213691579
  | [], o, h => h
  | p :: r, o, h => qfold_b ids x r _ (qmul_bound _ _)
theorem qat_b (ids : List Int) (x : Int) (l : List (Int × Int)) : 0 ≤ qat ids x l ∧ qat ids x l < 2305843009213691579 := qfold_b ids x l 1 (by omega)
theorem qat_take (ids : List Int) (x : Int) (l : List (Int × Int)) (k : Nat) (h : k < l.length) : qat ids x (l.take (k + 1)) = qstep ids x (qat ids x (l.take k)) l[k] := by
  unfold qat
  rw [List.take_succ_eq_append_getElem h, List.foldl_append]; rfl
/-- Of shares' public keys it is the public key of what the shares make. -/
theorem qfold_base (ids : List Int) (x : Int) : ∀ (l : List (Int × Int)) (o : Int), 0 ≤ o → (∀ p ∈ l, 0 ≤ p.2) → (l.map fun p => (p.1, qpow 4 p.2)).foldl (qstep ids x) (qpow 4 o) = qpow 4 (l.foldl (jstep ids x) o)
  | [], o, _, _ => rfl
  | p :: r, o, ho, h => by
    have hp := h p (by simp)
    have e : qstep ids x (qpow 4 o) (p.1, qpow 4 p.2) = qpow 4 (jstep ids x o p) := by
      unfold qstep jstep
      rw [← base_mul hp (wat_rb ids p.1 x).1, ← base_add ho (rmul_bound _ _).1]
    show (r.map fun p => (p.1, qpow 4 p.2)).foldl (qstep ids x) (qstep ids x (qpow 4 o) (p.1, qpow 4 p.2)) = _
    rw [e]
    exact qfold_base ids x r _ (radd_bound _ _).1 (fun q hq => h q (List.mem_cons_of_mem _ hq))
theorem qat_base (ids : List Int) (x : Int) (l : List (Int × Int)) (h : ∀ p ∈ l, 0 ≤ p.2) : qat ids x (l.map fun p => (p.1, qpow 4 p.2)) = qpow 4 (jat ids x l) := by
  have := qfold_base ids x l 0 (by omega) h
  rw [pow_none] at this
  exact this

/-- Ids that are right are apart. -/
theorem apart_right {ids : List Int} (h1 : ∀ x ∈ ids, 1 ≤ x ∧ x < 1152921504606845789) (h2 : ids.Pairwise (fun a b => a ≠ b)) : Apart ids := by
  unfold Apart
  induction ids with
  | nil => exact List.Pairwise.nil
  | cons k r ih =>
    obtain ⟨g1, g2⟩ := List.pairwise_cons.1 h2
    refine List.pairwise_cons.2 ⟨fun b hb => ?_, ih (fun x hx => h1 x (List.mem_cons_of_mem _ hx)) g2⟩
    have := h1 k (by simp)
    have := h1 b (List.mem_cons_of_mem _ hb)
    exact z_unlike (by omega) (by omega) (by omega) (by omega) (fun e => g1 b hb e.symm)
/-- AS MANY AS ARE ENOUGH make the value at each place. -/
theorem jat_pval {c : List Int} {l : List (Int × Int)} (hc : c.length ≤ l.length) (hids : Apart (l.map Prod.fst)) (hl : ∀ p ∈ l, p.2 = pval p.1 c) (x : Int) : jat (l.map Prod.fst) x l = pval x c := by
  have h := interp hc hids (fun p hp => by rw [hl p hp]; exact pval_z p.1 c) x
  refine z_eq (jat_rb _ _ _).1 (jat_rb _ _ _).2 (pval_rb x c).1 (pval_rb x c).2 ?_
  exact ((jat_z (l.map Prod.fst) x l).add (h.sub (pval_z x c))).cast (by omega)
theorem pval_none (c : Int) (r : List Int) (h : Rb c) : pval 0 (c :: r) = c := by
  refine z_eq (pval_rb 0 _).1 (pval_rb 0 _).2 h.1 h.2 ?_
  exact (pval_z 0 (c :: r)).cast (by simp [pe])
end Gs
