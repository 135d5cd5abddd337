/- Plain: a weight as the program reckons it: all numbers above, all below, and one division. -/
import Derived.Test.YtgboijbnjjmmkaaShareNums
namespace Gs
set_option linter.unusedVariables false

def ustep (i x o k : Int) : Int := if k = i then o else rmul o (rsub x k)
/-- The product of what lies between a place and each other one of ids. -/
def wup (ids : List Int) (i x : Int) : Int := ids.foldl (ustep i x) 1
def uI (ids : List Int) (i x : Int) : Int := ids.foldr (fun k p => if k = i then p else (x - k) * p) 1
theorem ustep_rb {i x o k : Int} (h : Rb o) : Rb (ustep i x o k) := by
  unfold ustep; split
  · exact h
  · exact rmul_bound _ _
theorem ufold_rb (i x : Int) : ∀ (ids : List Int) (o : Int), Rb o → Rb (ids.foldl (ustep i x) o)
  | [], o, h => h
  | k :: r, o, h => ufold_rb i x r _ (ustep_rb h)
theorem wup_rb (ids : List Int) (i x : Int) : Rb (wup ids i x) := ufold_rb i x ids 1 rb_one
theorem wup_take (ids : List Int) (i x : Int) (k : Nat) (h : k < ids.length) : wup (ids.take (k + 1)) i x = ustep i x (wup (ids.take k) i x) ids[k] := by
  unfold wup
  rw [List.take_succ_eq_append_getElem h, List.foldl_append]; rfl
theorem ufold_z (i x : Int) : ∀ (ids : List Int) (o : Int), Z (ids.foldl (ustep i x) o - o * uI ids i x)
  | [], o => Z.cast Z.zero (by simp [uI])
  | k :: r, o => by
    show Z (r.foldl (ustep i x) (ustep i x o k) - o * uI (k :: r) i x)
    have ih := ufold_z i x r (ustep i x o k)
    by_cases h : k = i
    · have e : ustep i x o k = o := by unfold ustep; rw [if_pos h]
      have e2 : uI (k :: r) i x = uI r i x := by simp [uI, h]
      rw [e2]
      rw [e] at ih ⊢
      exact ih
    · have e : ustep i x o k = rmul o (rsub x k) := by unfold ustep; rw [if_neg h]
      have e2 : uI (k :: r) i x = (x - k) * uI r i x := by simp [uI, h]
      rw [e2]
      rw [e] at ih ⊢
      have h1 := z_rmul o (rsub x k)
      have h3 := z_rsub x k
      exact (ih.add ((h1.add (h3.mul o)).mul_right (uI r i x))).cast (by grind)
theorem wup_z (ids : List Int) (i x : Int) : Z (wup ids i x - uI ids i x) := (ufold_z i x ids 1).cast (by unfold wup; omega)
theorem uI_ne (i : Int) : ∀ ids : List Int, (∀ k ∈ ids, k ≠ i → ¬ Z (i - k)) → ¬ Z (uI ids i i)
  | [], _ => z_one
  | k :: r, hk => by
    have ih := uI_ne i r (fun k' h' => hk k' (List.mem_cons_of_mem _ h'))
    by_cases e : k = i
    · have e2 : uI (k :: r) i i = uI r i i := by simp [uI, e]
      rwa [e2]
    · have e2 : uI (k :: r) i i = (i - k) * uI r i i := by simp [uI, e]
      rw [e2]
      intro hz
      rcases z_euclid hz with hz | hz
      · exact hk k (by simp) e hz
      · exact ih hz
theorem wI_up (i x : Int) : ∀ ids : List Int, (∀ k ∈ ids, k ≠ i → ¬ Z (i - k)) → Z (wI ids i x * uI ids i i - uI ids i x)
  | [], _ => Z.cast Z.zero (by simp [uI, wI])
  | k :: r, hk => by
    have ih := wI_up i x r (fun k' h' => hk k' (List.mem_cons_of_mem _ h'))
    by_cases e : k = i
    · have e2 : ∀ y, uI (k :: r) i y = uI r i y := fun y => by simp [uI, e]
      rw [e2, e2]
      subst e
      rwa [wI_same]
    · have e2 : ∀ y, uI (k :: r) i y = (y - k) * uI r i y := fun y => by simp [uI, e]
      rw [e2, e2, wI_cons r x e]
      have h := hk k (by simp) e
      have h1 := z_inv (rsub_bound i k).1 (z_sub_rsub h)
      have h2 : Z ((i - k) * rinv (rsub i k) - 1) := ((h1.sub ((z_rsub i k).mul_right (rinv (rsub i k))))).cast (by grind)
      have h3 := h2.mul_right ((x - k) * (wI r i x * uI r i i))
      exact (h3.add (ih.mul (x - k))).cast (by grind)
/-- The weight as the program reckons it is the weight. -/
theorem wup_wat {ids : List Int} {i : Int} (x : Int) (h : ∀ k ∈ ids, k ≠ i → ¬ Z (i - k)) : rmul (wup ids i x) (rinv (wup ids i i)) = wat ids i x := by
  have hb := wup_rb ids i i
  have hn : ¬ Z (wup ids i i) := fun g => uI_ne i ids h ((g.sub (wup_z ids i i)).cast (by omega))
  have h1 := z_inv hb.1 hn
  have h2 := z_rmul (wup ids i x) (rinv (wup ids i i))
  have h3 := wup_z ids i x
  have h4 := wI_up i x ids h
  have h5 := wup_z ids i i
  have h6 := wat_z ids i x
  have b1 := rmul_bound (wup ids i x) (rinv (wup ids i i))
  have b2 := wat_rb ids i x
  refine z_eq b1.1 b1.2 b2.1 b2.2 ?_
  -- up * inv - W = (up - uI)inv + (uI_x - W uI_i) inv + W (uI_i - up_i) inv + W (up_i inv - 1)
  generalize rinv (wup ids i i) = v at *
  generalize wup ids i i = b at *
  generalize wup ids i x = a at *
  exact ((((h2.add (h3.mul_right v)).sub (h4.mul_right v)).sub ((h5.mul (wI ids i x)).mul_right v)).add ((h1.mul (wI ids i x)).sub h6)).cast (by grind)
end Gs
