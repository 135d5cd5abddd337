/- Plain: the chapter's examples of shares. -/
import Derived.Test.YtgboijbnjjmmkaaShareNums
namespace Gs
set_option linter.unusedVariables false

theorem apart12 : Apart [1, 2] := apart_right (by decide) (by decide)
theorem live_w1 : wat [1, 2] 1 0 = 2 := by
  have e : rsub 1 2 = 1152921504606845788 := by decide
  have h := wat_z [1, 2] 1 0
  rw [wI_same, wI_cons [] 0 (show (2 : Int) ≠ 1 by decide), wI_nil, e] at h
  have i := z_inv (x := 1152921504606845788) (by omega) (by rw [z_iff]; decide)
  generalize rinv 1152921504606845788 = r at h i
  refine z_eq (wat_rb _ _ _).1 (wat_rb _ _ _).2 (by omega) (by omega) ?_
  have k : Z (1152921504606845789 * (2 * r)) := ⟨2 * r, rfl⟩
  exact ((h.add (i.mul 2)).sub k).cast (by omega)
theorem live_w2 : wat [1, 2] 2 0 = 1152921504606845788 := by
  have e : rsub 2 1 = 1 := by decide
  have h := wat_z [1, 2] 2 0
  rw [wI_cons [2] 0 (show (1 : Int) ≠ 2 by decide), wI_same, wI_nil, e] at h
  have i := z_inv (x := 1) (by omega) z_one
  generalize rinv 1 = r at h i
  refine z_eq (wat_rb _ _ _).1 (wat_rb _ _ _).2 (by omega) (by omega) ?_
  have k : Z 1152921504606845789 := ⟨1, rfl⟩
  exact ((h.sub i).sub k).cast (by omega)
theorem live_join : jat [1, 2] 0 [(1, 5), (2, 7)] = 3 := by
  have h := jat_pval (c := [3, 2]) (l := [(1, 5), (2, 7)]) (by decide) apart12 (by decide) 0
  rw [show pval 0 [3, 2] = 3 by decide] at h
  exact h
theorem live_pub : qpow 4 3 = 64 := by decide +kernel
end Gs
