/- Plain: shares of two secrets, put together one by one. -/
import Derived.Test.YtgboijbnjjmmkaaSharePub
namespace Go.Proofs.Ytgboijbnjjmmkaa
open Go.ChangeShapes Go.WideShapes Go.ChangeAt Go.RowKit Gs
set_option linter.unusedVariables false

def mixS (m : Int) (p q : Int × Int) : Int × Int := (p.1, radd p.2 (rmul q.2 m))
theorem jI_mix (ids : List Int) (x m : Int) : ∀ (a b : List (Int × Int)), a.map Prod.fst = b.map Prod.fst → Z (jI ids x (List.zipWith (mixS m) a b) - (jI ids x a + m * jI ids x b))
  | [], [], _ => Z.cast Z.zero (by simp [jI])
  | [], q :: b, h => by simp at h
  | p :: a, [], h => by simp at h
  | p :: a, q :: b, h => by
    obtain ⟨h1, h2⟩ : p.1 = q.1 ∧ a.map Prod.fst = b.map Prod.fst := by simpa using h
    have ih := jI_mix ids x m a b h2
    rw [List.zipWith_cons_cons, jI_cons, jI_cons, jI_cons]
    have e1 := (z_radd p.2 (rmul q.2 m)).mul_right (wI ids p.1 x)
    have e2 := (z_rmul q.2 m).mul_right (wI ids p.1 x)
    rw [← h1]
    show Z (radd p.2 (rmul q.2 m) * wI ids p.1 x + jI ids x (List.zipWith (mixS m) a b) - _)
    exact ((ih.add e1).add e2).cast (by grind)
theorem mix_fst (m : Int) : ∀ (a b : List (Int × Int)), a.map Prod.fst = b.map Prod.fst → (List.zipWith (mixS m) a b).map Prod.fst = a.map Prod.fst
  | [], [], _ => rfl
  | [], q :: b, h => by simp at h
  | p :: a, [], h => by simp at h
  | p :: a, q :: b, h => by
    obtain ⟨h1, h2⟩ : p.1 = q.1 ∧ a.map Prod.fst = b.map Prod.fst := by simpa using h
    rw [List.zipWith_cons_cons, List.map_cons, List.map_cons, mix_fst m a b h2]; rfl
theorem Good.drop {c : List Int} {N : Nat} {S : List (Int × Int)} (h : Good c N S) (T : Nat) : Good c N (S.drop T) :=
  ⟨fun p hp => h.all p (List.mem_of_mem_drop hp), by rw [List.map_drop]; exact h.apart.sublist (List.drop_sublist _ _)⟩
/-- Shares of two secrets, one and so many times the other, make one and so many times the other. -/
theorem sums {c d : List Int} {N : Nat} {S U : List (Int × Int)} (h : Good c N S) (g : Good d N U) (e : S.map Prod.fst = U.map Prod.fst) (hN : N ≤ 7) (h1 : 1 ≤ S.length) (h7 : S.length ≤ 7) (hc : c.length ≤ S.length) (hd : d.length ≤ S.length) {a b : Int} (ha : pval 0 c = a) (hb : pval 0 d = b) (m : Int) :
    jat (S.map Prod.fst) 0 (List.zipWith (mixS m) S U) = radd a (rmul b m) := by
  have hl : U.length = S.length := by have := congrArg List.length e; simpa using this.symm
  have j1 := h.jat hN h1 h7 hc 0
  have j2 := g.jat hN (by omega) (by omega) (by omega) 0
  rw [ha] at j1
  rw [← e, hb] at j2
  have z1 := jat_z (S.map Prod.fst) 0 S
  have z2 := jat_z (S.map Prod.fst) 0 U
  rw [j1] at z1
  rw [j2] at z2
  have z3 := jI_mix (S.map Prod.fst) 0 m S U e
  have z4 := jat_z (S.map Prod.fst) 0 (List.zipWith (mixS m) S U)
  have z5 := z_radd a (rmul b m)
  have z6 := z_rmul b m
  refine z_eq (jat_rb _ _ _).1 (jat_rb _ _ _).2 (radd_bound _ _).1 (radd_bound _ _).2 ?_
  exact (((z4.add z3).sub (z1.add (z2.mul m))).sub (z5.add z6)).cast (by grind)
end Go.Proofs.Ytgboijbnjjmmkaa
