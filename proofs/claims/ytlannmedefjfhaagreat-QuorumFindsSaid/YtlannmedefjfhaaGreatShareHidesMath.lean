/- Plain: with one share another one each number is the secret. -/
import Derived.Test.YtlannmedefjfhaaGreatShareSpoil
namespace Go.Proofs.YtlannmedefjfhaaGreat
open Go.ChangeShapes Go.WideShapes Go.ChangeAt Go.RowKit Gs
set_option linter.unusedVariables false

theorem weight_ne {c : List Int} {N : Nat} {S : List (Int × Int)} (h : Good c N S) (hN : N ≤ 7) (h1 : 1 ≤ S.length) (h7 : S.length ≤ 7) (k : Nat) (hk : k < S.length) : ¬ Z (wat (S.map Prod.fst) S[k].1 0) := by
  intro hz
  have hap := right_apart (h.right hN h1 h7)
  have hw : Z (wI (S.map Prod.fst) S[k].1 0) := (hz.sub (wat_z (S.map Prod.fst) S[k].1 0)).cast (by omega)
  refine wI_ne _ _ _ (fun y hy hne => ⟨apart_of hap (List.mem_map_of_mem (List.getElem_mem hk)) hy (fun e => hne e.symm), fun g => ?_⟩) hw
  obtain ⟨p, hp, rfl⟩ := List.mem_map.1 hy
  have := h.all p hp
  exact absurd (z_eq (a := p.1) (b := 0) (by omega) (by omega) (by omega) (by omega) (g.neg.cast (by omega))) (by omega)
/-- The last share, changed so that the others make another number. -/
theorem hides {c : List Int} {N : Nat} {S : List (Int × Int)} (h : Good c N S) (hN : N ≤ 7) (h1 : 1 ≤ S.length) (h7 : S.length ≤ 7) (hc : c.length ≤ S.length) {s : Int} (hs : pval 0 c = s) (k : Nat) (hk : k < S.length) {o : Int} (ho : Rb o) :
    jat (S.map Prod.fst) 0 (S.set k (S[k].1, radd S[k].2 (rmul (rsub o s) (rinv (wat (S.map Prod.fst) S[k].1 0))))) = o := by
  have hne := weight_ne h hN h1 h7 k hk
  have hw := wat_rb (S.map Prod.fst) S[k].1 0
  have hi := z_inv hw.1 hne
  have hwz := wat_z (S.map Prod.fst) S[k].1 0
  have hj := h.jat hN h1 h7 hc 0
  rw [hs] at hj
  have hjz := jat_z (S.map Prod.fst) 0 S
  rw [hj] at hjz
  generalize hX : radd S[k].2 (rmul (rsub o s) (rinv (wat (S.map Prod.fst) S[k].1 0))) = X
  have hx1 := z_radd S[k].2 (rmul (rsub o s) (rinv (wat (S.map Prod.fst) S[k].1 0)))
  rw [hX] at hx1
  have hx2 := z_rmul (rsub o s) (rinv (wat (S.map Prod.fst) S[k].1 0))
  have hx3 := z_rsub o s
  have hset := jI_set (S.map Prod.fst) 0 S k hk X
  have hz := jat_z (S.map Prod.fst) 0 (S.set k (S[k].1, X))
  rw [hset] at hz
  refine z_eq (jat_rb _ _ _).1 (jat_rb _ _ _).2 ho.1 ho.2 ?_
  generalize jat (S.map Prod.fst) 0 (S.set k (S[k].1, X)) = J at hz ⊢
  generalize jI (S.map Prod.fst) 0 S = jj at hz hjz
  generalize rmul (rsub o s) (rinv (wat (S.map Prod.fst) S[k].1 0)) = m at hx1 hx2
  generalize rinv (wat (S.map Prod.fst) S[k].1 0) = v at hx2 hi
  generalize wat (S.map Prod.fst) S[k].1 0 = w at hi hwz
  generalize wI (S.map Prod.fst) S[k].1 0 = W at hz hwz
  generalize rsub o s = d at hx2 hx3
  generalize S[k].2 = y at hz hx1
  -- J ≡ s + (X - y) W, X ≡ y + m, m ≡ d v, d ≡ o - s, v w ≡ 1, w ≡ W
  have e1 : Z ((X - (y + m)) * W) := hx1.mul_right W
  have e2 : Z ((m - d * v) * W) := hx2.mul_right W
  have e3 : Z ((d - (o - s)) * (v * W)) := hx3.mul_right (v * W)
  have e4 : Z ((w - W) * ((o - s) * v)) := hwz.mul_right ((o - s) * v)
  have e5 : Z ((w * v - 1) * (o - s)) := hi.mul_right (o - s)
  exact (((((hz.sub hjz).add e1).add e2).add e3).sub e4 |>.add e5).cast (by grind)
end Go.Proofs.YtlannmedefjfhaaGreat
