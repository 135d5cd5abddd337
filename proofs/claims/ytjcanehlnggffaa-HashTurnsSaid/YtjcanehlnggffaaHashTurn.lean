/- Plain facts: rounds are undone. -/
import Derived.Test.YtjcanehlnggffaaHashMath
namespace Gs
set_option linter.unusedVariables false

def rootN : Nat := 1763291712928118903
theorem root_turn : 17 * rootN = 13 * expF + 1 := by decide +kernel
theorem root_turn' : rootN * 17 = 13 * expF + 1 := by decide +kernel
theorem fpow_fpow (x : Int) (n m : Nat) : fpow (fpow x n) m = fpow x (n * m) := by
  unfold fpow; rw [emod_pow, ← Int.pow_mul]
theorem fpow_turn (x : Int) (e : Nat) (he : e = 13 * expF + 1) : fpow x e = fred x := by
  subst he
  by_cases h : fred x = 0
  · rw [← fpow_add, fpow_one, h, fmul_zero]
  · have h1 : fpow x (13 * expF) = 1 := by
      rw [Nat.mul_comm, ← fpow_fpow, fermat h]
      unfold fpow; rw [Int.one_pow]; rfl
    rw [← fpow_add, h1, fpow_one, one_fmul, fred_fred]

theorem fsub_el' (a b : Int) : fred (fsub a b) = fsub a b := (fsub_el a b).red
theorem add_sub (a b : Int) : fadd (fsub a b) b = fred a := by unfold fsub fadd fred; rw [Int.emod_add_emod]; congr 1; omega
def red3 (s : S3) : S3 := (fred s.1, fred s.2.1, fred s.2.2)
theorem red3_el (s : S3) : El3 (red3 s) := ⟨fred_el _, fred_el _, fred_el _⟩
theorem El3.red {s : S3} (h : El3 s) : red3 s = s := by
  obtain ⟨a, b, c⟩ := s
  exact Prod.ext h.1.red (Prod.ext h.2.1.red h.2.2.red)
def uall (a b c : Int) : Int := fmul (finv 4) (fadd (fadd a b) c)
def ud (r i : Nat) (x all : Int) : Int := fsub (fpow (fsub x all) rootN) (kc r i)
/-- What one round came of. -/
def und (r : Nat) (s : S3) : S3 := (ud r 0 s.1 (uall s.1 s.2.1 s.2.2), ud r 1 s.2.1 (uall s.1 s.2.1 s.2.2), ud r 2 s.2.2 (uall s.1 s.2.1 s.2.2))
theorem und_el (r : Nat) (s : S3) : El3 (und r s) := ⟨fsub_el _ _, fsub_el _ _, fsub_el _ _⟩
theorem four_ne : fred 4 ≠ 0 := by decide

theorem all_sum (x y z S : Int) (hS : S = fadd (fadd x y) z) : uall (fadd x S) (fadd y S) (fadd z S) = S := by
  have h4 : fadd (fadd (fadd x S) (fadd y S)) (fadd z S) = fmul 4 S := by
    subst hS
    unfold fadd fmul
    simp only [Int.emod_add_emod, Int.add_emod_emod]
    rw [emod_mul_r]
    congr 1
    omega
  unfold uall
  rw [h4, ← fmul_assoc, fmul_comm (finv 4) 4, fmul_inv four_ne, one_fmul, hS, red_fadd]
theorem sub_sum (x S : Int) (h : El x) : fsub (fadd x S) S = x := by rw [fsub_add, h.red]
theorem sb_el (r i : Nat) (x : Int) : El (sb r i x) := fpow_el _ _
theorem sb_turn (r i : Nat) (x : Int) : fsub (fpow (sb r i x) rootN) (kc r i) = fred x := by
  unfold sb
  rw [fpow_fpow, fpow_turn _ _ root_turn, red_fadd, fsub_add]
theorem und_rnd (r : Nat) (s : S3) : und r (rnd r s) = red3 s := by
  have hA : uall (rnd r s).1 (rnd r s).2.1 (rnd r s).2.2 = rall r s.1 s.2.1 s.2.2 := all_sum _ _ _ _ rfl
  unfold und
  rw [hA]
  unfold red3 ud rnd
  simp only [sub_sum _ _ (sb_el r 0 s.1), sub_sum _ _ (sb_el r 1 s.2.1), sub_sum _ _ (sb_el r 2 s.2.2), sb_turn]

theorem sb_ud (r i : Nat) (x all : Int) : sb r i (ud r i x all) = fsub x all := by
  unfold sb ud
  rw [add_sub, fpow_red, fpow_fpow, fpow_turn _ _ root_turn', fsub_el']
theorem rall_ud (r : Nat) (a b c : Int) : fadd (fadd (fsub a (uall a b c)) (fsub b (uall a b c))) (fsub c (uall a b c)) = uall a b c := by
  have h4 : fmul 4 (uall a b c) = fadd (fadd a b) c := by
    unfold uall
    rw [← fmul_assoc, fmul_inv four_ne, one_fmul, red_fadd]
  have hu : El (uall a b c) := fmul_el _ _
  have e : fadd (fadd (fsub a (uall a b c)) (fsub b (uall a b c))) (fsub c (uall a b c)) = fsub (fadd (fadd a b) c) (fmul 3 (uall a b c)) := by
    unfold fadd fsub fmul
    simp only [Int.emod_add_emod, Int.add_emod_emod, Int.emod_sub_emod, Int.sub_emod_emod]
    congr 1
    omega
  rw [e, ← h4]
  have e2 : fsub (fmul 4 (uall a b c)) (fmul 3 (uall a b c)) = fred (uall a b c) := by
    unfold fsub fmul fred
    simp only [Int.emod_sub_emod, Int.sub_emod_emod]
    congr 1
    omega
  rw [e2, hu.red]
theorem rnd_und (r : Nat) (s : S3) : rnd r (und r s) = red3 s := by
  have hA : rall r (und r s).1 (und r s).2.1 (und r s).2.2 = uall s.1 s.2.1 s.2.2 := by
    unfold rall und
    simp only [sb_ud]
    exact rall_ud r _ _ _
  unfold rnd
  rw [hA]
  unfold red3 und
  simp only [sb_ud, add_sub]
theorem sb_red (r i : Nat) (x : Int) : sb r i (fred x) = sb r i x := by unfold sb; rw [fadd_red_l]
theorem rnd_red (r : Nat) (s : S3) : rnd r (red3 s) = rnd r s := by
  unfold rnd rall red3
  simp only [sb_red]

/-- What is mixed, m rounds taken back or not yet done. -/
def bkst (s : S3) (m : Nat) : S3 := if m = 0 then red3 s else mixTo s m
theorem bkst_el (s : S3) (m : Nat) : El3 (bkst s m) := by
  unfold bkst
  split
  · exact red3_el s
  · obtain ⟨k, rfl⟩ : ∃ k, m = k + 1 := ⟨m - 1, by omega⟩
    exact mixTo_el s k
theorem bkst_all (s : S3) : bkst s 8 = hmix s := rfl
theorem bkst_zero (s : S3) : bkst s 0 = red3 s := rfl
theorem bkst_step (s : S3) (m : Nat) : und m (bkst s (m + 1)) = bkst s m := by
  have h : bkst s (m + 1) = rnd m (mixTo s m) := by unfold bkst; rw [if_neg (by omega)]; rfl
  rw [h, und_rnd]
  unfold bkst
  by_cases h0 : m = 0
  · subst h0; rfl
  · rw [if_neg h0]
    obtain ⟨k, rfl⟩ : ∃ k, m = k + 1 := ⟨m - 1, by omega⟩
    exact (mixTo_el s k).red
/-- Rounds 7 on down undone, j of them. -/
def dn (s : S3) : Nat → S3
  | 0 => s
  | j + 1 => und (7 - j) (dn s j)
theorem dn_u (s : S3) (h : U3 s) (j : Nat) : U3 (dn s j) := by
  cases j with
  | zero => exact h
  | succ j => exact (und_el _ _).u3
theorem mix_dn (s : S3) : ∀ k, k ≤ 8 → red3 (mixTo (dn s 8) k) = red3 (dn s (8 - k))
  | 0, _ => rfl
  | k + 1, h => by
    have ih := mix_dn s k (by omega)
    have e : dn s (8 - k) = und k (dn s (8 - (k + 1))) := by
      obtain ⟨j, hj⟩ : ∃ j, 8 - k = j + 1 := ⟨7 - k, by omega⟩
      rw [hj, show 8 - (k + 1) = j by omega]
      show und (7 - j) (dn s j) = _
      rw [show 7 - j = k by omega]
    show red3 (rnd k (mixTo (dn s 8) k)) = _
    rw [← rnd_red, ih, rnd_red, e, rnd_und, (red3_el _).red]
theorem hmix_dn (s : S3) : hmix (dn s 8) = red3 s := by
  have h := mix_dn s 8 (Nat.le_refl _)
  rw [(mixTo_el (dn s 8) 7).red] at h
  exact h
end Gs
