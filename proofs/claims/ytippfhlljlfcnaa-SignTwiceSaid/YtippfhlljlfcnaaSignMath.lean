/- Plain facts on signatures: what is signed is right, whatever the nonce; who uses a nonce twice gives the secret away. -/
import Derived.Test.YtippfhlljlfcnaaSignF
namespace Go.Proofs.Ytippfhlljlfcnaa
open Gs
set_option linter.unusedVariables false

theorem mod_mul_add (a b c : Int) (m : Int) : (a % m + b % m) % m = (a + b) % m := (Int.add_emod a b m).symm
theorem rzero {e s : Int} : radd (rmul e s) (rmul s (1152921504606845789 - e)) = 0 := by
  unfold radd rmul
  rw [← Int.add_emod, Int.mul_sub, Int.mul_comm s e, show e * s + (s * 1152921504606845789 - e * s) = s * 1152921504606845789 by omega, Int.mul_emod_left]
theorem base_none : qpow 4 0 = 1 := pow_none 4
/-- The commitment of what is signed is that of the nonce. -/
theorem com_signed {s k e : Int} (hs : 0 ≤ s) (hk : 0 ≤ k) (he : 0 ≤ e) (he' : e < 1152921504606845789) : scom (qpow 4 s) e (radd k (rmul e s)) = qpow 4 k := by
  unfold scom
  rw [base_add hk (rmul_bound e s).1, ← base_mul hs (by omega), qmul_assoc, ← base_add (rmul_bound e s).1 (rmul_bound _ _).1, rzero, base_none, qmul_one_in (qin_base hk)]
theorem chk_signed {s k : Int} (xs : List Int) (hs : 0 ≤ s) (hk : 0 ≤ k) :
    chk (qpow 4 s) xs (schal (qpow 4 k) (qpow 4 s) xs) (radd k (rmul (schal (qpow 4 k) (qpow 4 s) xs) s)) = 0 := by
  have hb := schal_bound (qpow 4 k) (qpow 4 s) xs
  unfold chk
  rw [if_pos (qin_base hs), if_pos ⟨hb.2, (radd_bound _ _).2⟩, com_signed hs hk hb.1 hb.2, if_pos rfl]
theorem chk_sign {s : Int} (xs : List Int) (hs : 0 ≤ s) : chk (qpow 4 s) xs (ssigE s xs) (ssigS s xs) = 0 :=
  chk_signed xs hs (by have := snonce_bound s xs; omega)
theorem chk_high {p : Int} (xs : List Int) (e : Int) (hp : qin p = true) : chk p xs e 1152921504606845789 = 40 := by
  unfold chk
  rw [if_pos hp, if_neg (fun h => absurd h.2 (by omega))]
theorem chk_none (xs : List Int) (e s : Int) : chk 0 xs e s = 1 := by
  unfold chk
  rw [if_neg]
  unfold qin
  simp

theorem rsub_small {a b : Int} (a0 : 0 ≤ a) (a1 : a < 1152921504606845789) (b0 : 0 ≤ b) (b1 : b < 1152921504606845789) : rsub a b = 0 ↔ a = b := by
  unfold rsub; omega
/-- Unlike secrets have unlike public keys. -/
theorem base_same {a b : Int} (a0 : 0 ≤ a) (a1 : a < 1152921504606845789) (b0 : 0 ≤ b) (b1 : b < 1152921504606845789) : qpow 4 a = qpow 4 b ↔ a = b :=
  (base_eq a0 b0).trans (rsub_small a0 a1 b0 b1)
/-- Two answers of one nonce differ by as many times the secret as their challenges do. -/
theorem twice {s k c d : Int} : rsub (radd k (rmul c s)) (radd k (rmul d s)) = rmul s (rsub c d) := by
  unfold rsub radd rmul
  rw [Int.mul_emod s, Int.emod_emod, ← Int.mul_emod, Int.sub_emod, Int.emod_emod, Int.emod_emod, Int.add_emod k, Int.emod_emod, ← Int.add_emod, Int.add_emod k (d * s % _), Int.emod_emod, ← Int.add_emod, ← Int.sub_emod, show k + c * s - (k + d * s) = c * s - d * s by omega, ← Int.sub_mul, Int.mul_comm]
theorem given_away {s k c d : Int} (s1 : 1 ≤ s) (s2 : s < 1152921504606845789) (c0 : 0 ≤ c) (c1 : c < 1152921504606845789) (d0 : 0 ≤ d) (d1 : d < 1152921504606845789) (h : c ≠ d) :
    rmul (rsub (radd k (rmul c s)) (radd k (rmul d s))) (rinv (rsub c d)) = s := by
  have hb := rsub_bound c d
  have hn : rsub c d ≠ 0 := fun e => h ((rsub_small c0 c1 d0 d1).1 e)
  rw [twice, rdiv hb.1 (by rw [Int.emod_eq_of_lt hb.1 hb.2]; exact hn), Int.emod_eq_of_lt (by omega) s2]
theorem rerr_unlike {c d : Int} (c0 : 0 ≤ c) (c1 : c < 1152921504606845789) (d0 : 0 ≤ d) (d1 : d < 1152921504606845789) (h : c ≠ d) : rerr (rsub c d) = 0 := by
  have hb := rsub_bound c d
  have hn : rsub c d ≠ 0 := fun e => h ((rsub_small c0 c1 d0 d1).1 e)
  unfold rerr
  rw [if_neg (by rw [Int.emod_eq_of_lt hb.1 hb.2]; exact hn)]
end Go.Proofs.Ytippfhlljlfcnaa
