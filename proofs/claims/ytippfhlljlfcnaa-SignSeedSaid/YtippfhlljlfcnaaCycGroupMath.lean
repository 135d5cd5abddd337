/- Plain facts: the group of squares, and whole numbers modulo R, as package cyclic hands them out. -/
import Derived.Test.YtippfhlljlfcnaaCycPlain
namespace Gs
set_option linter.unusedVariables false

theorem castQ : ((QQ : Nat) : Int) = 2305843009213691579 := rfl
theorem castR : ((RR : Nat) : Int) = 1152921504606845789 := rfl
theorem qmul_nat (a b : Nat) : qmul a b = ((a * b % QQ : Nat) : Int) := by
  unfold qmul; rw [← castQ]; push_cast; rfl
theorem qpow_nat (a n : Nat) : qpow a n = ((a ^ n % QQ : Nat) : Int) := by
  unfold qpow mpow; rw [← castQ, Int.toNat_natCast]; push_cast; rfl
theorem qpow_R (a : Nat) : qpow a 1152921504606845789 = ((a ^ RR % QQ : Nat) : Int) := by rw [← castR]; exact qpow_nat a RR
theorem castQ2 : ((QQ - 2 : Nat) : Int) = 2305843009213691577 := rfl
theorem qpow_Q2 (a : Nat) : qpow a 2305843009213691577 = ((a ^ (QQ - 2) % QQ : Nat) : Int) := by rw [← castQ2]; exact qpow_nat a _
theorem qin_nat (x : Nat) : qin x = true ↔ 0 < x ∧ x < QQ ∧ Sq x := by
  unfold qin
  rw [qpow_R, Bool.and_eq_true, Bool.and_eq_true, decide_eq_true_eq, decide_eq_true_eq, beq_iff_eq, ← castQ, and_assoc]
  refine and_congr ⟨fun h => by omega, fun h => by omega⟩ (and_congr ⟨fun h => by omega, fun h => by omega⟩ ?_)
  unfold Sq
  constructor
  · intro h; exact_mod_cast h
  · intro h; rw [h]; rfl
theorem qin_of {x : Int} (h : qin x = true) : ∃ n : Nat, x = n ∧ 0 < n ∧ n < QQ ∧ Sq n := by
  have h1 : 1 ≤ x := by
    unfold qin at h
    rw [Bool.and_eq_true, Bool.and_eq_true, decide_eq_true_eq] at h
    exact h.1.1
  obtain ⟨n, rfl⟩ := Int.eq_ofNat_of_zero_le (show 0 ≤ x by omega)
  exact ⟨n, rfl, (qin_nat n).1 h⟩
theorem qin_bound {x : Int} (h : qin x = true) : 1 ≤ x ∧ x < 2305843009213691579 := by
  obtain ⟨n, rfl, h0, h1, _⟩ := qin_of h
  rw [← castQ]; omega
theorem qin_sq {n : Nat} (h : Sq n) : qin ((n % QQ : Nat) : Int) = true := (qin_nat _).2 ⟨Nat.pos_of_ne_zero h.pos, Nat.mod_lt _ (by decide), Sq.mod.2 h⟩

theorem qin_base {n : Int} (h : 0 ≤ n) : qin (qpow 4 n) = true := by
  obtain ⟨n, rfl⟩ := Int.eq_ofNat_of_zero_le h
  rw [show (4 : Int) = ((4 : Nat) : Int) from rfl, qpow_nat]
  exact qin_sq (Sq.four.pow n)
theorem qin_mul {x y : Int} (hx : qin x = true) (hy : qin y = true) : qin (qmul x y) = true := by
  obtain ⟨n, rfl, _, _, hn⟩ := qin_of hx
  obtain ⟨k, rfl, _, _, hk⟩ := qin_of hy
  rw [qmul_nat]
  exact qin_sq (hn.mul hk)
theorem qmul_comm (x y : Int) : qmul x y = qmul y x := by unfold qmul; rw [Int.mul_comm]
theorem qmul_assoc (x y z : Int) : qmul (qmul x y) z = qmul x (qmul y z) := by
  unfold qmul
  rw [Int.mul_emod, Int.emod_emod, ← Int.mul_emod, Int.mul_emod x (y * z % _), Int.emod_emod, ← Int.mul_emod, Int.mul_assoc]
theorem qmul_one (x : Int) : qmul x 1 = x % 2305843009213691579 := by unfold qmul; rw [Int.mul_one]
theorem qmul_one_in {x : Int} (h : qin x = true) : qmul x 1 = x := by
  have := qin_bound h
  rw [qmul_one]; omega
theorem qerr_in {x : Int} (h : qin x = true) : qerr x = 0 := by
  have := qin_bound h
  unfold qerr; rw [if_neg (by omega)]
theorem qinv_nat {n : Nat} (h : n % QQ ≠ 0) : qinv n = ((n ^ (QQ - 2) % QQ : Nat) : Int) := by
  unfold qinv
  rw [if_neg (by rw [← castQ]; omega), qpow_Q2]
theorem qin_inv {x : Int} (h : qin x = true) : qin (qinv x) = true := by
  obtain ⟨n, rfl, _, _, hn⟩ := qin_of h
  rw [qinv_nat hn.pos]
  exact qin_sq (hn.pow _)
theorem qmul_inv {x : Int} (h0 : 0 ≤ x) (h : x % 2305843009213691579 ≠ 0) : qmul x (qinv x) = 1 := by
  obtain ⟨n, rfl⟩ := Int.eq_ofNat_of_zero_le h0
  have hn : n % QQ ≠ 0 := by rw [← castQ] at h; omega
  rw [qinv_nat hn, qmul_nat, Nat.mul_comm, q_inv hn]
  rfl
theorem qmul_inv_in {x : Int} (h : qin x = true) : qmul x (qinv x) = 1 := by
  have := qin_bound h
  exact qmul_inv (by omega) (by omega)

theorem base_eq {m n : Int} (hm : 0 ≤ m) (hn : 0 ≤ n) : qpow 4 m = qpow 4 n ↔ rsub m n = 0 := by
  obtain ⟨m, rfl⟩ := Int.eq_ofNat_of_zero_le hm
  obtain ⟨n, rfl⟩ := Int.eq_ofNat_of_zero_le hn
  rw [show (4 : Int) = ((4 : Nat) : Int) from rfl, qpow_nat, qpow_nat]
  have h := four_eq m n
  unfold rsub
  rw [Int.ofNat_inj, h, show RR = 1152921504606845789 from rfl]
  omega
theorem base_add {m n : Int} (hm : 0 ≤ m) (hn : 0 ≤ n) : qpow 4 (radd m n) = qmul (qpow 4 m) (qpow 4 n) := by
  obtain ⟨m, rfl⟩ := Int.eq_ofNat_of_zero_le hm
  obtain ⟨n, rfl⟩ := Int.eq_ofNat_of_zero_le hn
  rw [show radd m n = (((m + n) % RR : Nat) : Int) from by unfold radd; rw [← castR]; push_cast; rfl, show (4 : Int) = ((4 : Nat) : Int) from rfl, qpow_nat, qpow_nat, qpow_nat, qmul_nat, ← four_mod, Nat.pow_add, ← Nat.mul_mod]
theorem base_zero {m : Int} (hm : 0 ≤ m) : qpow 4 (radd m 0) = qpow 4 m := by
  rw [base_eq (radd_bound m 0).1 hm]
  unfold rsub radd; omega
theorem base_mul {m n : Int} (hm : 0 ≤ m) (hn : 0 ≤ n) : qpow 4 (rmul m n) = qpow (qpow 4 m) n := by
  obtain ⟨m, rfl⟩ := Int.eq_ofNat_of_zero_le hm
  obtain ⟨n, rfl⟩ := Int.eq_ofNat_of_zero_le hn
  rw [show rmul m n = ((m * n % RR : Nat) : Int) from by unfold rmul; rw [← castR]; push_cast; rfl, show (4 : Int) = ((4 : Nat) : Int) from rfl, qpow_nat, qpow_nat, qpow_nat, ← four_mod, Nat.pow_mul, pow_modl]

theorem square_in {a : Int} (h : 0 ≤ a) : qin (qmul a a) = true ↔ a % 2305843009213691579 ≠ 0 := by
  obtain ⟨n, rfl⟩ := Int.eq_ofNat_of_zero_le h
  rw [qmul_nat]
  constructor
  · intro h2 h3
    have hn : n % QQ = 0 := by rw [← castQ] at h3; omega
    rw [Nat.mul_mod, hn, Nat.zero_mul, Nat.zero_mod] at h2
    exact absurd (qin_bound h2).1 (by decide)
  · intro h2
    have hn : n % QQ ≠ 0 := by rw [← castQ] at h2; omega
    refine qin_sq ?_
    unfold Sq
    rw [← Nat.pow_two, ← Nat.pow_mul, show 2 * RR = QQ - 1 from rfl]
    exact q_fermat hn
theorem one_in {x : Int} (h0 : 0 < x) (h1 : x < 2305843009213691579) : (qin x != qin (2305843009213691579 - x)) = true := by
  obtain ⟨n, rfl⟩ := Int.eq_ofNat_of_zero_le (show 0 ≤ x by omega)
  rw [← castQ] at h1 ⊢
  have h2 : n < QQ := by omega
  rw [show ((QQ : Nat) : Int) - (n : Int) = ((QQ - n : Nat) : Int) by omega]
  have h := one_square (x := n) (by omega) h2
  have a1 := qin_nat n
  have a2 := qin_nat (QQ - n)
  cases e1 : qin (n : Int) <;> cases e2 : qin ((QQ - n : Nat) : Int)
  · exfalso
    rw [e1] at a1
    rw [e2] at a2
    have b1 : ¬ Sq n := fun k => absurd (a1.2 ⟨by omega, h2, k⟩) (by decide)
    have b2 : ¬ Sq (QQ - n) := fun k => absurd (a2.2 ⟨by omega, by omega, k⟩) (by decide)
    exact b1 (h.2 b2)
  · rfl
  · rfl
  · exfalso
    exact h.1 (a1.1 e1).2.2 (a2.1 e2).2.2

theorem pow_sum (a : Int) {m n : Int} (hm : 0 ≤ m) (hn : 0 ≤ n) : qmul (qpow a m) (qpow a n) = qpow a (m + n) := by
  unfold qmul qpow mpow
  rw [← Int.mul_emod, ← Int.pow_add, Int.toNat_add hm hn]
theorem pow_one_more (a : Int) {m : Int} (hm : 0 ≤ m) : qmul (qpow a m) a = qpow a (m + 1) := by
  unfold qmul qpow mpow
  rw [Int.mul_emod, Int.emod_emod, ← Int.mul_emod, ← Int.pow_succ, Int.toNat_add hm (by omega)]
  rfl
theorem pow_none (a : Int) : qpow a 0 = 1 := mpow_zero _ a (by omega)

theorem radd_comm (a b : Int) : radd a b = radd b a := by unfold radd; rw [Int.add_comm]
theorem rmul_comm (a b : Int) : rmul a b = rmul b a := by unfold rmul; rw [Int.mul_comm]
theorem rsub_add (a b : Int) : rsub (radd a b) b = a % 1152921504606845789 := by unfold rsub radd; omega
theorem rmul_add (a b c : Int) : rmul (radd a b) c = radd (rmul a c) (rmul b c) := by
  unfold rmul radd
  rw [Int.mul_emod, Int.emod_emod, ← Int.mul_emod, Int.add_mul, ← Int.add_emod]
theorem rmul_assoc (x y z : Int) : rmul (rmul x y) z = rmul x (rmul y z) := by
  unfold rmul
  rw [Int.mul_emod, Int.emod_emod, ← Int.mul_emod, Int.mul_emod x (y * z % _), Int.emod_emod, ← Int.mul_emod, Int.mul_assoc]
theorem rmul_one (x : Int) : rmul x 1 = x % 1152921504606845789 := by unfold rmul; rw [Int.mul_one]
theorem castR2 : (1152921504606845787 : Int).toNat = RR - 2 := rfl
theorem rmul_inv {x : Int} (h0 : 0 ≤ x) (h : x % 1152921504606845789 ≠ 0) : rmul x (rinv x) = 1 := by
  obtain ⟨n, rfl⟩ := Int.eq_ofNat_of_zero_le h0
  have hn : n % RR ≠ 0 := by rw [← castR] at h; omega
  unfold rinv
  rw [if_neg h, castR2]
  unfold rmul mpow
  have e : (n : Int) * ((n : Int) ^ (RR - 2) % 1152921504606845789) % 1152921504606845789 = ((n ^ (RR - 2) % RR * n % RR : Nat) : Int) := by
    rw [← castR, Nat.mul_comm]; push_cast; rfl
  rw [e, r_inv hn]; rfl
theorem rdiv {a b : Int} (h0 : 0 ≤ b) (h : b % 1152921504606845789 ≠ 0) : rmul (rmul a b) (rinv b) = a % 1152921504606845789 := by
  rw [rmul_assoc, rmul_inv h0 h, rmul_one]

theorem qerr_ne {a : Int} (h : a % 2305843009213691579 ≠ 0) : qerr a = 0 := by unfold qerr; rw [if_neg h]
theorem qinv_is {a : Int} (h : a % 2305843009213691579 ≠ 0) : qinv a = qpow a 2305843009213691577 := by unfold qinv; rw [if_neg h]
theorem qinv_pos {a : Int} (h0 : 0 ≤ a) (h : a % 2305843009213691579 ≠ 0) : 0 < qinv a := by
  have hm := qmul_inv h0 h
  have := (qinv_bound a).1
  rcases Int.lt_or_eq_of_le this with g | g
  · exact g
  · rw [← g] at hm; unfold qmul at hm; rw [Int.mul_zero] at hm; exact absurd hm (by decide)
theorem qdiv {a b : Int} (h0 : 0 ≤ a) (h : a % 2305843009213691579 ≠ 0) : qmul (qmul b a) (qinv a) = b % 2305843009213691579 := by
  rw [qmul_assoc, qmul_inv h0 h, qmul_one]
theorem qinv_inv {a : Int} (h0 : 0 ≤ a) (h : a % 2305843009213691579 ≠ 0) : qinv (qinv a) = a % 2305843009213691579 := by
  have p := qinv_pos h0 h
  have b := qinv_bound a
  have h1 := qmul_inv h0 h
  have h2 := qmul_inv (x := qinv a) (by omega) (by omega)
  have e : qmul a (qmul (qinv a) (qinv (qinv a))) = qinv (qinv a) % 2305843009213691579 := by
    rw [← qmul_assoc, h1, qmul_comm, qmul_one]
  rw [h2, qmul_one] at e
  have b2 := qinv_bound (qinv a)
  omega
end Gs
