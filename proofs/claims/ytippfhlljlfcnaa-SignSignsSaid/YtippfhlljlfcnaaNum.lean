/- Plain facts on whole numbers: powers modulo n, and Fermat's law for a modulus with a generator; no program is named here. -/
namespace Gs

/-- a^e modulo n, by squaring. -/
def pw (n a : Nat) : Nat → Nat → Nat
  | 0, _ => 1 % n
  | f + 1, e => if e % 2 = 0 then (pw n a f (e / 2)) * (pw n a f (e / 2)) % n else (pw n a f (e / 2)) * (pw n a f (e / 2)) % n * a % n

theorem pw_eq (n a : Nat) : ∀ f e : Nat, e < 2 ^ f → pw n a f e = a ^ e % n
  | 0, e, h => by
    have : e = 0 := by simp at h; omega
    subst this
    simp [pw]
  | f + 1, e, h => by
    have h2 : e / 2 < 2 ^ f := by rw [Nat.pow_succ] at h; omega
    have ih := pw_eq n a f (e / 2) h2
    unfold pw
    rw [ih]
    by_cases he : e % 2 = 0
    · rw [if_pos he]
      have e2 : e = e / 2 + e / 2 := by omega
      conv => rhs; rw [e2, Nat.pow_add]
      exact (Nat.mul_mod _ _ _).symm
    · rw [if_neg he]
      have e2 : e = e / 2 + e / 2 + 1 := by omega
      conv => rhs; rw [e2, Nat.pow_succ, Nat.pow_add]
      rw [← Nat.mul_mod (a ^ (e / 2)) (a ^ (e / 2)) n, Nat.mod_mul_mod]

theorem pow_one_mod {n x : Nat} (h : x % n = 1 % n) (k : Nat) : x ^ k % n = 1 % n := by
  rw [Nat.pow_mod, h, ← Nat.pow_mod, Nat.one_pow]

/-- The exponents at which a power is 1 are closed under the greatest common divisor. -/
theorem pow_gcd_one (n g : Nat) (a b : Nat) : g ^ a % n = 1 % n → g ^ b % n = 1 % n → g ^ (Nat.gcd a b) % n = 1 % n := by
  induction a, b using Nat.gcd.induction with
  | H0 b => intro _ hb; simpa using hb
  | H1 a b ha ih =>
    intro h1 h2
    rw [Nat.gcd_rec]
    refine ih ?_ h1
    have hb : b = a * (b / a) + b % a := (Nat.div_add_mod b a).symm
    rw [hb, Nat.pow_add, Nat.pow_mul, Nat.mul_mod, pow_one_mod h1, ← Nat.mul_mod, Nat.one_mul] at h2
    exact h2

def Pr (q : Nat) : Prop := 1 < q ∧ ∀ d, d ∣ q → d = 1 ∨ d = q

theorem prime_divides_prod (m : Nat) : ∀ qs : List Nat, (∀ q ∈ qs, Pr q) → m ∣ qs.foldr (· * ·) 1 → m ≠ 1 → ∃ q ∈ qs, q ∣ m
  | [], _, h, hm => absurd (Nat.eq_one_of_dvd_one (by simpa using h)) hm
  | q :: qs, hp, h, hm => by
    rcases (hp q (by simp)).2 _ (Nat.gcd_dvd_right m q) with h1 | h1
    · have hd : m ∣ qs.foldr (· * ·) 1 := by
        refine Nat.Coprime.dvd_of_dvd_mul_left (show Nat.Coprime m q from h1) ?_
        simpa using h
      obtain ⟨q', hq', hd'⟩ := prime_divides_prod m qs (fun q hq => hp q (by simp [hq])) hd hm
      exact ⟨q', by simp [hq'], hd'⟩
    · exact ⟨q, by simp, by rw [← h1]; exact Nat.gcd_dvd_left m q⟩

theorem length_le_of_nodup_subset {α : Type} [DecidableEq α] : ∀ (l m : List α), l.Nodup → (∀ x ∈ l, x ∈ m) → l.length ≤ m.length
  | [], _, _, _ => by simp
  | x :: l, m, hn, hs => by
    have hx : x ∈ m := hs x (by simp)
    have hn' := List.nodup_cons.1 hn
    have := length_le_of_nodup_subset l (m.erase x) hn'.2 (fun y hy => (List.mem_erase_of_ne (fun e => hn'.1 (by rw [← e]; exact hy))).2 (hs y (by simp [hy])))
    rw [List.length_erase_of_mem hx] at this
    have h0 : 0 < m.length := List.length_pos_of_mem hx
    simp; omega

structure Gen (n g : Nat) : Prop where
  two : 1 < n
  one : g ^ (n - 1) % n = 1
  least : ∀ d, 0 < d → d < n - 1 → g ^ d % n ≠ 1

theorem Gen.of_factors (n g : Nat) (qs : List Nat) (h2 : 1 < n) (h1 : g ^ (n - 1) % n = 1) (hp : ∀ q ∈ qs, Pr q) (hprod : qs.foldr (· * ·) 1 = n - 1)
    (hne : ∀ q ∈ qs, g ^ ((n - 1) / q) % n ≠ 1) : Gen n g := by
  have o1 : 1 % n = 1 := Nat.mod_eq_of_lt h2
  refine ⟨h2, h1, fun d hd0 hd hg => ?_⟩
  have he : g ^ (Nat.gcd d (n - 1)) % n = 1 % n := pow_gcd_one n g d (n - 1) (by rw [hg, o1]) (by rw [h1, o1])
  obtain ⟨m, hm⟩ := Nat.gcd_dvd_right d (n - 1)
  have hle : Nat.gcd d (n - 1) ≤ d := Nat.gcd_le_left _ hd0
  generalize Nat.gcd d (n - 1) = e at *
  have hm1 : m ≠ 1 := by rintro rfl; omega
  obtain ⟨q, hq, m', hm'⟩ := prime_divides_prod m qs hp (by rw [hprod, hm]; exact Nat.dvd_mul_left _ _) hm1
  apply hne q hq
  have hq0 : 0 < q := by have := (hp q hq).1; omega
  have : (n - 1) / q = e * m' := by
    rw [hm, hm', Nat.mul_left_comm, Nat.mul_div_cancel_left _ hq0]
  rw [this, Nat.pow_mul, pow_one_mod he, o1]

theorem Gen.pos {n g : Nat} (h : Gen n g) (k : Nat) (hk : k ≤ n - 1) : 0 < g ^ k % n := by
  rcases Nat.eq_zero_or_pos (g ^ k % n) with h0 | h0
  · have := h.one
    rw [show n - 1 = k + (n - 1 - k) by omega, Nat.pow_add, Nat.mul_mod, h0, Nat.zero_mul, Nat.zero_mod] at this
    omega
  · exact h0

theorem Gen.inj {n g : Nat} (h : Gen n g) (i j : Nat) (hij : i < j) (hj : j < n - 1) : g ^ i % n ≠ g ^ j % n := by
  intro he
  apply h.least (j - i) (by omega) (by omega)
  have e1 : g ^ j * g ^ (n - 1 - i) = g ^ (j - i) * g ^ (n - 1) := by
    rw [← Nat.pow_add, ← Nat.pow_add]; congr 1; omega
  have e2 : g ^ i * g ^ (n - 1 - i) = g ^ (n - 1) := by
    rw [← Nat.pow_add]; congr 1; omega
  have e3 : g ^ (j - i) * g ^ (n - 1) % n = g ^ (n - 1) % n := by
    rw [← e1, Nat.mul_mod, ← he, ← Nat.mul_mod, e2]
  rw [Nat.mul_mod, h.one, Nat.mul_one, Nat.mod_mod] at e3
  exact e3

theorem Gen.surj {n g : Nat} (h : Gen n g) (a : Nat) (h0 : 0 < a) (ha : a < n) : ∃ k, k < n - 1 ∧ g ^ k % n = a := by
  let l := (List.range (n - 1)).map fun k => g ^ k % n
  have hn : l.Nodup := by
    show ((List.range (n - 1)).map fun k => g ^ k % n).Nodup
    rw [List.Nodup, List.pairwise_map, List.pairwise_iff_getElem]
    intro i j hi hj hij
    rw [List.getElem_range, List.getElem_range]
    exact h.inj i j hij (by simpa using hj)
  by_cases hm : a ∈ l
  · obtain ⟨k, hk, e⟩ := List.mem_map.1 hm
    exact ⟨k, List.mem_range.1 hk, e⟩
  · have := length_le_of_nodup_subset (a :: l) (List.range' 1 (n - 1)) (List.nodup_cons.2 ⟨hm, hn⟩) (fun x hx => by
      rw [List.mem_range'_1]
      have h2 := h.two
      rcases List.mem_cons.1 hx with rfl | hx
      · omega
      · obtain ⟨k, hk, rfl⟩ := List.mem_map.1 hx
        have := List.mem_range.1 hk
        have p := h.pos k (by omega)
        have := Nat.mod_lt (g ^ k) (show 0 < n by omega)
        omega)
    simp [l] at this
    omega

theorem Gen.fermat {n g : Nat} (h : Gen n g) (a : Nat) (ha : a % n ≠ 0) : a ^ (n - 1) % n = 1 := by
  have h2 := h.two
  obtain ⟨k, _, hk⟩ := h.surj (a % n) (by omega) (Nat.mod_lt _ (by omega))
  rw [Nat.pow_mod, ← hk, ← Nat.pow_mod, ← Nat.pow_mul, Nat.mul_comm, Nat.pow_mul]
  have o1 : 1 % n = 1 := Nat.mod_eq_of_lt h2
  rw [pow_one_mod (by rw [h.one, o1]), o1]

theorem Gen.prime {n g : Nat} (h : Gen n g) : Pr n := by
  have h2 := h.two
  refine ⟨h2, fun d hd => ?_⟩
  have hle := Nat.le_of_dvd (by omega) hd
  rcases Nat.lt_or_ge d n with hlt | hge
  · left
    have h0 : 0 < d := Nat.pos_of_dvd_of_pos hd (by omega)
    have hf := h.fermat d (by rw [Nat.mod_eq_of_lt hlt]; omega)
    have hdvd : d ∣ d ^ (n - 1) % n := (Nat.dvd_mod_iff hd).2 (by have := Nat.pow_dvd_pow d (show 1 ≤ n - 1 by omega); rwa [Nat.pow_one] at this)
    rw [hf] at hdvd
    exact Nat.eq_one_of_dvd_one hdvd
  · right; omega

def smallPrime (q : Nat) : Bool := decide (1 < q) && decide (∀ d, d ≤ q → d ∣ q → d = 1 ∨ d = q)
theorem Pr.small {q : Nat} (h : smallPrime q = true) : Pr q := by
  simp only [smallPrime, Bool.and_eq_true, decide_eq_true_eq] at h
  exact ⟨h.1, fun d hd => h.2 d (Nat.le_of_dvd (by omega) hd) hd⟩

/-- A certificate that a kernel reckons: the powers by squaring, the factors' product. -/
def cert (n g : Nat) (qs : List Nat) : Bool :=
  decide (1 < n) && decide (n < 2 ^ 64) && decide (pw n g 64 (n - 1) = 1) && decide (qs.foldr (· * ·) 1 = n - 1) && qs.all fun q => decide (pw n g 64 ((n - 1) / q) ≠ 1)

theorem Gen.of_cert {n g : Nat} {qs : List Nat} (hp : ∀ q ∈ qs, Pr q) (h : cert n g qs = true) : Gen n g := by
  simp only [cert, Bool.and_eq_true, decide_eq_true_eq, List.all_eq_true] at h
  obtain ⟨⟨⟨⟨h1, h2⟩, h3⟩, h4⟩, h5⟩ := h
  rw [pw_eq _ _ _ _ (by omega)] at h3
  refine Gen.of_factors n g qs h1 h3 hp h4 fun q hq => ?_
  have := h5 q hq
  rwa [pw_eq _ _ _ _ (Nat.lt_of_le_of_lt (Nat.div_le_self _ _) (by omega))] at this

theorem genP : Gen 2305843009213693951 37 := by
  refine Gen.of_cert (qs := [2, 3, 3, 5, 5, 7, 11, 13, 31, 41, 61, 151, 331, 1321]) ?_ (by decide +kernel)
  have h : ([2, 3, 3, 5, 5, 7, 11, 13, 31, 41, 61, 151, 331, 1321].all smallPrime) = true := by decide +kernel
  rw [List.all_eq_true] at h
  exact fun q hq => Pr.small (h q hq)
end Gs
