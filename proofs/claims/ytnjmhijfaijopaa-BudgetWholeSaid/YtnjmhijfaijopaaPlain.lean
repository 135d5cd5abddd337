/- Several texts of one kind, one behind the other: Num, FieldMath. -/
/- Plain facts on whole numbers: powers modulo n, and Fermat's law for a modulus with a generator; no program is named here. -/
namespace Gs

/-- a^e modulo n, by squaring. -/
def pw (n a : Nat) : Nat → Nat → Nat
  | 0, _ => 1 % n
  | f + 1, e => if e % 2 = 0 then (pw n a f (e / 2)) * (pw n a f (e / 2)) % n else (pw n a f (e / 2)) * (pw n a f (e / 2)) % n * a % n

theorem pw_eq (n a : Nat) : ∀ f e : Nat, e < 2 ^ f → pw n a f e = a ^ e % n
  | 0, e, h => by
    have : e = 0 := by simp at h; omega
    subst this
    simp [pw]
  | f + 1, e, h => by
    have h2 : e / 2 < 2 ^ f := by rw [Nat.pow_succ] at h; omega
    have ih := pw_eq n a f (e / 2) h2
    unfold pw
    rw [ih]
    by_cases he : e % 2 = 0
    · rw [if_pos he]
      have e2 : e = e / 2 + e / 2 := by omega
      conv => rhs; rw [e2, Nat.pow_add]
      exact (Nat.mul_mod _ _ _).symm
    · rw [if_neg he]
      have e2 : e = e / 2 + e / 2 + 1 := by omega
      conv => rhs; rw [e2, Nat.pow_succ, Nat.pow_add]
      rw [← Nat.mul_mod (a ^ (e / 2)) (a ^ (e / 2)) n, Nat.mod_mul_mod]

theorem pow_one_mod {n x : Nat} (h : x % n = 1 % n) (k : Nat) : x ^ k % n = 1 % n := by
  rw [Nat.pow_mod, h, ← Nat.pow_mod, Nat.one_pow]

/-- The exponents at which a power is 1 are closed under the greatest common divisor. -/
theorem pow_gcd_one (n g : Nat) (a b : Nat) : g ^ a % n = 1 % n → g ^ b % n = 1 % n → g ^ (Nat.gcd a b) % n = 1 % n := by
  induction a, b using Nat.gcd.induction with
  | H0 b => intro _ hb; simpa using hb
  | H1 a b ha ih =>
    intro h1 h2
    rw [Nat.gcd_rec]
    refine ih ?_ h1
    have hb : b = a * (b / a) + b % a := (Nat.div_add_mod b a).symm
    rw [hb, Nat.pow_add, Nat.pow_mul, Nat.mul_mod, pow_one_mod h1, ← Nat.mul_mod, Nat.one_mul] at h2
    exact h2

def Pr (q : Nat) : Prop := 1 < q ∧ ∀ d, d ∣ q → d = 1 ∨ d = q

theorem prime_divides_prod (m : Nat) : ∀ qs : List Nat, (∀ q ∈ qs, Pr q) → m ∣ qs.foldr (· * ·) 1 → m ≠ 1 → ∃ q ∈ qs, q ∣ m
  | [], _, h, hm => absurd (Nat.eq_one_of_dvd_one (by simpa using h)) hm
  | q :: qs, hp, h, hm => by
    rcases (hp q (by simp)).2 _ (Nat.gcd_dvd_right m q) with h1 | h1
    · have hd : m ∣ qs.foldr (· * ·) 1 := by
        refine Nat.Coprime.dvd_of_dvd_mul_left (show Nat.Coprime m q from h1) ?_
        simpa using h
      obtain ⟨q', hq', hd'⟩ := prime_divides_prod m qs (fun q hq => hp q (by simp [hq])) hd hm
      exact ⟨q', by simp [hq'], hd'⟩
    · exact ⟨q, by simp, by rw [← h1]; exact Nat.gcd_dvd_left m q⟩

theorem length_le_of_nodup_subset {α : Type} [DecidableEq α] : ∀ (l m : List α), l.Nodup → (∀ x ∈ l, x ∈ m) → l.length ≤ m.length
  | [], _, _, _ => by simp
  | x :: l, m, hn, hs => by
    have hx : x ∈ m := hs x (by simp)
    have hn' := List.nodup_cons.1 hn
    have := length_le_of_nodup_subset l (m.erase x) hn'.2 (fun y hy => (List.mem_erase_of_ne (fun e => hn'.1 (by rw [← e]; exact hy))).2 (hs y (by simp [hy])))
    rw [List.length_erase_of_mem hx] at this
    have h0 : 0 < m.length := List.length_pos_of_mem hx
    simp; omega

structure Gen (n g : Nat) : Prop where
  two : 1 < n
  one : g ^ (n - 1) % n = 1
  least : ∀ d, 0 < d → d < n - 1 → g ^ d % n ≠ 1

theorem Gen.of_factors (n g : Nat) (qs : List Nat) (h2 : 1 < n) (h1 : g ^ (n - 1) % n = 1) (hp : ∀ q ∈ qs, Pr q) (hprod : qs.foldr (· * ·) 1 = n - 1)
    (hne : ∀ q ∈ qs, g ^ ((n - 1) / q) % n ≠ 1) : Gen n g := by
  have o1 : 1 % n = 1 := Nat.mod_eq_of_lt h2
  refine ⟨h2, h1, fun d hd0 hd hg => ?_⟩
  have he : g ^ (Nat.gcd d (n - 1)) % n = 1 % n := pow_gcd_one n g d (n - 1) (by rw [hg, o1]) (by rw [h1, o1])
  obtain ⟨m, hm⟩ := Nat.gcd_dvd_right d (n - 1)
  have hle : Nat.gcd d (n - 1) ≤ d := Nat.gcd_le_left _ hd0
  generalize Nat.gcd d (n - 1) = e at *
  have hm1 : m ≠ 1 := by rintro rfl; omega
  obtain ⟨q, hq, m', hm'⟩ := prime_divides_prod m qs hp (by rw [hprod, hm]; exact Nat.dvd_mul_left _ _) hm1
  apply hne q hq
  have hq0 : 0 < q := by have := (hp q hq).1; omega
  have : (n - 1) / q = e * m' := by
    rw [hm, hm', Nat.mul_left_comm, Nat.mul_div_cancel_left _ hq0]
  rw [this, Nat.pow_mul, pow_one_mod he, o1]

theorem Gen.pos {n g : Nat} (h : Gen n g) (k : Nat) (hk : k ≤ n - 1) : 0 < g ^ k % n := by
  rcases Nat.eq_zero_or_pos (g ^ k % n) with h0 | h0
  · have := h.one
    rw [show n - 1 = k + (n - 1 - k) by omega, Nat.pow_add, Nat.mul_mod, h0, Nat.zero_mul, Nat.zero_mod] at this
    omega
  · exact h0

theorem Gen.inj {n g : Nat} (h : Gen n g) (i j : Nat) (hij : i < j) (hj : j < n - 1) : g ^ i % n ≠ g ^ j % n := by
  intro he
  apply h.least (j - i) (by omega) (by omega)
  have e1 : g ^ j * g ^ (n - 1 - i) = g ^ (j - i) * g ^ (n - 1) := by
    rw [← Nat.pow_add, ← Nat.pow_add]; congr 1; omega
  have e2 : g ^ i * g ^ (n - 1 - i) = g ^ (n - 1) := by
    rw [← Nat.pow_add]; congr 1; omega
  have e3 : g ^ (j - i) * g ^ (n - 1) % n = g ^ (n - 1) % n := by
    rw [← e1, Nat.mul_mod, ← he, ← Nat.mul_mod, e2]
  rw [Nat.mul_mod, h.one, Nat.mul_one, Nat.mod_mod] at e3
  exact e3

theorem Gen.surj {n g : Nat} (h : Gen n g) (a : Nat) (h0 : 0 < a) (ha : a < n) : ∃ k, k < n - 1 ∧ g ^ k % n = a := by
  let l := (List.range (n - 1)).map fun k => g ^ k % n
  have hn : l.Nodup := by
    show ((List.range (n - 1)).map fun k => g ^ k % n).Nodup
    rw [List.Nodup, List.pairwise_map, List.pairwise_iff_getElem]
    intro i j hi hj hij
    rw [List.getElem_range, List.getElem_range]
    exact h.inj i j hij (by simpa using hj)
  by_cases hm : a ∈ l
  · obtain ⟨k, hk, e⟩ := List.mem_map.1 hm
    exact ⟨k, List.mem_range.1 hk, e⟩
  · have := length_le_of_nodup_subset (a :: l) (List.range' 1 (n - 1)) (List.nodup_cons.2 ⟨hm, hn⟩) (fun x hx => by
      rw [List.mem_range'_1]
      have h2 := h.two
      rcases List.mem_cons.1 hx with rfl | hx
      · omega
      · obtain ⟨k, hk, rfl⟩ := List.mem_map.1 hx
        have := List.mem_range.1 hk
        have p := h.pos k (by omega)
        have := Nat.mod_lt (g ^ k) (show 0 < n by omega)
        omega)
    simp [l] at this
    omega

theorem Gen.fermat {n g : Nat} (h : Gen n g) (a : Nat) (ha : a % n ≠ 0) : a ^ (n - 1) % n = 1 := by
  have h2 := h.two
  obtain ⟨k, _, hk⟩ := h.surj (a % n) (by omega) (Nat.mod_lt _ (by omega))
  rw [Nat.pow_mod, ← hk, ← Nat.pow_mod, ← Nat.pow_mul, Nat.mul_comm, Nat.pow_mul]
  have o1 : 1 % n = 1 := Nat.mod_eq_of_lt h2
  rw [pow_one_mod (by rw [h.one, o1]), o1]

theorem Gen.prime {n g : Nat} (h : Gen n g) : Pr n := by
  have h2 := h.two
  refine ⟨h2, fun d hd => ?_⟩
  have hle := Nat.le_of_dvd (by omega) hd
  rcases Nat.lt_or_ge d n with hlt | hge
  · left
    have h0 : 0 < d := Nat.pos_of_dvd_of_pos hd (by omega)
    have hf := h.fermat d (by rw [Nat.mod_eq_of_lt hlt]; omega)
    have hdvd : d ∣ d ^ (n - 1) % n := (Nat.dvd_mod_iff hd).2 (by have := Nat.pow_dvd_pow d (show 1 ≤ n - 1 by omega); rwa [Nat.pow_one] at this)
    rw [hf] at hdvd
    exact Nat.eq_one_of_dvd_one hdvd
  · right; omega

def smallPrime (q : Nat) : Bool := decide (1 < q) && decide (∀ d, d ≤ q → d ∣ q → d = 1 ∨ d = q)
theorem Pr.small {q : Nat} (h : smallPrime q = true) : Pr q := by
  simp only [smallPrime, Bool.and_eq_true, decide_eq_true_eq] at h
  exact ⟨h.1, fun d hd => h.2 d (Nat.le_of_dvd (by omega) hd) hd⟩

/-- A certificate that a kernel reckons: the powers by squaring, the factors' product. -/
def cert (n g : Nat) (qs : List Nat) : Bool :=
  decide (1 < n) && decide (n < 2 ^ 64) && decide (pw n g 64 (n - 1) = 1) && decide (qs.foldr (· * ·) 1 = n - 1) && qs.all fun q => decide (pw n g 64 ((n - 1) / q) ≠ 1)

theorem Gen.of_cert {n g : Nat} {qs : List Nat} (hp : ∀ q ∈ qs, Pr q) (h : cert n g qs = true) : Gen n g := by
  simp only [cert, Bool.and_eq_true, decide_eq_true_eq, List.all_eq_true] at h
  obtain ⟨⟨⟨⟨h1, h2⟩, h3⟩, h4⟩, h5⟩ := h
  rw [pw_eq _ _ _ _ (by omega)] at h3
  refine Gen.of_factors n g qs h1 h3 hp h4 fun q hq => ?_
  have := h5 q hq
  rwa [pw_eq _ _ _ _ (Nat.lt_of_le_of_lt (Nat.div_le_self _ _) (by omega))] at this

theorem genP : Gen 2305843009213693951 37 := by
  refine Gen.of_cert (qs := [2, 3, 3, 5, 5, 7, 11, 13, 31, 41, 61, 151, 331, 1321]) ?_ (by decide +kernel)
  have h : ([2, 3, 3, 5, 5, 7, 11, 13, 31, 41, 61, 151, 331, 1321].all smallPrime) = true := by decide +kernel
  rw [List.all_eq_true] at h
  exact fun q hq => Pr.small (h q hq)
end Gs

/- Plain facts on the field of 2^61 - 1: sums, products and powers of whole numbers modulo it; no program is named here. -/
namespace Gs

theorem emod_mul_l (a b n : Int) : a % n * b % n = a * b % n := by
  rw [Int.mul_emod, Int.emod_emod, ← Int.mul_emod]
theorem emod_mul_r (a b n : Int) : a * (b % n) % n = a * b % n := by
  rw [Int.mul_emod, Int.emod_emod, ← Int.mul_emod]
theorem emod_pow (a n : Int) (k : Nat) : (a % n) ^ k % n = a ^ k % n := by
  induction k with
  | zero => simp
  | succ k ih => rw [Int.pow_succ, Int.pow_succ, ← emod_mul_l, ih, emod_mul_l, emod_mul_r]

def PP : Int := 2305843009213693951
theorem PP_pos : 0 < PP := by unfold PP; omega
theorem PP_eq : PP = 2305843009213693951 := rfl

/-- a is one of 64 bits. -/
def U64 (a : Int) : Prop := 0 ≤ a ∧ a < 18446744073709551616
def El (a : Int) : Prop := 0 ≤ a ∧ a < PP
theorem El.u64 {a : Int} (h : El a) : U64 a := by
  have := h.1; have := h.2; unfold PP at this; unfold U64; omega
theorem el_mod (a : Int) : El (a % PP) := by unfold El PP; omega

def fadd (a b : Int) : Int := (a + b) % PP
def fsub (a b : Int) : Int := (a - b) % PP
def fmul (a b : Int) : Int := a * b % PP
def fpow (a : Int) (n : Nat) : Int := a ^ n % PP
/-- P - 2, and P - 1. -/
def expI : Nat := 2305843009213693949
def expF : Nat := 2305843009213693950
theorem expF_eq : 1 + expI = expF := by decide +kernel
def finv (a : Int) : Int := fpow a expI
def fred (a : Int) : Int := a % PP

theorem fadd_el (a b : Int) : El (fadd a b) := el_mod _
theorem fsub_el (a b : Int) : El (fsub a b) := el_mod _
theorem fmul_el (a b : Int) : El (fmul a b) := el_mod _
theorem fpow_el (a : Int) (n : Nat) : El (fpow a n) := el_mod _
theorem fred_el (a : Int) : El (fred a) := el_mod _
theorem finv_el (a : Int) : El (finv a) := el_mod _
theorem El.red {a : Int} (h : El a) : fred a = a := Int.emod_eq_of_lt h.1 h.2

theorem fred_fred (a : Int) : fred (fred a) = fred a := Int.emod_emod a PP
theorem fadd_comm (a b : Int) : fadd a b = fadd b a := by unfold fadd; rw [Int.add_comm]
theorem fmul_comm (a b : Int) : fmul a b = fmul b a := by unfold fmul; rw [Int.mul_comm]
theorem fadd_assoc (a b c : Int) : fadd (fadd a b) c = fadd a (fadd b c) := by unfold fadd; rw [Int.emod_add_emod, Int.add_emod_emod, Int.add_assoc]
theorem fmul_assoc (a b c : Int) : fmul (fmul a b) c = fmul a (fmul b c) := by unfold fmul; rw [emod_mul_l, emod_mul_r, Int.mul_assoc]
theorem fmul_add (a b c : Int) : fmul a (fadd b c) = fadd (fmul a b) (fmul a c) := by unfold fmul fadd; rw [emod_mul_r, Int.emod_add_emod, Int.add_emod_emod, Int.mul_add]
theorem fmul_sub (a b c : Int) : fmul a (fsub b c) = fsub (fmul a b) (fmul a c) := by unfold fmul fsub; rw [emod_mul_r, Int.emod_sub_emod, Int.sub_emod_emod, Int.mul_sub]
theorem fsub_add (a b : Int) : fsub (fadd a b) b = fred a := by unfold fsub fadd fred; rw [Int.emod_sub_emod]; congr 1; omega
theorem fadd_zero (a : Int) : fadd a 0 = fred a := by unfold fadd fred; rw [Int.add_zero]
theorem zero_fadd (a : Int) : fadd 0 a = fred a := by unfold fadd fred; rw [Int.zero_add]
theorem fmul_one (a : Int) : fmul a 1 = fred a := by unfold fmul fred; rw [Int.mul_one]
theorem fmul_zero (a : Int) : fmul a 0 = 0 := by unfold fmul; rw [Int.mul_zero]; rfl
theorem zero_fmul (a : Int) : fmul 0 a = 0 := by unfold fmul; rw [Int.zero_mul]; rfl
theorem one_fmul (a : Int) : fmul 1 a = fred a := by unfold fmul fred; rw [Int.one_mul]

theorem fadd_red (a b : Int) : fadd (fred a) (fred b) = fadd a b := by unfold fadd fred; rw [Int.emod_add_emod, Int.add_emod_emod]
theorem fsub_red (a b : Int) : fsub (fred a) (fred b) = fsub a b := by unfold fsub fred; rw [Int.emod_sub_emod, Int.sub_emod_emod]
theorem fmul_red (a b : Int) : fmul (fred a) (fred b) = fmul a b := by unfold fmul fred; rw [emod_mul_l, emod_mul_r]
theorem fpow_red (a : Int) (n : Nat) : fpow (fred a) n = fpow a n := emod_pow a PP n
theorem fadd_red_r (a b : Int) : fadd a (fred b) = fadd a b := by unfold fadd fred; rw [Int.add_emod_emod]
theorem fadd_red_l (a b : Int) : fadd (fred a) b = fadd a b := by unfold fadd fred; rw [Int.emod_add_emod]
theorem fmul_red_r (a b : Int) : fmul a (fred b) = fmul a b := by unfold fmul fred; rw [emod_mul_r]
theorem fmul_red_l (a b : Int) : fmul (fred a) b = fmul a b := by unfold fmul fred; rw [emod_mul_l]
theorem red_fadd (a b : Int) : fred (fadd a b) = fadd a b := (fadd_el a b).red
theorem red_fmul (a b : Int) : fred (fmul a b) = fmul a b := (fmul_el a b).red

theorem fpow_zero (a : Int) : fpow a 0 = 1 := by unfold fpow; rw [Int.pow_zero]; rfl
theorem fpow_one (a : Int) : fpow a 1 = fred a := by unfold fpow fred; rw [Int.pow_one]
theorem fpow_add (a : Int) (n m : Nat) : fmul (fpow a n) (fpow a m) = fpow a (n + m) := by unfold fmul fpow; rw [emod_mul_l, emod_mul_r, Int.pow_add]
theorem fpow_mul (a b : Int) (n : Nat) : fpow (fmul a b) n = fmul (fpow a n) (fpow b n) := by
  unfold fmul fpow; rw [emod_pow, emod_mul_l, emod_mul_r, Int.mul_pow]
theorem fpow_two (a : Int) (n : Nat) : fpow (fmul a a) n = fpow a (2 * n) := by
  rw [fpow_mul, fpow_add]; congr 1; omega

/-- The round of a power by squaring: p times a^n stays. -/
def powInv (a0 : Int) (n0 : Nat) (p a : Int) (n : Nat) : Prop := fmul p (fpow a n) = fpow a0 n0
theorem powInv_start (a : Int) (n : Nat) : powInv a n 1 a n := by
  unfold powInv; rw [one_fmul]; exact (fpow_el a n).red
theorem powInv_odd {a0 p a : Int} {n0 n : Nat} (h : powInv a0 n0 p a n) (ho : n % 2 = 1) : powInv a0 n0 (fmul p a) (fmul a a) (n / 2) := by
  unfold powInv at *
  rw [fpow_two, fmul_assoc, ← h]
  congr 1
  have : fmul a (fpow a (2 * (n / 2))) = fmul (fpow a 1) (fpow a (2 * (n / 2))) := by rw [fpow_one, fmul_red_l]
  rw [this, fpow_add]; congr 1; omega
theorem powInv_even {a0 p a : Int} {n0 n : Nat} (h : powInv a0 n0 p a n) (ho : n % 2 = 0) : powInv a0 n0 p (fmul a a) (n / 2) := by
  unfold powInv at *
  rw [fpow_two, ← h]
  congr 2; omega
theorem powInv_end {a0 p a : Int} {n0 : Nat} (h : powInv a0 n0 p a 0) (hp : El p) : p = fpow a0 n0 := by
  unfold powInv at h; rw [fpow_zero, fmul_one, hp.red] at h; exact h

/-- The round of a product by doubling. -/
def mulInv (a0 b0 o a : Int) (b : Nat) : Prop := fadd o (fmul a b) = fmul a0 b0
theorem mulInv_start (a b : Int) (n : Nat) (h : fred b = n) : mulInv a b 0 (fred a) n := by
  unfold mulInv; rw [zero_fadd, red_fmul, ← h, fmul_red]
theorem mulInv_odd {a0 b0 o a : Int} {b : Nat} (h : mulInv a0 b0 o a b) (ho : b % 2 = 1) : mulInv a0 b0 (fadd o a) (fadd a a) (b / 2 : Nat) := by
  unfold mulInv at *
  rw [fadd_assoc, ← h]
  unfold fadd fmul
  simp only [Int.add_emod_emod, emod_mul_l]
  congr 1
  have : ((b : Nat) : Int) = 2 * ((b / 2 : Nat) : Int) + 1 := by omega
  rw [this, Int.mul_add, Int.add_mul, ← Int.mul_assoc, Int.mul_comm a 2, Int.mul_assoc]
  omega
theorem mulInv_even {a0 b0 o a : Int} {b : Nat} (h : mulInv a0 b0 o a b) (ho : b % 2 = 0) : mulInv a0 b0 o (fadd a a) (b / 2 : Nat) := by
  unfold mulInv at *
  rw [← h]
  unfold fadd fmul
  simp only [Int.add_emod_emod, emod_mul_l]
  congr 1
  have : ((b : Nat) : Int) = 2 * ((b / 2 : Nat) : Int) := by omega
  rw [this, Int.add_mul, ← Int.mul_assoc, Int.mul_comm a 2, Int.mul_assoc]
  omega
theorem mulInv_end {a0 b0 o a : Int} (h : mulInv a0 b0 o a 0) (ho : El o) : o = fmul a0 b0 := by
  unfold mulInv at h; rw [show ((0 : Nat) : Int) = 0 from rfl, fmul_zero, fadd_zero, ho.red] at h; exact h

/-- What is not 0 has the power P - 1, which is 1. -/
theorem fermat_nat (n e : Nat) (he : e = 2305843009213693951 - 1) (h : n % 2305843009213693951 ≠ 0) : n ^ e % 2305843009213693951 = 1 := by
  rw [he]; exact genP.fermat n h
theorem fermat {a : Int} (h : fred a ≠ 0) : fpow a expF = 1 := by
  have he := fred_el a
  obtain ⟨n, hn⟩ := Int.eq_ofNat_of_zero_le he.1
  rw [← fpow_red, hn]
  have h1 : n % 2305843009213693951 ≠ 0 := by
    have h2 := he.2; rw [hn] at h2; rw [hn] at h; unfold PP at h2
    rw [Nat.mod_eq_of_lt (by omega)]; omega
  have h2 := fermat_nat n expF (by decide +kernel) h1
  generalize expF = e at *
  have h3 : ((n ^ e % 2305843009213693951 : Nat) : Int) = 1 := by rw [h2]; rfl
  rw [Int.natCast_emod, Int.natCast_pow] at h3
  exact h3
theorem fmul_inv {a : Int} (h : fred a ≠ 0) : fmul a (finv a) = 1 := by
  unfold finv
  have : fmul a (fpow a expI) = fmul (fpow a 1) (fpow a expI) := by rw [fpow_one, fmul_red_l]
  rw [this, fpow_add, expF_eq]; exact fermat h
theorem fmul_eq_zero (a b : Int) : fmul a b = 0 ↔ fred a = 0 ∨ fred b = 0 := by
  constructor
  · intro h
    by_cases ha : fred a = 0
    · exact .inl ha
    · right
      have h1 : fmul (finv a) (fmul a b) = 0 := by rw [h, fmul_zero]
      rw [← fmul_assoc, fmul_comm (finv a), fmul_inv ha, one_fmul] at h1
      exact h1
  · rintro (h | h)
    · rw [← fmul_red_l, h, zero_fmul]
    · rw [← fmul_red_r, h, fmul_zero]
theorem finv_ne {a : Int} (h : fred a ≠ 0) : fred (finv a) ≠ 0 := by
  intro h0
  have := fmul_inv h
  rw [(fmul_eq_zero _ _).2 (.inr h0)] at this
  omega
theorem inv_unique {a x : Int} (h : fmul a x = 1) (hx : El x) : x = finv a := by
  have ha : fred a ≠ 0 := fun h0 => by rw [(fmul_eq_zero _ _).2 (.inl h0)] at h; omega
  have : fmul (finv a) (fmul a x) = finv a := by rw [h, fmul_one, (finv_el a).red]
  rw [← fmul_assoc, fmul_comm (finv a), fmul_inv ha, one_fmul, hx.red] at this
  exact this
theorem finv_finv {a : Int} (h : fred a ≠ 0) : finv (finv a) = fred a :=
  (inv_unique (by rw [fmul_red_r, fmul_comm]; exact fmul_inv h) (fred_el a)).symm
theorem finv_mul {a b : Int} (ha : fred a ≠ 0) (hb : fred b ≠ 0) : finv (fmul a b) = fmul (finv a) (finv b) := by
  refine (inv_unique ?_ (fmul_el _ _)).symm
  rw [fmul_comm (finv a), fmul_assoc, ← fmul_assoc b, fmul_inv hb, one_fmul, fmul_red_r, fmul_inv ha]
end Gs
namespace Gs
/-- The number that bytes are, the lowest first. -/
def num : List Int → Int
  | [] => 0
  | x :: r => x + 256 * num r
theorem num_lt : ∀ xs : List Int, (∀ x ∈ xs, 0 ≤ x ∧ x < 256) → 0 ≤ num xs ∧ num xs < (2 : Int) ^ (8 * xs.length)
  | [], _ => by simp [num]
  | x :: r, h => by
    have ih := num_lt r fun y hy => h y (by simp [hy])
    have hx := h x (by simp)
    simp only [num, List.length_cons, Nat.mul_add, Nat.mul_one, Int.pow_add]
    have : (2 : Int) ^ 8 = 256 := by decide
    rw [this]; omega
theorem num_append : ∀ xs ys : List Int, num (xs ++ ys) = num xs + (2 : Int) ^ (8 * xs.length) * num ys
  | [], ys => by simp [num]
  | x :: r, ys => by
    simp only [List.cons_append, num, num_append r ys, List.length_cons, Nat.mul_add, Nat.mul_one, Int.pow_add]
    have : (2 : Int) ^ 8 = 256 := by decide
    rw [this, Int.mul_add, ← Int.mul_assoc, Int.mul_comm 256 ((2 : Int) ^ (8 * r.length))]; omega
end Gs
namespace Gs
/-- A polynomial's value. -/
def feval (x : Int) : List Int → Int
  | [] => 0
  | c :: r => fadd (fmul (feval x r) x) c
theorem feval_el (x : Int) : ∀ l, El (feval x l)
  | [] => by unfold feval El PP; omega
  | _ :: _ => fadd_el _ _
theorem feval_drop (x : Int) (l : List Int) (k : Nat) (h : k < l.length) : feval x (l.drop k) = fadd (fmul (feval x (l.drop (k + 1))) x) (l[k]?.getD 0) := by
  rw [List.drop_eq_getElem_cons h, List.getElem?_eq_getElem h]; rfl
/-- The round of a value from the first part on: what is summed up, and the rest times the unit. -/
def evInv (x : Int) (l : List Int) (out unit : Int) (k : Nat) : Prop := fadd out (fmul unit (feval x (l.drop k))) = feval x l
theorem evInv_start (x : Int) (l : List Int) : evInv x l 0 1 0 := by
  unfold evInv; rw [List.drop_zero, one_fmul, (feval_el x l).red, zero_fadd, (feval_el x l).red]
theorem evInv_step {x : Int} {l : List Int} {out unit : Int} {k : Nat} (h : evInv x l out unit k) (hk : k < l.length) :
    evInv x l (fadd out (fmul (l[k]?.getD 0) unit)) (fmul unit x) (k + 1) := by
  unfold evInv at *
  rw [← h, feval_drop x l k hk, fmul_add, fmul_assoc, fadd_assoc, fmul_comm x (feval x _), fmul_comm unit (l[k]?.getD 0), fadd_comm (fmul (l[k]?.getD 0) unit)]
theorem evInv_end {x : Int} {l : List Int} {out unit : Int} (h : evInv x l out unit l.length) (ho : El out) : out = feval x l := by
  unfold evInv at h; rw [List.drop_length, feval, fmul_zero, fadd_zero, ho.red] at h; exact h

/-- The element number i of bytes, seven by seven. -/
def elm (b : List Int) (i : Nat) : Int := num ((b.drop (7 * i)).take 7)
def fof (b : List Int) : List Int := (List.range ((b.length + 6) / 7)).map (elm b)
def fofTo (b : List Int) (k : Nat) : List Int := (List.range k).map (elm b)
theorem fofTo_succ (b : List Int) (k : Nat) : fofTo b (k + 1) = fofTo b k ++ [elm b k] := by simp [fofTo, List.range_succ]
theorem fofTo_length (b : List Int) (k : Nat) : (fofTo b k).length = k := by simp [fofTo]
theorem fof_eq (b : List Int) : fof b = fofTo b ((b.length + 6) / 7) := rfl
theorem fof_length (b : List Int) : (fof b).length = (b.length + 6) / 7 := by simp [fof]
end Gs
namespace Gs
/-- One byte more of an element: t of its bytes have been taken, u is the unit. -/
theorem num_step (b : List Int) (j t : Nat) (h : 7 * j + t < b.length) :
    num ((b.drop (7 * j)).take (t + 1)) = num ((b.drop (7 * j)).take t) + 2 ^ (8 * t) * b[7 * j + t] := by
  have hl : t < (b.drop (7 * j)).length := by simp; omega
  rw [List.take_succ_eq_append_getElem hl, num_append]
  have : ((b.drop (7 * j)).take t).length = t := by simp; omega
  rw [this]; simp [num]
theorem num_bound (b : List Int) (hb : ∀ x ∈ b, 0 ≤ x ∧ x < 256) (j t : Nat) (ht : t ≤ 7) : 0 ≤ num ((b.drop (7 * j)).take t) ∧ num ((b.drop (7 * j)).take t) < 72057594037927936 := by
  have h := num_lt ((b.drop (7 * j)).take t) fun x hx => hb x (List.mem_of_mem_drop (List.mem_of_mem_take hx))
  have hl : ((b.drop (7 * j)).take t).length ≤ 7 := by simp; omega
  refine ⟨h.1, Int.lt_of_lt_of_le h.2 ?_⟩
  have e : (72057594037927936 : Int) = 2 ^ 56 := by decide
  rw [e]
  exact_mod_cast Nat.pow_le_pow_right (show 0 < 2 by omega) (show 8 * ((b.drop (7 * j)).take t).length ≤ 56 by omega)
theorem unit_bound (t : Nat) (ht : t ≤ 7) : (1 : Int) ≤ 2 ^ (8 * t) ∧ (2 : Int) ^ (8 * t) ≤ 72057594037927936 := by
  have e : (72057594037927936 : Int) = 2 ^ 56 := by decide
  rw [e]
  exact ⟨by exact_mod_cast Nat.one_le_two_pow, by exact_mod_cast Nat.pow_le_pow_right (show 0 < 2 by omega) (show 8 * t ≤ 56 by omega)⟩
theorem unit_step (t : Nat) : (2 : Int) ^ (8 * t) * 256 = 2 ^ (8 * (t + 1)) := by
  rw [Nat.mul_add, Nat.mul_one, Int.pow_add]; rfl
theorem elm_el (b : List Int) (hb : ∀ x ∈ b, 0 ≤ x ∧ x < 256) (i : Nat) : El (elm b i) := by
  have := num_bound b hb i 7 (by omega)
  unfold elm El PP; omega
theorem elm_part (b : List Int) (j t : Nat) (h : b.length ≤ 7 * j + t) (ht : t ≤ 7) : num ((b.drop (7 * j)).take t) = elm b j := by
  unfold elm
  rw [List.take_of_length_le (by simp; omega), List.take_of_length_le (by simp; omega)]
theorem elm_whole (b : List Int) (j : Nat) : num ((b.drop (7 * j)).take 7) = elm b j := rfl
end Gs
namespace Gs
theorem feval_red (x : Int) : ∀ l : List Int, feval (fred x) (l.map fred) = feval x l
  | [] => rfl
  | c :: r => by rw [List.map_cons, feval, feval, feval_red x r, fadd_red_r, fmul_red_r]
def lowTo (l : List Int) (k : Nat) : List Int := (l.take k).map fred ++ List.replicate (l.length - k) 0
theorem lowTo_length (l : List Int) (k : Nat) (hk : k ≤ l.length) : (lowTo l k).length = l.length := by simp [lowTo]; omega
theorem lowTo_zero (l : List Int) : lowTo l 0 = List.replicate l.length 0 := by simp [lowTo]
theorem lowTo_all (l : List Int) : lowTo l l.length = l.map fred := by simp [lowTo]
theorem lowTo_set (l : List Int) (k : Nat) (hk : k < l.length) : (lowTo l k).set k (fred l[k]) = lowTo l (k + 1) := by
  unfold lowTo
  have e1 : ((l.take k).map fred).length = k := by simp; omega
  rw [List.set_append_right _ _ (by rw [e1]; omega), e1, Nat.sub_self, List.take_succ_eq_append_getElem hk, List.map_append, List.append_assoc]
  congr 1
  rw [show l.length - k = (l.length - (k + 1)) + 1 from by omega, List.replicate_succ]
  rfl
theorem fof_el (b : List Int) (hb : ∀ x ∈ b, 0 ≤ x ∧ x < 256) (y : Int) (hy : y ∈ fof b) : El y := by
  simp only [fof, List.mem_map] at hy
  obtain ⟨i, _, rfl⟩ := hy
  exact elm_el b hb i
end Gs
namespace Gs
theorem num_byte : ∀ (l : List Int) (t : Nat) (h : t < l.length), (∀ x ∈ l, 0 ≤ x ∧ x < 256) → num l / 2 ^ (8 * t) % 256 = l[t]
  | x :: r, 0, _, hl => by
    have hx := hl x (by simp)
    simp only [num, Nat.mul_zero, Int.pow_zero, Int.ediv_one, List.getElem_cons_zero]
    omega
  | x :: r, t + 1, h, hl => by
    have hx := hl x (by simp)
    have ih := num_byte r t (by simpa using h) (fun y hy => hl y (by simp [hy]))
    simp only [num, List.getElem_cons_succ]
    rw [← ih, show (2 : Int) ^ (8 * (t + 1)) = 256 * 2 ^ (8 * t) from by rw [Nat.mul_add, Nat.mul_one, Int.pow_add, Int.mul_comm]; rfl, ← Int.ediv_ediv_of_nonneg (by omega)]
    congr 2
    omega
theorem elm_byte (b : List Int) (hb : ∀ x ∈ b, 0 ≤ x ∧ x < 256) (i : Nat) (hi : i < b.length) : elm b (i / 7) / 2 ^ (8 * (i % 7)) % 256 = b[i] := by
  unfold elm
  have hl : i % 7 < ((b.drop (7 * (i / 7))).take 7).length := by simp; omega
  rw [num_byte _ (i % 7) hl fun x hx => hb x (List.mem_of_mem_drop (List.mem_of_mem_take hx))]
  simp only [List.getElem_take, List.getElem_drop]
  congr 1
  omega
theorem fof_cut (b : List Int) (q : Nat) (hq : 7 * q ≤ b.length) : fof (b.take (7 * q)) ++ fof (b.drop (7 * q)) = fof b := by
  apply List.ext_getElem
  · simp [fof]; omega
  · intro i h1 h2
    have hlen : (fof (b.take (7 * q))).length = q := by simp [fof]; omega
    by_cases hi : i < q
    · rw [List.getElem_append_left (by omega)]
      simp only [fof, List.getElem_map, List.getElem_range, elm]
      congr 1
      rw [List.drop_take, List.take_take]
      congr 1
      omega
    · rw [List.getElem_append_right (by omega)]
      simp only [fof, List.getElem_map, List.getElem_range, elm]
      rw [List.drop_drop]
      congr 3
      simp [List.length_take]
      omega
end Gs
namespace Gs
/-- The sum of two polynomials, part by part, as it is reckoned. -/
def psum : List Int → List Int → List Int
  | [], q => q.map (fadd 0)
  | c :: r, [] => fadd 0 c :: psum r []
  | c :: r, d :: s => fadd (fadd 0 c) d :: psum r s
theorem psum_length : ∀ p q : List Int, (psum p q).length = max p.length q.length
  | [], q => by simp [psum]
  | c :: r, [] => by simp [psum, psum_length r []]
  | c :: r, d :: s => by simp [psum, psum_length r s]
theorem psum_both : ∀ (p q : List Int) (k : Nat) (hp : k < p.length) (hq : k < q.length), (psum p q)[k]? = some (fadd (fadd 0 p[k]) q[k])
  | c :: r, d :: s, 0, _, _ => by simp [psum]
  | c :: r, d :: s, k + 1, hp, hq => by
    simpa [psum] using psum_both r s k (by simpa using hp) (by simpa using hq)
theorem psum_left : ∀ (p q : List Int) (k : Nat) (hp : k < p.length), q.length ≤ k → (psum p q)[k]? = some (fadd 0 p[k])
  | c :: r, [], 0, _, _ => by simp [psum]
  | c :: r, [], k + 1, hp, _ => by simpa [psum] using psum_left r [] k (by simpa using hp) (by simp)
  | c :: r, d :: s, 0, _, hq => by simp at hq
  | c :: r, d :: s, k + 1, hp, hq => by simpa [psum] using psum_left r s k (by simpa using hp) (by simpa using hq)
theorem psum_right : ∀ (p q : List Int) (k : Nat) (hq : k < q.length), p.length ≤ k → (psum p q)[k]? = some (fadd 0 q[k])
  | [], q, k, hq, _ => by simp [psum, List.getElem?_eq_getElem hq]
  | c :: r, d :: s, 0, _, hp => by simp at hp
  | c :: r, d :: s, k + 1, hq, hp => by simpa [psum] using psum_right r s k (by simpa using hq) (by simpa using hp)
theorem psum_el : ∀ p q : List Int, ∀ y ∈ psum p q, El y
  | [], q, y, h => by
    simp only [psum, List.mem_map] at h
    obtain ⟨z, _, rfl⟩ := h
    exact fadd_el _ _
  | c :: r, [], y, h => by
    simp only [psum, List.mem_cons] at h
    rcases h with rfl | h
    · exact fadd_el _ _
    · exact psum_el r [] y h
  | c :: r, d :: s, y, h => by
    simp only [psum, List.mem_cons] at h
    rcases h with rfl | h
    · exact fadd_el _ _
    · exact psum_el r s y h
theorem fadd_four (a b c d : Int) : fadd (fadd a b) (fadd c d) = fadd (fadd a c) (fadd b d) := by
  rw [fadd_assoc, fadd_assoc, ← fadd_assoc b, ← fadd_assoc c, fadd_comm b c]
theorem add_fmul (a b c : Int) : fmul (fadd a b) c = fadd (fmul a c) (fmul b c) := by
  rw [fmul_comm, fmul_add, fmul_comm c a, fmul_comm c b]
theorem feval_psum (x : Int) : ∀ p q : List Int, feval x (psum p q) = fadd (feval x p) (feval x q)
  | [], [] => by simp only [psum, List.map_nil, feval]; rw [fadd_zero]; rfl
  | [], d :: s => by
    have h := feval_psum x [] s
    simp only [psum, List.map_cons, feval] at h ⊢
    rw [h, zero_fadd, zero_fadd, fadd_red_r, fmul_red_l, zero_fadd, red_fadd]
  | c :: r, [] => by
    have h := feval_psum x r []
    simp only [psum, feval] at h ⊢
    rw [h, fadd_zero, zero_fadd, fadd_red_r, fmul_red_l, fadd_zero, red_fadd]
  | c :: r, d :: s => by
    have h := feval_psum x r s
    simp only [psum, feval] at h ⊢
    rw [h, add_fmul, zero_fadd, fadd_red_l, fadd_four]
def isum : List Int → Int
  | [] => 0
  | c :: r => c + isum r
theorem isum_snoc (l : List Int) (c : Int) : isum (l ++ [c]) = isum l + c := by
  induction l with
  | nil => simp [isum]
  | cons a r ih => simp only [List.cons_append, isum, ih]; omega
theorem feval_one : ∀ l : List Int, feval 1 l = fred (isum l)
  | [] => rfl
  | c :: r => by
    rw [feval, feval_one r, fmul_one, fred_fred, isum]
    unfold fadd fred
    rw [Int.emod_add_emod, Int.add_comm]
theorem fred_isum (l : List Int) (k : Nat) (h : k < l.length) : fadd (fred (isum (l.take k))) l[k] = fred (isum (l.take (k + 1))) := by
  rw [List.take_succ_eq_append_getElem h, isum_snoc, fadd_red_l]; rfl
theorem feval_cons (x c : Int) (r : List Int) : feval x (c :: r) = fadd c (fmul x (feval x r)) := by
  rw [feval, fadd_comm, fmul_comm]
theorem feval_zero (c : Int) (r : List Int) : feval 0 (c :: r) = fred c := by
  rw [feval, fmul_zero, zero_fadd]

/-- What the sum holds behind k rounds. -/
def psTo (p q : List Int) (k : Nat) : List Int := (psum p q).take k ++ List.replicate (max p.length q.length - k) 0
theorem psTo_length (p q : List Int) (k : Nat) (hk : k ≤ max p.length q.length) : (psTo p q k).length = max p.length q.length := by
  simp only [psTo, List.length_append, List.length_take, List.length_replicate, psum_length]; omega
theorem psTo_zero (p q : List Int) : psTo p q 0 = List.replicate (max p.length q.length) 0 := by simp [psTo]
theorem psTo_all (p q : List Int) : psTo p q (max p.length q.length) = psum p q := by
  simp only [psTo, Nat.sub_self, List.replicate_zero, List.append_nil]
  exact List.take_of_length_le (by rw [psum_length]; exact Nat.le_refl _)
theorem psTo_at (p q : List Int) (k : Nat) (hk : k < max p.length q.length) : (psTo p q k)[k]? = some 0 := by
  unfold psTo
  have e : ((psum p q).take k).length = k := by rw [List.length_take, psum_length]; omega
  rw [List.getElem?_append_right (by omega), e, Nat.sub_self, show max p.length q.length - k = (max p.length q.length - (k + 1)) + 1 from by omega, List.replicate_succ]
  rfl
theorem psTo_set (p q : List Int) (k : Nat) (hk : k < max p.length q.length) (y : Int) (hy : (psum p q)[k]? = some y) : (psTo p q k).set k y = psTo p q (k + 1) := by
  unfold psTo
  have e : ((psum p q).take k).length = k := by rw [List.length_take, psum_length]; omega
  rw [List.set_append_right _ _ (by omega), e, Nat.sub_self, List.take_add_one, hy, Option.toList_some, List.append_assoc, show max p.length q.length - k = (max p.length q.length - (k + 1)) + 1 from by omega, List.replicate_succ]
  rfl
end Gs
