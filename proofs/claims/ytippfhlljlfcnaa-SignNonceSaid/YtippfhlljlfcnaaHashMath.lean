/- Plain mathematics of the hash: rounds, what is soaked up, bytes of numbers. -/
import Derived.Test.YtippfhlljlfcnaaFieldMath
namespace Gs

/-- Three elements. -/
abbrev S3 : Type := Int × Int × Int
def kc (r i : Nat) : Int := ((3 * r + i + 1 : Nat) : Int) * (3 * r + i + 1 : Nat) * (3 * r + i + 1 : Nat) + 7
def sb (r i : Nat) (x : Int) : Int := fpow (fadd x (kc r i)) 17
def rall (r : Nat) (a b c : Int) : Int := fadd (fadd (sb r 0 a) (sb r 1 b)) (sb r 2 c)
def rnd (r : Nat) (s : S3) : S3 :=
  (fadd (sb r 0 s.1) (rall r s.1 s.2.1 s.2.2), fadd (sb r 1 s.2.1) (rall r s.1 s.2.1 s.2.2), fadd (sb r 2 s.2.2) (rall r s.1 s.2.1 s.2.2))
def mixTo (s : S3) : Nat → S3
  | 0 => s
  | k + 1 => rnd k (mixTo s k)
def hmix (s : S3) : S3 := mixTo s 8

def U3 (s : S3) : Prop := U64 s.1 ∧ U64 s.2.1 ∧ U64 s.2.2
def El3 (s : S3) : Prop := El s.1 ∧ El s.2.1 ∧ El s.2.2
theorem El3.u3 {s : S3} (h : El3 s) : U3 s := ⟨h.1.u64, h.2.1.u64, h.2.2.u64⟩
theorem rnd_el (r : Nat) (s : S3) : El3 (rnd r s) := ⟨fadd_el _ _, fadd_el _ _, fadd_el _ _⟩
theorem mixTo_el (s : S3) (k : Nat) : El3 (mixTo s (k + 1)) := rnd_el _ _
theorem hmix_el (s : S3) : El3 (hmix s) := mixTo_el s 7
theorem mixTo_u (s : S3) (h : U3 s) (k : Nat) : U3 (mixTo s k) := by
  cases k with
  | zero => exact h
  | succ k => exact (mixTo_el s k).u3
theorem kc_bound (r i : Nat) (hr : r < 8) (hi : i < 3) : 0 ≤ kc r i ∧ kc r i < 100000 := by
  have h0 : 3 * r + i + 1 ≤ 24 := by omega
  unfold kc
  generalize 3 * r + i + 1 = n at h0
  have h1 : n * n ≤ 24 * 24 := Nat.mul_le_mul h0 h0
  have h2 : n * n * n ≤ 24 * 24 * 24 := Nat.mul_le_mul h1 h0
  have e : ((n : Int) * n * n) = ((n * n * n : Nat) : Int) := by push_cast; rfl
  rw [e]; omega

/-- What is soaked up: an element, and perhaps a second one. -/
def sk (b : Int) : Option Int → Int
  | none => b
  | some x => fadd b x
def stp (s : S3) (o1 o2 : Option Int) : S3 := hmix (sk s.1 o1, sk s.2.1 o2, s.2.2)
theorem sk_u {b : Int} (h : U64 b) (o : Option Int) : U64 (sk b o) := by
  cases o with
  | none => exact h
  | some x => exact (fadd_el b x).u64
theorem stp_el (s : S3) (o1 o2 : Option Int) : El3 (stp s o1 o2) := hmix_el _
/-- Chunk q of l is soaked up. -/
def hstep (l : List Int) (s : S3) (q : Nat) : S3 := stp s l[2 * q]? l[2 * q + 1]?
def habsL (l : List Int) (s : S3) (qs : List Nat) : S3 := qs.foldl (hstep l) s
def habs (l : List Int) (s : S3) (n : Nat) : S3 := habsL l s (List.range n)
theorem habsL_snoc (l : List Int) (s : S3) (qs : List Nat) (q : Nat) : habsL l s (qs ++ [q]) = hstep l (habsL l s qs) q := by simp [habsL]
theorem habs_zero (l : List Int) (s : S3) : habs l s 0 = s := rfl
theorem habs_succ (l : List Int) (s : S3) (n : Nat) : habs l s (n + 1) = hstep l (habs l s n) n := by
  unfold habs; rw [List.range_succ, habsL_snoc]
theorem foldl_u (l : List Int) : ∀ (qs : List Nat) (s : S3), U3 s → U3 (habsL l s qs)
  | [], _, h => h
  | q :: qs, s, _ => foldl_u l qs (hstep l s q) (stp_el _ _ _).u3
theorem habs_u (l : List Int) (s : S3) (h : U3 s) (q : Nat) : U3 (habs l s q) := foldl_u l _ s h
def hst (xs : List Int) : S3 :=
  if xs.length = 0 then hmix (0, 0, 0) else habs (fof xs) (0, 0, xs.length) (((fof xs).length + 1) / 2)
theorem hst_el (xs : List Int) : El3 (hst xs) := by
  unfold hst
  split
  · exact hmix_el _
  · rename_i h
    have : 0 < ((fof xs).length + 1) / 2 := by rw [fof_length]; omega
    obtain ⟨q, hq⟩ : ∃ q, ((fof xs).length + 1) / 2 = q + 1 := ⟨((fof xs).length + 1) / 2 - 1, by omega⟩
    rw [hq, habs_succ]
    exact stp_el _ _ _

/-- A number's byte k from the lowest on. -/
def byt (n : Int) (k : Nat) : Int := n / 2 ^ (8 * k) % 256
/-- A number's lowest k bytes, the highest of them first. -/
def be (n : Int) : Nat → List Int
  | 0 => []
  | k + 1 => byt n k :: be n k
theorem be_length (n : Int) (k : Nat) : (be n k).length = k := by induction k <;> simp [be, *]
theorem byt_bound (n : Int) (k : Nat) : 0 ≤ byt n k ∧ byt n k < 256 := by unfold byt; omega
theorem be_bound (n : Int) : ∀ k, ∀ x ∈ be n k, 0 ≤ x ∧ x < 256
  | 0, x, h => by simp [be] at h
  | k + 1, x, h => by
    rcases List.mem_cons.1 h with rfl | h
    · exact byt_bound n k
    · exact be_bound n k x h
/-- The number of bytes, the highest first. -/
def bnum : List Int → Int → Int
  | [], a => a
  | x :: r, a => bnum r (256 * a + x)
end Gs
