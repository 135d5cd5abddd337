/- Bytes read as items, plainly. -/
import Derived.Test.YteafbfhojhpbgaaDerMath
namespace Go.Proofs.Yteafbfhojhpbgaa
open Go.ChangeShapes Go.WideShapes Go.ChangeAt Go.RowKit Gs
set_option linter.unusedVariables false

def hdA : List Int → Nat × Nat × Int
  | [] => (0, 0, 70)
  | a :: _ => if a < 128 then (0, 0, 71) else (3, a.toNat, 0)
def hdB : List Int → Nat × Nat × Int
  | [] => (0, 0, 70)
  | [_] => (0, 0, 70)
  | a :: c :: _ => if 256 * a + c < 256 then (0, 0, 71) else (4, (256 * a + c).toNat, 0)
def hdN (n : Int) (r : List Int) : Nat × Nat × Int := if n < 128 then (2, n.toNat, 0) else if n = 129 then hdA r else if n = 130 then hdB r else (0, 0, 71)
def hdR : List Int → Nat × Nat × Int
  | [] => (0, 0, 70)
  | n :: r => hdN n r
/-- What stands ahead of the content: how many bytes, how many the content has, or why it is none. -/
def hdS : List Int → Nat × Nat × Int
  | [] => (0, 0, 70)
  | t :: r => if isTag t = true then hdR r else (0, 0, 71)
def HdG (p : Nat × Nat × Int) : Prop := (p.2.2 = 0 ∧ 2 ≤ p.1 ∧ p.1 ≤ 4) ∨ p = (0, 0, 70) ∨ p = (0, 0, 71)
theorem hdA_g : ∀ r, HdG (hdA r)
  | [] => .inr (.inl rfl)
  | a :: r => by
    show HdG (if a < 128 then (0, 0, 71) else (3, a.toNat, 0))
    by_cases h : a < 128
    · rw [if_pos h]; exact .inr (.inr rfl)
    · rw [if_neg h]; exact .inl ⟨rfl, by simp, by simp⟩
theorem hdB_g : ∀ r, HdG (hdB r)
  | [] => .inr (.inl rfl)
  | [_] => .inr (.inl rfl)
  | a :: c :: r => by
    show HdG (if 256 * a + c < 256 then (0, 0, 71) else (4, (256 * a + c).toNat, 0))
    by_cases h : 256 * a + c < 256
    · rw [if_pos h]; exact .inr (.inr rfl)
    · rw [if_neg h]; exact .inl ⟨rfl, by simp, by simp⟩
theorem hdN_g (n : Int) (r : List Int) : HdG (hdN n r) := by
  unfold hdN
  by_cases h1 : n < 128
  · rw [if_pos h1]; exact .inl ⟨rfl, by simp, by simp⟩
  rw [if_neg h1]
  by_cases h2 : n = 129
  · rw [if_pos h2]; exact hdA_g r
  rw [if_neg h2]
  by_cases h3 : n = 130
  · rw [if_pos h3]; exact hdB_g r
  rw [if_neg h3]; exact .inr (.inr rfl)
theorem hdR_g : ∀ r, HdG (hdR r)
  | [] => .inr (.inl rfl)
  | n :: r => hdN_g n r
theorem hdS_g : ∀ b, HdG (hdS b)
  | [] => .inr (.inl rfl)
  | t :: r => by
    show HdG (if isTag t = true then hdR r else (0, 0, 71))
    by_cases h : isTag t = true
    · rw [if_pos h]; exact hdR_g r
    · rw [if_neg h]; exact .inr (.inr rfl)
theorem hdS_ok {b : List Int} (h : (hdS b).2.2 = 0) : 2 ≤ (hdS b).1 ∧ (hdS b).1 ≤ 4 ∧ b ≠ [] ∧ isTag (b[0]?.getD 0) = true := by
  rcases hdS_g b with g | g | g
  · refine ⟨g.2.1, g.2.2, ?_, ?_⟩
    · rintro rfl; exact absurd h (by decide)
    · rcases b with _ | ⟨t, r⟩
      · exact absurd h (by decide)
      · by_cases ht : isTag t = true
        · simpa using ht
        · have e : hdS (t :: r) = (0, 0, 71) := if_neg ht
          rw [e] at h
          exact absurd h (by decide)
  · rw [g] at h; exact absurd h (by decide)
  · rw [g] at h; exact absurd h (by decide)
theorem hdS_bad {b : List Int} (h : (hdS b).2.2 ≠ 0) : hdS b = (0, 0, (hdS b).2.2) ∧ ((hdS b).2.2 = 70 ∨ (hdS b).2.2 = 71) := by
  rcases hdS_g b with g | g | g
  · exact absurd g.1 h
  · rw [g]; exact ⟨rfl, .inl rfl⟩
  · rw [g]; exact ⟨rfl, .inr rfl⟩

/-- What is read: an item and how many bytes it has, or why it is none. -/
inductive GR where
  | bad (e : Int) : GR
  | ok (x : It) (n : Nat) : GR

mutual
/-- What the first bytes of b are, whatever the items within may be. -/
def rawG (b : List Int) : GR :=
  if h0 : (hdS b).2.2 = 0 then
    if 8192 < (hdS b).1 + (hdS b).2.1 then .bad 71
    else if h1 : b.length < (hdS b).1 + (hdS b).2.1 then .bad 70
    else if b[0]?.getD 0 = 48 then
      (match rawL ((b.drop (hdS b).1).take (hdS b).2.1) with
      | some l => .ok (.mk 48 [] l) ((hdS b).1 + (hdS b).2.1)
      | none => .bad 71)
    else .ok (.mk (b[0]?.getD 0) ((b.drop (hdS b).1).take (hdS b).2.1) []) ((hdS b).1 + (hdS b).2.1)
  else .bad (hdS b).2.2
termination_by (b.length, 0)
decreasing_by
  have := hdS_ok h0
  have hb : 0 < b.length := List.length_pos_iff.2 this.2.2.1
  apply Prod.Lex.left
  rw [List.length_take, List.length_drop]
  omega
/-- Items that are all of b. -/
def rawL (b : List Int) : Option (List It) :=
  if h : b = [] then some [] else
  match rawG b with
  | .ok x n => (rawL (b.drop (max 1 n))).map (x :: ·)
  | .bad _ => none
termination_by (b.length, 1)
decreasing_by
  · apply Prod.Lex.right
    omega
  · apply Prod.Lex.left
    have hb : 0 < b.length := List.length_pos_iff.2 h
    rw [List.length_drop]
    omega
end
theorem rawL_nil : rawL [] = some [] := by rw [rawL]; rfl
theorem rawL_cons {b : List Int} (h : b ≠ []) : rawL b = (match rawG b with | .ok x n => (rawL (b.drop (max 1 n))).map (x :: ·) | .bad _ => none) := by
  conv => lhs; rw [rawL]
  rw [dif_neg h]
theorem rawG_ok {b : List Int} {x : It} {n : Nat} (h : rawG b = .ok x n) : (hdS b).2.2 = 0 ∧ n = (hdS b).1 + (hdS b).2.1 ∧ n ≤ b.length ∧ n ≤ 8192 ∧ 2 ≤ n := by
  rw [rawG] at h
  by_cases h0 : (hdS b).2.2 = 0
  · rw [dif_pos h0] at h
    have h2 := hdS_ok h0
    by_cases h1 : 8192 < (hdS b).1 + (hdS b).2.1
    · rw [if_pos h1] at h; cases h
    rw [if_neg h1] at h
    by_cases h3 : b.length < (hdS b).1 + (hdS b).2.1
    · rw [dif_pos h3] at h; cases h
    rw [dif_neg h3] at h
    have : n = (hdS b).1 + (hdS b).2.1 := by
      split at h
      · split at h
        · cases h; rfl
        · cases h
      · cases h; rfl
    exact ⟨h0, this, by omega, by omega, by omega⟩
  · rw [dif_neg h0] at h; cases h
end Go.Proofs.Yteafbfhojhpbgaa
