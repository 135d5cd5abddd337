/- What was spent, plainly: whether it may be, in which order it stands. -/
import Derived.Lib.Hide
namespace Go.Proofs.Ytnjmhijfaijopaa
set_option linter.unusedVariables false

/-- account, rule, since, many. -/
abbrev Sp := Int × Int × Int × Int
def nmB (t : Int) : Bool := decide (0 ≤ t) && decide (t ≤ 1099511627776)
theorem nmB_iff {t : Int} : nmB t = true ↔ 0 ≤ t ∧ t ≤ 1099511627776 := by unfold nmB; simp
theorem nmB_no {t : Int} : nmB t = false ↔ ¬ (0 ≤ t ∧ t ≤ 1099511627776) := by rw [← nmB_iff]; simp
def rlB (t : Int) : Bool := decide (0 ≤ t) && decide (t < 32)
theorem rlB_iff {t : Int} : rlB t = true ↔ 0 ≤ t ∧ t < 32 := by unfold rlB; simp
theorem rlB_no {t : Int} : rlB t = false ↔ ¬ (0 ≤ t ∧ t < 32) := by rw [← rlB_iff]; simp
def mayS (a r s m : Int) : Bool := nmB a && rlB r && nmB s && nmB m && decide (0 < m)
theorem mayS_iff {a r s m : Int} : mayS a r s m = true ↔ (0 ≤ a ∧ a ≤ 1099511627776) ∧ (0 ≤ r ∧ r < 32) ∧ (0 ≤ s ∧ s ≤ 1099511627776) ∧ 1 ≤ m ∧ m ≤ 1099511627776 := by
  unfold mayS; simp only [Bool.and_eq_true, nmB_iff, rlB_iff, decide_eq_true_eq]; omega
def cmpI (a b : Int) : Int := if a < b then -1 else if b < a then 1 else 0
def cmpO (a r b q : Int) : Int := if cmpI a b = 0 then cmpI r q else cmpI a b
/-- The owner (a, r) stands ahead of the owner (b, q). -/
def ltO (a r b q : Int) : Bool := decide (a < b) || decide (a = b) && decide (r < q)
theorem ltO_iff {a r b q : Int} : ltO a r b q = true ↔ a < b ∨ a = b ∧ r < q := by unfold ltO; simp
theorem cmpI_ge {a b : Int} : 0 ≤ cmpI a b ↔ b ≤ a := by unfold cmpI; split; omega; split <;> omega
theorem cmpI_zero {a b : Int} : cmpI a b = 0 ↔ a = b := by unfold cmpI; split; omega; split <;> omega
theorem cmpO_ge {a r b q : Int} : (0 ≤ cmpO a r b q) ↔ ltO a r b q = false := by
  have h := @ltO_iff a r b q
  unfold cmpO
  by_cases e : cmpI a b = 0
  · rw [if_pos e, cmpI_ge]
    have e' : a = b := cmpI_zero.1 e
    clear e
    cases hl : ltO a r b q <;> simp [hl] at h ⊢ <;> omega
  · rw [if_neg e, cmpI_ge]
    have e' : ¬ a = b := fun k => e (cmpI_zero.2 k)
    cases hl : ltO a r b q <;> simp [hl] at h ⊢ <;> omega
theorem cmpI_small {a b : Int} : -1 ≤ cmpI a b ∧ cmpI a b ≤ 1 := by unfold cmpI; split; omega; split <;> omega
theorem ltO_trans {a r b q c p : Int} (h : ltO a r b q = true) (k : ltO b q c p = true) : ltO a r c p = true := by
  rw [ltO_iff] at *; omega
/-- From the place k on each may be, and stands behind the one ahead of it. -/
def okS : Option (Int × Int) → List Sp → Bool
  | _, [] => true
  | none, s :: l => mayS s.1 s.2.1 s.2.2.1 s.2.2.2 && okS (some (s.1, s.2.1)) l
  | some o, s :: l => (mayS s.1 s.2.1 s.2.2.1 s.2.2.2 && ltO o.1 o.2 s.1 s.2.1) && okS (some (s.1, s.2.1)) l
def chkS (L : List Sp) : Int := if okS none L then (if 1024 < L.length then 2 else 0) else 1
theorem chkS_bad {L : List Sp} (h : okS none L = false) : chkS L = 1 := by unfold chkS; rw [h]; rfl
theorem chkS_good {L : List Sp} (h : okS none L = true) : chkS L = if 1024 < L.length then 2 else 0 := by unfold chkS; rw [h]; rfl
/-- Who stands ahead of the place k. -/
def prevS (L : List Sp) : Nat → Option (Int × Int)
  | 0 => none
  | k + 1 => (L[k]?).map fun s => (s.1, s.2.1)
theorem prevS_succ {L : List Sp} (k : Nat) (h : k < L.length) : prevS L (k + 1) = some (L[k].1, L[k].2.1) := by simp [prevS, h]
theorem okS_first {L : List Sp} (h : 0 < L.length) : okS none (L.drop 0) = (mayS L[0].1 L[0].2.1 L[0].2.2.1 L[0].2.2.2 && okS (some (L[0].1, L[0].2.1)) (L.drop 1)) := by
  match L, h with
  | s :: l, _ => rfl
theorem okS_next {L : List Sp} (k : Nat) (h : k < L.length) (o : Int × Int) : okS (some o) (L.drop k) = ((mayS L[k].1 L[k].2.1 L[k].2.2.1 L[k].2.2.2 && ltO o.1 o.2 L[k].1 L[k].2.1) && okS (some (L[k].1, L[k].2.1)) (L.drop (k + 1))) := by
  rw [List.drop_eq_getElem_cons h]; rfl
end Go.Proofs.Ytnjmhijfaijopaa
