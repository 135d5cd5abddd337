/- Plain facts on parts: their bytes one behind the other. -/
import Derived.Test.YtippfhlljlfcnaaHashBytes
namespace Gs
set_option linter.unusedVariables false

def psz : List (List Int) → Nat
  | [] => 0
  | p :: r => 4 + p.length + psz r
theorem psz_append : ∀ a b : List (List Int), psz (a ++ b) = psz a + psz b
  | [], b => by simp [psz]
  | p :: r, b => by simp [psz, psz_append r b]; omega
theorem psz_take (ps : List (List Int)) (k : Nat) (h : k < ps.length) : psz (ps.take (k + 1)) = psz (ps.take k) + (4 + ps[k].length) := by
  rw [List.take_succ_eq_append_getElem h, psz_append]; simp [psz]
theorem psz_le (ps : List (List Int)) (k : Nat) : psz (ps.take k) ≤ psz ps := by
  have h := psz_append (ps.take k) (ps.drop k)
  rw [List.take_append_drop] at h
  omega
/-- The bytes of parts. -/
def pbytes : List (List Int) → List Int
  | [] => []
  | p :: r => be p.length 4 ++ (p ++ pbytes r)
theorem pbytes_append : ∀ a b : List (List Int), pbytes (a ++ b) = pbytes a ++ pbytes b
  | [], b => rfl
  | p :: r, b => by simp [pbytes, pbytes_append r b]
theorem pbytes_take (ps : List (List Int)) (k : Nat) (h : k < ps.length) : pbytes (ps.take (k + 1)) = pbytes (ps.take k) ++ be ps[k].length 4 ++ ps[k] := by
  rw [List.take_succ_eq_append_getElem h, pbytes_append]; simp [pbytes]
theorem pbytes_length : ∀ ps : List (List Int), (pbytes ps).length = psz ps
  | [] => rfl
  | p :: r => by simp [pbytes, psz, be_length, pbytes_length r]; omega
/-- What a tag and parts are hashed as. -/
def coded (tag : List Int) (ps : List (List Int)) : List Int := be tag.length 1 ++ tag ++ pbytes ps
theorem coded_length (tag : List Int) (ps : List (List Int)) : (coded tag ps).length = 1 + tag.length + psz ps := by
  simp [coded, be_length, pbytes_length]; omega
theorem pbytes_bound : ∀ ps : List (List Int), (∀ p ∈ ps, ∀ x ∈ p, 0 ≤ x ∧ x < 256) → ∀ x ∈ pbytes ps, 0 ≤ x ∧ x < 256
  | [], _, x, hx => by simp [pbytes] at hx
  | p :: r, h, x, hx => by
    simp only [pbytes, List.mem_append] at hx
    rcases hx with hx | hx | hx
    · exact be_bound _ _ x hx
    · exact h p (by simp) x hx
    · exact pbytes_bound r (fun q hq => h q (List.mem_cons_of_mem _ hq)) x hx
theorem coded_bound (tag : List Int) (ps : List (List Int)) (ht : ∀ x ∈ tag, 0 ≤ x ∧ x < 256) (h : ∀ p ∈ ps, ∀ x ∈ p, 0 ≤ x ∧ x < 256) : ∀ x ∈ coded tag ps, 0 ≤ x ∧ x < 256 := fun x hx => by
  simp only [coded, List.mem_append] at hx
  rcases hx with (hx | hx) | hx
  · exact be_bound _ _ x hx
  · exact ht x hx
  · exact pbytes_bound ps h x hx
end Gs
