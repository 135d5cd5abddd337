/- Plain: shares of one polynomial, chosen, are right and make the secret. -/
import Derived.Test.YtlannmedefjfhaaGreatShareSome
namespace Go.Proofs.YtlannmedefjfhaaGreat
open Go.ChangeShapes Go.WideShapes Go.ChangeAt Go.RowKit Gs
set_option linter.unusedVariables false

/-- Shares of one polynomial, of unlike ids up to N. -/
structure Good (c : List Int) (N : Nat) (S : List (Int × Int)) : Prop where
  all : ∀ p ∈ S, 1 ≤ p.1 ∧ p.1 ≤ N ∧ p.2 = pval p.1 c
  apart : (S.map Prod.fst).Pairwise (fun a b => a ≠ b)
theorem right_of {xs : List Int} (h1 : 1 ≤ xs.length) (h7 : xs.length ≤ 7) (ha : ∀ x ∈ xs, 1 ≤ x ∧ x < 1152921504606845789) (hp : xs.Pairwise (fun a b => a ≠ b)) : RightI xs :=
  ⟨h1, h7, fun i h => ⟨ha _ (List.getElem_mem h), fun j g => List.pairwise_iff_getElem.1 hp j i (by omega) h g⟩⟩
theorem Good.right {c : List Int} {N : Nat} {S : List (Int × Int)} (h : Good c N S) (hN : N ≤ 7) (h1 : 1 ≤ S.length) (h7 : S.length ≤ 7) : RightI (S.map Prod.fst) :=
  right_of (by simpa using h1) (by simpa using h7) (fun x hx => by
    obtain ⟨p, hp, rfl⟩ := List.mem_map.1 hx
    have := h.all p hp
    omega) h.apart
theorem Good.join {c : List Int} {N : Nat} {S : List (Int × Int)} (h : Good c N S) (hN : N ≤ 7) (h1 : 1 ≤ S.length) (h7 : S.length ≤ 7) : JoinI (S.map Prod.fst) S :=
  ⟨h.right hN h1 h7, List.all_eq_true.2 fun p hp => by
    have := (h.all p hp).2.2
    have hb := pval_rb p.1 c
    unfold Rb at hb
    exact decide_eq_true (by omega)⟩
theorem Good.u {c : List Int} {N : Nat} {S : List (Int × Int)} (h : Good c N S) : ∀ p ∈ S, 0 ≤ p.2 ∧ p.2 < 18446744073709551616 := fun p hp => by
  have := (h.all p hp).2.2
  have hb := pval_rb p.1 c
  unfold Rb at hb
  omega
theorem Good.jat {c : List Int} {N : Nat} {S : List (Int × Int)} (h : Good c N S) (hN : N ≤ 7) (h1 : 1 ≤ S.length) (h7 : S.length ≤ 7) (hc : c.length ≤ S.length) (x : Int) : jat (S.map Prod.fst) x S = pval x c :=
  jat_pval hc (right_apart (h.right hN h1 h7)) (fun p hp => (h.all p hp).2.2) x
theorem Good.reverse {c : List Int} {N : Nat} {S : List (Int × Int)} (h : Good c N S) : Good c N S.reverse :=
  ⟨fun p hp => h.all p (List.mem_reverse.1 hp), by
    rw [List.map_reverse, List.pairwise_reverse]
    exact h.apart.imp (fun g e => g e.symm)⟩
theorem csplit_get (c : List Int) (N j : Nat) (h : j < (csplit c N).length) : (csplit c N)[j] = ((j : Int) + 1, pval ((j : Int) + 1) c) := by simp [csplit]
theorem picks_eq (c : List Int) (F M N : Nat) (hN : 1 ≤ N) : picks (csplit c N) F M = (List.range M).map fun (i : Nat) => ((((F + i) % N : Nat) : Int) + 1, pval ((((F + i) % N : Nat) : Int) + 1) c) := by
  unfold picks
  refine List.map_congr_left fun i _ => ?_
  have hl : (F + i) % (csplit c N).length < (csplit c N).length := Nat.mod_lt _ (by rw [csplit_length]; omega)
  rw [List.getElem?_eq_getElem hl, csplit_get]
  simp only [csplit_length, Option.getD_some]
theorem picks_good (c : List Int) (F M N : Nat) (hN : 1 ≤ N) (hM : M ≤ N) : Good c N (picks (csplit c N) F M) := by
  rw [picks_eq c F M N hN]
  refine ⟨fun p hp => ?_, ?_⟩
  · obtain ⟨i, _, rfl⟩ := List.mem_map.1 hp
    have := Nat.mod_lt (F + i) (show N > 0 by omega)
    refine ⟨?_, ?_, rfl⟩
    · show 1 ≤ (((F + i) % N : Nat) : Int) + 1; omega
    · show (((F + i) % N : Nat) : Int) + 1 ≤ N; omega
  · rw [List.map_map, List.pairwise_map, List.pairwise_iff_getElem]
    intro i j hi hj hij e
    simp only [List.getElem_range, Function.comp] at e hi hj
    simp only [List.length_range] at hi hj
    have e' : (F + j) % N = (F + i) % N := by omega
    have := Nat.sub_mod_eq_zero_of_mod_eq e'
    rw [show F + j - (F + i) = j - i by omega, Nat.mod_eq_of_lt (by omega)] at this
    omega
theorem some_good (c : List Int) (F M N : Nat) (tu : Bool) (hN : 1 ≤ N) (hM : M ≤ N) : Good c N (someL (csplit c N) F M tu) := by
  unfold someL
  cases tu
  · exact picks_good c F M N hN hM
  · exact (picks_good c F M N hN hM).reverse
theorem cpoly_head {s : Int} (xs : List Int) {T : Nat} (h : 1 ≤ T) (hs : Rb s) : pval 0 (cpoly s xs T) = s := by
  obtain ⟨k, rfl⟩ : ∃ k, T = k + 1 := ⟨T - 1, by omega⟩
  unfold cpoly
  rw [List.range_succ_eq_map, List.map_cons]
  exact pval_none _ _ hs
end Go.Proofs.YtlannmedefjfhaaGreat
