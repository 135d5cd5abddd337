/- Of any input the program's answer on shares and the document's, side by side. -/
import Derived.Test.YtgboijbnjjmmkaaShareLive
namespace Go.Proofs.Ytgboijbnjjmmkaa
open Go.ChangeShapes Go.WideShapes Go.ChangeAt Go.RowKit Gs
set_option linter.unusedVariables false

theorem join_both (A : Option Addr) (c : Nat) (l : List (Int × Int)) (hl : l.length ≤ 1048576) (hlc : l.length ≤ c) (hm : c ≤ maxLen) (hu : ∀ p ∈ l, 0 ≤ p.2 ∧ p.2 < 18446744073709551616) : ∃ a e : Int,
    (∀ w, SS w w.heap.size A l → Calls Try.prog 18 #[.slice A l.length c] w fun r w' => r = .returned (.tuple #[.int .u64 a, .int .i64 e]) ∧ Below w.heap.size w w') ∧
    (∀ w, SS w w.heap.size A l → Calls Try.prog 19 #[.slice A l.length c] w fun r w' => r = .returned (.tuple #[.int .u64 a, .int .i64 e]) ∧ Below w.heap.size w w') := by
  obtain ⟨a, e, h⟩ : ∃ a e : Int, ∀ r, JoinE (l.map Prod.fst) l r → r = .returned (.tuple #[.int .u64 a, .int .i64 e]) := by
    by_cases h0 : l = []
    · exact ⟨_, _, fun r h => h.1 h0⟩
    · by_cases h1 : JoinI (l.map Prod.fst) l
      · exact ⟨_, _, fun r h => h.2.1 h0 h1⟩
      · exact ⟨_, _, fun r h => h.2.2 h0 h1⟩
  exact ⟨a, e, fun w hs => (Join_any A c l _ rfl hl hlc hm hu w hs).mono fun r w' ⟨h1, h2⟩ => ⟨h r h1, h2⟩, fun w hs => (refJoin_any A c l _ rfl hl hu w hs).mono fun r w' ⟨h1, h2⟩ => ⟨h r h1, h2⟩⟩
theorem weight_both (A : Option Addr) (c : Nat) (xs : List Int) (hl : xs.length ≤ 1048576) (hlc : xs.length ≤ c) (hm : c ≤ maxLen) (i : Int) : ∃ a e : Int,
    (∀ w, SI w w.heap.size .i64 A xs → Calls Try.prog 20 #[.slice A xs.length c, .int .i64 i] w fun r w' => r = .returned (.tuple #[.int .u64 a, .int .i64 e]) ∧ Below w.heap.size w w') ∧
    (∀ w, SI w w.heap.size .i64 A xs → Calls Try.prog 21 #[.slice A xs.length c, .int .i64 i] w fun r w' => r = .returned (.tuple #[.int .u64 a, .int .i64 e]) ∧ Below w.heap.size w w') := by
  obtain ⟨a, e, h⟩ : ∃ a e : Int, ∀ r, WeightE xs i r → r = .returned (.tuple #[.int .u64 a, .int .i64 e]) := by
    by_cases h1 : WeightI xs i
    · exact ⟨_, _, fun r h => h.1 h1⟩
    · exact ⟨_, _, fun r h => h.2 h1⟩
  exact ⟨a, e, fun w hs => (Weight_any A c xs hl hlc hm i w hs).mono fun r w' ⟨h1, h2⟩ => ⟨h r h1, h2⟩, fun w hs => (refWeight_any A c xs hl i w.heap.size w hs).mono fun r w' ⟨h1, h2⟩ => ⟨h r h1, h2.below _⟩⟩
theorem check_both (t : Int) (A : Option Addr) (c : Nat) (l : List (Int × Int)) (hl : l.length ≤ 1048576) (hlc : l.length ≤ c) (hm : c ≤ maxLen) (hu : ∀ p ∈ l, 0 ≤ p.2 ∧ p.2 < 18446744073709551616) : ∃ n : Int,
    (∀ w, SS w w.heap.size A l → Calls Try.prog 22 #[.int .i64 t, .slice A l.length c] w fun r w' => r = .returned (.int .i64 n) ∧ Below w.heap.size w w') ∧
    (∀ w, SS w w.heap.size A l → Calls Try.prog 23 #[.int .i64 t, .slice A l.length c] w fun r w' => r = .returned (.int .i64 n) ∧ Below w.heap.size w w') := by
  obtain ⟨n, h⟩ := check_told t (l.map Prod.fst) l
  exact ⟨n, fun w hs => (Check_any5 t A c l _ rfl hl hlc hm hu w hs).mono fun r w' ⟨h1, h2⟩ => ⟨h r h1, h2⟩, fun w hs => (refCheck_any t A c l _ rfl hl hlc hu w hs).mono fun r w' ⟨h1, h2⟩ => ⟨h r h1, h2⟩⟩
theorem public_both (A : Option Addr) (c : Nat) (l : List (Int × Int)) (hl : l.length ≤ 1048576) (hlc : l.length ≤ c) (hm : c ≤ maxLen) (hu : ∀ p ∈ l, 0 ≤ p.2 ∧ p.2 < 18446744073709551616) : ∃ (m : List (Int × Int)) (e : Int), m.length ≤ l.length ∧
    (∀ w, SS w w.heap.size A l → Calls Try.prog 15 #[.slice A l.length c] w fun r w' => ∃ v, r = .returned (.tuple #[v, .int .i64 e]) ∧ OwnS w' w.heap.size v m ∧ Below w.heap.size w w') ∧
    (∀ w, SS w w.heap.size A l → Calls Try.prog 16 #[.slice A l.length c] w fun r w' => ∃ v, r = .returned (.tuple #[v, .int .i64 e]) ∧ OwnS w' w.heap.size v m ∧ Below w.heap.size w w') := by
  by_cases h1 : JoinI (l.map Prod.fst) l
  · refine ⟨spubs l, 0, by simp [spubs], fun w hs => (Public_any A c l _ rfl hl hlc hm hu w hs).mono fun r w' ⟨h2, h3⟩ => ?_, fun w hs => (refPublic_any A c l _ rfl hl hu w hs).mono fun r w' ⟨h2, h3⟩ => ?_⟩
    · obtain ⟨v, e, ho⟩ := h2.1 h1; exact ⟨v, e, ho, h3⟩
    · obtain ⟨v, e, ho⟩ := h2.1 h1; exact ⟨v, e, ho, h3⟩
  · exact ⟨[], 1, by simp, fun w hs => (Public_any A c l _ rfl hl hlc hm hu w hs).mono fun r w' ⟨h2, h3⟩ => ⟨_, h2.2 h1, own_nilS _ _, h3⟩, fun w hs => (refPublic_any A c l _ rfl hl hu w hs).mono fun r w' ⟨h2, h3⟩ => ⟨_, h2.2 h1, own_nilS _ _, h3⟩⟩
theorem split_both (s t n : Int) (s0 : 0 ≤ s) (A : Option Addr) (c : Nat) (xs : List Int) (hx : ∀ x ∈ xs, 0 ≤ x ∧ x < 256) (hl : xs.length ≤ 1000) (hc : xs.length ≤ c) (hm : c ≤ maxLen) : ∃ (m : List (Int × Int)) (e : Int), m.length ≤ 7 ∧
    (∀ w, SI w w.heap.size .u8 A xs → Calls Try.prog 13 #[.int .u64 s, .int .i64 t, .int .i64 n, .slice A xs.length c] w fun r w' => ∃ v, r = .returned (.tuple #[v, .int .i64 e]) ∧ OwnS w' w.heap.size v m ∧ Below w.heap.size w w') ∧
    (∀ w, SI w w.heap.size .u8 A xs → Calls Try.prog 14 #[.int .u64 s, .int .i64 t, .int .i64 n, .slice A xs.length c] w fun r w' => ∃ v, r = .returned (.tuple #[v, .int .i64 e]) ∧ OwnS w' w.heap.size v m ∧ Below w.heap.size w w') := by
  by_cases h : SplitI s t n
  · obtain ⟨t1, tn, n7, s1⟩ := h
    obtain ⟨T, rfl⟩ := Int.eq_ofNat_of_zero_le (show 0 ≤ t by omega)
    obtain ⟨N, rfl⟩ := Int.eq_ofNat_of_zero_le (show 0 ≤ n by omega)
    exact ⟨csplit (cpoly s xs T) N, 0, by rw [csplit_length]; omega, fun w hs => Split_ok s T N s0 (by omega) (by omega) (by omega) s1 A c xs hx hl hc hm w hs, fun w hs => refSplit_ok s T N s0 (by omega) (by omega) (by omega) s1 A c xs hx hl hc hm w hs⟩
  · exact ⟨[], 1, by simp, fun w hs => (Split_bad s t n s0 h _ w).mono fun r w' ⟨h1, h2⟩ => ⟨_, h1, own_nilS _ _, h2⟩, fun w hs => (refSplit_bad s t n s0 h _ w).mono fun r w' ⟨h1, h2⟩ => ⟨_, h1, own_nilS _ _, h2 ▸ Below.refl _ _⟩⟩
end Go.Proofs.Ytgboijbnjjmmkaa
