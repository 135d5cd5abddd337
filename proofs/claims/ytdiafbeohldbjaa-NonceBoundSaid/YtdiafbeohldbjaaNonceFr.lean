/- What is told, used, or trimmed lies in memory of the call's own. -/
import Derived.Test.YtdiafbeohldbjaaNonceK
namespace Go.Proofs.Ytdiafbeohldbjaa
open Go.ChangeShapes Go.WideShapes Go.ChangeAt Go.RowKit Gs
set_option linter.unusedVariables false
set_option linter.unusedSimpArgs false
set_option linter.unusedSectionVars false

/-- The slice lies in no block g, if it holds anything. -/
def Off (g : Nat) (A : Option Addr) (l : List (Int × Int)) : Prop := l = [] ∨ ∃ ad, A = some ad ∧ ad.block ≠ g
theorem NS.set {w : World} {B g o : Nat} {A : Option Addr} {l : List (Int × Int)} (h : NS w B A l) (hg : Off g A l) (v : Value) : NS (w.setCell ⟨g, o, none⟩ v) B A l := fun j hj => by
  obtain ⟨ad, rfl, hb, c0, c1⟩ := h j hj
  rcases hg with rfl | ⟨ad', e, hne⟩
  · simp at hj
  · cases e
    exact ⟨ad, rfl, hb, cell_far c0 (by rw [block_of_add]; exact hne), cell_far c1 (by show (ad.add (j * 2)).block ≠ g; rw [block_of_add]; exact hne)⟩
theorem FenceE.openF {w : World} {B : Nat} {nx : Int} {l : List (Int × Int)} {v : Value} (h : FenceE w B nx l v) : ∃ A c, v = .agg #[.int .i64 nx, .slice A l.length c] ∧ (l.length ≤ c ∧ c ≤ maxLen) ∧ NS w w.heap.size A l ∧ ∀ g, g < B → Off g A l := by
  obtain ⟨x, rfl, ho⟩ := h
  obtain ⟨A, c, rfl, h1, h2, h3, h4⟩ := own_sliceN ho
  refine ⟨A, c, rfl, ⟨h1, h2⟩, h3, fun g hg => ?_⟩
  cases l with
  | nil => exact .inl rfl
  | cons p r =>
    obtain ⟨ad, e, _⟩ := h3 0 (by simp)
    exact .inr ⟨ad, e, by have := h4 ad e; omega⟩
theorem off_old {w : World} {B g : Nat} {A : Option Addr} {l : List (Int × Int)} (h : NS w B A l) (hg : B ≤ g) : Off g A l := by
  cases l with
  | nil => exact .inl rfl
  | cons p r =>
    obtain ⟨ad, e, hb, _⟩ := h 0 (by simp)
    exact .inr ⟨ad, e, by omega⟩
section
variable (nx : Int) (A : Option Addr) (n c : Nat) (L : List (Int × Int)) (hn : L.length = n) (hl : n ≤ 1048576)
include hn hl
theorem Tell_f (now life : Int) (nx' : Int) (L' : List (Int × Int)) (n' : Nat) (k e0 : Int) (h : tellF nx L now life = (nx', L', k, e0)) (hn' : L'.length = n') (w : World) (hs : NS w w.heap.size A L) :
    Calls Try.prog 18 #[fv nx A n c, .int .i64 now, .int .i64 life] w fun e w' => ∃ A' c', e = .returned (.tuple #[.agg #[.int .i64 nx', .slice A' n' c'], .int .i64 k, .int .i64 e0]) ∧ (n' ≤ c' ∧ c' ≤ maxLen) ∧ NS w' w'.heap.size A' L' ∧ (∀ g, g < w.heap.size → Off g A' L') ∧ Below w.heap.size w w' := by
  subst hn hn'
  have H : Calls Try.prog 18 #[fv nx A L.length c, .int .i64 now, .int .i64 life] w fun e w' => TellE w' w.heap.size (tellF nx L now life) e ∧ Below w.heap.size w w' := by
    by_cases h1 : chkF nx L = 0
    · cases h2 : askF now life with
      | true =>
        by_cases h3 : 64 ≤ (trimF now L).length
        · exact Tell_full1 nx now life A c L hl w hs h1 h2 h3
        · by_cases h4 : nx = 1099511627776
          · exact Tell_full2 nx now life A c L hl w hs h1 h2 (by omega) h4
          · exact Tell_ok nx now life A c L hl w hs h1 h2 (by omega) h4
      | false => exact Tell_arg nx now life A c L hl w hs h1 h2
    · exact Tell_chk nx now life A c L hl w hs h1
  rw [h] at H
  exact H.mono fun e w' ⟨⟨x, he, hf⟩, hb⟩ => by obtain ⟨A', c', rfl, g1, g2, g3⟩ := hf.openF; exact ⟨A', c', he, g1, g2, g3, hb⟩
theorem Use_f (m now : Int) (nx' : Int) (L' : List (Int × Int)) (n' : Nat) (e0 : Int) (h : useF nx L m now = (nx', L', e0)) (hn' : L'.length = n') (hcap : n ≤ c ∧ c ≤ maxLen) (w : World) (hs : NS w w.heap.size A L) :
    Calls Try.prog 20 #[fv nx A n c, .int .i64 m, .int .i64 now] w fun e w' => ∃ A' c', e = .returned (.tuple #[.agg #[.int .i64 nx', .slice A' n' c'], .int .i64 e0]) ∧ (n' ≤ c' ∧ c' ≤ maxLen) ∧ NS w' w'.heap.size A' L' ∧ (∀ g, g < w.heap.size → Off g A' L') ∧ Below w.heap.size w w' := by
  subst hn hn'
  have H := Use_any nx m now A c L hl hcap.1 hcap.2 w hs
  rw [h] at H
  exact H.mono fun e w' ⟨⟨x, he, hf⟩, hb⟩ => by obtain ⟨A', c', rfl, g1, g2, g3⟩ := hf.openF; exact ⟨A', c', he, g1, g2, g3, hb⟩
theorem Trim_f (now : Int) (L' : List (Int × Int)) (n' : Nat) (h : trimF now L = L') (hn' : L'.length = n') (w : World) (hs : NS w w.heap.size A L) :
    Calls Try.prog 16 #[fv nx A n c, .int .i64 now] w fun e w' => ∃ A' c', e = .returned (.agg #[.int .i64 nx, .slice A' n' c']) ∧ (n' ≤ c' ∧ c' ≤ maxLen) ∧ NS w' w'.heap.size A' L' ∧ (∀ g, g < w.heap.size → Off g A' L') ∧ Below w.heap.size w w' := by
  subst hn h hn'
  exact (Trim_any nx now A c L hl w hs).mono fun e w' ⟨v, he, hf, hb⟩ => by obtain ⟨A', c', rfl, g1, g2, g3⟩ := hf.openF; exact ⟨A', c', he, g1, g2, g3, hb⟩
end
end Go.Proofs.Ytdiafbeohldbjaa
