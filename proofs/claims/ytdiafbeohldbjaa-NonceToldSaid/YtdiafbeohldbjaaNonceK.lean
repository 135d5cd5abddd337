/- Contracts of nonce with answers that are known: one form for all. -/
import Derived.Test.YtdiafbeohldbjaaNonceI
namespace Go.Proofs.Ytdiafbeohldbjaa
open Go.ChangeShapes Go.WideShapes Go.ChangeAt Go.RowKit Gs
set_option linter.unusedVariables false
set_option linter.unusedSimpArgs false
set_option linter.unusedSectionVars false

theorem nb0 (P : World) (o : Obj) : Below P.heap.size P (P.alloc o) := (Below.refl P.heap.size P).alloc (Nat.le_refl _) o
theorem field_open (x : Value) (A : Option Addr) (n c : Nat) (w : World) : (Instr.field 24 (.agg #[x, .slice A n c]) 1).run Try.prog w = .ok (.slice A n c) w := by first | rfl | kernel_rfl
theorem lt_on {a : Nat} {w w' : World} (h : a < w.heap.size) (hb : Below w.heap.size w w') : a < w'.heap.size := Nat.lt_of_lt_of_le h hb.size
theorem Few_n (nx : Int) (A : Option Addr) (n c : Nat) (hn : n ≤ maxLen) (w : World) : Calls Try.prog 12 #[fv nx A n c] w fun e w' => e = .returned (.bool (decide (n ≤ 100))) ∧ Below w.heap.size w w' := by
  unfold maxLen at hn
  by_cases h100 : n ≤ 100
  · rw [decide_eq_true h100]
    go_enter Try.func12, Try.ntmps12
    go_wp2_with fail
    go_ret
    exact ⟨by simp; omega, nb0 _ _⟩
  · rw [decide_eq_false h100]
    go_enter Try.func12, Try.ntmps12
    go_wp2_with fail
    go_ret
    exact ⟨by simp; omega, nb0 _ _⟩
section
variable (nx : Int) (A : Option Addr) (n c : Nat) (L : List (Int × Int)) (hn : L.length = n) (hl : n ≤ 1048576)
include hn hl
theorem Check_k (r : Int) (h : chkF nx L = r) (w : World) (hs : NS w w.heap.size A L) : Calls Try.prog 13 #[fv nx A n c] w fun e w' => e = .returned (.int .i64 r) ∧ Below w.heap.size w w' := by
  subst hn h; exact Check_any nx A c L (by omega) w hs
theorem refCheck_k (r : Int) (h : chkF nx L = r) (w : World) (hs : NS w w.heap.size A L) : Calls Try.prog 14 #[fv nx A n c] w fun e w' => e = .returned (.int .i64 r) ∧ Below w.heap.size w w' := by
  subst hn h; exact refCheck_any nx A c L (by omega) w hs
theorem Trim_k (now : Int) (L' : List (Int × Int)) (n' : Nat) (h : trimF now L = L') (hn' : L'.length = n') (w : World) (hs : NS w w.heap.size A L) :
    Calls Try.prog 16 #[fv nx A n c, .int .i64 now] w fun e w' => ∃ A' c', e = .returned (.agg #[.int .i64 nx, .slice A' n' c']) ∧ (n' ≤ c' ∧ c' ≤ maxLen) ∧ NS w' w'.heap.size A' L' ∧ Below w.heap.size w w' := by
  subst hn h hn'
  exact (Trim_any nx now A c L hl w hs).mono fun e w' ⟨v, he, hf, hb⟩ => by obtain ⟨A', c', rfl, h1, h2, h3⟩ := hf.open; exact ⟨A', c', he, ⟨h1, h2⟩, h3, hb⟩
theorem refTrim_k (now : Int) (L' : List (Int × Int)) (n' : Nat) (h : trimF now L = L') (hn' : L'.length = n') (w : World) (hs : NS w w.heap.size A L) :
    Calls Try.prog 17 #[fv nx A n c, .int .i64 now] w fun e w' => ∃ A' c', e = .returned (.agg #[.int .i64 nx, .slice A' n' c']) ∧ (n' ≤ c' ∧ c' ≤ maxLen) ∧ NS w' w'.heap.size A' L' ∧ Below w.heap.size w w' := by
  subst hn h hn'
  exact (refTrim_any nx now A c L hl w hs).mono fun e w' ⟨v, he, hf, hb⟩ => by obtain ⟨A', c', rfl, h1, h2, h3⟩ := hf.open; exact ⟨A', c', he, ⟨h1, h2⟩, h3, hb⟩
theorem Tell_k (now life : Int) (nx' : Int) (L' : List (Int × Int)) (n' : Nat) (k e0 : Int) (h : tellF nx L now life = (nx', L', k, e0)) (hn' : L'.length = n') (w : World) (hs : NS w w.heap.size A L) :
    Calls Try.prog 18 #[fv nx A n c, .int .i64 now, .int .i64 life] w fun e w' => ∃ A' c', e = .returned (.tuple #[.agg #[.int .i64 nx', .slice A' n' c'], .int .i64 k, .int .i64 e0]) ∧ (n' ≤ c' ∧ c' ≤ maxLen) ∧ NS w' w'.heap.size A' L' ∧ Below w.heap.size w w' := by
  subst hn hn'
  have H : Calls Try.prog 18 #[fv nx A L.length c, .int .i64 now, .int .i64 life] w fun e w' => TellE w' w.heap.size (tellF nx L now life) e ∧ Below w.heap.size w w' := by
    by_cases h1 : chkF nx L = 0
    · cases h2 : askF now life with
      | true =>
        by_cases h3 : 64 ≤ (trimF now L).length
        · exact Tell_full1 nx now life A c L hl w hs h1 h2 h3
        · by_cases h4 : nx = 1099511627776
          · exact Tell_full2 nx now life A c L hl w hs h1 h2 (by omega) h4
          · exact Tell_ok nx now life A c L hl w hs h1 h2 (by omega) h4
      | false => exact Tell_arg nx now life A c L hl w hs h1 h2
    · exact Tell_chk nx now life A c L hl w hs h1
  rw [h] at H
  exact H.mono fun e w' ⟨⟨x, he, hf⟩, hb⟩ => by obtain ⟨A', c', rfl, g1, g2, g3⟩ := hf.open; exact ⟨A', c', he, ⟨g1, g2⟩, g3, hb⟩
theorem refTell_k (now life : Int) (nx' : Int) (L' : List (Int × Int)) (n' : Nat) (k e0 : Int) (h : tellF nx L now life = (nx', L', k, e0)) (hn' : L'.length = n') (w : World) (hs : NS w w.heap.size A L) :
    Calls Try.prog 19 #[fv nx A n c, .int .i64 now, .int .i64 life] w fun e w' => ∃ A' c', e = .returned (.tuple #[.agg #[.int .i64 nx', .slice A' n' c'], .int .i64 k, .int .i64 e0]) ∧ (n' ≤ c' ∧ c' ≤ maxLen) ∧ NS w' w'.heap.size A' L' ∧ Below w.heap.size w w' := by
  subst hn hn'
  have H : Calls Try.prog 19 #[fv nx A L.length c, .int .i64 now, .int .i64 life] w fun e w' => TellE w' w.heap.size (tellF nx L now life) e ∧ Below w.heap.size w w' := by
    by_cases h1 : chkF nx L = 0
    · cases h2 : askF now life with
      | true =>
        by_cases h3 : 64 ≤ (trimF now L).length
        · exact refTell_full1 nx now life A c L hl w hs h1 h2 h3
        · by_cases h4 : nx = 1099511627776
          · exact refTell_full2 nx now life A c L hl w hs h1 h2 (by omega) h4
          · exact refTell_ok nx now life A c L hl w hs h1 h2 (by omega) h4
      | false => exact refTell_arg nx now life A c L hl w hs h1 h2
    · exact refTell_chk nx now life A c L hl w hs h1
  rw [h] at H
  exact H.mono fun e w' ⟨⟨x, he, hf⟩, hb⟩ => by obtain ⟨A', c', rfl, g1, g2, g3⟩ := hf.open; exact ⟨A', c', he, ⟨g1, g2⟩, g3, hb⟩
theorem Use_k (m now : Int) (nx' : Int) (L' : List (Int × Int)) (n' : Nat) (e0 : Int) (h : useF nx L m now = (nx', L', e0)) (hn' : L'.length = n') (hcap : n ≤ c ∧ c ≤ maxLen) (w : World) (hs : NS w w.heap.size A L) :
    Calls Try.prog 20 #[fv nx A n c, .int .i64 m, .int .i64 now] w fun e w' => ∃ A' c', e = .returned (.tuple #[.agg #[.int .i64 nx', .slice A' n' c'], .int .i64 e0]) ∧ (n' ≤ c' ∧ c' ≤ maxLen) ∧ NS w' w'.heap.size A' L' ∧ Below w.heap.size w w' := by
  subst hn hn'
  have H := Use_any nx m now A c L hl hcap.1 hcap.2 w hs
  rw [h] at H
  exact H.mono fun e w' ⟨⟨x, he, hf⟩, hb⟩ => by obtain ⟨A', c', rfl, g1, g2, g3⟩ := hf.open; exact ⟨A', c', he, ⟨g1, g2⟩, g3, hb⟩
theorem refUse_k (m now : Int) (nx' : Int) (L' : List (Int × Int)) (n' : Nat) (e0 : Int) (h : useF nx L m now = (nx', L', e0)) (hn' : L'.length = n') (w : World) (hs : NS w w.heap.size A L) :
    Calls Try.prog 21 #[fv nx A n c, .int .i64 m, .int .i64 now] w fun e w' => ∃ A' c', e = .returned (.tuple #[.agg #[.int .i64 nx', .slice A' n' c'], .int .i64 e0]) ∧ (n' ≤ c' ∧ c' ≤ maxLen) ∧ NS w' w'.heap.size A' L' ∧ Below w.heap.size w w' := by
  subst hn hn'
  have H := refUse_any nx m now A c L hl w hs
  rw [h] at H
  exact H.mono fun e w' ⟨⟨x, he, hf⟩, hb⟩ => by obtain ⟨A', c', rfl, g1, g2, g3⟩ := hf.open; exact ⟨A', c', he, ⟨g1, g2⟩, g3, hb⟩
theorem Same_k (A' : Option Addr) (c' : Nat) (w : World) (hs : NS w w.heap.size A L) (hs' : NS w w.heap.size A' L) : Calls Try.prog 15 #[fv nx A n c, fv nx A' n c'] w fun e w' => e = .returned (.bool true) ∧ Below w.heap.size w w' := by
  subst hn; exact Same_yes nx A A' c c' L (by omega) w hs hs'
theorem back_k (hx : -9223372036854775808 ≤ nx ∧ nx < 9223372036854775807) (w : World) (hs : NS w w.heap.size A L) : Calls Try.prog 22 #[fv nx A n c] w fun e w' => e = .returned (.agg #[.int .i64 (nx + 1), .slice A n c]) ∧ Below w.heap.size w w' := by
  obtain ⟨x0, x1⟩ := hx
  clear hs hn
  go_enter Try.func22, Try.ntmps22
  go_wp2_with fail
  refine bodyPost_ret (v := fv (nx + 1) A n c) (by simp [results, Try.results22, go_sem]) rfl ⟨rfl, ?_⟩
  exact ((Below.refl _ _).alloc (Nat.le_refl _) _).alloc (by simp) _
end
end Go.Proofs.Ytdiafbeohldbjaa
