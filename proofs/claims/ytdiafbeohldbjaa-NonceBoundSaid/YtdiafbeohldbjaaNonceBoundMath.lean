/- How many are told till there is no more room, plainly. -/
import Derived.Test.YtdiafbeohldbjaaNonceLaw
import Derived.Test.YtdiafbeohldbjaaNonceF
namespace Go.Proofs.Ytdiafbeohldbjaa
set_option linter.unusedVariables false
set_option linter.unusedSimpArgs false

def newsF (nx u : Int) : Nat → List (Int × Int)
  | 0 => []
  | j + 1 => newsF nx u j ++ [(nx + j, u)]
theorem news_len (nx u : Int) : ∀ j, (newsF nx u j).length = j
  | 0 => rfl
  | j + 1 => by simp [newsF, news_len nx u j]
theorem news_fresh {nx u now : Int} (h : now ≤ u) : ∀ j, trimF now (newsF nx u j) = newsF nx u j
  | 0 => rfl
  | j + 1 => by
    have ih := news_fresh (nx := nx) h j
    unfold trimF at ih ⊢
    rw [newsF, List.filter_append, ih]; simp [freshF, h]
theorem news_mem {nx u : Int} : ∀ {j p}, p ∈ newsF nx u j → p.2 = u
  | 0, p, h => by simp [newsF] at h
  | j + 1, p, h => by
    rw [newsF, List.mem_append] at h
    rcases h with h | h
    · exact news_mem h
    · simp at h; rw [h]
/-- What is open when j have been told. -/
def bF (nx now life : Int) (L : List (Int × Int)) : Nat → List (Int × Int)
  | 0 => L
  | j + 1 => trimF now L ++ newsF nx (now + life) (j + 1)
theorem b_trim {nx now life : Int} {L : List (Int × Int)} (h : 1 ≤ life) (j : Nat) : trimF now (bF nx now life L j) = trimF now L ++ newsF nx (now + life) j := by
  cases j with
  | zero => simp [bF, newsF]
  | succ j =>
    rw [bF]
    have e : trimF now (trimF now L ++ newsF nx (now + life) (j + 1)) = trimF now (trimF now L) ++ trimF now (newsF nx (now + life) (j + 1)) := by unfold trimF; rw [List.filter_append]
    rw [e, news_fresh (by omega), trim_trim, show max now now = now by omega]
theorem b_tell {nx now life : Int} {L : List (Int × Int)} (h : chkF nx L = 0) (hn : 0 ≤ now ∧ now ≤ 1073741824) (hl : 1 ≤ life ∧ life ≤ 1073741824) (hx : nx ≤ 1073741824) (j : Nat) (hj : j + (trimF now L).length < 64) (hc : chkF (nx + j) (bF nx now life L j) = 0) :
    tellF (nx + j) (bF nx now life L j) now life = (nx + j + 1, bF nx now life L (j + 1), nx + j, 0) := by
  have hk : askF now life = true := ask_iff.2 (by omega)
  have ht := b_trim (nx := nx) (now := now) (L := L) hl.1 j
  rw [tell_ok hc hk (by rw [ht]; simp [news_len]; omega) (by omega), ht]
  simp [bF, newsF]
theorem b_chk {nx now life : Int} {L : List (Int × Int)} (h : chkF nx L = 0) (hn : 0 ≤ now ∧ now ≤ 1073741824) (hl : 1 ≤ life ∧ life ≤ 1073741824) (hx : nx ≤ 1073741824) : ∀ (j : Nat), j + (trimF now L).length ≤ 64 → chkF (nx + j) (bF nx now life L j) = 0
  | 0, _ => by simpa [bF] using h
  | j + 1, hj => by
    have ih := b_chk h hn hl hx j (by omega)
    have hk : askF now life = true := ask_iff.2 (by omega)
    have ht := b_trim (nx := nx) (now := now) (L := L) hl.1 j
    have := chk_tell ih hk (by rw [ht]; simp [news_len]; omega) (by omega)
    rw [ht] at this
    simpa [bF, newsF, Int.add_assoc] using this
theorem b_full {nx now life : Int} {L : List (Int × Int)} (hn : 0 ≤ now ∧ now ≤ 1073741824) (hl : 1 ≤ life ∧ life ≤ 1073741824) (j : Nat) (hj : j + (trimF now L).length = 64) (hc : chkF (nx + j) (bF nx now life L j) = 0) : tellF (nx + j) (bF nx now life L j) now life = (0, [], 0, 2) := by
  have hk : askF now life = true := ask_iff.2 (by omega)
  have ht := b_trim (nx := nx) (now := now) (L := L) hl.1 j
  exact tell_full hc hk (.inl (by rw [ht]; simp [news_len]; omega))
theorem b_len {nx now life : Int} {L : List (Int × Int)} (h : chkF nx L = 0) (j : Nat) (hj : j + (trimF now L).length = 64) : (bF nx now life L j).length = 64 := by
  cases j with
  | zero =>
    have := trim_le now L
    have := (chk_ok.1 h).2.2
    rw [bF]; omega
  | succ j => rw [bF]; simp [news_len]; omega
theorem b_le {nx now life : Int} {L : List (Int × Int)} (h : chkF nx L = 0) (j : Nat) (hj : j + (trimF now L).length ≤ 64) : (bF nx now life L j).length ≤ 64 := by
  cases j with
  | zero => exact (chk_ok.1 h).2.2
  | succ j => rw [bF]; simp [news_len]; omega
theorem b_late {nx now life late : Int} {L : List (Int × Int)} (h1 : now + life + 1 ≤ late) (h2 : ∀ p ∈ L, p.2 + 1 ≤ late) (j : Nat) : trimF late (bF nx now life L j) = [] := by
  unfold trimF
  rw [List.filter_eq_nil_iff]
  intro p hp
  have : p.2 + 1 ≤ late := by
    cases j with
    | zero => exact h2 p hp
    | succ j =>
      rw [bF, List.mem_append] at hp
      rcases hp with hp | hp
      · exact h2 p (trim_mem.1 hp).1
      · rw [news_mem hp]; exact h1
  unfold freshF
  simp; omega
theorem b_again {nx now life late : Int} {L : List (Int × Int)} (h1 : now + life + 1 ≤ late) (h2 : ∀ p ∈ L, p.2 + 1 ≤ late) (h0 : 0 ≤ late) (hl : late < 1099511627776) (j : Nat) (hx : nx + j < 1099511627776) (hc : chkF (nx + j) (bF nx now life L j) = 0) :
    tellF (nx + j) (bF nx now life L j) late 1 = (nx + j + 1, [(nx + j, late + 1)], nx + j, 0) := by
  have hk : askF late 1 = true := ask_iff.2 (by omega)
  have ht := b_late (nx := nx) h1 h2 j
  rw [tell_ok hc hk (by rw [ht]; simp) (by omega), ht]; rfl
end Go.Proofs.Ytdiafbeohldbjaa
