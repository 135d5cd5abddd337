/- Fences, plainly: which may be, what is trimmed, told, used. -/
import Derived.Lib.Hide
namespace Go.Proofs.Ytdiafbeohldbjaa
set_option linter.unusedVariables false

def tm (t : Int) : Bool := decide (0 ≤ t) && decide (t ≤ 1099511627776)
theorem tm_iff {t : Int} : tm t = true ↔ 0 ≤ t ∧ t ≤ 1099511627776 := by unfold tm; simp
theorem tm_no {t : Int} : tm t = false ↔ ¬ (0 ≤ t ∧ t ≤ 1099511627776) := by rw [← tm_iff]; simp
/-- The nonces stand in order, from 'least' on, below nx, with a time each. -/
def okF (nx : Int) : Int → List (Int × Int) → Bool
  | _, [] => true
  | least, p :: r => (decide (least ≤ p.1) && decide (p.1 < nx) && tm p.2) && okF nx (p.1 + 1) r
def chkF (nx : Int) (L : List (Int × Int)) : Int := if tm nx && okF nx 0 L then (if 64 < L.length then 2 else 0) else 1
def freshF (now : Int) (p : Int × Int) : Bool := decide (now ≤ p.2)
def trimF (now : Int) (L : List (Int × Int)) : List (Int × Int) := L.filter (freshF now)
def askF (now life : Int) : Bool := tm now && decide (1 ≤ life) && tm life && tm (now + life)
def tellF (nx : Int) (L : List (Int × Int)) (now life : Int) : Int × List (Int × Int) × Int × Int :=
  if chkF nx L = 0 then
    if askF now life then
      if decide (64 ≤ (trimF now L).length) || decide (nx = 1099511627776) then (0, [], 0, 2) else (nx + 1, trimF now L ++ [(nx, now + life)], nx, 0)
    else (0, [], 0, 1)
  else (0, [], 0, chkF nx L)
def hitF (n now : Int) (p : Int × Int) : Bool := decide (p.1 = n) && freshF now p
def useF (nx : Int) (L : List (Int × Int)) (n now : Int) : Int × List (Int × Int) × Int :=
  if chkF nx L = 0 then
    if tm now then
      if L.any (hitF n now) then (nx, L.filter (fun p => !hitF n now p), 0) else (0, [], 210)
    else (0, [], 1)
  else (0, [], chkF nx L)

theorem okF_low {nx a b : Int} {L : List (Int × Int)} (h : okF nx a L = true) (hb : b ≤ a) : okF nx b L = true := by
  cases L with
  | nil => rfl
  | cons p r => simp only [okF, Bool.and_eq_true, decide_eq_true_eq] at h ⊢; exact ⟨⟨⟨by omega, h.1.1.2⟩, h.1.2⟩, h.2⟩
theorem okF_mem {nx : Int} : ∀ {a : Int} {L : List (Int × Int)}, okF nx a L = true → ∀ p ∈ L, a ≤ p.1 ∧ p.1 < nx ∧ tm p.2 = true
  | _, [], _, p, hp => by cases hp
  | a, q :: r, h, p, hp => by
    simp only [okF, Bool.and_eq_true, decide_eq_true_eq] at h
    rcases List.mem_cons.1 hp with rfl | hp
    · exact ⟨h.1.1.1, h.1.1.2, h.1.2⟩
    · have := okF_mem h.2 p hp; exact ⟨by omega, this.2⟩
theorem okF_pair {nx : Int} : ∀ {a : Int} {L : List (Int × Int)}, okF nx a L = true → L.Pairwise (fun p q => p.1 < q.1)
  | _, [], _ => .nil
  | a, q :: r, h => by
    simp only [okF, Bool.and_eq_true, decide_eq_true_eq] at h
    exact .cons (fun p hp => by have := okF_mem h.2 p hp; omega) (okF_pair h.2)
theorem okF_of {nx : Int} : ∀ {a : Int} {L : List (Int × Int)}, L.Pairwise (fun p q => p.1 < q.1) → (∀ p ∈ L, a ≤ p.1 ∧ p.1 < nx ∧ tm p.2 = true) → okF nx a L = true
  | _, [], _, _ => rfl
  | a, q :: r, h, k => by
    rw [List.pairwise_cons] at h
    have hq := k q (List.mem_cons_self ..)
    simp only [okF, Bool.and_eq_true, decide_eq_true_eq]
    exact ⟨⟨⟨hq.1, hq.2.1⟩, hq.2.2⟩, okF_of h.2 fun p hp => ⟨by have := h.1 p hp; omega, (k p (List.mem_cons_of_mem _ hp)).2⟩⟩
theorem okF_filter {nx a : Int} {L : List (Int × Int)} (q : Int × Int → Bool) (h : okF nx a L = true) : okF nx a (L.filter q) = true :=
  okF_of ((okF_pair h).filter _) fun p hp => okF_mem h p (List.mem_filter.1 hp).1
theorem okF_more {nx u : Int} {L : List (Int × Int)} (h : okF nx 0 L = true) (h0 : 0 ≤ nx) (hu : tm u = true) : okF (nx + 1) 0 (L ++ [(nx, u)]) = true := by
  refine okF_of ?_ fun p hp => ?_
  · rw [List.pairwise_append]
    refine ⟨okF_pair h, by simp, fun p hp q hq => ?_⟩
    have := okF_mem h p hp
    simp at hq; subst hq; exact this.2.1
  · rcases List.mem_append.1 hp with hp | hp
    · have := okF_mem h p hp; exact ⟨this.1, by omega, this.2.2⟩
    · simp at hp; subst hp; exact ⟨h0, by simp; omega, hu⟩
theorem okF_drop {nx : Int} {L : List (Int × Int)} (k : Nat) (hk : k < L.length) (a : Int) : okF nx a (L.drop k) = ((decide (a ≤ L[k].1) && decide (L[k].1 < nx) && tm L[k].2) && okF nx (L[k].1 + 1) (L.drop (k + 1))) := by
  rw [List.drop_eq_getElem_cons hk]; rfl

theorem chk_ok {nx : Int} {L : List (Int × Int)} : chkF nx L = 0 ↔ tm nx = true ∧ okF nx 0 L = true ∧ L.length ≤ 64 := by
  unfold chkF
  by_cases h : (tm nx && okF nx 0 L) = true
  · rw [if_pos h]
    rw [Bool.and_eq_true] at h
    by_cases h6 : 64 < L.length
    · rw [if_pos h6]; exact ⟨(fun e => absurd e (by decide)), (fun e => by omega)⟩
    · rw [if_neg h6]; exact ⟨(fun _ => ⟨h.1, h.2, by omega⟩), (fun _ => rfl)⟩
  · rw [if_neg h]
    exact ⟨(fun e => absurd e (by decide)), (fun e => absurd (by rw [e.1, e.2.1]; rfl) h)⟩
theorem chk_bad {nx : Int} {L : List (Int × Int)} (h : tm nx = false ∨ okF nx 0 L = false) : chkF nx L = 1 := by
  unfold chkF; rw [if_neg (by rcases h with h | h <;> simp [h])]
theorem chk_good {nx : Int} {L : List (Int × Int)} (h : tm nx = true) (k : okF nx 0 L = true) : chkF nx L = if 64 < L.length then 2 else 0 := by
  unfold chkF; rw [if_pos (by rw [h, k]; rfl)]
theorem chk_012 (nx : Int) (L : List (Int × Int)) : chkF nx L = 0 ∨ chkF nx L = 1 ∨ chkF nx L = 2 := by
  unfold chkF; split
  · split
    · exact .inr (.inr rfl)
    · exact .inl rfl
  · exact .inr (.inl rfl)
/-- Where a number stands, in a list in order. -/
theorem use_at {L : List (Int × Int)} {n now : Int} (hp : L.Pairwise (fun p q => p.1 < q.1)) (k : Nat) (hk : k < L.length) (hn : L[k].1 = n) :
    L.any (hitF n now) = freshF now L[k] ∧ L.filter (fun p => !hitF n now p) = L.take k ++ (if freshF now L[k] then [] else [L[k]]) ++ L.drop (k + 1) := by
  have hl : L = L.take k ++ L[k] :: L.drop (k + 1) := by rw [← List.drop_eq_getElem_cons hk, List.take_append_drop]
  have hx : hitF n now L[k] = freshF now L[k] := by unfold hitF; simp [hn]
  generalize hy : L[k] = y at hl hx hn
  have hp' := hp
  rw [hl, List.pairwise_append, List.pairwise_cons] at hp'
  obtain ⟨_, ⟨h2, _⟩, h3⟩ := hp'
  have a1 : ∀ p ∈ L.take k, hitF n now p = false := fun p hq => by
    have := h3 p hq y (List.mem_cons_self ..)
    unfold hitF; simp; intro e; omega
  have a2 : ∀ p ∈ L.drop (k + 1), hitF n now p = false := fun p hq => by
    have := h2 p hq
    unfold hitF; simp; intro e; omega
  constructor
  · rw [hl, List.any_append, List.any_cons, hx]
    have e1 : (L.take k).any (hitF n now) = false := by rw [List.any_eq_false]; intro p hq; simp [a1 p hq]
    have e2 : (L.drop (k + 1)).any (hitF n now) = false := by rw [List.any_eq_false]; intro p hq; simp [a2 p hq]
    rw [e1, e2]; simp
  · have e1 : (L.take k).filter (fun p => !hitF n now p) = L.take k := List.filter_eq_self.2 fun p hq => by simp [a1 p hq]
    have e2 : (L.drop (k + 1)).filter (fun p => !hitF n now p) = L.drop (k + 1) := List.filter_eq_self.2 fun p hq => by simp [a2 p hq]
    conv => lhs; rw [hl]
    rw [List.filter_append, List.filter_cons, e1, e2, hx]
    cases freshF now y <;> simp
theorem use_none {L : List (Int × Int)} {n now : Int} (h : ∀ p ∈ L, p.1 ≠ n) : L.any (hitF n now) = false := by
  rw [List.any_eq_false]; intro p hp; unfold hitF; simp; intro e; exact absurd e (h p hp)
end Go.Proofs.Ytdiafbeohldbjaa
