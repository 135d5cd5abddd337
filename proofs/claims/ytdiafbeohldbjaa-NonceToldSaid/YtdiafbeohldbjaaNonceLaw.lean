/- The laws of nonce, plainly. -/
import Derived.Test.YtdiafbeohldbjaaNonceMath
import Derived.Lib.Hide
namespace Go.Proofs.Ytdiafbeohldbjaa
set_option linter.unusedVariables false
set_option linter.unusedSimpArgs false

theorem ask_iff {now life : Int} : askF now life = true ↔ (0 ≤ now ∧ now ≤ 1099511627776) ∧ 1 ≤ life ∧ (life ≤ 1099511627776) ∧ now + life ≤ 1099511627776 := by
  unfold askF tm; simp; omega
theorem tell_cases (nx : Int) (L : List (Int × Int)) (now life : Int) :
    (chkF nx L = 0 ∧ askF now life = true ∧ (trimF now L).length < 64 ∧ nx < 1099511627776 ∧ tellF nx L now life = (nx + 1, trimF now L ++ [(nx, now + life)], nx, 0)) ∨ ∃ e, e ≠ 0 ∧ tellF nx L now life = (0, [], 0, e) := by
  unfold tellF
  by_cases h : chkF nx L = 0
  · rw [if_pos h]
    cases k : askF now life with
    | true =>
      rw [if_pos rfl]
      by_cases g : (decide (64 ≤ (trimF now L).length) || decide (nx = 1099511627776)) = true
      · rw [if_pos g]; exact .inr ⟨2, by decide, rfl⟩
      · rw [if_neg g]
        simp at g
        have := tm_iff.1 (chk_ok.1 h).1
        exact .inl ⟨h, rfl, g.1, by omega, rfl⟩
    | false => exact .inr ⟨1, by decide, rfl⟩
  · rw [if_neg h]; exact .inr ⟨_, h, rfl⟩
theorem use_cases (nx : Int) (L : List (Int × Int)) (n now : Int) :
    (chkF nx L = 0 ∧ tm now = true ∧ L.any (hitF n now) = true ∧ useF nx L n now = (nx, L.filter (fun p => !hitF n now p), 0)) ∨ ∃ e, e ≠ 0 ∧ useF nx L n now = (0, [], e) := by
  unfold useF
  by_cases h : chkF nx L = 0
  · rw [if_pos h]
    cases k : tm now with
    | true =>
      rw [if_pos rfl]
      cases g : L.any (hitF n now) with
      | true => rw [if_pos rfl]; exact .inl ⟨h, rfl, rfl, rfl⟩
      | false => exact .inr ⟨210, by decide, rfl⟩
    | false => exact .inr ⟨1, by decide, rfl⟩
  · rw [if_neg h]; exact .inr ⟨_, h, rfl⟩
theorem use_err {nx : Int} {L : List (Int × Int)} {n now : Int} (h : chkF nx L = 0) (k : tm now = true) : (useF nx L n now).2.2 = if L.any (hitF n now) then 0 else 210 := by
  unfold useF; rw [if_pos h, if_pos k]; split <;> rfl
theorem use_0 (n now : Int) : ∃ e, useF 0 [] n now = (0, [], e) := by
  rcases use_cases 0 [] n now with ⟨_, _, h, _⟩ | ⟨e, _, h⟩
  · simp at h
  · exact ⟨e, h⟩
theorem tell_len {nx : Int} {L : List (Int × Int)} {now life nx' k e : Int} {L' : List (Int × Int)} (h : tellF nx L now life = (nx', L', k, e)) : L'.length ≤ L.length + 1 := by
  rcases tell_cases nx L now life with ⟨_, _, _, _, g⟩ | ⟨_, _, g⟩ <;> rw [g] at h <;> injection h with h1 h2 <;> injection h2 with h2 h3 <;> subst h2
  · simp; exact List.length_filter_le _ _
  · simp
theorem use_len {nx : Int} {L : List (Int × Int)} {n now nx' e : Int} {L' : List (Int × Int)} (h : useF nx L n now = (nx', L', e)) : L'.length ≤ L.length := by
  rcases use_cases nx L n now with ⟨_, _, _, g⟩ | ⟨_, _, g⟩ <;> rw [g] at h <;> injection h with h1 h2 <;> injection h2 with h2 h3 <;> subst h2
  · exact List.length_filter_le _ _
  · simp
theorem trim_mem {now : Int} {L : List (Int × Int)} {p : Int × Int} : p ∈ trimF now L ↔ p ∈ L ∧ now ≤ p.2 := by unfold trimF freshF; simp [List.mem_filter]
theorem chk_trim {nx : Int} {L : List (Int × Int)} (now : Int) (h : chkF nx L = 0) : chkF nx (trimF now L) = 0 := by
  rw [chk_ok] at h ⊢
  exact ⟨h.1, okF_filter _ h.2.1, Nat.le_trans (List.length_filter_le _ _) h.2.2⟩
theorem chk_tell {nx now life : Int} {L : List (Int × Int)} (h : chkF nx L = 0) (k : askF now life = true) (g : (trimF now L).length < 64) (x : nx < 1099511627776) : chkF (nx + 1) (trimF now L ++ [(nx, now + life)]) = 0 := by
  rw [chk_ok] at h ⊢
  have h1 := tm_iff.1 h.1
  have h2 := ask_iff.1 k
  refine ⟨tm_iff.2 (by omega), okF_more (okF_filter _ h.2.1) h1.1 (tm_iff.2 (by omega)), by simp; omega⟩
/-- What was told is not yet there. -/
theorem told_lt {nx : Int} {L : List (Int × Int)} (h : chkF nx L = 0) : ∀ p ∈ L, p.1 < nx := fun p hp => (okF_mem (chk_ok.1 h).2.1 p hp).2.1
theorem told_any {nx u then_ : Int} {L : List (Int × Int)} (h : ∀ p ∈ L, p.1 < nx) : (L ++ [(nx, u)]).any (hitF nx then_) = decide (then_ ≤ u) := by
  rw [List.any_append, use_none (fun p hp e => by have := h p hp; omega)]
  simp [hitF, freshF]
theorem told_filter {nx u then_ : Int} {L : List (Int × Int)} (h : ∀ p ∈ L, p.1 < nx) (k : then_ ≤ u) : (L ++ [(nx, u)]).filter (fun p => !hitF nx then_ p) = L := by
  rw [List.filter_append]
  have e1 : L.filter (fun p => !hitF nx then_ p) = L := List.filter_eq_self.2 fun p hp => by
    have := h p hp
    unfold hitF
    have hne : ¬ p.1 = nx := by omega
    simp [hne]
  rw [e1]
  simp [hitF, freshF, k]
theorem told_use {nx now life then_ : Int} {L : List (Int × Int)} (h : chkF nx L = 0) (k : askF now life = true) (g : (trimF now L).length < 64) (x : nx < 1099511627776) (m : 0 ≤ then_ ∧ then_ ≤ now + life) :
    useF (nx + 1) (trimF now L ++ [(nx, now + life)]) nx then_ = (nx + 1, trimF now L, 0) := by
  have hc := chk_tell h k g x
  have ht : tm then_ = true := by have := ask_iff.1 k; exact tm_iff.2 (by omega)
  have hl : ∀ p ∈ trimF now L, p.1 < nx := fun p hp => told_lt h p (trim_mem.1 hp).1
  unfold useF
  rw [if_pos hc, if_pos ht, told_any hl, decide_eq_true m.2, if_pos rfl, told_filter hl m.2]
theorem told_late {nx now life then_ : Int} {L : List (Int × Int)} (h : chkF nx L = 0) (k : askF now life = true) (g : (trimF now L).length < 64) (x : nx < 1099511627776) (m : ¬ (0 ≤ then_ ∧ then_ ≤ now + life)) :
    ∃ e, e ≠ 0 ∧ useF (nx + 1) (trimF now L ++ [(nx, now + life)]) nx then_ = (0, [], e) := by
  have hl : ∀ p ∈ trimF now L, p.1 < nx := fun p hp => told_lt h p (trim_mem.1 hp).1
  rcases use_cases (nx + 1) (trimF now L ++ [(nx, now + life)]) nx then_ with ⟨_, h2, h3, _⟩ | h
  · rw [told_any hl] at h3
    have := tm_iff.1 h2
    have := of_decide_eq_true h3
    omega
  · exact h
theorem told_twice {nx now life then_ : Int} {L : List (Int × Int)} (h : chkF nx L = 0) (k : askF now life = true) (x : nx < 1099511627776) (m : 0 ≤ then_ ∧ then_ ≤ now + life) :
    useF (nx + 1) (trimF now L) nx then_ = (0, [], 210) := by
  have hc : chkF (nx + 1) (trimF now L) = 0 := by
    have := chk_ok.1 h
    have h1 := tm_iff.1 this.1
    refine chk_ok.2 ⟨tm_iff.2 (by omega), ?_, Nat.le_trans (List.length_filter_le _ _) this.2.2⟩
    exact okF_of ((okF_pair this.2.1).filter _) fun p hp => by
      have := okF_mem this.2.1 p (List.mem_filter.1 hp).1
      exact ⟨this.1, by omega, this.2.2⟩
  have ht : tm then_ = true := by have := ask_iff.1 k; exact tm_iff.2 (by omega)
  have hl : ∀ p ∈ trimF now L, p.1 ≠ nx := fun p hp e => by have := told_lt h p (trim_mem.1 hp).1; omega
  unfold useF
  rw [if_pos hc, if_pos ht, use_none hl]; rfl
theorem trim_fresh {now : Int} {L X : List (Int × Int)} (h : trimF now L = X) (j : Nat) (hj : j < X.length) : ¬ X[j].2 < now := by
  have hm : X[j] ∈ trimF now L := by rw [h]; exact List.getElem_mem hj
  have := trim_mem.1 hm
  omega
/-- Trimmed twice. -/
theorem trim_trim (now then_ : Int) (L : List (Int × Int)) : trimF then_ (trimF now L) = trimF (max now then_) L := by
  unfold trimF freshF
  rw [List.filter_filter]
  congr 1
  funext p
  rw [Bool.eq_iff_iff]; simp; omega
theorem trim_any_hit {now then_ n : Int} {L : List (Int × Int)} (h : now ≤ then_) : (trimF now L).any (hitF n then_) = L.any (hitF n then_) := by
  rw [Bool.eq_iff_iff, List.any_eq_true, List.any_eq_true]
  constructor
  · rintro ⟨p, hp, k⟩; exact ⟨p, (trim_mem.1 hp).1, k⟩
  · rintro ⟨p, hp, k⟩
    refine ⟨p, trim_mem.2 ⟨hp, ?_⟩, k⟩
    unfold hitF freshF at k; simp at k; omega
theorem trim_use {nx now then_ n : Int} {L : List (Int × Int)} (h : chkF nx L = 0) (k : now ≤ then_) : (useF nx (trimF now L) n then_).2.2 = (useF nx L n then_).2.2 := by
  have h' := chk_trim now h
  cases ht : tm then_ with
  | true => rw [use_err h ht, use_err h' ht, trim_any_hit k]
  | false => unfold useF; rw [if_pos h, if_pos h', ht]; rfl
/-- Of a number that is there one alone is hit. -/
theorem hit_filter {nx n now : Int} {L : List (Int × Int)} (h : chkF nx L = 0) (k : L.any (hitF n now) = true) : L.filter (fun p => !hitF n now p) = L.filter (fun p => decide (p.1 ≠ n)) ∧ (L.filter (fun p => decide (p.1 ≠ n))).length + 1 = L.length := by
  rw [List.any_eq_true] at k
  obtain ⟨p, hp, hh⟩ := k
  obtain ⟨j, hj, rfl⟩ := List.getElem_of_mem hp
  have hn : L[j].1 = n := by unfold hitF at hh; simp at hh; exact hh.1
  have hf : freshF now L[j] = true := by unfold hitF at hh; simp at hh; exact hh.2
  have hpw := okF_pair (chk_ok.1 h).2.1
  have h1 := (use_at (now := now) hpw j hj hn).2
  rw [hf, if_pos rfl, List.append_nil] at h1
  have h2 := (use_at (now := L[j].2) hpw j hj hn).2
  have e : L.filter (fun p => decide (p.1 ≠ n)) = L.take j ++ L.drop (j + 1) := by
    have hl : L = L.take j ++ L[j] :: L.drop (j + 1) := by rw [← List.drop_eq_getElem_cons hj, List.take_append_drop]
    generalize hy : L[j] = y at hl hn
    have hp' := hpw
    rw [hl, List.pairwise_append, List.pairwise_cons] at hp'
    obtain ⟨_, ⟨g2, _⟩, g3⟩ := hp'
    have e1 : (L.take j).filter (fun p => decide (p.1 ≠ n)) = L.take j := List.filter_eq_self.2 fun p hq => by have := g3 p hq y (List.mem_cons_self ..); simp; omega
    have e2 : (L.drop (j + 1)).filter (fun p => decide (p.1 ≠ n)) = L.drop (j + 1) := List.filter_eq_self.2 fun p hq => by have := g2 p hq; simp; omega
    conv => lhs; rw [hl]
    rw [List.filter_append, List.filter_cons, e1, e2]; simp [hn]
  exact ⟨h1.trans e.symm, by rw [e]; simp; omega⟩
theorem filter_get {α : Type} (q : α → Bool) : ∀ (L : List α) (i : Nat) (h : i < L.length), q L[i] = true → (L.filter q)[((L.take i).filter q).length]? = some L[i]
  | x :: L, 0, _, hq => by simp at hq; simp [List.filter_cons, hq]
  | x :: L, i + 1, h, hq => by
    have ih := filter_get q L i (by simpa using h) (by simpa using hq)
    cases hx : q x with
    | true => simpa [List.filter_cons, hx] using ih
    | false => simpa [List.filter_cons, hx] using ih
theorem any_other {n m now then_ : Int} {L : List (Int × Int)} (h : m ≠ n) : (L.filter (fun p => !hitF n now p)).any (hitF m then_) = L.any (hitF m then_) := by
  rw [Bool.eq_iff_iff, List.any_eq_true, List.any_eq_true]
  constructor
  · rintro ⟨p, hp, k⟩; exact ⟨p, (List.mem_filter.1 hp).1, k⟩
  · rintro ⟨p, hp, k⟩
    refine ⟨p, List.mem_filter.2 ⟨hp, ?_⟩, k⟩
    unfold hitF at k ⊢; simp at k ⊢; exact .inl (by omega)
theorem any_gone {n now then_ : Int} {L : List (Int × Int)} (hL : L.filter (fun p => !hitF n now p) = L.filter (fun p => decide (p.1 ≠ n))) : (L.filter (fun p => !hitF n now p)).any (hitF n then_) = false := by
  rw [hL]
  exact use_none fun p hp => by simpa using (List.mem_filter.1 hp).2
theorem chk_use {nx n now : Int} {L : List (Int × Int)} (h : chkF nx L = 0) : chkF nx (L.filter (fun p => !hitF n now p)) = 0 := by
  rw [chk_ok] at h ⊢
  exact ⟨h.1, okF_filter _ h.2.1, Nat.le_trans (List.length_filter_le _ _) h.2.2⟩
theorem apart_use {nx n m now then_ : Int} {L : List (Int × Int)} (h : chkF nx L = 0) (hm : m ≠ n) : (useF nx (L.filter (fun p => !hitF n now p)) m then_).2.2 = (useF nx L m then_).2.2 := by
  have h' := chk_use (n := n) (now := now) h
  cases ht : tm then_ with
  | true => rw [use_err h ht, use_err h' ht, any_other hm]
  | false => unfold useF; rw [if_pos h, if_pos h', ht]; rfl
theorem both_same {nx n now : Int} {L : List (Int × Int)} (h : chkF nx L = 0) (k : tm now = true) (g : L.any (hitF n now) = true) : useF nx (L.filter (fun p => !hitF n now p)) n now = (0, [], 210) := by
  have h' := chk_use (n := n) (now := now) h
  unfold useF
  rw [if_pos h', if_pos k, any_gone (hit_filter h g).1]; rfl
theorem both_other {nx n m now : Int} {L : List (Int × Int)} (h : chkF nx L = 0) (k : tm now = true) (g : L.any (hitF m now) = true) (hm : m ≠ n) : useF nx (L.filter (fun p => !hitF n now p)) m now = (nx, (L.filter (fun p => !hitF n now p)).filter (fun p => !hitF m now p), 0) := by
  have h' := chk_use (n := n) (now := now) h
  unfold useF
  rw [if_pos h', if_pos k, any_other hm, g, if_pos rfl]
theorem both_comm {n m now : Int} {L : List (Int × Int)} : (L.filter (fun p => !hitF n now p)).filter (fun p => !hitF m now p) = (L.filter (fun p => !hitF m now p)).filter (fun p => !hitF n now p) := by
  rw [List.filter_filter, List.filter_filter]; congr 1; funext p; rw [Bool.and_comm]
theorem both_len {nx n m now : Int} {L : List (Int × Int)} (h : chkF nx L = 0) (g : L.any (hitF n now) = true) (g' : L.any (hitF m now) = true) (hm : m ≠ n) : ((L.filter (fun p => !hitF n now p)).filter (fun p => !hitF m now p)).length + 2 = L.length := by
  have h1 := hit_filter h g
  have h2 := hit_filter (chk_use (n := n) (now := now) h) ((any_other hm).trans g')
  rw [h2.1]
  have a := h2.2
  have b := h1.2
  rw [← h1.1] at b
  omega
end Go.Proofs.Ytdiafbeohldbjaa
