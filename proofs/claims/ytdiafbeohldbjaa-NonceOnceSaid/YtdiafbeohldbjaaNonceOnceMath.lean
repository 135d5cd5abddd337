/- Each is used once, plainly: what holds of a fence and of what was told. -/
import Derived.Test.YtdiafbeohldbjaaNonceLaw
import Derived.Test.YtdiafbeohldbjaaNonceF
namespace Go.Proofs.Ytdiafbeohldbjaa
set_option linter.unusedVariables false
set_option linter.unusedSimpArgs false

/-- The time till which a number may be used, by what was told. -/
def opF (n : Int) (T : List (Int × Int)) : Int := T.foldl (fun o p => if p.1 = n then p.2 else o) (-1)
theorem op_snoc (n : Int) (T : List (Int × Int)) (p : Int × Int) : opF n (T ++ [p]) = if p.1 = n then p.2 else opF n T := by unfold opF; rw [List.foldl_append]; rfl
theorem op_none {n : Int} : ∀ {T : List (Int × Int)}, (∀ p ∈ T, p.1 ≠ n) → ∀ a, T.foldl (fun o p => if p.1 = n then p.2 else o) a = a
  | [], _, a => rfl
  | p :: r, h, a => by
    rw [List.foldl_cons, if_neg (h p (List.mem_cons_self ..))]
    exact op_none (fun q hq => h q (List.mem_cons_of_mem _ hq)) a
theorem op_at {n : Int} {T : List (Int × Int)} (hidx : ∀ k (h : k < T.length), T[k].1 = k) (k : Nat) (h : k < T.length) (hn : (k : Int) = n) : opF n T = T[k].2 := by
  have hl : T = T.take k ++ T[k] :: T.drop (k + 1) := by rw [← List.drop_eq_getElem_cons h, List.take_append_drop]
  have h1 := hidx k h
  unfold opF
  conv => lhs; rw [hl]
  rw [List.foldl_append, List.foldl_cons, if_pos (by omega)]
  refine op_none (fun p hp => ?_) _
  obtain ⟨j, hj, rfl⟩ := List.getElem_of_mem hp
  rw [List.getElem_drop]
  have := hidx (k + 1 + j) (by simp at hj; omega)
  omega
theorem op_out {n : Int} {T : List (Int × Int)} (h : ∀ p ∈ T, p.1 ≠ n) : opF n T = -1 := op_none h _
theorem op_le {n : Int} (T : List (Int × Int)) (k : Nat) (h : k < T.length) : opF n (T.take (k + 1)) = if T[k].1 = n then T[k].2 else opF n (T.take k) := by
  rw [List.take_succ_eq_append_getElem h, op_snoc]

structure OnceI (nx : Int) (F T : List (Int × Int)) (now : Int) : Prop where
  chk : chkF nx F = 0
  len : (T.length : Int) = nx
  idx : ∀ k (h : k < T.length), T[k].1 = k
  sub : ∀ p ∈ F, p ∈ T
  sup : ∀ p ∈ T, now ≤ p.2 → p ∈ F
theorem OnceI.zero : OnceI 0 [] [] 0 := ⟨by decide, rfl, fun k h => by simp at h, fun p h => by simp at h, fun p h => by simp at h⟩
theorem OnceI.later {nx now now' : Int} {F T : List (Int × Int)} (h : OnceI nx F T now) (k : now ≤ now') : OnceI nx F T now' := ⟨h.chk, h.len, h.idx, h.sub, fun p hp g => h.sup p hp (by omega)⟩
theorem OnceI.tell {nx now life : Int} {F T : List (Int × Int)} (h : OnceI nx F T now) (ha : askF now life = true) (hl : (trimF now F).length < 64) (hx : nx < 1099511627776) : OnceI (nx + 1) (trimF now F ++ [(nx, now + life)]) (T ++ [(nx, now + life)]) now := by
  refine ⟨chk_tell h.chk ha hl hx, by simp; have := h.len; omega, fun k hk => ?_, fun p hp => ?_, fun p hp g => ?_⟩
  · rcases Nat.lt_or_ge k T.length with g | g
    · rw [List.getElem_append_left g]; exact h.idx k g
    · have hk' : k = T.length := by simp at hk; omega
      subst hk'
      have := h.len
      simp; omega
  · rcases List.mem_append.1 hp with hp | hp
    · exact List.mem_append.2 (.inl (h.sub p (trim_mem.1 hp).1))
    · exact List.mem_append.2 (.inr hp)
  · rcases List.mem_append.1 hp with hp | hp
    · exact List.mem_append.2 (.inl (trim_mem.2 ⟨h.sup p hp g, g⟩))
    · exact List.mem_append.2 (.inr hp)
theorem OnceI.new {nx now : Int} {F T : List (Int × Int)} (h : OnceI nx F T now) (k : Nat) (hk : k < T.length) : T[k].1 ≠ nx := by
  have := h.idx k hk
  have := h.len
  omega
theorem OnceI.any {nx now n : Int} {F T : List (Int × Int)} (h : OnceI nx F T now) (h0 : 0 ≤ now) : F.any (hitF n now) = decide (now ≤ opF n T) := by
  rw [Bool.eq_iff_iff, List.any_eq_true, decide_eq_true_iff]
  constructor
  · rintro ⟨p, hp, k⟩
    unfold hitF freshF at k; simp at k
    obtain ⟨j, hj, rfl⟩ := List.getElem_of_mem (h.sub p hp)
    have := h.idx j hj
    rw [op_at h.idx j hj (by omega)]; exact k.2
  · intro k
    by_cases hn : ∃ j, ∃ (hj : j < T.length), (j : Int) = n
    · obtain ⟨j, hj, e⟩ := hn
      rw [op_at h.idx j hj e] at k
      refine ⟨T[j], h.sup _ (List.getElem_mem hj) k, ?_⟩
      have := h.idx j hj
      unfold hitF freshF; simp; omega
    · rw [op_out (fun p hp e => by obtain ⟨j, hj, rfl⟩ := List.getElem_of_mem hp; exact hn ⟨j, hj, by have := h.idx j hj; omega⟩)] at k
      omega
/-- What was used is marked. -/
def markF (n : Int) (p : Int × Int) : Int × Int := if p.1 = n then (p.1, -1) else p
theorem OnceI.use {nx now n : Int} {F T : List (Int × Int)} (h : OnceI nx F T now) (h0 : 0 ≤ now) (hg : F.any (hitF n now) = true) : OnceI nx (F.filter (fun p => !hitF n now p)) (T.map (markF n)) now := by
  refine ⟨chk_use h.chk, by simpa using h.len, fun k hk => ?_, fun p hp => ?_, fun p hp g => ?_⟩
  · have hk' : k < T.length := by simpa using hk
    have := h.idx k hk'
    simp only [List.getElem_map, markF]
    split
    · exact this
    · exact this
  · rw [(hit_filter h.chk hg).1] at hp
    obtain ⟨hp1, hp2⟩ := List.mem_filter.1 hp
    exact List.mem_map.2 ⟨p, h.sub p hp1, by unfold markF; rw [if_neg (by simpa using hp2)]⟩
  · obtain ⟨q, hq, rfl⟩ := List.mem_map.1 hp
    unfold markF at g ⊢
    by_cases hn : q.1 = n
    · rw [if_pos hn] at g; simp at g; omega
    · rw [if_neg hn] at g ⊢
      refine List.mem_filter.2 ⟨h.sup q hq g, ?_⟩
      unfold hitF; simp [hn]
theorem OnceI.trim {nx now : Int} {F T : List (Int × Int)} (h : OnceI nx F T now) : OnceI nx (trimF now F) T now :=
  ⟨chk_trim now h.chk, h.len, h.idx, fun p hp => h.sub p (trim_mem.1 hp).1, fun p hp g => trim_mem.2 ⟨h.sup p hp g, g⟩⟩
theorem mark_take {n : Int} (T : List (Int × Int)) (k : Nat) (h : k < T.length) : (T.take (k + 1)).map (markF n) ++ T.drop (k + 1) = ((T.take k).map (markF n) ++ T.drop k).set k (markF n T[k]) := by
  have e : ((T.take k).map (markF n)).length = k := by simp; omega
  rw [List.take_succ_eq_append_getElem h, List.map_append, List.set_append_right _ _ (by omega), e, Nat.sub_self]
  have e2 : T.drop k = T[k] :: T.drop (k + 1) := List.drop_eq_getElem_cons h
  rw [e2]; simp only [List.map_cons, List.map_nil, List.set_cons_zero, List.append_assoc, List.cons_append, List.nil_append]
end Go.Proofs.Ytdiafbeohldbjaa
