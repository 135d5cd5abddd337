/- The document's answers of names: whether a text is a name, a star. -/
import Derived.Test.YtcmkfomfmjgmpaaNamesG
namespace Go.Proofs.Ytcmkfomfmjgmpaa
open Go.ChangeShapes Go.WideShapes Go.ChangeAt Go.RowKit Go.Shelf Gs
set_option linter.unusedVariables false

theorem ownT_slice {w : World} {base : Nat} {v : Value} {ls : List (List UInt8)} (h : OwnT w base v ls) (h0 : ls ≠ []) : ∃ g cap, v = .slice (some ⟨g, 0, none⟩) ls.length cap ∧ ST w w.heap.size (some ⟨g, 0, none⟩) ls := by
  have hl : 1 ≤ ls.length := List.length_pos_iff.2 h0
  unfold OwnT at h
  obtain ⟨n, hn⟩ : ∃ n, ls.length = n + 1 := ⟨ls.length - 1, by omega⟩
  rw [hn] at h ⊢
  obtain ⟨g, cap, rfl⟩ := ownsRow_succ h
  exact ⟨g, cap, rfl, st_own h⟩
theorem all_get {ls : List (List UInt8)} (h : ∀ j, (hj : j < ls.length) → labB ls[j] = true) : ls.all labB = true := by
  rw [List.all_eq_true]
  intro c hc
  obtain ⟨i, hi, rfl⟩ := List.getElem_of_mem hc
  exact h i hi
theorem all_not {ls : List (List UInt8)} {j : Nat} (hj : j < ls.length) (h : labB ls[j] = false) : ls.all labB = false := by
  rw [List.all_eq_false]
  exact ⟨_, List.getElem_mem hj, by rw [h]; simp⟩

set_option maxRecDepth 100000 in
set_option maxHeartbeats 4000000 in
theorem Name11_any (s : ByteArray) (w : World) :
    Calls Try.prog 32 #[.string s] w fun e w' => e = .returned (.bool (nameB (bl s))) ∧ Below w.heap.size w w' := by
  by_cases hs : s.size ≤ 64
  rotate_left 1
  · have e : nameB (bl s) = false := by unfold nameB nameN; rw [bl_len, decide_eq_false hs, Bool.false_and]
    have d1 : decide ((64 : Int) < (s.size : Int)) = true := decide_eq_true (by omega)
    rw [e]
    clear e
    go_enter Try.func32, Try.ntmps32
    go_wp2_with fail
    go_ret
    exact ⟨rfl, Below.refl _ _⟩
  · have e : nameB (bl s) = (decide ((cuts (bl s)).length ≤ 8) && (cuts (bl s)).all labB) := by unfold nameB nameN; rw [bl_len, decide_eq_true hs, Bool.true_and]
    have d1 : decide ((64 : Int) < (s.size : Int)) = false := decide_eq_false (by omega)
    rw [e]
    clear e
    have C := Lib.hid (cut_any11 s (by omega))
    have hne := cuts_ne (bl s)
    have hml : (cuts (bl s)).length ≤ 65 := by
      have := cutSt_len (l := bl s ++ [46]) (k := (bl s).length + 1) (f := (bl s).length + 1) (pre := cuts (bl s)) ⟨Nat.le_refl _, by simp, by
        have : cuts (bl s ++ [46]) = cuts (bl s) ++ [[]] := by
          rw [← joinD_cuts (bl s), show joinD (cuts (bl s)) ++ [46] = joinD (cuts (bl s) ++ [[]]) from by rw [joinD_app hne (by simp)]; rfl, cuts_joinD (by simp) (by intro c hc; rw [List.mem_append] at hc; rcases hc with hc | hc; exact cuts_none _ c hc; rw [List.mem_singleton] at hc; subst hc; simp), joinD_cuts]
        rw [this, List.drop_of_length_le (by simp)]; rfl, by simp⟩
      rw [bl_len] at this
      omega
    generalize hL : cuts (bl s) = L at C hne hml ⊢
    clear hL
    obtain ⟨n, hn⟩ : ∃ n, L.length = n := ⟨_, rfl⟩
    have HN := Lib.hid hn
    rw [hn] at hml ⊢
    go_enter Try.func32, Try.ntmps32
    go_wp2_with fail
    refine (C.out _).mono ?_; rintro e w1 ⟨⟨v, rfl, ho⟩, b⟩
    obtain ⟨g, cap, rfl, hst⟩ := ownT_slice ho hne
    rw [hn]
    have HS := Lib.hid hst
    have HB := Lib.hid b
    clear ho hst b hn
    go_wp2_with fail
    go_loopw [4] (fun i wr => ∃ k : Nat, k ≤ n ∧ i = .int .i64 (k : Int) ∧ wr = w1 ∧ Hid (∀ j, j < k → (hj : j < L.length) → labB L[j] = true)) (fun i _ => n - (intOf i).toNat)
    case atStart => exact ⟨0, Nat.zero_le _, rfl, rfl, Lib.hid (fun j h => absurd h (Nat.not_lt_zero _))⟩
    case round =>
      obtain ⟨k, hk, rfl, rfl, HH⟩ := hrel
      by_cases hlt : k < n
      · obtain ⟨ad, e, _, hc⟩ := HS.out k (by rw [HN.out]; exact hlt)
        injection e with e; subst e
        rw [add_zero_off] at hc
        have P := Lib.hid (refLabel_any ⟨(L[k]'(by rw [HN.out]; exact hlt)).toArray⟩)
        rw [bl_mk] at P
        cases hl : labB (L[k]'(by rw [HN.out]; exact hlt))
        · have HE := Lib.hid (all_not _ hl)
          rw [hl] at P
          clear hl
          generalize (⟨(L[k]'(by rw [HN.out]; exact hlt)).toArray⟩ : ByteArray) = t at P hc
          go_wp2_with fail
          refine (P.out _).mono ?_; rintro e w2 ⟨rfl, rfl⟩
          go_wp2_with fail
          go_ret
          exact ⟨by rw [HE.out, Bool.and_false]; rfl, HB.out⟩
        · have HE := Lib.hid (show ∀ j, j < k + 1 → (hj : j < L.length) → labB L[j] = true from fun j h1 h2 => by
            by_cases e : j = k
            · subst e; exact hl
            · exact HH.out j (by omega) h2)
          rw [hl] at P
          clear hl
          generalize (⟨(L[k]'(by rw [HN.out]; exact hlt)).toArray⟩ : ByteArray) = t at P hc
          go_wp2_with fail
          refine (P.out _).mono ?_; rintro e w2 ⟨rfl, rfl⟩
          go_wp2_with fail
          go_roundw
          case rel => exact ⟨k + 1, by omega, by go_num, trivial, HE⟩
          case measure => simp [intOf]; omega
      · obtain rfl : k = n := by omega
        have HE := Lib.hid (all_get (fun j hj => HH.out j (by rw [← HN.out]; exact hj) hj))
        by_cases h8 : k ≤ 8
        · have d8 : decide ((k : Int) ≤ 8) = true := decide_eq_true (by omega)
          go_wp2_with fail
          go_ret
          exact ⟨by rw [HE.out, decide_eq_true h8]; rfl, HB.out⟩
        · have d8 : decide ((k : Int) ≤ 8) = false := decide_eq_false (by omega)
          go_wp2_with fail
          go_ret
          exact ⟨by rw [HE.out, decide_eq_false h8]; rfl, HB.out⟩

theorem Name11_is (s : ByteArray) (b : Bool) (h : nameB (bl s) = b) (w : World) : Calls Try.prog 32 #[.string s] w fun e w' => e = .returned (.bool b) ∧ Below w.heap.size w w' := by
  have := Name11_any s w
  rwa [h] at this

theorem Check11_any (s : ByteArray) (w : World) :
    Calls Try.prog 14 #[.string s] w fun e w' => e = .returned (.int .i64 (if nameB (bl s) = true then 0 else 110)) ∧ Below w.heap.size w w' := by
  cases h : nameB (bl s)
  all_goals (
    have P := Lib.hid (Name11_is s _ h)
    clear h
    go_enter Try.func14, Try.ntmps14
    go_wp2_with fail
    refine (P.out _).mono ?_; rintro e w1 ⟨rfl, b⟩
    go_wp2_with fail
    go_ret
    exact ⟨rfl, b⟩)
end Go.Proofs.Ytcmkfomfmjgmpaa
