/- The walk of NamesMeets. -/
import Derived.Test.YtcmkfomfmjgmpaaNamesM
namespace Go.Proofs.Ytcmkfomfmjgmpaa
open Go.ChangeShapes Go.WideShapes Go.ChangeAt Go.RowKit Go.Shelf Gs
set_option linter.unusedVariables false

theorem bl_app2 (s t : ByteArray) : bl (s ++ t) = bl s ++ bl t := by simp [bl]
/-- One letter more ahead of what a star is of. -/
def xsOf (p : List UInt8) : List (List UInt8) := if nameB p = true then [] else [120 :: p.drop 1]
theorem meets_wit {p q : List UInt8} (h : meetsB p q = true) : patB p = true ∧ patB q = true ∧ ∃ t, t ∈ [p, q] ++ xsOf p ++ xsOf q ∧ matchB p t = true ∧ matchB q t = true := by
  unfold meetsB at h
  rw [Bool.or_eq_true] at h
  rcases h with h | h
  · refine ⟨(within_pats h).1, (within_pats h).2, ?_⟩
    rcases within_wit h with ⟨h1, h2, h3⟩ | ⟨o, h1, h2, h3, h4⟩
    · exact ⟨p, by simp, h2, h3⟩
    · refine ⟨_, ?_, h3, h4⟩
      have : xsOf p = [120 :: 46 :: o] := by unfold xsOf; rw [h2, h1]; rfl
      rw [this]; simp
  · refine ⟨(within_pats h).2, (within_pats h).1, ?_⟩
    rcases within_wit h with ⟨h1, h2, h3⟩ | ⟨o, h1, h2, h3, h4⟩
    · exact ⟨q, by simp, h3, h2⟩
    · refine ⟨_, ?_, h4, h3⟩
      have : xsOf q = [120 :: 46 :: o] := by unfold xsOf; rw [h2, h1]; rfl
      rw [this]; simp
theorem own_two {w : World} {B : Nat} {x y : Value} (hB : B ≤ w.heap.size) : (w.alloc (.cells #[x, y] 9)).ownsRow B 9 1 (.slice (some ⟨w.heap.size, 0, none⟩) 2 2) 2 [x, y] :=
  ⟨rfl, .inr ⟨w.heap.size, 2, _, rfl, hB, Blk.new_at _ _ _ rfl, Nat.le_refl _, by unfold maxLen; omega, rfl, rfl⟩⟩
theorem st_own2 {w : World} {B n : Nat} {v : Value} {ls : List (List UInt8)} (h : w.ownsRow B 9 1 v n (ls.map encStr)) (hn : 1 ≤ n) : ∃ g cap, v = .slice (some ⟨g, 0, none⟩) n cap ∧ ST w w.heap.size (some ⟨g, 0, none⟩) ls ∧ ls.length = n := by
  obtain ⟨m, rfl⟩ : ∃ m, n = m + 1 := ⟨n - 1, by omega⟩
  have hl : ls.length = m + 1 := by simpa using h.1
  obtain ⟨g, cap, rfl⟩ := ownsRow_succ h
  exact ⟨g, cap, rfl, st_own h, hl⟩
theorem enc_mk (s : ByteArray) : encStr (bl s) = .string s := by unfold encStr bl; rfl
theorem own_push {w : World} {B m : Nat} {v : Value} {ls : List (List UInt8)} {x : ByteArray} (h : w.ownsRow B 9 1 v m (ls.map encStr ++ [.string x])) : w.ownsRow B 9 1 v m ((ls ++ [bl x]).map encStr) := by
  rw [List.map_append, List.map_singleton, enc_mk]; exact h

theorem xs_name {p : List UInt8} (h : nameB p = true) : xsOf p = [] := by unfold xsOf; rw [if_pos h]
theorem xs_star {p x : List UInt8} (h : nameB p = false) (e : x = 120 :: p.drop 1) : xsOf p = [x] := by unfold xsOf; rw [if_neg (by rw [h]; simp), e]
theorem meets_ready {w : World} {B g n cap : Nat} {ls : List (List UInt8)} {p q : List UInt8} (ho : w.ownsRow B 9 1 (.slice (some ⟨g, 0, none⟩) n cap) n (ls.map encStr))
    (hw : ∃ t, t ∈ [p, q] ++ xsOf p ++ xsOf q ∧ matchB p t = true ∧ matchB q t = true) (e : ls = [p, q] ++ xsOf p ++ xsOf q) :
    ∃ (A : Option Addr) (ls' : List (List UInt8)), A = some ⟨g, 0, none⟩ ∧ ST w w.heap.size A ls' ∧ ls'.length = n ∧ ∃ t, t ∈ ls' ∧ matchB p t = true ∧ matchB q t = true :=
  ⟨_, ls, rfl, st_own ho, by simpa using ho.1, by rw [e]; exact hw⟩

set_option maxRecDepth 100000 in
set_option maxHeartbeats 40000000 in
theorem meets_walk11 (p q s : ByteArray) (W : World) : Calls Try.prog 6 #[.string p, .string q, .string s] W fun e w' => e = .returned (.bool true) ∧ Below W.heap.size W w' := by
  have A0 := Lib.hid live11
  by_cases hz : p.size ≤ 300 ∧ q.size ≤ 300 ∧ s.size ≤ 300
  rotate_left 1
  · have A1 := Lib.hid (short_no p q s hz)
    clear hz
    have B := Lib.hid (Below.refl W.heap.size W)
    go_enter Try.func6, Try.ntmps6
    repeat (go_wp2_with fail; first
      | (with_reducible refine (A0.out _).mono ?_; rintro e w_ ⟨rfl, b⟩; replace B := Lib.hid (bon B.out b); clear b)
      | (with_reducible refine (A1.out _).mono ?_; rintro e w_ ⟨rfl, b⟩; replace B := Lib.hid (bon B.out b); clear b))
    go_wp2_with fail
    go_ret
    exact ⟨rfl, B.out⟩
  have A1 := Lib.hid (short_yes p q s hz)
  have hzp : p.size ≤ 300 := hz.1
  have hzq : q.size ≤ 300 := hz.2.1
  clear hz
  cases hmt : meetsB (bl p) (bl q)
  · have A2 := Lib.hid (Meets_is p q _ hmt)
    have A3 := Lib.hid (Meets_is q p _ ((meets_comm (bl q) (bl p)).trans hmt))
    have A4 := Lib.hid (Within_is p q false (by
      cases h : withinB (bl p) (bl q)
      · rfl
      · rw [within_meets h] at hmt; cases hmt))
    cases hm1 : matchB (bl p) (bl s)
    · have A5 := Lib.hid (Match_is p s _ hm1)
      clear hmt hm1
      have B := Lib.hid (Below.refl W.heap.size W)
      go_enter Try.func6, Try.ntmps6
      repeat (go_wp2_with fail; first
        | (with_reducible refine (A0.out _).mono ?_; rintro e w_ ⟨rfl, b⟩; replace B := Lib.hid (bon B.out b); clear b)
        | (with_reducible refine (A1.out _).mono ?_; rintro e w_ ⟨rfl, b⟩; replace B := Lib.hid (bon B.out b); clear b)
        | (with_reducible refine (A2.out _).mono ?_; rintro e w_ ⟨rfl, b⟩; replace B := Lib.hid (bon B.out b); clear b)
        | (with_reducible refine (A3.out _).mono ?_; rintro e w_ ⟨rfl, b⟩; replace B := Lib.hid (bon B.out b); clear b)
        | (with_reducible refine (A4.out _).mono ?_; rintro e w_ ⟨rfl, b⟩; replace B := Lib.hid (bon B.out b); clear b)
        | (with_reducible refine (A5.out _).mono ?_; rintro e w_ ⟨rfl, b⟩; replace B := Lib.hid (bon B.out b); clear b))
      go_wp2_with fail
      go_ret
      exact ⟨rfl, B.out⟩
    · have A5 := Lib.hid (Match_is p s _ hm1)
      have A6 := Lib.hid (Match_is q s false (by
        cases h : matchB (bl q) (bl s)
        · rfl
        · rw [both_meet hm1 h] at hmt; cases hmt))
      clear hmt hm1
      have B := Lib.hid (Below.refl W.heap.size W)
      go_enter Try.func6, Try.ntmps6
      repeat (go_wp2_with fail; first
        | (with_reducible refine (A0.out _).mono ?_; rintro e w_ ⟨rfl, b⟩; replace B := Lib.hid (bon B.out b); clear b)
        | (with_reducible refine (A1.out _).mono ?_; rintro e w_ ⟨rfl, b⟩; replace B := Lib.hid (bon B.out b); clear b)
        | (with_reducible refine (A2.out _).mono ?_; rintro e w_ ⟨rfl, b⟩; replace B := Lib.hid (bon B.out b); clear b)
        | (with_reducible refine (A3.out _).mono ?_; rintro e w_ ⟨rfl, b⟩; replace B := Lib.hid (bon B.out b); clear b)
        | (with_reducible refine (A4.out _).mono ?_; rintro e w_ ⟨rfl, b⟩; replace B := Lib.hid (bon B.out b); clear b)
        | (with_reducible refine (A5.out _).mono ?_; rintro e w_ ⟨rfl, b⟩; replace B := Lib.hid (bon B.out b); clear b)
        | (with_reducible refine (A6.out _).mono ?_; rintro e w_ ⟨rfl, b⟩; replace B := Lib.hid (bon B.out b); clear b))
      go_wp2_with fail
      go_ret
      exact ⟨rfl, B.out⟩
  have A2 := Lib.hid (Meets_is p q _ hmt)
  have A3 := Lib.hid (Meets_is q p _ ((meets_comm (bl q) (bl p)).trans hmt))
  obtain ⟨hpp, hpq, hwit⟩ := meets_wit hmt
  obtain ⟨i0, hi, hz0, hz1, hz2⟩ := info_parts names_info
  have HI := Lib.hid (And.intro hi (And.intro hz0 (And.intro hz1 hz2)))
  clear hi hz0 hz1 hz2 hmt
  have M1 := Lib.hid (fun t w => Match_any p t w)
  have M2 := Lib.hid (fun t w => Match_any q t w)
  have HP : (nameB (bl p) = true ∧ decide ((2 : Int) < (p.size : Int)) = false) ∨ (nameB (bl p) = true ∧ decide ((2 : Int) < (p.size : Int)) = true) ∨ (nameB (bl p) = false ∧ decide ((2 : Int) < (p.size : Int)) = true) := by
    rcases star_cases (bl p) hpp with ⟨h1, h2⟩ | ⟨o, h1, h2, h3, h4⟩
    · by_cases h : p.size ≤ 2
      · exact .inl ⟨h2, decide_eq_false (by omega)⟩
      · exact .inr (.inl ⟨h2, decide_eq_true (by omega)⟩)
    · refine .inr (.inr ⟨h2, decide_eq_true ?_⟩)
      have := (name_len (star_name h1)).1
      have e : (bl p).length = o.length + 2 := by rw [h3]; rfl
      rw [bl_len] at e; omega
  have HQ : (nameB (bl q) = true ∧ decide ((2 : Int) < (q.size : Int)) = false) ∨ (nameB (bl q) = true ∧ decide ((2 : Int) < (q.size : Int)) = true) ∨ (nameB (bl q) = false ∧ decide ((2 : Int) < (q.size : Int)) = true) := by
    rcases star_cases (bl q) hpq with ⟨h1, h2⟩ | ⟨o, h1, h2, h3, h4⟩
    · by_cases h : q.size ≤ 2
      · exact .inl ⟨h2, decide_eq_false (by omega)⟩
      · exact .inr (.inl ⟨h2, decide_eq_true (by omega)⟩)
    · refine .inr (.inr ⟨h2, decide_eq_true ?_⟩)
      have := (name_len (star_name h1)).1
      have e : (bl q).length = o.length + 2 := by rw [h3]; rfl
      rw [bl_len] at e; omega
  have c1p : 1 ≤ p.size := by
    rcases star_cases (bl p) hpp with ⟨h1, h2⟩ | ⟨o, h1, h2, h3, h4⟩
    · have := (name_len h2).1; rwa [bl_len] at this
    · rw [← bl_len, h3]; simp
  have c1q : 1 ≤ q.size := by
    rcases star_cases (bl q) hpq with ⟨h1, h2⟩ | ⟨o, h1, h2, h3, h4⟩
    · have := (name_len h2).1; rwa [bl_len] at this
    · rw [← bl_len, h3]; simp
  have c2p : (1 : Int) ≤ (p.size : Int) := by omega
  have c2q : (1 : Int) ≤ (q.size : Int) := by omega
  clear hpp hpq
  have HWIT := Lib.hid hwit
  clear hwit
  have c4p : ¬ 9223372036854775807 < p.size := by omega
  have c4q : ¬ 9223372036854775807 < q.size := by omega
  clear hzp hzq
  have EP := Lib.hid (show nameB (bl p) = false → bl ((⟨#[120]⟩ : ByteArray) ++ p.extract 1 p.size) = 120 :: (bl p).drop 1 from fun _ => by rw [bl_app2, bl_from]; rfl)
  have EQ := Lib.hid (show nameB (bl q) = false → bl ((⟨#[120]⟩ : ByteArray) ++ q.extract 1 q.size) = 120 :: (bl q).drop 1 from fun _ => by rw [bl_app2, bl_from]; rfl)
  have B := Lib.hid (Below.refl W.heap.size W)
  have W1 := Lib.hid (Within_any p q)
  cases hw : withinB (bl p) (bl q)
  all_goals (
    rw [hw] at W1
    clear hw
    have S1 := Lib.hid (Match_any p s)
    have S2 := Lib.hid (Match_any q s)
    rcases (show (matchB (bl p) (bl s) = false) ∨ (matchB (bl p) (bl s) = true ∧ matchB (bl q) (bl s) = false) ∨ (matchB (bl p) (bl s) = true ∧ matchB (bl q) (bl s) = true) by
      cases matchB (bl p) (bl s) <;> cases matchB (bl q) (bl s) <;> simp) with hm1 | ⟨hm1, hm2⟩ | ⟨hm1, hm2⟩)
  all_goals (
    rw [hm1] at S1
    try rw [hm2] at S2
    try clear hm2
    clear hm1)
  all_goals (
    go_enter Try.func6, Try.ntmps6
    repeat (go_wp2_with fail; first
      | (with_reducible refine (A0.out _).mono ?_; rintro e w_ ⟨rfl, b⟩; replace B := Lib.hid (bon B.out b); clear b)
      | (with_reducible refine (A1.out _).mono ?_; rintro e w_ ⟨rfl, b⟩; replace B := Lib.hid (bon B.out b); clear b)
      | (with_reducible refine (A2.out _).mono ?_; rintro e w_ ⟨rfl, b⟩; replace B := Lib.hid (bon B.out b); clear b)
      | (with_reducible refine (A3.out _).mono ?_; rintro e w_ ⟨rfl, b⟩; replace B := Lib.hid (bon B.out b); clear b)
      | (with_reducible refine (W1.out _).mono ?_; rintro e w_ ⟨rfl, b⟩; replace B := Lib.hid (bon B.out b); clear b)
      | (with_reducible refine (S1.out _).mono ?_; rintro e w_ ⟨rfl, b⟩; replace B := Lib.hid (bon B.out b); clear b)
      | (with_reducible refine (S2.out _).mono ?_; rintro e w_ ⟨rfl, b⟩; replace B := Lib.hid (bon B.out b); clear b))
    clear A0 A1 A2 A3 W1 S1 S2
    have HO := Lib.hid (own_two (w := w_) (B := W.heap.size) (x := .string p) (y := .string q) B.out.size)
    replace B := Lib.hid (bon B.out (nb0 w_ (.cells #[.string p, .string q] 9)))
    have HO : Hid ((w_.alloc (.cells #[.string p, .string q] 9)).ownsRow W.heap.size 9 1 (.slice (some ⟨w_.heap.size, 0, none⟩) 2 2) 2 ([bl p, bl q].map encStr)) := Lib.hid (by
      have := HO.out
      rwa [← enc_mk p, ← enc_mk q] at this)
    rcases HP with ⟨hnp, dp⟩ | ⟨hnp, dp⟩ | ⟨hnp, dp⟩
    all_goals (
      have CP := Lib.hid (Check_is p _ hnp)
      have HNP := Lib.hid hnp
      clear hnp)
    all_goals (
      rcases HQ with ⟨hnq, dq⟩ | ⟨hnq, dq⟩ | ⟨hnq, dq⟩
      all_goals (
        have CQ := Lib.hid (Check_is q _ hnq)
        have HNQ := Lib.hid hnq
        clear hnq
        first
        | (have hd : decide ((2 : Int) < (p.size : Int)) = false := by assumption)
        | (go_wp2_with fail
           with_reducible refine (CP.out _).mono ?_
           rintro e wp ⟨rfl, b⟩
           replace HO := Lib.hid (own_below HO.out b)
           replace B := Lib.hid (bon B.out b)
           clear b
           first
           | (have hn : Hid (nameB (bl p) = true) := by assumption)
           | (go_wp2_with (at_builtin; refine wpList_append_own _ rfl _ _ 26 rfl W.heap.size 9 i0 (.string ⟨#[]⟩) 1 16 Try.underlying26 HI.out.1 HI.out.2.1 HI.out.2.2.1 HI.out.2.2.2 rfl (by decide) _ _ _ rfl (HO.out.alloc _) ⟨wp.heap.size, 0, none⟩ 1 1 [.string ((⟨#[120]⟩ : ByteArray) ++ p.extract 1 p.size)] rfl rfl (cell_one_new _ _ _) (by simp [Value.oneCell']) (by unfold maxLen; omega) (by omega) (by have := B.out.size; simp; omega) ?_; intro v' w1 hown' hgrow _; obtain ⟨gp, cp, rfl⟩ := ownsRow_succ hown'; have HO3 := Lib.hid (own_push hown'); replace B := Lib.hid ((B.out.alloc B.out.size _).grown hgrow (by have := B.out.size; simp; omega) (fun g e => own_ge HO.out g e)); replace HO := HO3; clear HO3 hown' hgrow)))
        try go_wp2_with fail
        first
        | (have hd : decide ((2 : Int) < (q.size : Int)) = false := by assumption)
        | (with_reducible refine (CQ.out _).mono ?_
           rintro e wq ⟨rfl, b⟩
           replace HO := Lib.hid (own_below HO.out b)
           replace B := Lib.hid (bon B.out b)
           clear b
           first
           | (have hn : Hid (nameB (bl q) = true) := by assumption
              go_wp2_with fail)
           | (go_wp2_with (at_builtin; refine wpList_append_own _ rfl _ _ 26 rfl W.heap.size 9 i0 (.string ⟨#[]⟩) 1 16 Try.underlying26 HI.out.1 HI.out.2.1 HI.out.2.2.1 HI.out.2.2.2 rfl (by decide) _ _ _ rfl (HO.out.alloc _) ⟨wq.heap.size, 0, none⟩ 1 1 [.string ((⟨#[120]⟩ : ByteArray) ++ q.extract 1 q.size)] rfl rfl (cell_one_new _ _ _) (by simp [Value.oneCell']) (by unfold maxLen; omega) (by omega) (by have := B.out.size; simp; omega) ?_; intro v' w1 hown' hgrow _; obtain ⟨gp, cp, rfl⟩ := ownsRow_succ hown'; have HO3 := Lib.hid (own_push hown'); replace B := Lib.hid ((B.out.alloc B.out.size _).grown hgrow (by have := B.out.size; simp; omega) (fun g e => own_ge HO.out g e)); replace HO := HO3; clear HO3 hown' hgrow)))
        clear CP CQ dp dq c1p c1q c2p c2q c4p c4q
        first
        | (have XP := Lib.hid (xs_name HNP.out))
        | (have XP := Lib.hid (xs_star HNP.out (EP.out HNP.out)))
        first
        | (have XQ := Lib.hid (xs_name HNQ.out))
        | (have XQ := Lib.hid (xs_star HNQ.out (EQ.out HNQ.out)))
        obtain ⟨A, ls, hA, hst, hlen, hw⟩ := meets_ready HO.out HWIT.out (by rw [XP.out, XQ.out]; try rfl)
        have HLEN := Lib.hid hlen
        have HW := Lib.hid hw
        have HS := Lib.hid hst
        have HA := Lib.hid hA
        clear HO hA hst hlen hw XP XQ EP EQ HNP HNQ HWIT
        go_loopw [8] (fun i wr => ∃ k : Nat, k ≤ ls.length ∧ i = .int .i64 (k : Int) ∧ ST wr wr.heap.size A ls ∧ Below W.heap.size W wr ∧ Hid (∀ j, j < k → (hj : j < ls.length) → (matchB (bl p) ls[j] && matchB (bl q) ls[j]) = false)) (fun i _ => ls.length - (intOf i).toNat)
        case atStart => exact ⟨0, by omega, rfl, HS.out, B.out, Lib.hid (fun j h => absurd h (Nat.not_lt_zero _))⟩
        case round =>
          obtain ⟨k, hk, rfl, hs, hb, HH⟩ := hrel
          have BR := Lib.hid hb
          have SR := Lib.hid hs
          clear hb hs
          by_cases hlt : k < ls.length
          · obtain ⟨ad, e, hlb, hc⟩ := SR.out k hlt
            have e2 := HA.out.symm.trans e
            injection e2 with e2
            subst e2
            rw [add_zero_off] at hc
            clear e
            have HLB := Lib.hid hlb
            clear hlb
            have P1 := Lib.hid (fun w => M1.out ⟨(ls[k]).toArray⟩ w)
            have P2 := Lib.hid (fun w => M2.out ⟨(ls[k]).toArray⟩ w)
            rw [bl_mk (ls[k])] at P1 P2
            have HE := Lib.hid (show (matchB (bl p) ls[k] && matchB (bl q) ls[k]) = false → ∀ j, j < k + 1 → (hj : j < ls.length) → (matchB (bl p) ls[j] && matchB (bl q) ls[j]) = false from fun h j h1 h2 => by
              by_cases e : j = k
              · subst e; exact h
              · exact HH.out j (by omega) h2)
            have hlt2 := hlt
            rw [HLEN.out] at hlt2
            cases h1 : matchB (bl p) ls[k]
            · rw [h1] at P1 HE
              clear h1
              generalize (⟨(ls[k]).toArray⟩ : ByteArray) = t at P1 P2 hc
              go_wp2_with fail
              refine (P1.out _).mono ?_; rintro e w2 ⟨rfl, b⟩
              have BR2 := Lib.hid (bon BR.out b)
              have SR2 := Lib.hid (SR.out.on b)
              clear b
              go_wp2_with fail
              go_roundw
              case rel => exact ⟨k + 1, by omega, by go_num, SR2.out, BR2.out, Lib.hid (HE.out rfl)⟩
              case measure => simp [intOf]; omega
            · rw [h1] at P1 HE
              clear h1
              cases h2 : matchB (bl q) ls[k]
              · rw [h2] at P2 HE
                clear h2
                generalize (⟨(ls[k]).toArray⟩ : ByteArray) = t at P1 P2 hc
                go_wp2_with fail
                refine (P1.out _).mono ?_; rintro e w2 ⟨rfl, b⟩
                have BR2 := Lib.hid (bon BR.out b)
                have SR2 := Lib.hid (SR.out.on b)
                have hc2 := (b.cell (show _ < _ from HLB.out)).trans hc
                clear b hc
                go_wp2_with fail
                refine (P2.out _).mono ?_; rintro e w3 ⟨rfl, b⟩
                have BR3 := Lib.hid (bon BR2.out b)
                have SR3 := Lib.hid (SR2.out.on b)
                clear b
                go_wp2_with fail
                go_roundw
                case rel => exact ⟨k + 1, by omega, by go_num, SR3.out, BR3.out, Lib.hid (HE.out rfl)⟩
                case measure => simp [intOf]; omega
              · rw [h2] at P2
                clear h2 HE
                generalize (⟨(ls[k]).toArray⟩ : ByteArray) = t at P1 P2 hc
                go_wp2_with fail
                refine (P1.out _).mono ?_; rintro e w2 ⟨rfl, b⟩
                have BR2 := Lib.hid (bon BR.out b)
                have hc2 := (b.cell (show _ < _ from HLB.out)).trans hc
                clear b hc
                go_wp2_with fail
                refine (P2.out _).mono ?_; rintro e w3 ⟨rfl, b⟩
                have BR3 := Lib.hid (bon BR2.out b)
                clear b
                go_wp2_with fail
                go_ret
                exact ⟨rfl, BR3.out⟩
          · exfalso
            obtain ⟨t, ht, h1, h2⟩ := HW.out
            obtain ⟨j, hj, rfl⟩ := List.getElem_of_mem ht
            have := HH.out j (by omega) hj
            rw [h1, h2] at this
            cases this))
    )
end Go.Proofs.Ytcmkfomfmjgmpaa
