/- The laws of budget, plainly. -/
import Derived.Test.YtnjmhijfaijopaaBudgetPlain
namespace Go.Proofs.Ytnjmhijfaijopaa
set_option linter.unusedVariables false
set_option linter.unusedSimpArgs false

theorem isO_one {acc rule : Int} {X : List Sp} {s : Sp} (h : okS none X = true) (hf : X.find? (isO acc rule) = some s) (i : Nat) (hi : i < X.length) (ho : isO acc rule X[i] = true) : X[i] = s := by
  obtain ⟨j, hj, hs⟩ := List.getElem_of_mem (List.mem_of_find?_eq_some hf)
  have hso := isO_iff.1 (List.find?_some hf)
  rw [isO_iff] at ho
  rw [← hs] at hso ⊢
  rcases Nat.lt_trichotomy i j with g | g | g
  · have := okS_lt h i j hj g; omega
  · subst g; rfl
  · have := okS_lt h j i hi g; omega
/-- Whoever waits has all of it again. -/
theorem again_plain {L X : List Sp} {mo wi rule acc now : Int} (hm : 0 < mo) (hn : now + wi ≤ 1099511627776) (h : spendS L mo wi rule acc now = (X, 0)) :
    okS none X = true ∧ ∃ s, X.find? (isO acc rule) = some s ∧ 1 ≤ s.2.2.2 ∧ (now < s.2.2.1 → L.length = X.length) ∧ (s.2.2.1 ≤ now → leftS X mo wi rule acc (now + wi) = mo) := by
  obtain ⟨h0, hx, hc⟩ := spend_ok h
  rcases hc with ⟨h1, _⟩ | ⟨_, hw, hlt, hX, _⟩
  · omega
  · obtain ⟨hl, ha⟩ := askE_is.1 h0
    have hok := (chkS_ok hl).1
    obtain ⟨n1, n2⟩ := newS_own acc rule wi now L
    have hf : X.find? (isO acc rule) = some (newS acc rule wi now L) := by rw [hX]; exact put_find n1 n2
    have hokX := (chkS_ok hx).1
    have hmay := find_may hokX hf
    refine ⟨hokX, _, hf, hmay.2.1, fun hgt => ?_, fun hle => ?_⟩
    · rw [hX, put_len hok]
      cases hq : L.find? (isO acc rule) with
      | some s => rfl
      | none => unfold newS at hgt; rw [hq] at hgt; exact absurd hgt (by show ¬ now < now; omega)
    · obtain ⟨a1, a2, a3, a4⟩ := askB_iff.1 ha
      have hnn := nmB_iff.1 a4
      have hX0 : askE X mo wi rule acc (now + wi) = 0 := askE_is.2 ⟨hx, askB_iff.2 ⟨a1, a2, a3, nmB_iff.2 ⟨by omega, hn⟩⟩⟩
      unfold leftS
      rw [if_pos hX0, if_neg (by omega)]
      unfold hadS
      rw [hf]
      show max 0 (mo - (if now + wi - (newS acc rule wi now L).2.2.1 < wi then _ else 0)) = mo
      rw [if_neg (by omega)]; omega
/-- What stands, what was begun first, how many, when. -/
def BoundI (acc rule mo : Int) (l : List Sp) (first many now : Int) : Prop := 0 ≤ now ∧ ((l = [] ∧ first = -1 ∧ many = 0) ∨ (l = [(acc, rule, first, many)] ∧ 0 ≤ first ∧ first ≤ now ∧ 1 ≤ many ∧ many ≤ mo))
theorem one_chk {acc rule s m : Int} (ha : nmB acc = true) (hr : rlB rule = true) (hs : 0 ≤ s ∧ s ≤ 1099511627776) (hm : 1 ≤ m ∧ m ≤ 1099511627776) : chkS [(acc, rule, s, m)] = 0 := by
  have : mayS acc rule s m = true := mayS_iff.2 ⟨nmB_iff.1 ha, rlB_iff.1 hr, hs, hm⟩
  exact chkS_is (by unfold okS; rw [this]; rfl) (by simp)
theorem one_had {acc rule s m wi now : Int} : hadS acc rule wi now [(acc, rule, s, m)] = if now - s < wi then m else 0 := by
  unfold hadS
  rw [List.find?_cons, show isO acc rule (acc, rule, s, m) = true from isO_iff.2 ⟨rfl, rfl⟩]
theorem one_put {acc rule s m : Int} {x : Sp} : putS acc rule x [(acc, rule, s, m)] = [x] := by
  unfold putS
  rw [List.filter_cons, if_neg (by rw [ahead_iff]; simp), List.filter_cons, if_neg (by rw [behind_iff]; simp)]; rfl
theorem one_new {acc rule s m wi now : Int} : newS acc rule wi now [(acc, rule, s, m)] = if now - s < wi then (acc, rule, s, m + 1) else (acc, rule, now, 1) := by
  unfold newS
  rw [List.find?_cons, show isO acc rule (acc, rule, s, m) = true from isO_iff.2 ⟨rfl, rfl⟩]
section
variable {acc rule mo wi : Int} (ha : nmB acc = true) (hr : rlB rule = true) (hmo : 1 ≤ mo ∧ mo ≤ 255) (hwi : 1 ≤ wi ∧ wi ≤ 255)
include ha hr hmo hwi
theorem bound_ask {now : Int} (hn : 0 ≤ now ∧ now ≤ 1099511627776) : askB mo wi rule acc now = true := askB_iff.2 ⟨rmB_iff.2 ⟨by omega, by omega, by omega⟩, hr, ha, nmB_iff.2 hn⟩
theorem bound_left {first many now : Int} (hn : 0 ≤ now ∧ now ≤ 1099511627776) (hf : 0 ≤ first ∧ first ≤ now) (hm : 1 ≤ many ∧ many ≤ mo) (hw : now - first < wi) : leftS [(acc, rule, first, many)] mo wi rule acc now = mo - many := by
  have h0 : askE [(acc, rule, first, many)] mo wi rule acc now = 0 := askE_is.2 ⟨one_chk ha hr ⟨hf.1, by omega⟩ ⟨by omega, by omega⟩, bound_ask ha hr hmo hwi hn⟩
  unfold leftS
  rw [if_pos h0, if_neg (by omega), one_had, if_pos hw]; omega
/-- A window begins anew. -/
theorem bound_anew {l : List Sp} {first many now t : Int} (h : BoundI acc rule mo l first many now) (ht : 0 ≤ t) (hn : now + t ≤ 1099511627776) (hw : first < 0 ∨ wi ≤ now + t - first) :
    spendS l mo wi rule acc (now + t) = ([(acc, rule, now + t, 1)], 0) ∧ BoundI acc rule mo [(acc, rule, now + t, 1)] (now + t) 1 (now + t) ∧ leftS [(acc, rule, now + t, 1)] mo wi rule acc (now + t) = mo - 1 := by
  obtain ⟨h0, h⟩ := h
  refine ⟨?_, ⟨by omega, .inr ⟨rfl, by omega, by omega, by omega, by omega⟩⟩, bound_left ha hr hmo hwi ⟨by omega, hn⟩ ⟨by omega, by omega⟩ ⟨by omega, by omega⟩ (by omega)⟩
  have hask := bound_ask ha hr hmo hwi ⟨by omega, hn⟩ (now := now + t)
  rcases h with ⟨rfl, rfl, rfl⟩ | ⟨rfl, h1, h2, h3, h4⟩
  · have hE : askE [] mo wi rule acc (now + t) = 0 := askE_is.2 ⟨rfl, hask⟩
    unfold spendS
    rw [if_pos hE, if_neg (by omega), if_neg (by unfold hadS; simp; omega)]; rfl
  · have hE : askE [(acc, rule, first, many)] mo wi rule acc (now + t) = 0 := askE_is.2 ⟨one_chk ha hr ⟨h1, by omega⟩ ⟨by omega, by omega⟩, hask⟩
    unfold spendS
    rw [if_pos hE, if_neg (by omega), one_had, if_neg (by rw [if_neg (by omega)]; omega), show newS acc rule wi (now + t) [(acc, rule, first, many)] = (acc, rule, now + t, 1) by rw [one_new, if_neg (by omega)], one_put]; rfl
/-- A window goes on. -/
theorem bound_on {l : List Sp} {first many now t : Int} (h : BoundI acc rule mo l first many now) (ht : 0 ≤ t) (hn : now + t ≤ 1099511627776) (hf : 0 ≤ first) (hw : now + t - first < wi) :
    l = [(acc, rule, first, many)] ∧ 1 ≤ many ∧ many ≤ mo ∧ (many < mo → spendS l mo wi rule acc (now + t) = ([(acc, rule, first, many + 1)], 0) ∧ BoundI acc rule mo [(acc, rule, first, many + 1)] first (many + 1) (now + t) ∧ leftS [(acc, rule, first, many + 1)] mo wi rule acc (now + t) = mo - (many + 1)) ∧
      (¬ many < mo → spendS l mo wi rule acc (now + t) = ([], 170) ∧ BoundI acc rule mo l first many (now + t) ∧ leftS l mo wi rule acc (now + t) = mo - many) := by
  obtain ⟨h0, h⟩ := h
  rcases h with ⟨rfl, rfl, rfl⟩ | ⟨rfl, h1, h2, h3, h4⟩
  · omega
  · have hask := bound_ask ha hr hmo hwi ⟨by omega, hn⟩ (now := now + t)
    have hE : askE [(acc, rule, first, many)] mo wi rule acc (now + t) = 0 := askE_is.2 ⟨one_chk ha hr ⟨h1, by omega⟩ ⟨by omega, by omega⟩, hask⟩
    refine ⟨rfl, h3, h4, fun hlt => ⟨?_, ⟨by omega, .inr ⟨rfl, h1, by omega, by omega, by omega⟩⟩, bound_left ha hr hmo hwi ⟨by omega, hn⟩ ⟨h1, by omega⟩ ⟨by omega, by omega⟩ hw⟩, fun hge => ⟨?_, ⟨by omega, .inr ⟨rfl, h1, by omega, by omega, by omega⟩⟩, bound_left ha hr hmo hwi ⟨by omega, hn⟩ ⟨h1, by omega⟩ ⟨by omega, by omega⟩ hw⟩⟩
    · unfold spendS
      rw [if_pos hE, if_neg (by omega), one_had, if_neg (by rw [if_pos hw]; omega), show newS acc rule wi (now + t) [(acc, rule, first, many)] = (acc, rule, first, many + 1) by rw [one_new, if_pos hw], one_put]; rfl
    · unfold spendS
      rw [if_pos hE, if_neg (by omega), one_had, if_pos (by rw [if_pos hw]; omega)]
end
/-- Several rules, one behind the other. -/
def allGo (by_ : List Int) (acc now : Int) : Nat → List (Int × Int) → List Sp → List Sp × Int
  | _, [], L => (L, 0)
  | i, r :: rs, L => if by_.contains (i : Int) then (if (spendS L r.1 r.2 i acc now).2 = 0 then allGo by_ acc now (i + 1) rs (spendS L r.1 r.2 i acc now).1 else ([], (spendS L r.1 r.2 i acc now).2)) else allGo by_ acc now (i + 1) rs L
def noneB (n : Nat) (p : Int) : Bool := decide (p < -1) || decide ((n : Int) ≤ p)
def allS (L : List Sp) (rules : List (Int × Int)) (by_ : List Int) (acc now : Int) : List Sp × Int :=
  if chkS L = 0 then (if by_.any (noneB rules.length) || !nmB acc || !nmB now then ([], 1) else allGo by_ acc now 0 rules L) else ([], chkS L)
theorem spend_pair (L : List Sp) (mo wi rule acc now : Int) (h : (spendS L mo wi rule acc now).2 = 0) : spendS L mo wi rule acc now = ((spendS L mo wi rule acc now).1, 0) := by rw [← h]
theorem allGo_ok (by_ : List Int) (acc now : Int) : ∀ (rs : List (Int × Int)) (i : Nat) (L : List Sp), chkS L = 0 → (allGo by_ acc now i rs L).2 = 0 →
    chkS (allGo by_ acc now i rs L).1 = 0 ∧ (∀ (j m w : Int), j < i → leftS (allGo by_ acc now i rs L).1 m w j acc now = leftS L m w j acc now) ∧
      ∀ k (h : k < rs.length), leftS (allGo by_ acc now i rs L).1 rs[k].1 rs[k].2 ((i : Int) + k) acc now + (if by_.contains ((i : Int) + k) ∧ 0 < rs[k].1 then 1 else 0) = leftS L rs[k].1 rs[k].2 ((i : Int) + k) acc now
  | [], i, L, hL, _ => ⟨hL, fun _ _ _ _ => rfl, fun k h => absurd h (by simp)⟩
  | r :: rs, i, L, hL, he => by
    unfold allGo at he ⊢
    by_cases hb : by_.contains (i : Int) = true
    · rw [if_pos hb] at he ⊢
      by_cases h0 : (spendS L r.1 r.2 i acc now).2 = 0
      · rw [if_pos h0] at he ⊢
        have hp := spend_pair _ _ _ _ _ _ h0
        generalize (spendS L r.1 r.2 i acc now).1 = X at hp he ⊢
        obtain ⟨_, hx, _⟩ := spend_ok hp
        obtain ⟨g1, g2, g3⟩ := allGo_ok by_ acc now rs (i + 1) X hx he
        refine ⟨g1, fun j m w hj => ?_, fun k hk => ?_⟩
        · rw [g2 j m w (by omega), left_other hp (by omega)]
        · match k with
          | 0 =>
            rw [g2 _ _ _ (by simp; omega)]
            have hown := left_own hp
            simp only [List.getElem_cons_zero, Int.natCast_zero, Int.add_zero, hb, true_and]
            rcases hown.2 with ⟨hm, _, e⟩ | ⟨hm, e⟩
            · rw [e, if_neg (by omega)]; omega
            · rw [e, if_pos hm]; omega
          | k + 1 =>
            have := g3 k (by simpa using hk)
            simp only [List.getElem_cons_succ]
            rw [show ((i : Int) + ((k + 1 : Nat) : Int)) = ((i + 1 : Nat) : Int) + (k : Int) by omega, this, left_other hp (by omega)]
      · rw [if_neg h0] at he; exact absurd he h0
    · rw [if_neg hb] at he ⊢
      obtain ⟨g1, g2, g3⟩ := allGo_ok by_ acc now rs (i + 1) L hL he
      refine ⟨g1, fun j m w hj => g2 j m w (by omega), fun k hk => ?_⟩
      match k with
      | 0 => rw [g2 _ _ _ (by simp; omega)]; simp only [Int.natCast_zero, Int.add_zero, hb]; simp
      | k + 1 =>
        have := g3 k (by simpa using hk)
        simp only [List.getElem_cons_succ]
        rw [show ((i : Int) + ((k + 1 : Nat) : Int)) = ((i + 1 : Nat) : Int) + (k : Int) by omega, this]
theorem allGo_no (by_ : List Int) (acc now : Int) : ∀ (rs : List (Int × Int)) (i : Nat) (L : List Sp), chkS L = 0 → ¬ (allGo by_ acc now i rs L).2 = 0 →
    (allGo by_ acc now i rs L).1 = [] ∧ ((allGo by_ acc now i rs L).2 = 170 → ∃ k, ∃ h : k < rs.length, by_.contains ((i : Int) + k) = true ∧ leftS L rs[k].1 rs[k].2 ((i : Int) + k) acc now = 0)
  | [], i, L, hL, he => absurd rfl he
  | r :: rs, i, L, hL, he => by
    unfold allGo at he ⊢
    by_cases hb : by_.contains (i : Int) = true
    · rw [if_pos hb] at he ⊢
      by_cases h0 : (spendS L r.1 r.2 i acc now).2 = 0
      · rw [if_pos h0] at he ⊢
        have hp := spend_pair _ _ _ _ _ _ h0
        generalize (spendS L r.1 r.2 i acc now).1 = X at hp he ⊢
        obtain ⟨_, hx, _⟩ := spend_ok hp
        obtain ⟨g1, g2⟩ := allGo_no by_ acc now rs (i + 1) X hx he
        refine ⟨g1, fun e => ?_⟩
        obtain ⟨k, hk, c1, c2⟩ := g2 e
        refine ⟨k + 1, by simpa using hk, ?_, ?_⟩
        · rw [show ((i : Int) + ((k + 1 : Nat) : Int)) = ((i + 1 : Nat) : Int) + (k : Int) by omega]; exact c1
        · simp only [List.getElem_cons_succ]
          rw [show ((i : Int) + ((k + 1 : Nat) : Int)) = ((i + 1 : Nat) : Int) + (k : Int) by omega, ← left_other hp (by omega)]; exact c2
      · rw [if_neg h0]
        refine ⟨rfl, fun e => ⟨0, by simp, by simpa using hb, ?_⟩⟩
        have := (spend_no (X := (spendS L r.1 r.2 i acc now).1) (e := (spendS L r.1 r.2 i acc now).2) rfl h0).2 e
        simpa using this.1
    · rw [if_neg hb] at he ⊢
      obtain ⟨g1, g2⟩ := allGo_no by_ acc now rs (i + 1) L hL he
      refine ⟨g1, fun e => ?_⟩
      obtain ⟨k, hk, c1, c2⟩ := g2 e
      refine ⟨k + 1, by simpa using hk, ?_, ?_⟩
      · rw [show ((i : Int) + ((k + 1 : Nat) : Int)) = ((i + 1 : Nat) : Int) + (k : Int) by omega]; exact c1
      · simp only [List.getElem_cons_succ]
        rw [show ((i : Int) + ((k + 1 : Nat) : Int)) = ((i + 1 : Nat) : Int) + (k : Int) by omega]; exact c2
end Go.Proofs.Ytnjmhijfaijopaa
