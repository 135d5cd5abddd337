/- What was spent, plainly: what is left, what is spent. -/
import Derived.Test.YtnjmhijfaijopaaBudgetPut
namespace Go.Proofs.Ytnjmhijfaijopaa
set_option linter.unusedVariables false
set_option linter.unusedSimpArgs false

def rmB (mo wi : Int) : Bool := nmB mo && nmB wi && (!decide (0 < mo) || decide (0 < wi))
theorem rmB_iff {mo wi : Int} : rmB mo wi = true ↔ (0 ≤ mo ∧ mo ≤ 1099511627776) ∧ (0 ≤ wi ∧ wi ≤ 1099511627776) ∧ (0 < mo → 0 < wi) := by
  unfold rmB; simp only [Bool.and_eq_true, Bool.or_eq_true, nmB_iff, Bool.not_eq_true', decide_eq_false_iff_not, decide_eq_true_eq]; omega
def askB (mo wi rule acc now : Int) : Bool := rmB mo wi && rlB rule && nmB acc && nmB now
theorem askB_iff {mo wi rule acc now : Int} : askB mo wi rule acc now = true ↔ rmB mo wi = true ∧ rlB rule = true ∧ nmB acc = true ∧ nmB now = true := by
  unfold askB; simp only [Bool.and_eq_true]; constructor
  · rintro ⟨⟨⟨a, b⟩, c⟩, d⟩; exact ⟨a, b, c, d⟩
  · rintro ⟨a, b, c, d⟩; exact ⟨⟨⟨a, b⟩, c⟩, d⟩
/-- Why all this can't be asked; 0: it can. -/
def askE (L : List Sp) (mo wi rule acc now : Int) : Int := if chkS L = 0 then (if askB mo wi rule acc now then 0 else 1) else chkS L
theorem chkS_ok {L : List Sp} (hc : chkS L = 0) : okS none L = true ∧ L.length ≤ 1024 := by
  cases ho : okS none L with
  | true => rw [chkS_good ho] at hc; refine ⟨rfl, ?_⟩; split at hc <;> omega
  | false => rw [chkS_bad ho] at hc; exact absurd hc (by decide)
theorem chkS_is {L : List Sp} (h : okS none L = true) (k : L.length ≤ 1024) : chkS L = 0 := by rw [chkS_good h, if_neg (by omega)]
theorem askE_is {L : List Sp} {mo wi rule acc now : Int} : askE L mo wi rule acc now = 0 ↔ chkS L = 0 ∧ askB mo wi rule acc now = true := by
  unfold askE
  by_cases hc : chkS L = 0
  · rw [if_pos hc]; cases askB mo wi rule acc now <;> simp [hc]
  · rw [if_neg hc]; simp [hc]
theorem askE_ok {L : List Sp} {mo wi rule acc now : Int} (h : askE L mo wi rule acc now = 0) : okS none L = true ∧ rmB mo wi = true ∧ rlB rule = true ∧ nmB acc = true ∧ nmB now = true := by
  obtain ⟨h1, h2⟩ := askE_is.1 h
  obtain ⟨a, b, c, d⟩ := askB_iff.1 h2
  exact ⟨(chkS_ok h1).1, a, b, c, d⟩
def leftS (L : List Sp) (mo wi rule acc now : Int) : Int := if askE L mo wi rule acc now = 0 then (if mo = 0 then 1099511627776 else max 0 (mo - hadS acc rule wi now L)) else 0
/-- The owner's, with one more. -/
def newS (acc rule wi now : Int) (L : List Sp) : Sp := match L.find? (isO acc rule) with | none => (acc, rule, now, 1) | some s => if now - s.2.2.1 < wi then (acc, rule, s.2.2.1, s.2.2.2 + 1) else (acc, rule, now, 1)
def spendS (L : List Sp) (mo wi rule acc now : Int) : List Sp × Int :=
  if askE L mo wi rule acc now = 0 then
    if mo = 0 then (L, 0)
    else if mo ≤ hadS acc rule wi now L then ([], 170)
    else if 1024 < (putS acc rule (newS acc rule wi now L) L).length then ([], 2) else (putS acc rule (newS acc rule wi now L) L, 0)
  else ([], askE L mo wi rule acc now)
theorem newS_own (acc rule wi now : Int) (L : List Sp) : (newS acc rule wi now L).1 = acc ∧ (newS acc rule wi now L).2.1 = rule := by
  unfold newS; split
  · exact ⟨rfl, rfl⟩
  · split <;> exact ⟨rfl, rfl⟩
theorem find_may {acc rule : Int} {L : List Sp} {s : Sp} (h : okS none L = true) (hf : L.find? (isO acc rule) = some s) : (0 ≤ s.2.2.1 ∧ s.2.2.1 ≤ 1099511627776) ∧ 1 ≤ s.2.2.2 ∧ s.2.2.2 ≤ 1099511627776 ∧ s.1 = acc ∧ s.2.1 = rule := by
  have h1 := mayS_iff.1 (okS_may h s (List.mem_of_find?_eq_some hf))
  have h2 := isO_iff.1 (List.find?_some hf)
  exact ⟨h1.2.2.1, h1.2.2.2.1, h1.2.2.2.2, h2.1, h2.2⟩
theorem had_nonneg {acc rule wi now : Int} {L : List Sp} (h : okS none L = true) : 0 ≤ hadS acc rule wi now L := by
  unfold hadS; split
  · omega
  · rename_i s hf; have := find_may h hf; split <;> omega
theorem newS_may {acc rule mo wi now : Int} {L : List Sp} (h : okS none L = true) (hm : mo ≤ 1099511627776) (ha : nmB acc = true) (hr : rlB rule = true) (hn : nmB now = true) (hh : hadS acc rule wi now L < mo) :
    mayS (newS acc rule wi now L).1 (newS acc rule wi now L).2.1 (newS acc rule wi now L).2.2.1 (newS acc rule wi now L).2.2.2 = true := by
  rw [nmB_iff] at ha hn; rw [rlB_iff] at hr
  rw [mayS_iff]
  unfold newS; unfold hadS at hh
  split
  · exact ⟨ha, hr, hn, by show (1 : Int) ≤ 1; omega, by show (1 : Int) ≤ _; omega⟩
  · rename_i s hf
    rw [hf] at hh
    have := find_may h hf
    split
    · rename_i hlt
      simp only [hlt, if_true] at hh
      exact ⟨ha, hr, this.1, by show 1 ≤ s.2.2.2 + 1; omega, by show s.2.2.2 + 1 ≤ _; omega⟩
    · exact ⟨ha, hr, hn, by show (1 : Int) ≤ 1; omega, by show (1 : Int) ≤ _; omega⟩
/-- What is spent: all that is known of it, if it is let. -/
theorem spend_ok {L X : List Sp} {mo wi rule acc now : Int} (h : spendS L mo wi rule acc now = (X, 0)) : askE L mo wi rule acc now = 0 ∧ chkS X = 0 ∧
    ((mo = 0 ∧ X = L) ∨ (0 < mo ∧ 0 < wi ∧ hadS acc rule wi now L < mo ∧ X = putS acc rule (newS acc rule wi now L) L ∧ hadS acc rule wi now X = hadS acc rule wi now L + 1)) := by
  unfold spendS at h
  by_cases h0 : askE L mo wi rule acc now = 0
  · rw [if_pos h0] at h
    obtain ⟨hok, hrm, hrl, hna, hnn⟩ := askE_ok h0
    have hrm' := rmB_iff.1 hrm
    by_cases hm : mo = 0
    · rw [if_pos hm] at h; cases h; exact ⟨h0, (askE_is.1 h0).1, .inl ⟨hm, rfl⟩⟩
    · rw [if_neg hm] at h
      by_cases hh : mo ≤ hadS acc rule wi now L
      · rw [if_pos hh] at h; cases h
      · rw [if_neg hh] at h
        by_cases hl : 1024 < (putS acc rule (newS acc rule wi now L) L).length
        · rw [if_pos hl] at h; cases h
        · rw [if_neg hl] at h; cases h
          obtain ⟨n1, n2⟩ := newS_own acc rule wi now L
          have hmay := newS_may hok hrm'.1.2 hna hrl hnn (by omega : hadS acc rule wi now L < mo)
          refine ⟨h0, chkS_is (put_ok hok hmay n1 n2) (by omega), .inr ⟨by omega, by omega, by omega, rfl, ?_⟩⟩
          unfold hadS
          rw [put_find n1 n2]
          unfold newS
          cases hf : L.find? (isO acc rule) with
          | none => show (if now - now < wi then (1 : Int) else 0) = _; rw [if_pos (by omega)]; rfl
          | some s =>
            by_cases hlt : now - s.2.2.1 < wi
            · simp only [hlt, if_true]
            · simp only [hlt, if_false]; rw [if_pos (by omega)]; omega
  · rw [if_neg h0] at h; injection h with h1 h2; exact absurd h2 h0
theorem spend_no {L X : List Sp} {mo wi rule acc now e : Int} (h : spendS L mo wi rule acc now = (X, e)) (he : ¬ e = 0) : X = [] ∧ (e = 170 → leftS L mo wi rule acc now = 0 ∧ askE L mo wi rule acc now = 0) := by
  unfold spendS at h
  by_cases h0 : askE L mo wi rule acc now = 0
  · rw [if_pos h0] at h
    by_cases hm : mo = 0
    · rw [if_pos hm] at h; cases h; exact absurd rfl he
    · rw [if_neg hm] at h
      by_cases hh : mo ≤ hadS acc rule wi now L
      · rw [if_pos hh] at h; cases h
        refine ⟨rfl, fun _ => ⟨?_, h0⟩⟩
        unfold leftS; rw [if_pos h0, if_neg hm]; omega
      · rw [if_neg hh] at h
        by_cases hl : 1024 < (putS acc rule (newS acc rule wi now L) L).length
        · rw [if_pos hl] at h; cases h; exact ⟨rfl, fun e => absurd e (by decide)⟩
        · rw [if_neg hl] at h; cases h; exact absurd rfl he
  · rw [if_neg h0] at h
    injection h with h1 h2
    refine ⟨h1.symm, fun e170 => ?_⟩
    rw [e170] at h2
    unfold askE at h2
    by_cases hc : chkS L = 0
    · rw [if_pos hc] at h2; split at h2 <;> exact absurd h2 (by decide)
    · rw [if_neg hc] at h2
      cases ho : okS none L with
      | true => rw [chkS_good ho] at h2; split at h2 <;> exact absurd h2 (by decide)
      | false => rw [chkS_bad ho] at h2; exact absurd h2 (by decide)
/-- Another one has what it had. -/
theorem left_other {L X : List Sp} {mo wi rule acc now m2 w2 r2 a2 n2 : Int} (h : spendS L mo wi rule acc now = (X, 0)) (hne : ¬ (a2 = acc ∧ r2 = rule)) : leftS X m2 w2 r2 a2 n2 = leftS L m2 w2 r2 a2 n2 := by
  obtain ⟨h0, hx, hc⟩ := spend_ok h
  rcases hc with ⟨_, rfl⟩ | ⟨_, _, _, hX, _⟩
  · rfl
  · have hl := (askE_is.1 h0).1
    obtain ⟨n1, n2'⟩ := newS_own acc rule wi now L
    have hask : askE X m2 w2 r2 a2 n2 = askE L m2 w2 r2 a2 n2 := by unfold askE; rw [hx, hl]
    have hhad : hadS a2 r2 w2 n2 X = hadS a2 r2 w2 n2 L := by unfold hadS; rw [hX, put_find_other n1 n2' hne]
    unfold leftS; rw [hask, hhad]
theorem left_own {L X : List Sp} {mo wi rule acc now : Int} (h : spendS L mo wi rule acc now = (X, 0)) : 0 < leftS L mo wi rule acc now ∧ ((mo = 0 ∧ X = L ∧ leftS X mo wi rule acc now = leftS L mo wi rule acc now) ∨ (0 < mo ∧ leftS X mo wi rule acc now = leftS L mo wi rule acc now - 1)) := by
  obtain ⟨h0, hx, hc⟩ := spend_ok h
  obtain ⟨hl, ha⟩ := askE_is.1 h0
  have hX0 : askE X mo wi rule acc now = 0 := askE_is.2 ⟨hx, ha⟩
  rcases hc with ⟨hm, rfl⟩ | ⟨hm, hw, hlt, hX, hhad⟩
  · unfold leftS; rw [if_pos h0, if_pos hm]; exact ⟨by omega, .inl ⟨hm, rfl, rfl⟩⟩
  · have hnn := had_nonneg (acc := acc) (rule := rule) (wi := wi) (now := now) (chkS_ok hl).1
    have e1 : leftS L mo wi rule acc now = mo - hadS acc rule wi now L := by unfold leftS; rw [if_pos h0, if_neg (by omega)]; omega
    have e2 : leftS X mo wi rule acc now = mo - hadS acc rule wi now L - 1 := by unfold leftS; rw [if_pos hX0, if_neg (by omega), hhad]; omega
    exact ⟨by omega, .inr ⟨hm, by omega⟩⟩
theorem left_max (L : List Sp) (mo wi rule acc now : Int) : 0 ≤ leftS L mo wi rule acc now ∧ leftS L mo wi rule acc now ≤ 1099511627776 := by
  unfold leftS
  by_cases h0 : askE L mo wi rule acc now = 0
  · rw [if_pos h0]
    obtain ⟨hok, hrm, _, _, _⟩ := askE_ok h0
    have := rmB_iff.1 hrm
    have := had_nonneg (acc := acc) (rule := rule) (wi := wi) (now := now) hok
    split <;> omega
  · rw [if_neg h0]; omega
/-- Two lists in order with the same members are one. -/
theorem order_one : ∀ {a b : List Sp}, a.Pairwise (fun s q => ltO s.1 s.2.1 q.1 q.2.1 = true) → b.Pairwise (fun s q => ltO s.1 s.2.1 q.1 q.2.1 = true) → (∀ s, s ∈ a ↔ s ∈ b) → a = b
  | [], [], _, _, _ => rfl
  | [], q :: b, _, _, h => absurd ((h q).2 (List.mem_cons_self ..)) (by simp)
  | s :: a, [], _, _, h => absurd ((h s).1 (List.mem_cons_self ..)) (by simp)
  | s :: a, q :: b, ha, hb, h => by
    rw [List.pairwise_cons] at ha hb
    have hsq : s = q := by
      rcases List.mem_cons.1 ((h s).1 (List.mem_cons_self ..)) with e | e
      · exact e
      · rcases List.mem_cons.1 ((h q).2 (List.mem_cons_self ..)) with e2 | e2
        · exact e2.symm
        · have h1 := hb.1 s e; have h2 := ha.1 q e2
          rw [ltO_iff] at h1 h2; omega
    subst hsq
    congr 1
    refine order_one ha.2 hb.2 fun t => ⟨fun ht => ?_, fun ht => ?_⟩
    · rcases List.mem_cons.1 ((h t).1 (List.mem_cons_of_mem _ ht)) with e | e
      · subst e; have := ha.1 t ht; rw [ltO_iff] at this; omega
      · exact e
    · rcases List.mem_cons.1 ((h t).2 (List.mem_cons_of_mem _ ht)) with e | e
      · subst e; have := hb.1 t ht; rw [ltO_iff] at this; omega
      · exact e
theorem mem_put {acc rule : Int} {x s : Sp} {L : List Sp} : s ∈ putS acc rule x L ↔ s = x ∨ (s ∈ L ∧ isO acc rule s = false) := by
  unfold putS
  rw [List.mem_append, List.mem_cons, List.mem_filter, List.mem_filter, ahead_iff, behind_iff, ← Bool.not_eq_true, isO_iff]
  by_cases hs : s ∈ L
  · simp only [hs, true_and]
    by_cases hx : s = x
    · simp [hx]
    · simp only [hx, false_or]; omega
  · simp [hs]
/-- Two who spend do not stand in each other's way. -/
theorem spend_apart {L A B : List Sp} {mo wi rule acc now w2 o2 : Int} (hlen : L.length ≤ 1000) (hne : ¬ (o2 = acc ∧ w2 = rule)) (ha : spendS L mo wi rule acc now = (A, 0)) (hb : spendS L mo wi w2 o2 now = (B, 0)) :
    ∃ X, spendS A mo wi w2 o2 now = (X, 0) ∧ spendS B mo wi rule acc now = (X, 0) := by
  obtain ⟨a0, ax, ac⟩ := spend_ok ha
  obtain ⟨b0, bx, bc⟩ := spend_ok hb
  obtain ⟨lc, la⟩ := askE_is.1 a0
  obtain ⟨_, lb⟩ := askE_is.1 b0
  have hok := (chkS_ok lc).1
  have A0 : askE A mo wi w2 o2 now = 0 := askE_is.2 ⟨ax, lb⟩
  have B0 : askE B mo wi rule acc now = 0 := askE_is.2 ⟨bx, la⟩
  rcases ac with ⟨hm, rfl⟩ | ⟨hm, hw, halt, hA, _⟩
  · rcases bc with ⟨_, rfl⟩ | ⟨hm2, _⟩
    · exact ⟨_, ha ▸ hb, ha⟩
    · omega
  · rcases bc with ⟨hm2, _⟩ | ⟨_, _, hblt, hB, _⟩
    · omega
    · obtain ⟨na1, na2⟩ := newS_own acc rule wi now L
      obtain ⟨nb1, nb2⟩ := newS_own o2 w2 wi now L
      have hne' : ¬ (acc = o2 ∧ rule = w2) := by omega
      have fA : A.find? (isO o2 w2) = L.find? (isO o2 w2) := by rw [hA]; exact put_find_other na1 na2 hne
      have fB : B.find? (isO acc rule) = L.find? (isO acc rule) := by rw [hB]; exact put_find_other nb1 nb2 hne'
      have nA : newS o2 w2 wi now A = newS o2 w2 wi now L := by unfold newS; rw [fA]
      have nB : newS acc rule wi now B = newS acc rule wi now L := by unfold newS; rw [fB]
      have hA' : hadS o2 w2 wi now A = hadS o2 w2 wi now L := by unfold hadS; rw [fA]
      have hB' : hadS acc rule wi now B = hadS acc rule wi now L := by unfold hadS; rw [fB]
      have lA : A.length ≤ 1001 := by rw [hA, put_len hok]; split <;> omega
      have lB : B.length ≤ 1001 := by rw [hB, put_len hok]; split <;> omega
      have okA := (chkS_ok ax).1
      have okB := (chkS_ok bx).1
      obtain ⟨_, hrm, hrl, hna, hnn⟩ := askE_ok a0
      obtain ⟨_, _, hrl2, hna2, _⟩ := askE_ok b0
      have hmo := (rmB_iff.1 hrm).1.2
      have may1 := newS_may (mo := mo) hok hmo hna hrl hnn halt
      have may2 := newS_may (mo := mo) hok hmo hna2 hrl2 hnn hblt
      have hlA : (putS o2 w2 (newS o2 w2 wi now L) A).length ≤ 1002 := by rw [put_len okA]; split <;> omega
      have hlB : (putS acc rule (newS acc rule wi now L) B).length ≤ 1002 := by rw [put_len okB]; split <;> omega
      refine ⟨putS o2 w2 (newS o2 w2 wi now L) A, ?_, ?_⟩
      · unfold spendS; rw [if_pos A0, if_neg (by omega), hA', if_neg (by omega), nA, if_neg (by omega)]
      · unfold spendS; rw [if_pos B0, if_neg (by omega), hB', if_neg (by omega), nB, if_neg (by omega)]
        congr 1
        refine order_one (okS_pair (put_ok okB may1 na1 na2)) (okS_pair (put_ok okA may2 nb1 nb2)) fun s => ?_
        rw [mem_put, mem_put, hA, hB, mem_put, mem_put, ← Bool.not_eq_true, ← Bool.not_eq_true, isO_iff, isO_iff]
        constructor
        · rintro (rfl | ⟨rfl | ⟨h1, h2⟩, h3⟩)
          · exact .inr ⟨.inl rfl, by omega⟩
          · exact .inl rfl
          · exact .inr ⟨.inr ⟨h1, h3⟩, h2⟩
        · rintro (rfl | ⟨rfl | ⟨h1, h2⟩, h3⟩)
          · exact .inr ⟨.inl rfl, by omega⟩
          · exact .inl rfl
          · exact .inr ⟨.inr ⟨h1, h3⟩, h2⟩
end Go.Proofs.Ytnjmhijfaijopaa
