/- What is spent, by the place that was found; plain. -/
import Derived.Test.YtnjmhijfaijopaaBudgetPlain
namespace Go.Proofs.Ytnjmhijfaijopaa
set_option linter.unusedVariables false
set_option linter.unusedSimpArgs false

theorem left_zero {L : List Sp} {mo wi rule acc now : Int} (h0 : askE L mo wi rule acc now = 0) (hm : ¬ mo = 0) : (leftS L mo wi rule acc now = 0 → spendS L mo wi rule acc now = ([], 170)) ∧
    (¬ leftS L mo wi rule acc now = 0 → spendS L mo wi rule acc now = if 1024 < (putS acc rule (newS acc rule wi now L) L).length then ([], 2) else (putS acc rule (newS acc rule wi now L) L, 0)) := by
  unfold leftS spendS
  rw [if_pos h0, if_pos h0, if_neg hm, if_neg hm]
  constructor
  · intro h; rw [if_pos (by omega)]
  · intro h; rw [if_neg (by omega)]
section
variable {acc rule : Int} {L : List Sp} (hok : okS none L = true) (k : Nat) (hk : k ≤ L.length) (hbef : ∀ j (g : j < L.length), j < k → ltO L[j].1 L[j].2.1 acc rule = true) (hge : ∀ g : k < L.length, ltO L[k].1 L[k].2.1 acc rule = false)
include hok hbef hge
theorem put_set (hkl : k < L.length) (ho : isO acc rule L[k] = true) (x : Sp) : putS acc rule x L = L.set k x := by
  unfold putS
  rw [take_ahead hok k (by omega) hbef hge, drop_behind hok k (by omega) hbef hge (k + 1) (.inr ⟨rfl, hkl, ho⟩), List.set_eq_take_append_cons_drop, if_pos hkl]
theorem put_ins (hk : k ≤ L.length) (ho : ∀ g : k < L.length, isO acc rule L[k] = false) (x : Sp) : putS acc rule x L = L.take k ++ x :: L.drop k := by
  unfold putS
  rw [take_ahead hok k hk hbef hge, drop_behind hok k hk hbef hge k (.inl ⟨rfl, ho⟩)]
theorem find_no (hk : k ≤ L.length) (ho : ∀ g : k < L.length, isO acc rule L[k] = false) : L.find? (isO acc rule) = none := by
  rcases Nat.lt_or_eq_of_le hk with h | h
  · rw [found_at hok k h hbef (hge h), if_neg (by rw [ho h]; decide)]
  · exact found_none fun j g => hbef j g (by omega)
theorem spend_on {mo wi now : Int} (h0 : askE L mo wi rule acc now = 0) (hm : ¬ mo = 0) (hlf : ¬ leftS L mo wi rule acc now = 0) (hlen : L.length ≤ 1024) (hkl : k < L.length) (ho : isO acc rule L[k] = true) (hon : now - L[k].2.2.1 < wi) :
    spendS L mo wi rule acc now = (L.set k (acc, rule, L[k].2.2.1, L[k].2.2.2 + 1), 0) := by
  have hf : L.find? (isO acc rule) = some L[k] := by rw [found_at hok k hkl hbef (hge hkl), if_pos ho]
  have hn : newS acc rule wi now L = (acc, rule, L[k].2.2.1, L[k].2.2.2 + 1) := by unfold newS; rw [hf]; show (if _ then _ else _) = _; rw [if_pos hon]
  rw [(left_zero h0 hm).2 hlf, hn, put_set hok k hbef hge hkl ho, if_neg (by simp; omega)]
theorem spend_off {mo wi now : Int} (h0 : askE L mo wi rule acc now = 0) (hm : ¬ mo = 0) (hlf : ¬ leftS L mo wi rule acc now = 0) (hlen : L.length ≤ 1024) (hkl : k < L.length) (ho : isO acc rule L[k] = true) (hon : ¬ now - L[k].2.2.1 < wi) :
    spendS L mo wi rule acc now = (L.set k (acc, rule, now, 1), 0) := by
  have hf : L.find? (isO acc rule) = some L[k] := by rw [found_at hok k hkl hbef (hge hkl), if_pos ho]
  have hn : newS acc rule wi now L = (acc, rule, now, 1) := by unfold newS; rw [hf]; show (if _ then _ else _) = _; rw [if_neg hon]
  rw [(left_zero h0 hm).2 hlf, hn, put_set hok k hbef hge hkl ho, if_neg (by simp; omega)]
theorem spend_ins {mo wi now : Int} (h0 : askE L mo wi rule acc now = 0) (hm : ¬ mo = 0) (hlf : ¬ leftS L mo wi rule acc now = 0) (hk : k ≤ L.length) (ho : ∀ g : k < L.length, isO acc rule L[k] = false) :
    spendS L mo wi rule acc now = if 1024 < L.length + 1 then ([], 2) else (L.take k ++ (acc, rule, now, 1) :: L.drop k, 0) := by
  have hf := find_no hok k hbef hge hk ho
  have hn : newS acc rule wi now L = (acc, rule, now, 1) := by unfold newS; rw [hf]
  rw [(left_zero h0 hm).2 hlf, hn, put_ins hok k hbef hge hk ho]
  have : (L.take k ++ (acc, rule, now, 1) :: L.drop k).length = L.length + 1 := by simp; omega
  rw [this]
end
end Go.Proofs.Ytnjmhijfaijopaa
