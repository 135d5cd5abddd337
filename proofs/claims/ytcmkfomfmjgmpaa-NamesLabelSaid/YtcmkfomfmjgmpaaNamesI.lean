/- The document's answers of names: stars, what is above, what is below. -/
import Derived.Test.YtcmkfomfmjgmpaaNamesH
namespace Go.Proofs.Ytcmkfomfmjgmpaa
open Go.ChangeShapes Go.WideShapes Go.ChangeAt Go.RowKit Go.Shelf Gs
set_option linter.unusedVariables false

theorem nameN_mono {a b c d : Nat} {l : List UInt8} (h : nameN a b l = true) (h1 : a ≤ c) (h2 : b ≤ d) : nameN c d l = true := by
  unfold nameN at h ⊢
  rw [Bool.and_eq_true, Bool.and_eq_true, decide_eq_true_eq, decide_eq_true_eq] at h ⊢
  exact ⟨by omega, by omega, h.2.2⟩
theorem suf_name {l t : List UInt8} (h : nameB l = true) (ht : t ∈ sufs l) : nameB t = true ∧ t ≠ [] := by
  have := name_suf h ht
  exact ⟨nameN_mono this.1 (by omega) (by omega), this.2⟩
theorem name_len {l : List UInt8} (h : nameB l = true) : 1 ≤ l.length ∧ l.length ≤ 64 ∧ (cuts l).length ≤ 8 := by
  have h0 := name_ne h
  unfold nameB nameN at h
  rw [Bool.and_eq_true, Bool.and_eq_true, decide_eq_true_eq, decide_eq_true_eq] at h
  exact ⟨List.length_pos_iff.2 h0, h.1, h.2.1⟩
/-- Which name a text is a star of. -/
def starO (l : List UInt8) : Option (List UInt8) := match stB l with | some o => if nameN 7 62 o = true then some o else none | none => none
theorem starO_some {l o : List UInt8} (h : starO l = some o) : stB l = some o ∧ nameN 7 62 o = true := by
  unfold starO at h
  cases hs : stB l with
  | none => rw [hs] at h; cases h
  | some x =>
    rw [hs] at h
    by_cases hn : nameN 7 62 x = true
    · simp only [if_pos hn] at h; cases h; exact ⟨rfl, hn⟩
    · simp only [if_neg hn] at h; cases h
theorem starO_none {l : List UInt8} (h : starO l = none) : ∀ o, stB l = some o → nameN 7 62 o = false := by
  intro o ho
  unfold starO at h
  rw [ho] at h
  by_cases hn : nameN 7 62 o = true
  · simp only [if_pos hn] at h; cases h
  · simpa using hn
theorem starO_mk {l o : List UInt8} (h : stB l = some o) (hn : nameN 7 62 o = true) : starO l = some o := by
  unfold starO; rw [h]; simp only [if_pos hn]

theorem two_front {s : ByteArray} (hz : 2 ≤ s.size) : bl s = s[0]'(by omega) :: s[1]'(by omega) :: (bl s).drop 2 := by
  have h2 : 2 ≤ (bl s).length := by rw [bl_len]; exact hz
  rw [← bl_get s 0 (by omega) (by omega), ← bl_get s 1 (by omega) (by omega)]
  conv => lhs; rw [show bl s = (bl s).drop 0 from rfl, List.drop_eq_getElem_cons (by omega), List.drop_eq_getElem_cons (by omega)]

set_option maxHeartbeats 2000000 in
theorem Star11_yes (s : ByteArray) (o : List UInt8) (h : starO (bl s) = some o) (w : World) :
    Calls Try.prog 34 #[.string s] w fun e w' => e = .returned (.tuple #[.string ⟨o.toArray⟩, .bool true]) ∧ Below w.heap.size w w' := by
  obtain ⟨h1, h2⟩ := starO_some h
  have e1 := stB_some h1
  have hl : s.size = o.length + 2 := by rw [← bl_len, e1]; rfl
  have hb : nameB o = true := nameN_mono h2 (by omega) (by omega)
  have hx : (cuts o).length ≤ 7 ∧ o.length ≤ 62 := by
    unfold nameN at h2
    rw [Bool.and_eq_true, Bool.and_eq_true, decide_eq_true_eq, decide_eq_true_eq] at h2
    exact ⟨h2.2.1, h2.1⟩
  have ho := (name_len hb).1
  have eT : s.extract 2 s.size = ⟨o.toArray⟩ := bl_inj ((bl_from s 2).trans (by rw [e1]; exact (bl_mk o).symm))
  have z0 : 0 < s.size := by omega
  have z1 : 1 < s.size := by omega
  have s0 : (s[0]'z0).toNat = 42 := by rw [← bl_get s 0 (by omega) (by rw [bl_len]; omega)]; simp [e1]
  have s1 : (s[1]'z1).toNat = 46 := by rw [← bl_get s 1 (by omega) (by rw [bl_len]; omega)]; simp [e1]
  have d1 : decide ((s.size : Int) < 3) = false := decide_eq_false (by omega)
  have d2 : decide ((64 : Int) < (s.size : Int)) = false := decide_eq_false (by omega)
  have d3 : (((s[0]'z0).toNat : Int) != 42) = false := by rw [s0]; rfl
  have d4 : (((s[1]'z1).toNat : Int) != 46) = false := by rw [s1]; rfl
  have c1 : (2 : Int) ≤ (s.size : Int) := by omega
  have c2 : 2 ≤ s.size := by omega
  have c3 : 1 ≤ s.size := by omega
  have ET := Lib.hid eT
  have NM := Lib.hid (Name11_is (s.extract 2 s.size) true (by rw [eT, bl_mk]; exact hb))
  have CT := Lib.hid (cut_any11 (s.extract 2 s.size) (by rw [← bl_len, eT, bl_mk]; omega))
  rw [eT, bl_mk] at CT
  have hne := cuts_ne o
  generalize cuts o = L at CT hx hne
  obtain ⟨n, hn⟩ : ∃ n, L.length = n := ⟨_, rfl⟩
  rw [hn] at hx
  have d5 : decide ((7 : Int) < (n : Int)) = false := decide_eq_false (by omega)
  rw [← eT] at CT
  rw [← eT]
  clear h h1 h2 e1 hl hb eT s0 s1 ho hx
  go_enter Try.func34, Try.ntmps34
  go_wp2_with fail
  refine (NM.out _).mono ?_; rintro e w1 ⟨rfl, b⟩
  have B := Lib.hid b
  clear b
  go_wp2_with fail
  refine (CT.out _).mono ?_; rintro e w2 ⟨⟨v, rfl, ho⟩, b⟩
  obtain ⟨g, cap, rfl, _⟩ := ownT_slice ho hne
  rw [hn]
  have B2 := Lib.hid (bon B.out b)
  clear ho b
  go_wp2_with fail
  go_ret2
  exact ⟨rfl, B2.out⟩

set_option maxHeartbeats 2000000 in
theorem Star11_no (s : ByteArray) (h : starO (bl s) = none) (w : World) :
    Calls Try.prog 34 #[.string s] w fun e w' => e = .returned (.tuple #[.string ⟨#[]⟩, .bool false]) ∧ Below w.heap.size w w' := by
  by_cases z3 : s.size < 3
  · have d1 : decide ((s.size : Int) < 3) = true := decide_eq_true (by omega)
    clear h
    go_enter Try.func34, Try.ntmps34
    go_wp2_with fail
    go_ret2
    exact ⟨rfl, Below.refl _ _⟩
  have d1 : decide ((s.size : Int) < 3) = false := decide_eq_false (by omega)
  by_cases z64 : 64 < s.size
  · have d2 : decide ((64 : Int) < (s.size : Int)) = true := decide_eq_true (by omega)
    clear h
    go_enter Try.func34, Try.ntmps34
    go_wp2_with fail
    go_ret2
    exact ⟨rfl, Below.refl _ _⟩
  have d2 : decide ((64 : Int) < (s.size : Int)) = false := decide_eq_false (by omega)
  by_cases s0 : (s[0]'(by omega)).toNat = 42
  rotate_left 1
  · have d3 : (((s[0]'(by omega)).toNat : Int) != 42) = true := by simp; omega
    clear h
    go_enter Try.func34, Try.ntmps34
    go_wp2_with fail
    go_ret2
    exact ⟨rfl, Below.refl _ _⟩
  have d3 : (((s[0]'(by omega)).toNat : Int) != 42) = false := by rw [s0]; rfl
  have c3 : 1 ≤ s.size := by omega
  by_cases s1 : (s[1]'(by omega)).toNat = 46
  rotate_left 1
  · have d4 : (((s[1]'(by omega)).toNat : Int) != 46) = true := by simp; omega
    clear h s0
    go_enter Try.func34, Try.ntmps34
    go_wp2_with fail
    go_ret2
    exact ⟨rfl, Below.refl _ _⟩
  have d4 : (((s[1]'(by omega)).toNat : Int) != 46) = false := by rw [s1]; rfl
  have hst : stB (bl s) = some ((bl s).drop 2) := by
    rw [two_front (s := s) (by omega)]
    simp [stB, UInt8.toNat_inj.1 (show (s[0]'(by omega)).toNat = (42 : UInt8).toNat from s0), UInt8.toNat_inj.1 (show (s[1]'(by omega)).toNat = (46 : UInt8).toNat from s1)]
  have hno := starO_none h _ hst
  have c1 : (2 : Int) ≤ (s.size : Int) := by omega
  have c2 : 2 ≤ s.size := by omega
  have eT : bl (s.extract 2 s.size) = (bl s).drop 2 := bl_from s 2
  cases hb : nameB ((bl s).drop 2)
  · have NM := Lib.hid (Name11_is (s.extract 2 s.size) false (by rw [eT]; exact hb))
    clear h s0 s1 hst hno eT hb
    go_enter Try.func34, Try.ntmps34
    go_wp2_with fail
    refine (NM.out _).mono ?_; rintro e w1 ⟨rfl, b⟩
    go_wp2_with fail
    go_ret2
    exact ⟨rfl, b⟩
  · have NM := Lib.hid (Name11_is (s.extract 2 s.size) true (by rw [eT]; exact hb))
    have CT := Lib.hid (cut_any11 (s.extract 2 s.size) (by rw [← bl_len, eT, List.length_drop, bl_len]; omega))
    rw [eT] at CT
    have hne := cuts_ne ((bl s).drop 2)
    have hx : 7 < (cuts ((bl s).drop 2)).length := by
      unfold nameB nameN at hb
      rw [Bool.and_eq_true, Bool.and_eq_true, decide_eq_true_eq, decide_eq_true_eq] at hb
      by_cases hx : 7 < (cuts ((bl s).drop 2)).length
      · exact hx
      · unfold nameN at hno
        rw [decide_eq_true (by rw [List.length_drop, bl_len]; omega), decide_eq_true (by omega), hb.2.2] at hno
        cases hno
    generalize cuts ((bl s).drop 2) = L at CT hx hne
    obtain ⟨n, hn⟩ : ∃ n, L.length = n := ⟨_, rfl⟩
    rw [hn] at hx
    have d5 : decide ((7 : Int) < (n : Int)) = true := decide_eq_true (by omega)
    clear h s0 s1 hst hno eT hb hx
    go_enter Try.func34, Try.ntmps34
    go_wp2_with fail
    refine (NM.out _).mono ?_; rintro e w1 ⟨rfl, b⟩
    have B := Lib.hid b
    clear b
    go_wp2_with fail
    refine (CT.out _).mono ?_; rintro e w2 ⟨⟨v, rfl, ho⟩, b⟩
    obtain ⟨g, cap, rfl, _⟩ := ownT_slice ho hne
    rw [hn]
    have B2 := Lib.hid (bon B.out b)
    clear ho b
    go_wp2_with fail
    go_ret2
    exact ⟨rfl, B2.out⟩

theorem patB_no_star {l : List UInt8} (h : starO l = none) : patB l = nameB l := by
  unfold patB
  cases hs : stB l with
  | none => rfl
  | some o =>
    simp only
    rw [starO_none h o hs]
    cases hn : nameB l
    · rfl
    · rw [name_nostar hn] at hs; cases hs
theorem patB_star {l o : List UInt8} (h : starO l = some o) : patB l = true := by
  obtain ⟨h1, h2⟩ := starO_some h
  unfold patB; rw [h1]; exact h2

theorem Pattern11_any (s : ByteArray) (w : World) :
    Calls Try.prog 16 #[.string s] w fun e w' => e = .returned (.int .i64 (if patB (bl s) = true then 0 else 110)) ∧ Below w.heap.size w w' := by
  cases hs : starO (bl s) with
  | some o =>
    have P := Lib.hid (Star11_yes s o hs)
    rw [if_pos (patB_star hs)]
    clear hs
    go_enter Try.func16, Try.ntmps16
    go_wp2_with fail
    refine (P.out _).mono ?_; rintro e w1 ⟨rfl, b⟩
    go_wp2_with fail
    go_ret
    exact ⟨rfl, b⟩
  | none =>
    have P := Lib.hid (Star11_no s hs)
    rw [patB_no_star hs]
    clear hs
    cases hn : nameB (bl s)
    all_goals (
      have Q := Lib.hid (Name11_is s _ hn)
      clear hn
      go_enter Try.func16, Try.ntmps16
      go_wp2_with fail
      refine (P.out _).mono ?_; rintro e w1 ⟨rfl, b⟩
      have B := Lib.hid b
      clear b
      go_wp2_with fail
      refine (Q.out _).mono ?_; rintro e w2 ⟨rfl, b⟩
      go_wp2_with fail
      go_ret
      exact ⟨rfl, bon B.out b⟩)
theorem Labels11_yes (s : ByteArray) (h : nameB (bl s) = true) (w : World) :
    Calls Try.prog 19 #[.string s] w fun e w' => (∃ v, e = .returned v ∧ OwnT w' w.heap.size v (cuts (bl s))) ∧ Below w.heap.size w w' := by
  have Q := Lib.hid (Name11_is s _ h)
  have C := Lib.hid (cut_any11 s (by have := (name_len h).2.1; rw [bl_len] at this; omega))
  clear h
  go_enter Try.func19, Try.ntmps19
  go_wp2_with fail
  refine (Q.out _).mono ?_; rintro e w1 ⟨rfl, b⟩
  have B := Lib.hid b
  clear b
  go_wp2_with fail
  refine (C.out _).mono ?_; rintro e w2 ⟨⟨v, rfl, ho⟩, b⟩
  go_wp2_with fail
  go_ret
  exact ⟨⟨_, rfl, own_lower ho B.out.size⟩, bon B.out b⟩
theorem Labels11_no (s : ByteArray) (h : nameB (bl s) = false) (w : World) :
    Calls Try.prog 19 #[.string s] w fun e w' => e = .returned (.slice none 0 0) ∧ Below w.heap.size w w' := by
  have Q := Lib.hid (Name11_is s _ h)
  clear h
  go_enter Try.func19, Try.ntmps19
  go_wp2_with fail
  refine (Q.out _).mono ?_; rintro e w1 ⟨rfl, b⟩
  go_wp2_with fail
  go_ret
  exact ⟨rfl, b⟩
end Go.Proofs.Ytcmkfomfmjgmpaa
