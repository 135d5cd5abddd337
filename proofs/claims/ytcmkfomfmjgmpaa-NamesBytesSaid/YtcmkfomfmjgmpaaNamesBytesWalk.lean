/- The walk of NamesBytes. -/
import Derived.Test.YtcmkfomfmjgmpaaNamesM
import Derived.Laws.IdiomStrings
import Derived.Deep.Cut
namespace Go.Proofs.Ytcmkfomfmjgmpaa
open Go.ChangeShapes Go.WideShapes Go.ChangeAt Go.RowKit Go.Shelf Gs
set_option linter.unusedVariables false

theorem and_low (x : Int) : ∃ m : Nat, bits .and .i64 x 65535 = (m : Int) ∧ m < 65536 := by
  have hb : (BitVec.ofInt 64 x &&& BitVec.ofInt 64 65535).toNat < 65536 := by
    rw [BitVec.toNat_and]
    have h1 : (BitVec.ofInt 64 65535).toNat = 65535 := by rfl
    rw [h1]
    exact Nat.lt_of_le_of_lt Nat.and_le_right (by omega)
  refine ⟨(BitVec.ofInt 64 x &&& BitVec.ofInt 64 65535).toNat, ?_, hb⟩
  show IntKind.i64.wrap ((BitVec.ofInt 64 x &&& BitVec.ofInt 64 65535).toNat : Nat) = _
  rw [IntKind.wrap_i64]
  omega
theorem lab_bytes {l : List UInt8} (h : labB l = true) {x : UInt8} (hx : x ∈ l) : wordB x.toNat = true ∨ x = 45 ∨ x = 95 := by
  obtain ⟨i, hi, rfl⟩ := List.getElem_of_mem hx
  unfold labB at h
  rw [Bool.and_eq_true] at h
  have := (List.all_eq_true.1 h.1) i (List.mem_range.2 hi)
  unfold okAt at this
  rw [List.getElem?_eq_getElem hi] at this
  simp at this
  rcases this with (h | h) | h
  · exact .inl h
  · exact .inr (.inl (UInt8.toNat_inj.1 h.1.1))
  · exact .inr (.inr (UInt8.toNat_inj.1 h.1.1))
theorem mem_joinD {C : List (List UInt8)} {x : UInt8} (h : x ∈ joinD C) : x = 46 ∨ ∃ c ∈ C, x ∈ c := by
  induction C with
  | nil => cases h
  | cons c t ih =>
    by_cases ht : t = []
    · subst ht; exact .inr ⟨c, by simp, h⟩
    · rw [joinD_cons c ht, List.mem_append, List.mem_cons] at h
      rcases h with h | h | h
      · exact .inr ⟨c, by simp, h⟩
      · exact .inl h
      · rcases ih h with h | ⟨d, hd, hx⟩
        · exact .inl h
        · exact .inr ⟨d, List.mem_cons_of_mem _ hd, hx⟩
theorem name_bytes {l : List UInt8} (h : nameB l = true) {x : UInt8} (hx : x ∈ l) : wordB x.toNat = true ∨ x = 45 ∨ x = 46 ∨ x = 95 := by
  rw [← joinD_cuts l] at hx
  unfold nameB nameN at h
  rw [Bool.and_eq_true, Bool.and_eq_true] at h
  rcases mem_joinD hx with h1 | ⟨c, hc, hx⟩
  · exact .inr (.inr (.inl h1))
  · rcases lab_bytes ((List.all_eq_true.1 h.2.2) c hc) hx with h2 | h2 | h2
    · exact .inl h2
    · exact .inr (.inl h2)
    · exact .inr (.inr (.inr h2))
theorem name_bad {l : List UInt8} {i : Nat} {c : UInt8} (hi : i < l.length) (h1 : wordB c.toNat = false) (h2 : c ≠ 45) (h3 : c ≠ 46) (h4 : c ≠ 95) : nameB (l.set i c) = false := by
  cases h : nameB (l.set i c)
  · rfl
  · have := name_bytes h (x := c) (List.mem_set hi c)
    rcases this with h | h | h | h
    · rw [h1] at h; cases h
    · exact absurd h h2
    · exact absurd h h3
    · exact absurd h h4
theorem lab_set {l : List UInt8} {i : Nat} {c : UInt8} (hc : wordB c.toNat = true) (h : labB l = true) : labB (l.set i c) = true := by
  unfold labB okTo at *
  rw [Bool.and_eq_true] at h ⊢
  rw [List.length_set]
  refine ⟨?_, h.2⟩
  rw [List.all_eq_true] at h ⊢
  intro j hj
  have := h.1 j hj
  unfold okAt at this ⊢
  rw [List.length_set, List.getElem?_set]
  by_cases e : i = j
  · subst e
    rw [if_pos rfl, if_pos (List.mem_range.1 hj)]
    simp [hc]
  · rw [if_neg e]; exact this
theorem cuts_set : ∀ (l : List UInt8) (i : Nat) (c : UInt8), (hi : i < l.length) → l[i] ≠ 46 → c ≠ 46 → wordB c.toNat = true → (cuts l).all labB = true → (cuts (l.set i c)).all labB = true ∧ (cuts (l.set i c)).length = (cuts l).length := by
  intro l
  suffices ∀ (n : Nat) (l : List UInt8), l.length = n → ∀ (i : Nat) (c : UInt8), (hi : i < l.length) → l[i] ≠ 46 → c ≠ 46 → wordB c.toNat = true → (cuts l).all labB = true → (cuts (l.set i c)).all labB = true ∧ (cuts (l.set i c)).length = (cuts l).length from this l.length l rfl
  clear l
  intro n
  induction n using Nat.strongRecOn with
  | _ n ih =>
    intro l hn i c hi h46 hc hw hall
    rcases text_cases l with hd | ⟨a, r, e, ha⟩
    · have hd2 : 46 ∉ l.set i c := by
        intro hm
        rcases List.mem_or_eq_of_mem_set hm with h | h
        · exact hd h
        · exact hc h.symm
      rw [cuts_one hd] at hall ⊢
      rw [cuts_one hd2]
      simp only [List.all_cons, List.all_nil, Bool.and_true] at hall ⊢
      exact ⟨lab_set hw hall, rfl⟩
    · subst e
      rw [cuts_app ha, List.all_cons, Bool.and_eq_true] at hall
      by_cases h1 : i < a.length
      · have ha2 : 46 ∉ a.set i c := by
          intro hm
          rcases List.mem_or_eq_of_mem_set hm with h | h
          · exact ha h
          · exact hc h.symm
        rw [List.set_append_left _ _ h1, cuts_app ha2, cuts_app ha, List.all_cons, lab_set hw hall.1, hall.2]
        exact ⟨rfl, rfl⟩
      · by_cases h2 : i = a.length
        · subst h2
          exfalso
          apply h46
          simp
        · have h3 : i - a.length = (i - a.length - 1) + 1 := by omega
          have hr : i - a.length - 1 < r.length := by simp at hi; omega
          rw [List.set_append_right _ _ (by omega), h3, List.set_cons_succ, cuts_app ha, cuts_app ha]
          have := ih r.length (by rw [← hn]; simp; omega) r rfl (i - a.length - 1) c hr (by
            intro e
            apply h46
            rw [List.getElem_append_right (by omega), List.getElem_cons, dif_neg (by omega)]
            exact e) hc hw hall.2
          rw [List.all_cons, hall.1, this.1, List.length_cons, List.length_cons, this.2]
          exact ⟨rfl, rfl⟩
theorem name_set {l : List UInt8} {i : Nat} {c : UInt8} (h : nameB l = true) (hi : i < l.length) (h46 : l[i] ≠ 46) (hc : wordB c.toNat = true) : nameB (l.set i c) = true := by
  have hc46 : c ≠ 46 := by rintro rfl; revert hc; decide
  unfold nameB nameN at h ⊢
  rw [Bool.and_eq_true, Bool.and_eq_true] at h ⊢
  obtain ⟨h1, h2, h3⟩ := h
  obtain ⟨g1, g2⟩ := cuts_set l i c hi h46 hc46 hc h3
  rw [List.length_set, g2]
  exact ⟨h1, h2, g1⟩

set_option maxRecDepth 100000 in
set_option maxHeartbeats 8000000 in
theorem bytes_walk11 (s : ByteArray) (x : Int) (n : Nat) (hn : n < 256) (W : World) : Calls Try.prog 11 #[.string s, .int .i64 x, .int .u8 (n : Int)] W fun e w' => e = .returned (.bool true) ∧ Below W.heap.size W w' := by
  have A0 := Lib.hid live11
  by_cases hz : s.size ≤ 300
  rotate_left 1
  · have d1 : decide ((300 : Int) < (s.size : Int)) = true := decide_eq_true (by omega)
    clear hz
    have B := Lib.hid (Below.refl W.heap.size W)
    go_enter Try.func11, Try.ntmps11
    go_wp2_with fail
    refine (A0.out _).mono ?_; rintro e w_ ⟨rfl, b⟩; replace B := Lib.hid (bon B.out b); clear b
    go_wp2_with fail
    go_ret
    exact ⟨rfl, B.out⟩
  have d1 : decide ((300 : Int) < (s.size : Int)) = false := decide_eq_false (by omega)
  cases hnm : nameB (bl s)
  · have A2 := Lib.hid (Check_no s hnm)
    clear hnm hz
    have B := Lib.hid (Below.refl W.heap.size W)
    go_enter Try.func11, Try.ntmps11
    repeat (go_wp2_with fail; first
      | (with_reducible refine (A0.out _).mono ?_; rintro e w_ ⟨rfl, b⟩; replace B := Lib.hid (bon B.out b); clear b)
      | (with_reducible refine (A2.out _).mono ?_; rintro e w_ ⟨rfl, b⟩; replace B := Lib.hid (bon B.out b); clear b))
    go_wp2_with fail
    go_ret
    exact ⟨rfl, B.out⟩
  have A2 := Lib.hid (Check_yes s hnm)
  have hs1 : 1 ≤ s.size := by have := (name_len hnm).1; rwa [bl_len] at this
  have d2 : ((s.size : Int) == 0) = false := by rw [beq_eq_false_iff_ne]; omega
  obtain ⟨m, hm, hm2⟩ := and_low x
  have HN := Lib.hid hnm
  have hrem : (m : Int).tmod (s.size : Int) = ((m % s.size : Nat) : Int) := by rw [Int.ofNat_tmod]
  have hlt : m % s.size < s.size := Nat.mod_lt _ (by omega)
  obtain ⟨i, hi⟩ : ∃ i, m % s.size = i := ⟨_, rfl⟩
  rw [hi] at hrem hlt
  have hcv := fun w : World => run_bytes_of_string (P := Try.prog) w 9 32 5 s Try.underlying9 Try.underlying32 Try.underlying5
  have HCV := Lib.hid hcv
  clear hnm hi hcv hs1
  have B := Lib.hid (Below.refl W.heap.size W)
  go_enter Try.func11, Try.ntmps11
  repeat (go_wp2_with fail; first
    | (with_reducible refine (A0.out _).mono ?_; rintro e w_ ⟨rfl, b⟩; replace B := Lib.hid (bon B.out b); clear b)
    | (with_reducible refine (A2.out _).mono ?_; rintro e w_ ⟨rfl, b⟩; replace B := Lib.hid (bon B.out b); clear b))
  obtain ⟨cap, hcap⟩ : ∃ cap, grownCap w_ s.size 0 5 = cap := ⟨_, rfl⟩
  obtain ⟨C, hC⟩ : ∃ C, bytesRow s cap = C := ⟨_, rfl⟩
  have cv := HCV.out w_
  rw [hcap, hC] at cv
  have hC1 : ∀ j, (hj : j < s.size) → C[j]? = some (.int .u8 ((s[j]'hj).toNat : Int)) := fun j hj => by
    rw [← hC]
    unfold bytesRow
    rw [Array.getElem?_append_left (by simpa using hj)]
    simp only [Array.getElem?_map]
    rw [Array.getElem?_eq_getElem (by exact hj)]
    rfl
  have hC2 : s.size ≤ C.size := by
    by_cases h : s.size ≤ C.size
    · exact h
    · have := hC1 C.size (by omega)
      rw [Array.getElem?_eq_none (Nat.le_refl _)] at this
      cases this
  have HC := Lib.hid (And.intro hC1 hC2)
  clear hC1 hC2 hC hcap
  go_upto_region 7 with fail
  have hB2 : Below W.heap.size W (w_.alloc (.cells C 5 (C.size, C.size + 1))).drew := (B.out.alloc B.out.size _).drew
  have hc2 : ∀ j, (hj : j < s.size) → (w_.alloc (.cells C 5 (C.size, C.size + 1))).drew.cell? ⟨w_.heap.size, j, none⟩ = some (.int .u8 ((s[j]'hj).toNat : Int)) := fun j hj => (World.cell?_alloc_mark w_ C 5 (C.size, C.size + 1) j).trans (HC.out.1 j hj)
  have hf2 : ∀ j, j < s.size → (w_.alloc (.cells C 5 (C.size, C.size + 1))).drew.frozen? ⟨w_.heap.size, j, none⟩ = false := fun j hj => by
    have : (w_.alloc (.cells C 5 (C.size, C.size + 1))).drew.heap[w_.heap.size]? = some (.cells C 5 (C.size, C.size + 1)) := by
      show (w_.heap.push (.cells C 5 (C.size, C.size + 1)))[w_.heap.size]? = _
      simp
    unfold World.frozen?
    rw [this]
    have := HC.out.2
    simp
    omega
  have hz2 : w_.heap.size < (w_.alloc (.cells C 5 (C.size, C.size + 1))).drew.heap.size := by simp [World.drew]
  have hgz : W.heap.size ≤ w_.heap.size := B.out.size
  clear A0 A2 cv
  refine wp_named (fun W2 => Below W.heap.size W W2 ∧ (∀ j, (hj : j < s.size) → W2.cell? ⟨w_.heap.size, j, none⟩ = some (.int .u8 ((s[j]'hj).toNat : Int))) ∧ (∀ j, j < s.size → W2.frozen? ⟨w_.heap.size, j, none⟩ = false) ∧ w_.heap.size < W2.heap.size) ⟨hB2, hc2, hf2, hz2⟩ ?_
  clear hB2 hc2 hf2 hz2
  rintro W2 ⟨hB2, hc2, hf2, hz2⟩
  generalize w_.heap.size = g at hgz hc2 hf2 hz2 ⊢
  have ci := hc2 i hlt
  have fi := hf2 i hlt
  have HB := Lib.hid hB2
  have CVT := Lib.hid (show ∀ w5, Below (W2.setCell ⟨g, i, none⟩ (.int .u8 (n : Int))).heap.size (W2.setCell ⟨g, i, none⟩ (.int .u8 (n : Int))) w5 → (convert 32 9 (.slice (some ⟨g, 0, none⟩) s.size cap)).run Try.prog w5 = .ok (.string ⟨((bl s).set i (UInt8.ofNat n)).toArray⟩) w5 from fun w5 hb5 => by
    have := run_convert_bytes_back (P := Try.prog) w5 32 9 5 ⟨g, 0, none⟩ cap ((bl s).set i (UInt8.ofNat n)) Try.underlying32 Try.underlying5 Try.underlying9 (fun j hj => by
      have hj' : j < s.size := by rw [List.length_set, bl_len] at hj; exact hj
      rw [add_zero_off, List.getElem_set, hb5.cell (p := ⟨g, j, none⟩) (by simp [World.setCell]; exact hz2)]
      by_cases e : i = j
      · subst e
        rw [if_pos rfl, World.cell?_setCell_same' W2 ⟨g, i, none⟩ _ (by rw [ci]; rfl)]
        simp
        omega
      · rw [if_neg e, World.cell?_setCell_other W2 (a := ⟨g, i, none⟩) (b := ⟨g, j, none⟩) _ (fun e2 => by cases e2; exact e rfl), hc2 j hj', bl_get s j hj'])
    rwa [List.length_set, bl_len] at this)
  have cvt := CVT.out _ (Below.refl _ _)
  have hT : bl ⟨((bl s).set i (UInt8.ofNat n)).toArray⟩ = (bl s).set i (UInt8.ofNat n) := bl_mk _
  have hU : (UInt8.ofNat n).toNat = n := by simp; omega
  have hil : i < (bl s).length := by rw [bl_len]; exact hlt
  have hsi : (bl s)[i] = s[i]'hlt := bl_get s i hlt hil
  have HYES := Lib.hid (fun (h1 : wordB n = true) (h2 : s[i]'hlt ≠ 46) => show nameB (bl ⟨((bl s).set i (UInt8.ofNat n)).toArray⟩) = true by
    rw [hT]; exact name_set HN.out hil (by rw [hsi]; exact h2) (by rw [hU]; exact h1))
  have HNO := Lib.hid (fun (h1 : wordB n = false) (h2 : n ≠ 45) (h3 : n ≠ 46) (h4 : n ≠ 95) => show nameB (bl ⟨((bl s).set i (UInt8.ofNat n)).toArray⟩) = false by
    rw [hT]
    refine name_bad hil (by rw [hU]; exact h1) ?_ ?_ ?_
    · intro e; rw [e] at hU; exact h2 hU.symm
    · intro e; rw [e] at hU; exact h3 hU.symm
    · intro e; rw [e] at hU; exact h4 hU.symm)
  have hB3 := Lib.hid (HB.out.setCell (show W.heap.size ≤ (⟨g, i, none⟩ : Addr).block from hgz) (.int .u8 (n : Int)))
  clear hT hU hil hsi hc2 hf2 hB2 hz2 hgz
  generalize (⟨((bl s).set i (UInt8.ofNat n)).toArray⟩ : ByteArray) = T at cvt CVT HYES HNO
  have e46 : ((((s[i]'hlt).toNat : Int) != 46) = true ∧ s[i]'hlt ≠ 46) ∨ (((s[i]'hlt).toNat : Int) != 46) = false := by
    by_cases h : (s[i]'hlt).toNat = 46
    · right; rw [h]; rfl
    · left; exact ⟨by simp; omega, fun e => h (by rw [e]; rfl)⟩
  have hcls : (97 ≤ n ∧ n ≤ 122) ∨ (48 ≤ n ∧ n ≤ 57) ∨ n = 45 ∨ n = 46 ∨ n = 95 ∨ (122 < n) ∨ (57 < n ∧ n < 97 ∧ n ≠ 95) ∨ (n < 48 ∧ n ≠ 45 ∧ n ≠ 46) := by omega
  rcases hcls with h | h | rfl | rfl | rfl | h | h | h
  · have hw : wordB n = true := by unfold wordB; rw [decide_eq_true h]; rfl
    have d3 : decide ((97 : Int) ≤ (n : Int)) = true := decide_eq_true (by omega)
    have d4 : decide ((n : Int) ≤ 122) = true := decide_eq_true (by omega)
    rcases e46 with ⟨e46, hne⟩ | e46
    · have A5 := Lib.hid (Check_yes T (HYES.out hw hne))
      clear hw h hn hne HNO HYES
      go_wp2_with fail
      refine (A5.out _).mono ?_; rintro e w5 ⟨rfl, b⟩
      go_wp2_with fail
      go_ret
      exact ⟨rfl, bon hB3.out b⟩
    · clear hw h hn HNO HYES
      go_wp2_with fail
      go_ret
      exact ⟨rfl, hB3.out⟩
  · have hw : wordB n = true := by unfold wordB; rw [decide_eq_true h]; simp
    have d3 : decide ((97 : Int) ≤ (n : Int)) = false := decide_eq_false (by omega)
    have d4 : decide ((48 : Int) ≤ (n : Int)) = true := decide_eq_true (by omega)
    have d5 : decide ((n : Int) ≤ 57) = true := decide_eq_true (by omega)
    rcases e46 with ⟨e46, hne⟩ | e46
    · have A5 := Lib.hid (Check_yes T (HYES.out hw hne))
      clear hw h hn hne HNO HYES
      go_wp2_with fail
      refine (A5.out _).mono ?_; rintro e w5 ⟨rfl, b⟩
      go_wp2_with fail
      go_ret
      exact ⟨rfl, bon hB3.out b⟩
    · clear hw h hn HNO HYES
      go_wp2_with fail
      go_ret
      exact ⟨rfl, hB3.out⟩
  · clear HNO HYES hn
    go_wp2_with fail
    go_ret
    exact ⟨rfl, hB3.out⟩
  · clear HNO HYES hn
    go_wp2_with fail
    go_ret
    exact ⟨rfl, hB3.out⟩
  · clear HNO HYES hn
    go_wp2_with fail
    go_ret
    exact ⟨rfl, hB3.out⟩
  all_goals (
    have hw : wordB n = false := by
      unfold wordB
      rw [decide_eq_false (by omega), decide_eq_false (by omega)]; rfl
    have hf := HNO.out hw (by omega) (by omega) (by omega)
    have A5 := Lib.hid (Check_no T hf)
    have A6 := Lib.hid (Up_is T ⟨#[]⟩ (by unfold upB; rw [hf]; rfl))
    have e1 : ((n : Int) != 45) = true := by simp; omega
    have e2 : ((n : Int) != 46) = true := by simp; omega
    have e3 : ((n : Int) != 95) = true := by simp; omega
    clear hf hw HNO HYES hn)
  · have d3 : decide ((97 : Int) ≤ (n : Int)) = true := decide_eq_true (by omega)
    have d4 : decide ((n : Int) ≤ 122) = false := decide_eq_false (by omega)
    have d5 : decide ((48 : Int) ≤ (n : Int)) = true := decide_eq_true (by omega)
    have d6 : decide ((n : Int) ≤ 57) = false := decide_eq_false (by omega)
    clear h e46
    go_wp2_with fail
    refine (A5.out _).mono ?_; rintro e w5 ⟨rfl, b⟩; replace hB3 := Lib.hid (bon hB3.out b)
    have cv5 := CVT.out w5 b
    clear b
    go_wp2_with fail
    refine (A6.out _).mono ?_; rintro e w6 ⟨rfl, b⟩; replace hB3 := Lib.hid (bon hB3.out b); clear b
    go_wp2_with fail
    go_ret
    exact ⟨rfl, hB3.out⟩
  · have d3 : decide ((97 : Int) ≤ (n : Int)) = false := decide_eq_false (by omega)
    have d5 : decide ((48 : Int) ≤ (n : Int)) = true := decide_eq_true (by omega)
    have d6 : decide ((n : Int) ≤ 57) = false := decide_eq_false (by omega)
    clear h e46
    go_wp2_with fail
    refine (A5.out _).mono ?_; rintro e w5 ⟨rfl, b⟩; replace hB3 := Lib.hid (bon hB3.out b)
    have cv5 := CVT.out w5 b
    clear b
    go_wp2_with fail
    refine (A6.out _).mono ?_; rintro e w6 ⟨rfl, b⟩; replace hB3 := Lib.hid (bon hB3.out b); clear b
    go_wp2_with fail
    go_ret
    exact ⟨rfl, hB3.out⟩
  · have d3 : decide ((97 : Int) ≤ (n : Int)) = false := decide_eq_false (by omega)
    have d5 : decide ((48 : Int) ≤ (n : Int)) = false := decide_eq_false (by omega)
    clear h e46
    go_wp2_with fail
    refine (A5.out _).mono ?_; rintro e w5 ⟨rfl, b⟩; replace hB3 := Lib.hid (bon hB3.out b)
    have cv5 := CVT.out w5 b
    clear b
    go_wp2_with fail
    refine (A6.out _).mono ?_; rintro e w6 ⟨rfl, b⟩; replace hB3 := Lib.hid (bon hB3.out b); clear b
    go_wp2_with fail
    go_ret
    exact ⟨rfl, hB3.out⟩
theorem bytes_all11 (s : ByteArray) (x n : Int) (hn : (Lit.int .u8 n).wf = true) (W : World) : Calls Try.prog 11 #[.string s, .int .i64 x, .int .u8 n] W fun e w' => e = .returned (.bool true) ∧ Below W.heap.size W w' := by
  have h : 0 ≤ n ∧ n ≤ 255 := by simpa [Lit.wf, IntKind.min, IntKind.max, IntKind.signed, IntKind.bits] using hn
  obtain ⟨m, rfl⟩ : ∃ m : Nat, n = (m : Int) := ⟨n.toNat, by omega⟩
  exact bytes_walk11 s x m (by omega) W
end Go.Proofs.Ytcmkfomfmjgmpaa
