/- Contracts of names: whether a text is a name; what is below. -/
import Derived.Test.YtcmkfomfmjgmpaaNamesB
import Derived.Test.YtcmkfomfmjgmpaaMarks
namespace Go.Proofs.Ytcmkfomfmjgmpaa
open Go.ChangeShapes Go.WideShapes Go.ChangeAt Go.RowKit Go.Shelf Gs
set_option linter.unusedVariables false
attribute [local go_sem] Oper.semAt_some

theorem bon {w0 w w' : World} (h : Below w0.heap.size w0 w) (k : Below w.heap.size w w') : Below w0.heap.size w0 w' := h.trans (k.mono h.size)
theorem lblS_size (s : ByteArray) (k : Nat) : (lblS s k).size ≤ s.size := by
  rw [← bl_len, ← bl_len]
  unfold lblS
  rw [bl_mk]
  cases h : (cuts (bl s))[(cuts (bl s)).length - 1 - k]? with
  | none => simp
  | some c =>
    obtain ⟨hl, e⟩ := List.getElem?_eq_some_iff.1 h
    obtain ⟨D, c', E, eC, eE, eD, ec, ed, et, et'⟩ := drop_last_split (cuts (bl s)) (min k ((cuts (bl s)).length - 1)) (by omega)
    have hk : (cuts (bl s)).length - 1 - min k ((cuts (bl s)).length - 1) = (cuts (bl s)).length - 1 - k := by omega
    rw [hk, h] at ec
    cases ec
    simp only [Option.getD_some]
    have hj : bl s = joinD (D ++ c :: E) := by rw [← eC, joinD_cuts]
    have h1 : c.length ≤ (joinD (c :: E)).length := by cases E <;> simp [joinD]
    rw [hj]
    by_cases hD : D = []
    · subst hD; exact h1
    · rw [joinD_app hD (by simp), List.length_append, List.length_cons]; omega

theorem lblS_at (s : ByteArray) (k : Nat) : bl (lblS s k) = (cuts (bl s))[(cuts (bl s)).length - 1 - k]?.getD [] := by unfold lblS; rw [bl_mk]
theorem all_lbl (s : ByteArray) (h : ∀ k ∈ List.range (cuts (bl s)).length, labB (bl (lblS s k)) = true) : (cuts (bl s)).all labB = true := by
  rw [List.all_eq_true]
  intro c hc
  obtain ⟨i, hi, rfl⟩ := List.getElem_of_mem hc
  have := h ((cuts (bl s)).length - 1 - i) (List.mem_range.2 (by omega))
  rw [lblS_at, show (cuts (bl s)).length - 1 - ((cuts (bl s)).length - 1 - i) = i by omega, List.getElem?_eq_getElem hi] at this
  exact this
theorem lbl_in (s : ByteArray) (k : Nat) (hk : k < (cuts (bl s)).length) : bl (lblS s k) ∈ cuts (bl s) := by
  rw [lblS_at, List.getElem?_eq_getElem (by omega)]
  exact List.getElem_mem _

set_option maxRecDepth 100000 in
set_option maxHeartbeats 4000000 in
theorem isName_go (s : ByteArray) (L T : Nat) (hT : T ≤ 1000000) (hL : L ≤ 1000000) (hsT : s.size ≤ T) (w : World) :
    Calls Try.prog 31 #[.string s, .int .i64 (L : Int), .int .i64 (T : Int)] w fun e w' => e = .returned (.bool (decide ((cuts (bl s)).length ≤ L) && (cuts (bl s)).all labB)) ∧ Below w.heap.size w w' := by
  have d1 : decide ((T : Int) < (s.size : Int)) = false := decide_eq_false (by omega)
  refine (callsIn_wide (n := 5)).1 ?_
  refine callsIn_of_wp_marks Try.func31 rfl trivial ?_ rfl
  simp only [Try.ntmps31, List.size_toArray, List.length_cons, List.length_nil, Nat.reduceAdd, Nat.reduceSub, Array.replicate_succ, Array.replicate_zero, List.push_toArray, List.append_toArray, List.nil_append, List.cons_append]
  gi_wp2_with fail
  refine ⟨trivial, ?_⟩
  refine (fromsF_in _ _ _).mono ?_
  rintro e W2 ⟨rfl, hW2⟩
  have hX : Blk W2 w.heap.size 3 #[.int .i64 (L : Int)] := by rw [hW2]; exact (((Blk.new_at _ _ _ rfl).alloc _).alloc _).alloc _
  have hR : Blk W2 (w.heap.size + 1) 4 #[.bool false] := by rw [hW2]; exact ((Blk.new_at _ _ _ (by simp)).alloc _).alloc _
  have hM : Blk W2 (w.heap.size + 2) 3 #[.int .i64 0] := by rw [hW2]; exact (Blk.new_at _ _ _ (by simp)).alloc _
  have hS : Blk W2 (w.heap.size + 3) 9 #[.string s] := by rw [hW2]; exact Blk.new_at _ _ _ (by simp)
  have hB : Below w.heap.size w W2 := by
    rw [hW2]
    exact ((((Below.refl _ _).alloc (Nat.le_refl _) _).alloc (by simp) _).alloc (by simp; omega) _).alloc (by simp; omega) _
  have HX := Lib.hid hX
  have HR := Lib.hid hR
  have HM := Lib.hid hM
  have HS := Lib.hid hS
  have HB := Lib.hid hB
  have hsz : s.size ≤ 1000000 := by omega
  obtain ⟨m, hm⟩ : ∃ m, (cuts (bl s)).length = m := ⟨_, rfl⟩
  have HL := Lib.hid hm
  clear hX hR hM hS hB d1 hm
  gi_wp2_with fail
  rw [← hW2]
  clear hW2
  refine wpIn_rangeFunc_ownG rfl (by omega) (gf := 44) (lb := #[.pointer (some ⟨w.heap.size + 3, 0, none⟩)]) rfl trivial (enters_of Try.func44 (by kernel_rfl) rfl)
    (froms_stops _ (by omega) (w.heap.size + 3) 0 s (by omega) W2 (Nat.zero_le _) HS.out) KB.trans (KB.put (Nat.zero_le _) HS.out.lt) (Below.refl _ _) (fun _ => rfl)
    (fun pre W' => (Blk W' w.heap.size 3 #[.int .i64 (L : Int)] ∧ Blk W' (w.heap.size + 1) 4 #[.bool false] ∧ Blk W' (w.heap.size + 2) 3 #[.int .i64 (pre.length : Int)] ∧ (((∀ k ∈ pre, labB (bl (lblS s k)) = true) ∧ pre.length ≤ L) ∧ w.heap.size + 3 < W'.heap.size)) ∧ Below w.heap.size w W')
    (fun cc pre W' => (Blk W' (w.heap.size + 1) 4 #[.bool false] ∧ (cc = .ret ∧ (L < pre.length ∨ ∃ k ∈ pre, labB (bl (lblS s k)) = false))) ∧ Below w.heap.size w W')
    (OwnFrom.and (OwnFrom.and (Own.from (blk_own _ _ (fun _ => #[.int .i64 (L : Int)])) _) (OwnFrom.and (Own.from (blk_own _ _ (fun _ => #[.bool false])) _) (OwnFrom.and (Own.from (blk_own _ _ (fun pre : List Nat => #[.int .i64 (pre.length : Int)])) _) (fun _ _ _ _ hs hg _ => ⟨hs.1, Nat.lt_of_lt_of_le hs.2 hg.size⟩)))) (ownFrom_below (Nat.le_refl _) HB.out.size))
    (fun cc => OwnFrom.and (OwnFrom.and (Own.from (blk_own _ _ (fun _ => #[.bool false])) _) (fun _ _ _ _ hs _ _ => hs)) (ownFrom_below (Nat.le_refl _) HB.out.size))
    ⟨⟨HX.out, HR.out, HM.out, ⟨fun k h => absurd h (by simp), Nat.zero_le _⟩, HS.out.lt⟩, HB.out⟩
    (fun x => { tmps := #[.string s, .int .i64 (L : Int), .int .i64 (T : Int), undef, .pointer (some ⟨w.heap.size, 0, none⟩), undef, .pointer (some ⟨w.heap.size + 1, 0, none⟩), .pointer (some ⟨w.heap.size + 1 + 1, 0, none⟩), .string (lblS s x), .string s, .int .i64 (s.size : Int), .int .i64 (T : Int), .bool false, .string s, .func (.func 44) #[] #[.pointer (some ⟨w.heap.size + 1 + 1 + 1, 0, none⟩)], .string (lblS s x), .string (topS s x), undef, undef, undef, undef, undef, undef, undef, undef, undef, undef], defers := [] }) ?assign ?body ?done ?stop
  case assign =>
    intro lr x W3 K hK
    gi_wp2
    exact hK
  case stop =>
    rintro D cc pre W4 hD ⟨k, hk, rfl⟩ ⟨⟨hR, rfl, hx⟩, hB4⟩ hK
    have HE := Lib.hid (show (decide ((cuts (bl s)).length ≤ L) && (cuts (bl s)).all labB) = false from by
      rcases hx with hx | ⟨j, hj, hb⟩
      · rw [List.length_range] at hx
        rw [decide_eq_false (by omega)]; rfl
      · have : (cuts (bl s)).all labB = false := by
          rw [List.all_eq_false]
          exact ⟨_, lbl_in s j (by have := List.mem_range.1 hj; omega), by rw [hb]; simp⟩
        rw [this, Bool.and_false])
    have HK := Lib.hid hK
    have HR := Lib.hid hR
    have HB4 := Lib.hid hB4
    clear hR hK hB4 hx
    gi_wp2_with fail
    refine leaves_marks [D] _ (by simp) (fun D' h => by rw [List.mem_singleton] at h; subst h; exact HK.out) (fun W' hs => ?_)
    have d0 := (hs.blk (fun D' h => by rw [List.mem_singleton] at h; subst h; exact HK.out) HR.out).cell 0
    rw [HE.out]
    refine ⟨.bool false, by simp [results, Try.results31, go_sem, d0], rfl, ?_⟩
    exact hs.below HB4.out (fun D' h => by rw [List.mem_singleton] at h; subst h; exact Nat.le_trans HB.out.size hD)
  case done =>
    rintro D ys W4 hD rfl ⟨⟨hX, hR, hM, ⟨hx, hxl⟩, _⟩, hB4⟩ hK
    have HE := Lib.hid (show (decide ((cuts (bl s)).length ≤ L) && (cuts (bl s)).all labB) = true from by
      rw [List.length_range] at hxl
      rw [decide_eq_true hxl, all_lbl s hx]; rfl)
    have HK := Lib.hid hK
    have HR := Lib.hid hR
    have HB4 := Lib.hid hB4
    have r0 := hR.cell 0
    have f0 := hR.free 0
    clear hX hR hM hK hB4 hx hxl
    gi_wp2_with fail
    have hd : ∀ D' ∈ [D], (W4.setCell ⟨w.heap.size + 1, 0, none⟩ (.bool true)).heap[D']? = some (.deferred (some [])) := fun D' h => by
      rw [List.mem_singleton] at h; subst h
      exact (Below.heap_setCell W4 ⟨w.heap.size + 1, 0, none⟩ _ D' (fun e => by
        have h1 := HK.out
        rw [e] at h1
        have h2 := HR.out
        unfold Blk at h2
        rw [h2] at h1
        cases h1)).trans HK.out
    refine leaves_marks [D] _ (by simp) hd (fun W' hs => ?_)
    have d0 := (hs.blk hd HR.out.set1).cell 0
    rw [HE.out]
    refine ⟨.bool true, by simp [results, Try.results31, go_sem, d0], rfl, ?_⟩
    exact hs.below (HB4.out.setCell (by simp) _) (fun D' h => by rw [List.mem_singleton] at h; subst h; exact Nat.le_trans HB.out.size hD)
  case body =>
    rintro lr pre x W3 ⟨⟨hX, hR, hM, ⟨hx, hxl⟩, hz⟩, hB3⟩ hlt3
    have hls := lblS_size s x
    have ISL := Lib.hid (isLabel_any (lblS s x) (by omega))
    obtain ⟨p, hp⟩ : ∃ p, pre.length = p := ⟨_, rfl⟩
    have HP := Lib.hid hp
    have hpl : p ≤ L := by omega
    rw [hp] at hM hxl
    have hwp : IntKind.i64.wrap ((p : Int) + 1) = (p : Int) + 1 := IntWalk.i64_in _ (by omega)
    obtain ⟨x0, fx⟩ := hX.facts1
    obtain ⟨r0, f0⟩ := hR.facts1
    obtain ⟨m0, fm⟩ := hM.facts1
    have HQ := Lib.hid (And.intro hX (And.intro hR (And.intro hM (And.intro hx hB3))))
    clear hX hR hM hx hxl hB3 hls hp hlt3
    have K5 : KeepsOthers W3 (W3.setCell ⟨w.heap.size + 1 + 1, 0, none⟩ (.int .i64 ((p : Int) + 1))) := KeepsOthers.setCell _ _ _
    have J5 : Blk (W3.setCell ⟨w.heap.size + 1 + 1, 0, none⟩ (.int .i64 ((p : Int) + 1))) w.heap.size 3 #[.int .i64 (L : Int)] ∧ Blk (W3.setCell ⟨w.heap.size + 1 + 1, 0, none⟩ (.int .i64 ((p : Int) + 1))) (w.heap.size + 1) 4 #[.bool false] ∧ Blk (W3.setCell ⟨w.heap.size + 1 + 1, 0, none⟩ (.int .i64 ((p : Int) + 1))) (w.heap.size + 2) 3 #[.int .i64 ((p : Int) + 1)] ∧ Below w.heap.size w (W3.setCell ⟨w.heap.size + 1 + 1, 0, none⟩ (.int .i64 ((p : Int) + 1))) :=
      ⟨HQ.out.1.other (by simp; omega) _, HQ.out.2.1.other (by simp) _, HQ.out.2.2.1.set1, HQ.out.2.2.2.2.setCell (by simp; omega) _⟩
    have k5 : KB 0 (w.heap.size + 3) W3 (W3.setCell ⟨w.heap.size + 1 + 1, 0, none⟩ (.int .i64 ((p : Int) + 1))) := kb_set (KB.refl _ _ _) (Nat.zero_le _) (by simp) _
    have z5 : (W3.setCell ⟨w.heap.size + 1 + 1, 0, none⟩ (.int .i64 ((p : Int) + 1))).heap.size = W3.heap.size := by simp [World.setCell]
    by_cases hover : L < p + 1
    · have dL : decide ((L : Int) < (p : Int) + 1) = true := decide_eq_true (by omega)
      obtain ⟨r5, g5⟩ := J5.2.1.facts1
      have HJ5 := Lib.hid (And.intro J5 (And.intro K5 k5))
      clear J5 K5 k5 z5
      gi_wp2_with fail
      refine ⟨trivial, ?_⟩
      gi_wp2_with fail
      exact ⟨(HJ5.out.2.1.trans (KeepsOthers.setCell _ _ _)).from _, ⟨HJ5.out.1.2.1.set1, rfl, .inl (by rw [List.length_append, HP.out]; exact hover)⟩, HJ5.out.1.2.2.2.setCell (by simp) _⟩
    · have dL : decide ((L : Int) < (p : Int) + 1) = false := decide_eq_false (by omega)
      have HJ5 := Lib.hid (And.intro J5 (And.intro K5 (And.intro k5 z5)))
      clear J5 K5 k5 z5
      gi_wp2_with fail
      refine ⟨trivial, ?_⟩
      refine (CallsIn.inRound lr (callsIn_wide.2 (ISL.out _))).mono ?_
      rintro e w5 ⟨rfl, hd⟩
      have HD := Lib.hid hd
      have J6 := Lib.hid (And.intro (HJ5.out.1.1.below hd HJ5.out.1.1.lt) (And.intro (HJ5.out.1.2.1.below hd HJ5.out.1.2.1.lt) (And.intro (HJ5.out.1.2.2.1.below hd HJ5.out.1.2.2.1.lt) (HJ5.out.1.2.2.2.trans (hd.mono HJ5.out.1.2.2.2.size)))))
      have K6 := Lib.hid (HJ5.out.2.1.trans (keeps_below hd))
      have k6 := Lib.hid (HJ5.out.2.2.1.trans (kb_below hd (Nat.zero_le _) (by rw [HJ5.out.2.2.2]; exact hz)))
      obtain ⟨r5, g5⟩ := J6.out.2.1.facts1
      clear hd x0 fx r0 f0 m0 fm
      cases hlb : labB (bl (lblS s x))
      · have HLB := Lib.hid hlb
        gi_wp2_with fail
        exact ⟨(K6.out.trans (KeepsOthers.setCell _ _ _)).from _, ⟨J6.out.2.1.set1, rfl, .inr ⟨x, by simp, HLB.out⟩⟩, J6.out.2.2.2.setCell (by simp) _⟩
      · have HLB := Lib.hid hlb
        gi_wp2_with fail
        refine ⟨K6.out.from _, k6.out, ⟨J6.out.1, J6.out.2.1, ?_, ⟨?_, ?_⟩, Nat.lt_of_lt_of_le (by rw [HJ5.out.2.2.2]; exact hz) HD.out.size⟩, J6.out.2.2.2⟩
        · rw [List.length_append, HP.out]; exact J6.out.2.2.1
        · intro k hk
          rw [List.mem_append, List.mem_singleton] at hk
          rcases hk with hk | rfl
          · exact HQ.out.2.2.2.1 k hk
          · exact HLB.out
        · rw [List.length_append, HP.out]; simp; omega

theorem isName_any (s : ByteArray) (L T : Nat) (hT : T ≤ 1000000) (hL : L ≤ 1000000) (w : World) :
    Calls Try.prog 31 #[.string s, .int .i64 (L : Int), .int .i64 (T : Int)] w fun e w' => e = .returned (.bool (nameN L T (bl s))) ∧ Below w.heap.size w w' := by
  by_cases hs : s.size ≤ T
  · have e : nameN L T (bl s) = (decide ((cuts (bl s)).length ≤ L) && (cuts (bl s)).all labB) := by unfold nameN; rw [bl_len, decide_eq_true hs, Bool.true_and]
    rw [e]
    exact isName_go s L T hT hL hs w
  · have e : nameN L T (bl s) = false := by unfold nameN; rw [bl_len, decide_eq_false hs, Bool.false_and]
    have d1 : decide ((T : Int) < (s.size : Int)) = true := decide_eq_true (by omega)
    rw [e]
    clear e
    go_enter Try.func31, Try.ntmps31
    go_wp2_with fail
    have d0 := (Blk.new_at (w.alloc (.cells #[.int .i64 (L : Int)] 3)) 4 #[.bool false] (g := w.heap.size + 1) (by simp)).cell 0
    exact bodyPost_ret (v := .bool false) (by simp [results, Try.results31, go_sem, d0]) rfl ⟨rfl, ((Below.refl _ _).alloc (Nat.le_refl _) _).alloc (by simp) _⟩
theorem Check_any (s : ByteArray) (w : World) :
    Calls Try.prog 13 #[.string s] w fun e w' => e = .returned (.int .i64 (if nameB (bl s) = true then 0 else 110)) ∧ Below w.heap.size w w' := by
  have P := Lib.hid (isName_any s 8 64 (by omega) (by omega))
  unfold nameB
  cases h : nameN 8 64 (bl s)
  · rw [h] at P
    go_enter Try.func13, Try.ntmps13
    go_wp2_with fail
    refine (P.out _).mono ?_; rintro e w1 ⟨rfl, b⟩
    go_wp2_with fail
    go_ret
    exact ⟨rfl, b⟩
  · rw [h] at P
    go_enter Try.func13, Try.ntmps13
    go_wp2_with fail
    refine (P.out _).mono ?_; rintro e w1 ⟨rfl, b⟩
    go_wp2_with fail
    go_ret
    exact ⟨rfl, b⟩
theorem Check_yes (s : ByteArray) (h : nameB (bl s) = true) (w : World) : Calls Try.prog 13 #[.string s] w fun e w' => e = .returned (.int .i64 0) ∧ Below w.heap.size w w' := by
  have := Check_any s w
  rwa [if_pos h] at this
theorem Check_no (s : ByteArray) (h : nameB (bl s) = false) (w : World) : Calls Try.prog 13 #[.string s] w fun e w' => e = .returned (.int .i64 110) ∧ Below w.heap.size w w' := by
  have := Check_any s w
  rwa [if_neg (by rw [h]; simp)] at this
theorem Pattern_any (s : ByteArray) (w : World) :
    Calls Try.prog 15 #[.string s] w fun e w' => e = .returned (.int .i64 (if patB (bl s) = true then 0 else 110)) ∧ Below w.heap.size w w' := by
  cases hst : stB (bl s) with
  | none =>
    have hp : patB (bl s) = nameB (bl s) := by unfold patB; rw [hst]
    have P := Lib.hid (Check_any s)
    have Q := Lib.hid (starOf_no s hst)
    rw [hp]
    clear hst hp
    go_enter Try.func15, Try.ntmps15
    go_wp2_with fail
    refine (Q.out _).mono ?_; rintro e w1 ⟨rfl, rfl⟩
    go_wp2_with fail
    refine (P.out _).mono ?_; rintro e w1 ⟨rfl, b⟩
    go_wp2_with fail
    all_goals (go_ret; exact ⟨rfl, b⟩)
  | some o =>
    have hp : patB (bl s) = nameN 7 62 o := by unfold patB; rw [hst]
    have Q := Lib.hid (starOf_yes s o hst)
    have P := Lib.hid (fun t => isName_any t 7 62 (by omega) (by omega))
    cases hn : nameN 7 62 o
    · have hN : nameB (bl s) = false := by
        cases h : nameB (bl s)
        · rfl
        · rw [name_nostar h] at hst; cases hst
      have C := Lib.hid (Check_no s hN)
      rw [hp, hn]
      have HN := Lib.hid hn
      clear hst hp hn hN
      go_enter Try.func15, Try.ntmps15
      go_wp2_with fail
      refine (Q.out _).mono ?_; rintro e w1 ⟨⟨t, rfl, ht⟩, rfl⟩
      have PT := Lib.hid (P.out t)
      rw [ht, HN.out] at PT
      clear ht
      go_wp2_with fail
      refine (PT.out _).mono ?_; rintro e w1 ⟨rfl, b⟩
      have B := Lib.hid b
      clear b
      go_wp2_with fail
      refine (C.out _).mono ?_; rintro e w2 ⟨rfl, b⟩
      go_wp2_with fail
      go_ret
      exact ⟨rfl, bon B.out b⟩
    · rw [hp, hn]
      have HN := Lib.hid hn
      clear hst hp hn
      go_enter Try.func15, Try.ntmps15
      go_wp2_with fail
      refine (Q.out _).mono ?_; rintro e w1 ⟨⟨t, rfl, ht⟩, rfl⟩
      have PT := Lib.hid (P.out t)
      rw [ht, HN.out] at PT
      clear ht
      go_wp2_with fail
      refine (PT.out _).mono ?_; rintro e w1 ⟨rfl, b⟩
      have B := Lib.hid b
      clear b
      go_wp2_with fail
      go_ret
      exact ⟨rfl, B.out⟩
theorem Pattern_yes (s : ByteArray) (h : patB (bl s) = true) (w : World) : Calls Try.prog 15 #[.string s] w fun e w' => e = .returned (.int .i64 0) ∧ Below w.heap.size w w' := by
  have := Pattern_any s w
  rwa [if_pos h] at this
theorem Pattern_no (s : ByteArray) (h : patB (bl s) = false) (w : World) : Calls Try.prog 15 #[.string s] w fun e w' => e = .returned (.int .i64 110) ∧ Below w.heap.size w w' := by
  have := Pattern_any s w
  rwa [if_neg (by rw [h]; simp)] at this
end Go.Proofs.Ytcmkfomfmjgmpaa
