/- Contracts of names: what is below; Under, Match, Within, Meets. -/
import Derived.Test.YtcmkfomfmjgmpaaNamesC
namespace Go.Proofs.Ytcmkfomfmjgmpaa
open Go.ChangeShapes Go.WideShapes Go.ChangeAt Go.RowKit Go.Shelf Gs
set_option linter.unusedVariables false
attribute [local go_sem] Oper.semAt_some

theorem topS_at (s : ByteArray) (k : Nat) : bl (topS s k) = joinD ((cuts (bl s)).drop ((cuts (bl s)).length - 1 - k)) := by unfold topS; rw [bl_mk]
theorem below_self (s : ByteArray) : belowB (bl s) (bl s) = false := decide_eq_false (fun h => Nat.lt_irrefl _ (sufs_len h))
/-- What begins with a label of a text is below it, unless it is the text. -/
theorem below_top (s : ByteArray) (k : Nat) : belowB (bl s) (bl (topS s k)) = !((topS s k).toList == s.toList) := by
  rw [beq_bl]
  by_cases hi : (cuts (bl s)).length - 1 - k = 0
  · have e : bl (topS s k) = bl s := by rw [topS_at, hi, List.drop_zero, joinD_cuts]
    rw [e, below_self, decide_eq_true rfl]; rfl
  · have hm : bl (topS s k) ∈ sufs (bl s) := by
      have := (sufs_joinD (cuts_ne (bl s)) (cuts_none (bl s)) (bl (topS s k))).2 ⟨_, by omega, by omega, topS_at s k⟩
      rwa [joinD_cuts] at this
    have hne : bl (topS s k) ≠ bl s := fun e => Nat.lt_irrefl _ (by have := sufs_len hm; rwa [e] at this)
    unfold belowB
    rw [decide_eq_true hm, decide_eq_false hne]; rfl
theorem below_none (s o : ByteArray) (h : ∀ k ∈ List.range (cuts (bl s)).length, bl (topS s k) ≠ bl o) : belowB (bl s) (bl o) = false := by
  refine decide_eq_false (fun hm => ?_)
  have := (sufs_joinD (cuts_ne (bl s)) (cuts_none (bl s)) (bl o)).1 (by rw [joinD_cuts]; exact hm)
  obtain ⟨k, h1, h2, e⟩ := this
  refine h ((cuts (bl s)).length - 1 - k) (List.mem_range.2 (by omega)) ?_
  rw [topS_at, show (cuts (bl s)).length - 1 - ((cuts (bl s)).length - 1 - k) = k by omega, e]

set_option maxRecDepth 100000 in
set_option maxHeartbeats 4000000 in
theorem below_any (s o : ByteArray) (hs : s.size ≤ 9223372036854775807) (w : World) :
    Calls Try.prog 39 #[.string s, .string o] w fun e w' => e = .returned (.bool (belowB (bl s) (bl o))) ∧ Below w.heap.size w w' := by
  refine (callsIn_wide (n := 5)).1 ?_
  refine callsIn_of_wp_marks Try.func39 rfl trivial ?_ rfl
  simp only [Try.ntmps39, List.size_toArray, List.length_cons, List.length_nil, Nat.reduceAdd, Nat.reduceSub, Array.replicate_succ, Array.replicate_zero, List.push_toArray, List.append_toArray, List.nil_append, List.cons_append]
  gi_wp2_with fail
  refine ⟨trivial, ?_⟩
  refine (fromsF_in _ _ _).mono ?_
  rintro e W2 ⟨rfl, hW2⟩
  have hX : Blk W2 w.heap.size 9 #[.string s] := by rw [hW2]; exact (((Blk.new_at _ _ _ rfl).alloc _).alloc _).alloc _
  have hO : Blk W2 (w.heap.size + 1) 9 #[.string o] := by rw [hW2]; exact ((Blk.new_at _ _ _ (by simp)).alloc _).alloc _
  have hR : Blk W2 (w.heap.size + 2) 4 #[.bool false] := by rw [hW2]; exact (Blk.new_at _ _ _ (by simp)).alloc _
  have hS : Blk W2 (w.heap.size + 3) 9 #[.string s] := by rw [hW2]; exact Blk.new_at _ _ _ (by simp)
  have hB : Below w.heap.size w W2 := by
    rw [hW2]
    exact ((((Below.refl _ _).alloc (Nat.le_refl _) _).alloc (by simp) _).alloc (by simp; omega) _).alloc (by simp; omega) _
  have HX := Lib.hid hX
  have HR := Lib.hid hR
  have HO := Lib.hid hO
  have HS := Lib.hid hS
  have HB := Lib.hid hB
  clear hX hR hO hS hB
  gi_wp2_with fail
  rw [← hW2]
  clear hW2
  refine wpIn_rangeFunc_ownG rfl (by omega) (gf := 44) (lb := #[.pointer (some ⟨w.heap.size + 3, 0, none⟩)]) rfl trivial (enters_of Try.func44 (by kernel_rfl) rfl)
    (froms_stops _ (by omega) (w.heap.size + 3) 0 s hs W2 (Nat.zero_le _) HS.out) KB.trans (KB.put (Nat.zero_le _) HS.out.lt) (Below.refl _ _) (fun _ => rfl)
    (fun pre W' => (Blk W' w.heap.size 9 #[.string s] ∧ Blk W' (w.heap.size + 1) 9 #[.string o] ∧ Blk W' (w.heap.size + 2) 4 #[.bool false] ∧ (∀ k ∈ pre, bl (topS s k) ≠ bl o)) ∧ Below w.heap.size w W')
    (fun cc pre W' => (Blk W' (w.heap.size + 2) 4 #[.bool (belowB (bl s) (bl o))] ∧ cc = .ret) ∧ Below w.heap.size w W')
    (OwnFrom.and (OwnFrom.and (Own.from (blk_own _ _ (fun _ => #[.string s])) _) (OwnFrom.and (Own.from (blk_own _ _ (fun _ => #[.string o])) _) (OwnFrom.and (Own.from (blk_own _ _ (fun _ => #[.bool false])) _) (fun _ _ _ _ hs hg _ => hs)))) (ownFrom_below (Nat.le_refl _) HB.out.size))
    (fun cc => OwnFrom.and (OwnFrom.and (Own.from (blk_own _ _ (fun _ => #[.bool (belowB (bl s) (bl o))])) _) (fun _ _ _ _ hs _ _ => hs)) (ownFrom_below (Nat.le_refl _) HB.out.size))
    ⟨⟨HX.out, HO.out, HR.out, fun k h => absurd h (by simp)⟩, HB.out⟩
    (fun x => { tmps := #[.string s, .string o, .pointer (some ⟨w.heap.size, 0, none⟩), .pointer (some ⟨w.heap.size + 1, 0, none⟩), .pointer (some ⟨w.heap.size + 1 + 1, 0, none⟩), undef, .string (topS s x), .string s, .func (.func 44) #[] #[.pointer (some ⟨w.heap.size + 1 + 1 + 1, 0, none⟩)], .string (lblS s x), .string (topS s x), undef, undef, undef, undef, undef, undef], defers := [] }) ?assign ?body ?done ?stop
  case assign =>
    intro lr x W3 K hK
    gi_wp2
    exact hK
  case stop =>
    rintro D cc pre W4 hD ⟨k, hk, rfl⟩ ⟨⟨hR, rfl⟩, hB4⟩ hK
    have HK := Lib.hid hK
    have HR := Lib.hid hR
    have HB4 := Lib.hid hB4
    clear hR hK hB4
    gi_wp2_with fail
    refine leaves_marks [D] _ (by simp) (fun D' h => by rw [List.mem_singleton] at h; subst h; exact HK.out) (fun W' hs => ?_)
    have d0 := (hs.blk (fun D' h => by rw [List.mem_singleton] at h; subst h; exact HK.out) HR.out).cell 0
    refine ⟨.bool (belowB (bl s) (bl o)), by simp [results, Try.results39, go_sem, d0], rfl, ?_⟩
    exact hs.below HB4.out (fun D' h => by rw [List.mem_singleton] at h; subst h; exact Nat.le_trans HB.out.size hD)
  case done =>
    rintro D ys W4 hD rfl ⟨⟨hX, hO, hR, hx⟩, hB4⟩ hK
    have HE := Lib.hid (below_none s o hx)
    have HK := Lib.hid hK
    have HR := Lib.hid hR
    have HB4 := Lib.hid hB4
    have r0 := hR.cell 0
    have f0 := hR.free 0
    clear hX hR hO hK hB4 hx
    gi_wp2_with fail
    have hd : ∀ D' ∈ [D], (W4.setCell ⟨w.heap.size + 1 + 1, 0, none⟩ (.bool false)).heap[D']? = some (.deferred (some [])) := fun D' h => by
      rw [List.mem_singleton] at h; subst h
      exact (Below.heap_setCell W4 ⟨w.heap.size + 1 + 1, 0, none⟩ _ D' (fun e => by
        have h1 := HK.out
        rw [e] at h1
        have h2 := HR.out
        unfold Blk at h2
        rw [h2] at h1
        cases h1)).trans HK.out
    refine leaves_marks [D] _ (by simp) hd (fun W' hs => ?_)
    have d0 := (hs.blk hd HR.out.set1).cell 0
    rw [HE.out]
    refine ⟨.bool false, by simp [results, Try.results39, go_sem, d0], rfl, ?_⟩
    exact hs.below (HB4.out.setCell (by simp; omega) _) (fun D' h => by rw [List.mem_singleton] at h; subst h; exact Nat.le_trans HB.out.size hD)
  case body =>
    rintro lr pre x W3 ⟨⟨hX, hO, hR, hx⟩, hB3⟩ hlt3
    obtain ⟨x0, fx⟩ := hX.facts1
    obtain ⟨o0, fo⟩ := hO.facts1
    obtain ⟨r0, fr⟩ := hR.facts1
    have HQ := Lib.hid (And.intro hX (And.intro hO (And.intro hR (And.intro hx hB3))))
    have HT := Lib.hid (below_top s x)
    clear hX hO hR hx hB3 hlt3
    by_cases heq : bl (topS s x) = bl o
    · have hq : ((topS s x).toList == o.toList) = true := by rw [beq_bl]; exact decide_eq_true heq
      have HE := Lib.hid (show belowB (bl s) (bl o) = !((topS s x).toList == s.toList) by rw [← heq]; exact HT.out)
      clear heq
      rw [HE.out]
      gi_wp2_with fail
      exact ⟨(KeepsOthers.setCell _ _ _).from _, ⟨HQ.out.2.2.1.set1, rfl⟩, HQ.out.2.2.2.2.setCell (by simp; omega) _⟩
    · have hq : ((topS s x).toList == o.toList) = false := by rw [beq_bl]; exact decide_eq_false heq
      have HE := Lib.hid heq
      clear heq
      gi_wp2_with fail
      refine ⟨(KeepsOthers.refl _).from _, KB.refl _ _ _, ⟨HQ.out.1, HQ.out.2.1, HQ.out.2.2.1, fun k hk => ?_⟩, HQ.out.2.2.2.2⟩
      rw [List.mem_append, List.mem_singleton] at hk
      rcases hk with hk | rfl
      · exact HQ.out.2.2.2.1 k hk
      · exact HE.out

theorem tl (s : ByteArray) : s.toList = bl s := Lib.toList_data s
theorem Under_any (s a : ByteArray) (hs : s.size ≤ 9223372036854775807) (w : World) :
    Calls Try.prog 23 #[.string s, .string a] w fun e w' => e = .returned (.bool (underB (bl s) (bl a))) ∧ Below w.heap.size w w' := by
  have PB := Lib.hid (below_any s a hs)
  cases hn : nameB (bl s)
  · have C := Lib.hid (Check_no s hn)
    have HE := Lib.hid (show underB (bl s) (bl a) = false by unfold underB; rw [hn]; rfl)
    clear hn
    rw [HE.out]
    go_enter Try.func23, Try.ntmps23
    go_wp2_with fail
    refine (C.out _).mono ?_; rintro e w1 ⟨rfl, b⟩
    go_wp2_with fail
    go_ret
    exact ⟨rfl, b⟩
  · have C := Lib.hid (Check_yes s hn)
    have HE := Lib.hid (show underB (bl s) (bl a) = (decide (bl a = []) || decide (bl s = bl a) || belowB (bl s) (bl a)) by unfold underB; rw [hn]; rfl)
    have HQ := Lib.hid (beq_bl s a)
    clear hn
    rw [HE.out]
    go_enter Try.func23, Try.ntmps23
    go_wp2_with fail
    refine (C.out _).mono ?_; rintro e w1 ⟨rfl, b⟩
    have B := Lib.hid b
    clear b
    go_wp2_with fail
    · have h : bl a = [] := by rw [← tl]; assumption
      go_ret
      exact ⟨ret_b (by rw [decide_eq_true h]; rfl), B.out⟩
    · have h : bl s = bl a := by rw [← tl, ← tl]; assumption
      go_ret
      exact ⟨ret_b (by rw [decide_eq_true h]; simp), B.out⟩
    · have h1 : ¬ bl a = [] := by rw [← tl]; assumption
      have h2 : ¬ bl s = bl a := by rw [← tl, ← tl]; assumption
      refine (PB.out _).mono ?_; rintro e w2 ⟨rfl, b⟩
      go_wp2_with fail
      go_ret
      exact ⟨ret_b (by rw [decide_eq_false h1, beq_bl, decide_eq_false h2, tl, List.isEmpty_eq_false_iff.2 h1]), bon B.out b⟩

theorem Match_any (p s : ByteArray) (w : World) :
    Calls Try.prog 25 #[.string p, .string s] w fun e w' => e = .returned (.bool (matchB (bl p) (bl s))) ∧ Below w.heap.size w w' := by
  cases hp : patB (bl p)
  · have PP := Lib.hid (Pattern_no p hp)
    have HE := Lib.hid (show matchB (bl p) (bl s) = false by unfold matchB; rw [hp]; rfl)
    clear hp
    rw [HE.out]
    go_enter Try.func25, Try.ntmps25
    go_wp2_with fail
    refine (PP.out _).mono ?_; rintro e w1 ⟨rfl, b⟩
    go_wp2_with fail
    go_ret
    exact ⟨rfl, b⟩
  have PP := Lib.hid (Pattern_yes p hp)
  cases hn : nameB (bl s)
  · have CN := Lib.hid (Check_no s hn)
    have HE := Lib.hid (show matchB (bl p) (bl s) = false by unfold matchB; rw [hp, hn]; rfl)
    clear hp hn
    rw [HE.out]
    go_enter Try.func25, Try.ntmps25
    go_wp2_with fail
    refine (PP.out _).mono ?_; rintro e w1 ⟨rfl, b⟩
    have B := Lib.hid b
    clear b
    go_wp2_with fail
    refine (CN.out _).mono ?_; rintro e w2 ⟨rfl, b⟩
    go_wp2_with fail
    go_ret
    exact ⟨rfl, bon B.out b⟩
  have CN := Lib.hid (Check_yes s hn)
  have hs64 : s.size ≤ 64 := by
    unfold nameB nameN at hn
    rw [Bool.and_eq_true, decide_eq_true_eq, bl_len] at hn
    exact hn.1
  cases hst : stB (bl p) with
  | none =>
    have ST := Lib.hid (starOf_no p hst)
    have HE := Lib.hid (show matchB (bl p) (bl s) = (p.toList == s.toList) by rw [beq_bl]; unfold matchB; rw [hp, hn, hst]; simp)
    clear hp hn hst
    rw [HE.out]
    go_enter Try.func25, Try.ntmps25
    go_wp2_with fail
    refine (PP.out _).mono ?_; rintro e w1 ⟨rfl, b⟩
    have B := Lib.hid b
    clear b
    go_wp2_with fail
    refine (CN.out _).mono ?_; rintro e w2 ⟨rfl, b⟩
    have B2 := Lib.hid (bon B.out b)
    clear b
    go_wp2_with fail
    refine (ST.out _).mono ?_; rintro e w3 ⟨rfl, rfl⟩
    go_wp2_with fail
    go_ret
    exact ⟨rfl, B2.out⟩
  | some o =>
    have ST := Lib.hid (starOf_yes p o hst)
    have HE := Lib.hid (show matchB (bl p) (bl s) = belowB (bl s) o by unfold matchB; rw [hp, hn, hst]; simp)
    have PB := Lib.hid (fun t => below_any s t (by omega))
    clear hp hn hst
    rw [HE.out]
    go_enter Try.func25, Try.ntmps25
    go_wp2_with fail
    refine (PP.out _).mono ?_; rintro e w1 ⟨rfl, b⟩
    have B := Lib.hid b
    clear b
    go_wp2_with fail
    refine (CN.out _).mono ?_; rintro e w2 ⟨rfl, b⟩
    have B2 := Lib.hid (bon B.out b)
    clear b
    go_wp2_with fail
    refine (ST.out _).mono ?_; rintro e w3 ⟨⟨t, rfl, ht⟩, rfl⟩
    have PT := Lib.hid (PB.out t)
    rw [ht] at PT
    clear ht
    go_wp2_with fail
    refine (PT.out _).mono ?_; rintro e w4 ⟨rfl, b⟩
    go_wp2_with fail
    go_ret
    exact ⟨rfl, bon B2.out b⟩

theorem Within_any (p q : ByteArray) (w : World) :
    Calls Try.prog 27 #[.string p, .string q] w fun e w' => e = .returned (.bool (withinB (bl p) (bl q))) ∧ Below w.heap.size w w' := by
  cases hsp : stB (bl p) with
  | none =>
    have ST := Lib.hid (starOf_no p hsp)
    have PM := Lib.hid (Match_any q p)
    have HE := Lib.hid (show withinB (bl p) (bl q) = matchB (bl q) (bl p) by unfold withinB; rw [hsp])
    clear hsp
    rw [HE.out]
    go_enter Try.func27, Try.ntmps27
    go_wp2_with fail
    refine (ST.out _).mono ?_; rintro e w1 ⟨rfl, rfl⟩
    go_wp2_with fail
    refine (PM.out _).mono ?_; rintro e w2 ⟨rfl, b⟩
    go_wp2_with fail
    go_ret
    exact ⟨rfl, b⟩
  | some o =>
    have ST := Lib.hid (starOf_yes p o hsp)
    cases hsq : stB (bl q) with
    | none =>
      have SQ := Lib.hid (starOf_no q hsq)
      have HE := Lib.hid (show withinB (bl p) (bl q) = false by unfold withinB; rw [hsp, hsq])
      clear hsp hsq
      rw [HE.out]
      go_enter Try.func27, Try.ntmps27
      go_wp2_with fail
      refine (ST.out _).mono ?_; rintro e w1 ⟨⟨t, rfl, ht⟩, rfl⟩
      clear ht
      go_wp2_with fail
      refine (SQ.out _).mono ?_; rintro e w1 ⟨rfl, rfl⟩
      go_wp2_with fail
      go_ret
      exact ⟨rfl, Below.refl _ _⟩
    | some i =>
      have SQ := Lib.hid (starOf_yes q i hsq)
      cases hpp : patB (bl p)
      · have PP := Lib.hid (Pattern_no p hpp)
        have HE := Lib.hid (show withinB (bl p) (bl q) = false by unfold withinB; rw [hsp, hsq, hpp]; rfl)
        clear hsp hsq hpp
        rw [HE.out]
        go_enter Try.func27, Try.ntmps27
        go_wp2_with fail
        refine (ST.out _).mono ?_; rintro e w1 ⟨⟨t, rfl, ht⟩, rfl⟩
        clear ht
        go_wp2_with fail
        refine (SQ.out _).mono ?_; rintro e w1 ⟨⟨u, rfl, hu⟩, rfl⟩
        clear hu
        go_wp2_with fail
        refine (PP.out _).mono ?_; rintro e w2 ⟨rfl, b⟩
        go_wp2_with fail
        go_ret
        exact ⟨rfl, b⟩
      have PP := Lib.hid (Pattern_yes p hpp)
      cases hqp : patB (bl q)
      · have PQ := Lib.hid (Pattern_no q hqp)
        have HE := Lib.hid (show withinB (bl p) (bl q) = false by unfold withinB; rw [hsp, hsq, hpp, hqp]; rfl)
        clear hsp hsq hpp hqp
        rw [HE.out]
        go_enter Try.func27, Try.ntmps27
        go_wp2_with fail
        refine (ST.out _).mono ?_; rintro e w1 ⟨⟨t, rfl, ht⟩, rfl⟩
        clear ht
        go_wp2_with fail
        refine (SQ.out _).mono ?_; rintro e w1 ⟨⟨u, rfl, hu⟩, rfl⟩
        clear hu
        go_wp2_with fail
        refine (PP.out _).mono ?_; rintro e w2 ⟨rfl, b⟩
        have B := Lib.hid b
        clear b
        go_wp2_with fail
        refine (PQ.out _).mono ?_; rintro e w3 ⟨rfl, b⟩
        go_wp2_with fail
        go_ret
        exact ⟨rfl, bon B.out b⟩
      have PQ := Lib.hid (Pattern_yes q hqp)
      have HE := Lib.hid (show withinB (bl p) (bl q) = (decide (o = i) || belowB o i) by unfold withinB; rw [hsp, hsq, hpp, hqp]; rfl)
      have hop : o.length ≤ 62 := by
        unfold patB at hpp
        rw [hsp] at hpp
        unfold nameN at hpp
        rw [Bool.and_eq_true, decide_eq_true_eq] at hpp
        exact hpp.1
      have PB := Lib.hid (fun t u (h : bl t = o) => below_any t u (by rw [← bl_len, h]; omega))
      clear hsp hsq hpp hqp
      rw [HE.out]
      go_enter Try.func27, Try.ntmps27
      go_wp2_with fail
      refine (ST.out _).mono ?_; rintro e w1 ⟨⟨t, rfl, ht⟩, rfl⟩
      have HT := Lib.hid ht
      clear ht
      go_wp2_with fail
      refine (SQ.out _).mono ?_; rintro e w1 ⟨⟨u, rfl, hu⟩, rfl⟩
      have HU := Lib.hid hu
      have PT := Lib.hid (PB.out t u HT.out)
      rw [HT.out, HU.out] at PT
      have HQ := Lib.hid (beq_bl t u)
      clear hu
      go_wp2_with fail
      refine (PP.out _).mono ?_; rintro e w2 ⟨rfl, b⟩
      have B := Lib.hid b
      clear b
      go_wp2_with fail
      refine (PQ.out _).mono ?_; rintro e w3 ⟨rfl, b⟩
      have B2 := Lib.hid (bon B.out b)
      clear b
      by_cases hoi : o = i
      · have hq : (t.toList == u.toList) = true := by rw [HQ.out, HT.out, HU.out]; exact decide_eq_true hoi
        have HE2 := Lib.hid (decide_eq_true hoi)
        clear hoi
        go_wp2_with fail
        go_ret
        exact ⟨ret_b (by rw [HE2.out]; rfl), B2.out⟩
      · have hq : (t.toList == u.toList) = false := by rw [HQ.out, HT.out, HU.out]; exact decide_eq_false hoi
        have HE2 := Lib.hid (decide_eq_false hoi)
        clear hoi
        go_wp2_with fail
        refine (PT.out _).mono ?_; rintro e w4 ⟨rfl, b⟩
        go_wp2_with fail
        go_ret
        exact ⟨ret_b (by rw [HE2.out]; rfl), bon B2.out b⟩

theorem Meets_any (p q : ByteArray) (w : World) :
    Calls Try.prog 29 #[.string p, .string q] w fun e w' => e = .returned (.bool (meetsB (bl p) (bl q))) ∧ Below w.heap.size w w' := by
  have PW := Lib.hid (Within_any p q)
  have QW := Lib.hid (Within_any q p)
  unfold meetsB
  generalize withinB (bl p) (bl q) = x at *
  generalize withinB (bl q) (bl p) = y at *
  cases x
  · go_enter Try.func29, Try.ntmps29
    go_wp2_with fail
    refine (PW.out _).mono ?_; rintro e w1 ⟨rfl, b⟩
    have B := Lib.hid b
    clear b
    go_wp2_with fail
    refine (QW.out _).mono ?_; rintro e w2 ⟨rfl, b⟩
    go_wp2_with fail
    go_ret
    exact ⟨rfl, bon B.out b⟩
  · go_enter Try.func29, Try.ntmps29
    go_wp2_with fail
    refine (PW.out _).mono ?_; rintro e w1 ⟨rfl, b⟩
    go_wp2_with fail
    go_ret
    exact ⟨rfl, b⟩
end Go.Proofs.Ytcmkfomfmjgmpaa
