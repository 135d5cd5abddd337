/- The labels of a text, from the last one on, by a function that yields them. -/
import Derived.Test.YtcmkfomfmjgmpaaNamesA
import Derived.Test.YtcmkfomfmjgmpaaWide
import Derived.StillTailTactics
namespace Go.Proofs.Ytcmkfomfmjgmpaa
open Go.ChangeShapes Go.WideShapes Go.ChangeAt Go.RowKit Go.Shelf Gs
set_option linter.unusedVariables false
attribute [local go_sem] Oper.semAt_some

theorem isLast_one {l : List UInt8} {i : Int} (h : IsLast l i) (h0 : 46 ∉ l) : i = -1 := by
  rcases h with ⟨e, _⟩ | ⟨a, b, rfl, _⟩
  · exact e
  · exact absurd (by simp) h0
theorem isLast_two {l a b : List UInt8} {i : Int} (h : IsLast l i) (e : l = a ++ 46 :: b) (hb : 46 ∉ b) : i = (a.length : Int) := by
  rcases h with ⟨_, h⟩ | ⟨a', b', e', hb', hi⟩
  · exact absurd (by rw [e]; simp) h
  · rw [e] at e'
    rw [hi, (last_unique e' hb hb').1]

/-- What is yielded: of a text's labels the k-th from the end, and what begins with it. -/
def lblS (s : ByteArray) (k : Nat) : ByteArray := ⟨((cuts (bl s))[(cuts (bl s)).length - 1 - k]?.getD []).toArray⟩
def topS (s : ByteArray) (k : Nat) : ByteArray := ⟨(joinD ((cuts (bl s)).drop ((cuts (bl s)).length - 1 - k))).toArray⟩
theorem drop_last_split {α : Type} (C : List α) (j : Nat) (hj : j < C.length) : ∃ D c E, C = D ++ c :: E ∧ E.length = j ∧ D.length = C.length - 1 - j ∧ C[C.length - 1 - j]? = some c ∧ C.drop (C.length - 1 - j) = c :: E ∧ C.take (C.length - j) = D ++ [c] ∧ C.take (C.length - (j + 1)) = D := by
  have h : C.length - 1 - j < C.length := by omega
  have e := (List.drop_eq_getElem_cons h).symm
  refine ⟨C.take (C.length - 1 - j), C[C.length - 1 - j], C.drop (C.length - 1 - j + 1), ?_, ?_, ?_, ?_, e.symm, ?_, ?_⟩
  · rw [e, List.take_append_drop]
  · rw [List.length_drop]; omega
  · rw [List.length_take]; omega
  · exact List.getElem?_eq_getElem h
  · rw [show C.length - j = (C.length - 1 - j) + 1 by omega, List.take_succ_eq_append_getElem h]
  · rw [show C.length - (j + 1) = C.length - 1 - j by omega]

def strLen : Value → Nat | .string r => (bl r).length | _ => 0
theorem strLen_s (r : ByteArray) : strLen (.string r) = (bl r).length := rfl
theorem abides_b {β : Type} {B : Nat} {J : β → World → Prop} (h : AbidesFrom B J) {s : β} {W W' : World} (hs : J s W) (hb : Below W.heap.size W W') : J s W' :=
  h s W W' none hs ⟨hb.os, hb.tape, hb.output, hb.size, fun i hi _ => hb.block i hi⟩ (fun _ e => by cases e)

set_option maxRecDepth 100000 in
set_option maxHeartbeats 4000000 in
theorem froms_in (n : Nat) (hn : 1 ≤ n) (l Bs n₀ : Nat) (s : ByteArray) (hs : s.size ≤ 9223372036854775807) (J Jx : List Nat → World → Prop) (N₀ : Nat)
    (hAb : AbidesFrom N₀ J)
    (hY : ∀ pre k W, J pre W → pre.length < (cuts (bl s)).length → YieldAt Fence.wide (n - 1) Try.prog l #[.string (lblS s k), .string (topS s k)] W fun e W' =>
      (e = .returned (.bool true) ∧ J (pre ++ [k]) W' ∧ KB n₀ Bs W W') ∨ (e = .returned (.bool false) ∧ Jx (pre ++ [k]) W'))
    (W : World) (hn₀ : n₀ ≤ W.heap.size) (hbox : Blk W Bs 9 #[.string s]) (h0 : J [] W) :
    CallsIn Fence.wide n Try.prog 44 #[.func (.yield l) #[] #[], .pointer (some ⟨Bs, 0, none⟩)] W fun e W' => (∃ v, e = .returned v) ∧
      ((∃ ys, ys = List.range (cuts (bl s)).length ∧ J ys W') ∨ (∃ pre, (∃ k, k ≤ (cuts (bl s)).length ∧ pre = List.range k) ∧ Jx pre W')) := by
  have HY := Lib.hid hY
  have HAb := Lib.hid hAb
  have HBX := Lib.hid hbox
  have b0 := hbox.cell 0
  obtain ⟨m, hm⟩ : ∃ m, (cuts (bl s)).length = m := ⟨_, rfl⟩
  have hm1 : 1 ≤ m := by rw [← hm]; exact List.length_pos_iff.2 (cuts_ne _)
  have HM := Lib.hid hm
  rw [hm] at HY ⊢
  clear hY hAb hbox hm
  refine callsIn_of_wp Try.func44 rfl trivial ?_ rfl
  simp only [Try.ntmps44, List.size_toArray, List.length_cons, List.length_nil, Nat.reduceAdd, Nat.reduceSub, Array.replicate_succ, Array.replicate_zero, List.push_toArray, List.append_toArray, List.nil_append, List.cons_append]
  gi_wp2
  clear b0
  gi_loopw [3] (fun i wr => ∃ (j : Nat) (r : ByteArray), j < m ∧ i = .string r ∧ J (List.range j) wr ∧ KB n₀ Bs W wr ∧ n₀ ≤ wr.heap.size ∧ Hid (bl r = joinD ((cuts (bl s)).take (m - j)))) (fun i _ => strLen i)
  case atStart => exact ⟨0, s, by omega, rfl, h0, KB.refl _ _ _, hn₀, Lib.hid (by rw [← HM.out, Nat.sub_zero, List.take_length, joinD_cuts])⟩
  case round =>
    obtain ⟨j, r, hj, rfl, hJ, hKB, hnr, HR⟩ := hrel
    have HJ := Lib.hid hJ
    have HK := Lib.hid hKB
    have hBB : Blk wr Bs 9 #[.string s] := hKB.2.trans HBX.out
    have b0 := hBB.cell 0
    have HBB := Lib.hid hBB
    obtain ⟨D, c, E, eC, eE, eD, ec, ed, et, et'⟩ := drop_last_split (cuts (bl s)) j (by rw [HM.out]; exact hj)
    have HC := Lib.hid (And.intro eC (And.intro eE (And.intro eD (And.intro ec (And.intro ed (And.intro et et'))))))
    have hr2 := HR.out
    rw [← HM.out, et] at hr2
    have hc46 : 46 ∉ c := cuts_none (bl s) c (by rw [eC]; simp)
    have hjs : bl s = joinD (D ++ c :: E) := by rw [← eC, joinD_cuts]
    have hlbl : lblS s j = ⟨c.toArray⟩ := by unfold lblS; rw [ec]; rfl
    have htop : topS s j = ⟨(joinD (c :: E)).toArray⟩ := by unfold topS; rw [ed]
    have hDl : D.length = m - 1 - j := by rw [eD, HM.out]
    clear eC eE eD ec ed et et' hJ hKB hBB
    by_cases hlast : j + 1 = m
    · obtain rfl : D = [] := List.length_eq_zero_iff.1 (by omega)
      rw [List.nil_append] at hr2 hjs
      have hr3 : bl r = c := hr2
      have hrs : r.size ≤ 9223372036854775807 := by
        rw [← bl_len, hr3]
        have : c.length ≤ (joinD (c :: E)).length := by cases E <;> simp [joinD]
        rw [← hjs, bl_len] at this
        omega
      have EL := Lib.hid (show lblS s j = r from bl_inj (by rw [hlbl, bl_mk, hr3]))
      have ET := Lib.hid (show topS s j = s from bl_inj (by rw [htop, bl_mk, ← hjs]))
      have HI := Lib.hid (fun i (hi : IsLast (bl r) i) => isLast_one hi (by rw [hr3]; exact hc46))
      clear hr2 hjs hr3 hlbl htop hc46 hDl
      gi_wp2_with fail
      refine ⟨trivial, ?_⟩
      refine (callsIn_wide.2 (lastDot_any r hrs _)).mono ?_
      rintro e w2 ⟨⟨i, rfl, hi⟩, rfl⟩
      obtain rfl := HI.out i hi
      clear hi
      have hw0 : IntKind.i64.wrap 0 = 0 := by decide
      gi_wp2_with fail
      refine wpIn_plain_still_tail 9 (by kernel_rfl) (by kernel_rfl) (by kernel_rfl) ?_
      simp only [List.take_succ_cons, List.take_zero, List.drop_succ_cons, List.drop_zero]
      repeat still_step
      refine wpStill_nil ?_
      change wpListIn _ _ _ _ _ _ _ wr.drew
      have hYj := HY.out _ j wr.drew (abides_b HAb.out HJ.out (Below.refl _ _).drew) (by simp; omega)
      rw [EL.out, ET.out] at hYj
      obtain ⟨fn, tmps, assign, body, hy, hR⟩ := hYj
      have HRR := Lib.hid hR
      clear hR b0 hw0
      gi_wp2_with fail
      refine HRR.out.mono ?_
      rintro e W3 (⟨rfl, hJ3, hk3⟩ | ⟨rfl, hJx3⟩)
      · have HJ3 := Lib.hid hJ3
        clear hJ3 hk3
        gi_wp2_with fail
        refine bodyPost_ret (results_none rfl _ _ _) rfl ?_
        exact ⟨⟨_, rfl⟩, .inl ⟨_, rfl, by rw [← hlast, List.range_succ]; exact HJ3.out⟩⟩
      · have HJ3 := Lib.hid hJx3
        clear hJx3
        gi_wp2_with fail
        refine bodyPost_ret (results_none rfl _ _ _) rfl ?_
        exact ⟨⟨_, rfl⟩, .inr ⟨_, ⟨j + 1, by omega, (List.range_succ).symm⟩, HJ3.out⟩⟩
    · have hD0 : D ≠ [] := by intro e; rw [e] at hDl; simp at hDl; omega
      have hr3 : bl r = joinD D ++ 46 :: c := by rw [hr2, joinD_app hD0 (by simp)]; rfl
      have hjs2 : bl s = joinD D ++ 46 :: joinD (c :: E) := by rw [hjs, joinD_app hD0 (by simp)]
      obtain ⟨a, ha⟩ : ∃ a, (joinD D).length = a := ⟨_, rfl⟩
      have hrs1 : r.size = a + 1 + c.length := by rw [← bl_len, hr3, List.length_append, List.length_cons, ha]; omega
      have hss1 : s.size = a + 1 + (joinD (c :: E)).length := by rw [← bl_len, hjs2, List.length_append, List.length_cons, ha]; omega
      have hcl : c.length ≤ (joinD (c :: E)).length := by cases E <;> simp [joinD]
      have hrs : r.size ≤ 9223372036854775807 := by omega
      have EL := Lib.hid (show r.extract (a + 1) r.size = lblS s j from bl_inj (by rw [bl_from, hlbl, bl_mk c, hr3, ← ha]; simp))
      have ET := Lib.hid (show s.extract (a + 1) s.size = topS s j from bl_inj (by rw [bl_from, htop, bl_mk (joinD (c :: E)), hjs2, ← ha]; simp))
      have ER := Lib.hid (show bl (r.extract 0 a) = joinD ((cuts (bl s)).take (m - (j + 1))) from by rw [bl_upto, hr3, ← HM.out, HC.out.2.2.2.2.2.2, ← ha]; simp)
      have HI := Lib.hid (fun i (hi : IsLast (bl r) i) => show i = (a : Int) by rw [← ha]; exact isLast_two hi hr3 hc46)
      have hral : a + 1 ≤ r.size := by omega
      have hsal : a + 1 ≤ s.size := by omega
      have HLT := Lib.hid (show (bl (r.extract 0 a)).length < (bl r).length by rw [bl_upto, List.length_take, bl_len]; omega)
      clear hr2 hjs hr3 hlbl htop hc46 hDl hD0 hjs2 ha hrs1 hss1 hcl
      gi_wp2_with fail
      refine ⟨trivial, ?_⟩
      refine (callsIn_wide.2 (lastDot_any r hrs _)).mono ?_
      rintro e w2 ⟨⟨i, rfl, hi⟩, rfl⟩
      obtain rfl := HI.out i hi
      clear hi
      have hw0 : IntKind.i64.wrap ((a : Int) + 1) = (a : Int) + 1 := IntWalk.i64_in _ (by omega)
      have c1 : (0 : Int) ≤ (a : Int) + 1 := by omega
      have c2 : (a : Int) + 1 ≤ (r.size : Int) := by omega
      have c3 : (a : Int) + 1 ≤ (s.size : Int) := by omega
      have c4 : ((a : Int) + 1).toNat = a + 1 := by omega
      gi_wp2_with fail
      refine wpIn_plain_still_tail 9 (by kernel_rfl) (by kernel_rfl) (by kernel_rfl) ?_
      simp only [List.take_succ_cons, List.take_zero, List.drop_succ_cons, List.drop_zero]
      repeat still_step
      refine wpStill_nil ?_
      change wpListIn _ _ _ _ _ _ _ wr.drew
      have hYj := HY.out _ j wr.drew (abides_b HAb.out HJ.out (Below.refl _ _).drew) (by simp; omega)
      rw [← EL.out, ← ET.out] at hYj
      obtain ⟨fn, tmps, assign, body, hy, hR⟩ := hYj
      have HRR := Lib.hid hR
      have c5 : decide ((a : Int) < 0) = false := decide_eq_false (by omega)
      have c6 : (0 : Int) ≤ (a : Int) := by omega
      have c7 : (a : Int) ≤ (r.size : Int) := by omega
      clear hR b0 hw0 c1 c2 c3 c4
      gi_wp2_with fail
      refine HRR.out.mono ?_
      rintro e W3 (⟨rfl, hJ3, hk3⟩ | ⟨rfl, hJx3⟩)
      · have HJ3 := Lib.hid hJ3
        have HK3 := Lib.hid hk3
        clear hJ3 hk3
        gi_wp2_with fail
        go_roundw
        case rel => exact ⟨j + 1, _, by omega, rfl, by rw [List.range_succ]; exact HJ3.out, HK.out.trans (KB.trans ⟨(Below.refl _ _).drew, rfl⟩ HK3.out), Nat.le_trans hnr HK3.out.1.size, Lib.hid ER.out⟩
        case measure => exact HLT.out
      · have HJ3 := Lib.hid hJx3
        clear hJx3
        gi_wp2_with fail
        refine bodyPost_ret (results_none rfl _ _ _) rfl ?_
        exact ⟨⟨_, rfl⟩, .inr ⟨_, ⟨j + 1, by omega, (List.range_succ).symm⟩, HJ3.out⟩⟩

theorem froms_stops (n : Nat) (hn : 1 ≤ n) (Bs n₀ : Nat) (s : ByteArray) (hs : s.size ≤ 9223372036854775807) (w : World) (hn₀ : n₀ ≤ w.heap.size) (hb : Blk w Bs 9 #[.string s]) :
    SeqStopsK Fence.wide n Try.prog 44 #[.pointer (some ⟨Bs, 0, none⟩)] (fun k : Nat => #[Value.string (lblS s k), .string (topS s k)]) (KB n₀ Bs)
      (fun ys => ys = List.range (cuts (bl s)).length) (fun pre => ∃ k, k ≤ (cuts (bl s)).length ∧ pre = List.range k) (cuts (bl s)).length w := fun l J Jx W hW hJ _ hY h0 =>
  froms_in n hn l Bs n₀ s hs J Jx _ hJ hY W (Nat.le_trans hn₀ hW.size) (hb.below hW hb.lt) h0

set_option maxHeartbeats 1000000 in
theorem fromsF_in (n : Nat) (s : ByteArray) (w : World) :
    CallsIn Fence.wide n Try.prog 35 #[.string s] w fun e w' => e = .returned (.func (.func 44) #[] #[.pointer (some ⟨w.heap.size, 0, none⟩)]) ∧ w' = w.alloc (.cells #[.string s] 9) := by
  refine callsIn_of_wp Try.func35 rfl trivial ?_ rfl
  simp only [Try.ntmps35, List.size_toArray, List.length_cons, List.length_nil, Nat.reduceAdd, Nat.reduceSub, Array.replicate_succ, Array.replicate_zero, List.push_toArray, List.append_toArray, List.nil_append, List.cons_append]
  gi_wp2
  go_ret
  exact ⟨rfl, rfl⟩
end Go.Proofs.Ytcmkfomfmjgmpaa
