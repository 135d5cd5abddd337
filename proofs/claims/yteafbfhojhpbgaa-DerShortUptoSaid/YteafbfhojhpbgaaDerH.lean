/- How many bytes an item has: the program's own. -/
import Derived.Test.YteafbfhojhpbgaaDerG
namespace Go.Proofs.Yteafbfhojhpbgaa
open Go.ChangeShapes Go.WideShapes Go.ChangeAt Go.RowKit Gs
set_option linter.unusedVariables false

theorem own_litB (w : World) (xs : List Int) {B g : Nat} (hB : B ≤ g) (hg : g = w.heap.size) (hx : xs.length ≤ 1000) : OwnB (w.alloc (.cells (xs.map (Value.int .u8)).toArray 5)) B (.slice (some ⟨g, 0, none⟩) xs.length xs.length) xs := by
  subst hg
  exact ⟨by simp, .inr ⟨_, xs.length, (xs.map (Value.int .u8)).toArray, rfl, hB, World.alloc_heap_new w _, Nat.le_refl _, by unfold maxLen; omega, by simp, by have := List.take_of_length_le (l := xs.map (Value.int .u8)) (i := xs.length) (by simp); simpa using this⟩⟩

set_option maxHeartbeats 2000000 in
theorem lengthOf_any (n : Nat) (hn : n ≤ 1000000000) (w : World) :
    Calls Try.prog 70 #[.int .i64 n] w fun e w' => (∃ v, e = .returned v ∧ OwnB w' w.heap.size v (lenB n)) ∧ Below w.heap.size w w' := by
  have D0 := Lib.hid (fun cs => (Below.refl w.heap.size w).alloc (Nat.le_refl _) (.cells cs 5))
  by_cases h1 : n < 128
  · have q : decide ((n : Int) < 128) = true := decide_eq_true (by omega)
    have e : (n : Int) % 256 = n := by omega
    have HL := Lib.hid (show lenB n = [(n : Int)] from if_pos h1)
    go_enter Try.func70, Try.ntmps70
    go_wp2_with fail
    go_ret
    exact ⟨⟨_, rfl, by rw [HL.out]; exact own_litB w [(n : Int)] (Nat.le_refl _) rfl (by simp)⟩, D0.out _⟩
  have q : decide ((n : Int) < 128) = false := decide_eq_false (by omega)
  by_cases h2 : n < 256
  · have q2 : decide ((n : Int) < 256) = true := decide_eq_true (by omega)
    have e : (n : Int) % 256 = n := by omega
    have HL := Lib.hid (show lenB n = [129, (n : Int)] by unfold lenB; rw [if_neg h1, if_pos h2])
    go_enter Try.func70, Try.ntmps70
    go_wp2_with fail
    go_ret
    exact ⟨⟨_, rfl, by rw [HL.out]; exact own_litB w [129, (n : Int)] (Nat.le_refl _) rfl (by simp)⟩, D0.out _⟩
  · have q2 : decide ((n : Int) < 256) = false := decide_eq_false (by omega)
    have HL := Lib.hid (show lenB n = [130, (n : Int) / 256 % 256, (n : Int) % 256] by unfold lenB; rw [if_neg h1, if_neg h2]; simp only [List.cons.injEq, and_true, true_and]; exact ⟨by omega, by omega⟩)
    go_enter Try.func70, Try.ntmps70
    go_wp2_with fail
    go_ret
    exact ⟨⟨_, rfl, by rw [HL.out]; exact own_litB w [130, (n : Int) / 256 % 256, (n : Int) % 256] (Nat.le_refl _) rfl (by simp)⟩, D0.out _⟩

theorem encs_take (l : List It) (k : Nat) (h : k < l.length) : encs (l.take (k + 1)) = encs (l.take k) ++ l[k].enc := by
  rw [List.take_succ_eq_append_getElem h, encs_append]
  simp [encs]
theorem encs_take_le (l : List It) (k : Nat) : (encs (l.take k)).length ≤ (encs l).length := by
  conv => rhs; rw [← List.take_append_drop k l, encs_append, List.length_append]
  omega
theorem cont_is (x : It) : x.cont = x.b.length + (encs x.l).length := rfl

/-- What is told of an item's size. -/
def SizeOf (x : It) : Prop := ∀ (Ab : Option Addr) (cb : Nat) (Al : Option Addr) (cl : Nat) (w : World), IR w w.heap.size x Ab cb Al cl →
  Calls Try.prog 44 #[.agg #[.int .i64 x.tag, .slice Ab x.b.length cb, .slice Al x.l.length cl]] w fun e w' => e = .returned (.int .i64 x.enc.length) ∧ Below w.heap.size w w'

set_option maxRecDepth 100000 in
set_option maxHeartbeats 4000000 in
theorem contentOf_from (x : It) (hx : x.wt ≤ 100000000) (IH : ∀ y ∈ x.l, SizeOf y) (Ab : Option Addr) (cb : Nat) (Al : Option Addr) (cl : Nat) (w : World) (hi : IR w w.heap.size x Ab cb Al cl) :
    Calls Try.prog 69 #[.agg #[.int .i64 x.tag, .slice Ab x.b.length cb, .slice Al x.l.length cl]] w fun e w' => e = .returned (.int .i64 x.cont) ∧ Below w.heap.size w w' := by
  have hcw := cont_wt x
  have hce := cont_is x
  have hIH : ∀ y ∈ x.l, SizeOf y := IH
  obtain ⟨t, b, l⟩ := x
  simp only [It.tag, It.b, It.l] at *
  have HS := Lib.hid hi.li
  have HIH := Lib.hid hIH
  have HTk := Lib.hid (fun k => encs_take_le l k)
  generalize It.cont (.mk t b l) = ct at *
  obtain ⟨n, hn⟩ : ∃ n, l.length = n := ⟨_, rfl⟩
  obtain ⟨m, hm⟩ : ∃ m, b.length = m := ⟨_, rfl⟩
  simp only [It.l] at HS
  rw [hm] at hce
  have hnl : n ≤ 100000000 := by have := wts_len l; have := wt_is (.mk t b l); simp only [It.b, It.l] at this; omega
  have HC := Lib.hid (show ∀ k (h : k < l.length), (encs (l.take (k + 1))).length = (encs (l.take k)).length + l[k].enc.length from fun k h => by rw [encs_take l k h, List.length_append])
  have HCt := Lib.hid hce
  rw [hn, hm]
  have HN := Lib.hid hn
  have hml : m + (encs l).length ≤ 200000000 := by omega
  have HML := Lib.hid hml
  clear hi IH hIH hm hn hce hcw hx hml
  have D0 := Lib.hid ((Below.refl w.heap.size w).alloc (Nat.le_refl _) (.cells #[.int .i64 t, .slice Ab m cb, .slice Al n cl] 25))
  go_enter Try.func69, Try.ntmps69
  go_wp2_with fail
  go_loopw [3, 12] (fun z i wr => ∃ k : Nat, k ≤ n ∧ i = .int .i64 k ∧ z = .int .i64 ((m + (encs (l.take k)).length : Nat) : Int) ∧ Below w.heap.size w wr) (fun _ i _ => n - (intOf i).toNat)
  case atStart => exact ⟨0, by omega, rfl, by simp [encs], D0.out⟩
  case round =>
    obtain ⟨k, hk, rfl, rfl, hb⟩ := hrel
    have HB := Lib.hid hb
    have hz := hb.size
    clear hb
    by_cases hlt : k < n
    · have hkl : k < l.length := by rw [HN.out]; exact hlt
      obtain ⟨ad, rfl, had, Ab', cb', Al', cl', c0, c1, c2, hi⟩ := (HS.out.on HB.out).at_ k hkl
      have B1 := Lib.hid ((Below.refl wr.heap.size wr).alloc (Nat.le_refl _) (.cells #[.int .i64 l[k].tag, .slice Ab' l[k].b.length cb', .slice Al' l[k].l.length cl'] 25))
      have P := Lib.hid (HIH.out l[k] (List.getElem_mem hkl) Ab' cb' Al' cl' _ (hi.on B1.out))
      have hc := HC.out k hkl
      have ht := HTk.out (k + 1)
      have hmm := HML.out
      obtain ⟨z, hz1⟩ : ∃ z : Int, ((m + (encs (l.take k)).length : Nat) : Int) = z := ⟨_, rfl⟩
      obtain ⟨y, hy⟩ : ∃ y : Int, ((l[k].enc.length : Nat) : Int) = y := ⟨_, rfl⟩
      have hw : IntKind.i64.wrap (z + y) = ((m + (encs (l.take (k + 1))).length : Nat) : Int) := by
        rw [show z + y = ((m + (encs (l.take (k + 1))).length : Nat) : Int) by omega]
        exact IntWalk.i64_in _ (by omega)
      rw [hy] at P
      rw [hz1]
      clear hi hc ht hmm hz1 hy
      generalize l[k].tag = y1 at *
      generalize l[k].b.length = y2 at *
      generalize l[k].l.length = y3 at *
      go_wp2_with fail
      refine P.out.mono ?_; rintro _ w2 ⟨rfl, b2⟩
      have B2 := Lib.hid (HB.out.trans ((below_on B1.out b2).mono hz))
      clear b2 c0 c1 c2
      go_wp2_with fail
      go_roundw
      case rel => exact ⟨k + 1, by omega, by go_num, rfl, B2.out⟩
      case measure => simp [intOf]; omega
    · obtain rfl : n = k := by omega
      have HA := Lib.hid (show ((m + (encs (l.take n)).length : Nat) : Int) = (ct : Int) by rw [List.take_of_length_le (by rw [HN.out]; omega), HCt.out])
      rw [HA.out]
      go_wp2_with fail
      go_ret
      exact ⟨rfl, HB.out⟩

set_option maxHeartbeats 2000000 in
theorem sizeOf_from (x : It) (hx : x.wt ≤ 100000000) (Ab : Option Addr) (cb : Nat) (Al : Option Addr) (cl : Nat) (w : World) (hi : IR w w.heap.size x Ab cb Al cl)
    (PC : ∀ W, IR W W.heap.size x Ab cb Al cl → Calls Try.prog 69 #[.agg #[.int .i64 x.tag, .slice Ab x.b.length cb, .slice Al x.l.length cl]] W fun e w' => e = .returned (.int .i64 x.cont) ∧ Below W.heap.size W w') :
    Calls Try.prog 44 #[.agg #[.int .i64 x.tag, .slice Ab x.b.length cb, .slice Al x.l.length cl]] w fun e w' => e = .returned (.int .i64 x.enc.length) ∧ Below w.heap.size w w' := by
  have hcw := cont_wt x
  have hel := enc_len x
  have h3 := lenB_le x.cont
  have HP := Lib.hid PC
  have HI := Lib.hid hi
  have PL := Lib.hid (fun W => lengthOf_any x.cont (by omega) W)
  generalize x.cont = c at *
  generalize x.enc.length = el at *
  generalize lenB c = lb at *
  have D0 := Lib.hid ((Below.refl w.heap.size w).alloc (Nat.le_refl _) (.cells #[.int .i64 x.tag, .slice Ab x.b.length cb, .slice Al x.l.length cl] 25))
  have hw1 : IntKind.i64.wrap (1 + (lb.length : Int)) = ((1 + lb.length : Nat) : Int) := by rw [show 1 + (lb.length : Int) = ((1 + lb.length : Nat) : Int) by omega]; exact IntWalk.i64_in _ (by omega)
  have hw2 : IntKind.i64.wrap (((1 + lb.length : Nat) : Int) + (c : Int)) = (el : Int) := by rw [show ((1 + lb.length : Nat) : Int) + (c : Int) = (el : Int) by omega]; exact IntWalk.i64_in _ (by omega)
  obtain ⟨z, hz⟩ : ∃ z : Int, ((1 + lb.length : Nat) : Int) = z := ⟨_, rfl⟩
  rw [hz] at hw1 hw2
  clear hi PC hel h3 hcw hx hz
  generalize x.tag = y1 at *
  generalize x.b.length = y2 at *
  generalize x.l.length = y3 at *
  go_enter Try.func44, Try.ntmps44
  go_wp2_with fail
  refine (HP.out _ (HI.out.on D0.out)).mono ?_; rintro _ w2 ⟨rfl, b⟩
  have B2 := Lib.hid (below_on D0.out b)
  clear b
  go_wp2_with fail
  refine (PL.out _).mono ?_; rintro _ w3 ⟨⟨v3, rfl, ho⟩, b⟩
  obtain ⟨A3, c3, rfl, q1, q2, _, _⟩ := own_sliceB ho
  have B3 := Lib.hid (below_on B2.out b)
  clear b ho q1 q2
  go_wp2_with fail
  go_ret
  exact ⟨rfl, B3.out⟩

theorem sizeOf_any : ∀ x : It, x.wt ≤ 100000000 → SizeOf x := it_ind fun x ih hx => fun Ab cb Al cl w hi =>
  sizeOf_from x hx Ab cb Al cl w hi (fun W hW => contentOf_from x hx (fun y hy => ih y hy (by have := wt_child hy; omega)) Ab cb Al cl W hW)
theorem contentOf_any (x : It) (hx : x.wt ≤ 100000000) (Ab : Option Addr) (cb : Nat) (Al : Option Addr) (cl : Nat) (w : World) (hi : IR w w.heap.size x Ab cb Al cl) :
    Calls Try.prog 69 #[.agg #[.int .i64 x.tag, .slice Ab x.b.length cb, .slice Al x.l.length cl]] w fun e w' => e = .returned (.int .i64 x.cont) ∧ Below w.heap.size w w' :=
  contentOf_from x hx (fun y hy => sizeOf_any y (by have := wt_child hy; omega)) Ab cb Al cl w hi
end Go.Proofs.Yteafbfhojhpbgaa
