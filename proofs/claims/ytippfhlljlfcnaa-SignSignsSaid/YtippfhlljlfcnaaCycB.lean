/- The bits of an exponent, by a function that yields them; a power by any modulus. -/
import Derived.Test.YtippfhlljlfcnaaCycA
import Derived.Test.YtippfhlljlfcnaaCycBitsMath
namespace Go.Proofs.Ytippfhlljlfcnaa
open Go.ChangeShapes Go.WideShapes Go.ChangeAt Go.RowKit Go.Shelf Gs
set_option linter.unusedVariables false
attribute [local go_sem] Oper.semAt_some

set_option maxRecDepth 100000 in
set_option maxHeartbeats 1000000 in
theorem bits_in (n : Nat) (hn : 1 ≤ n) (l Bn : Nat) (x : Int) (x0 : 0 ≤ x) (x1 : x < 18446744073709551616) (J Jx : List Bool → World → Prop)
    (hY : ∀ pre b W, J pre W → pre.length < 64 → YieldAt Fence.wide (n - 1) Try.prog l #[.bool b] W fun e W' =>
      (e = .returned (.bool true) ∧ J (pre ++ [b]) W' ∧ True) ∨ (e = .returned (.bool false) ∧ Jx (pre ++ [b]) W'))
    (W : World) (hBn : W.cell? ⟨Bn, 0, none⟩ = some (.int .u64 x)) (h0 : J [] W) :
    CallsIn Fence.wide n Try.prog 70 #[.func (.yield l) #[] #[], .pointer (some ⟨Bn, 0, none⟩)] W fun e W' => (∃ v, e = .returned v) ∧
      ((∃ ys, (bval ys : Int) = x ∧ J ys W') ∨ (∃ pre, True ∧ Jx pre W')) := by
  have HY := Lib.hid hY
  clear hY
  refine callsIn_of_wp Try.func70 rfl trivial ?_ rfl
  simp only [Try.ntmps70, List.size_toArray, List.length_cons, List.length_nil, Nat.reduceAdd, Nat.reduceSub, Array.replicate_succ, Array.replicate_zero, List.push_toArray, List.append_toArray, List.nil_append, List.cons_append]
  gi_wp2
  gi_loopw [3] (fun i wr => ∃ (r : Int) (pre : List Bool), 0 ≤ r ∧ r < 18446744073709551616 ∧ i = .int .u64 r ∧ J pre wr ∧ Hid (BitsTo x pre r))
    (fun i _ => (intOf i).toNat)
  case atStart => exact ⟨x, [], x0, x1, rfl, h0, Lib.hid (BitsTo.start x)⟩
  case round =>
    obtain ⟨r, pre, r0, r1, rfl, hJs, HT⟩ := hrel
    by_cases hz : 0 < r
    · have hb : ∃ b : Bool, r % 2 = (b.toNat : Int) ∧ (bits .and .u64 r 1 == 1) = b := by
        have := and_1 r r0 r1
        by_cases h : r % 2 = 1
        · exact ⟨true, by simp; exact h, by rw [this, h]; rfl⟩
        · exact ⟨false, by simp; omega, by rw [this, show r % 2 = 0 by omega]; rfl⟩
      obtain ⟨b, hb1, hb2⟩ := hb
      obtain ⟨fn, tmps, assign, body, hy, hR⟩ := HY.out pre b wr hJs (HT.out.short hz x1)
      have HR := Lib.hid hR
      have HB := Lib.hid hb1
      clear hR hb1 hJs
      gi_wp2_with fail
      refine HR.out.mono ?_
      rintro e W3 (⟨rfl, hJ3, _⟩ | ⟨rfl, hJx3⟩)
      · gi_wp2
        go_roundw
        case rel => exact ⟨r / 2, _, by omega, by omega, rfl, hJ3, Lib.hid (HT.out.step HB.out)⟩
        case measure => simp [intOf]; omega
      · gi_wp2
        refine bodyPost_ret (results_none rfl _ _ _) rfl ?_
        exact ⟨⟨_, rfl⟩, .inr ⟨_, trivial, hJx3⟩⟩
    · have HZ := Lib.hid (HT.out.done (by omega))
      gi_wp2
      go_end0
      exact ⟨⟨_, rfl⟩, .inl ⟨_, HZ.out, hJs⟩⟩

theorem bits_stops (n : Nat) (hn : 1 ≤ n) (Bn : Nat) (x : Int) (x0 : 0 ≤ x) (x1 : x < 18446744073709551616) (w : World) (hB : Bn < w.heap.size) (hc : w.cell? ⟨Bn, 0, none⟩ = some (.int .u64 x)) :
    SeqStopsK Fence.wide n Try.prog 70 #[.pointer (some ⟨Bn, 0, none⟩)] (fun b : Bool => #[Value.bool b]) (fun _ _ => True) (fun ys => (bval ys : Int) = x) (fun _ => True) 64 w := fun l J Jx W hW _ _ hY h0 =>
  bits_in n hn l Bn x x0 x1 J Jx hY W ((hW.cell (p := ⟨Bn, 0, none⟩) hB).trans hc) h0

set_option maxHeartbeats 1000000 in
theorem bitsOf_in (n : Nat) (x : Int) (w : World) :
    CallsIn Fence.wide n Try.prog 61 #[.int .u64 x] w fun e w' => e = .returned (.func (.func 70) #[] #[.pointer (some ⟨w.heap.size, 0, none⟩)]) ∧ w' = w.alloc (.cells #[.int .u64 x] 23) := by
  refine callsIn_of_wp Try.func61 rfl trivial ?_ rfl
  simp only [Try.ntmps61, List.size_toArray, List.length_cons, List.length_nil, Nat.reduceAdd, Nat.reduceSub, Array.replicate_succ, Array.replicate_zero, List.push_toArray, List.append_toArray, List.nil_append, List.cons_append]
  gi_wp2
  go_ret
  exact ⟨rfl, rfl⟩
end Go.Proofs.Ytippfhlljlfcnaa
