/- The walk of the law FieldReads. -/
import Derived.Test.YthdcimbdahjjbaaFieldD
namespace Go.Proofs.Ythdcimbdahjjbaa
open Go.ChangeShapes Go.WideShapes Go.ChangeAt Go.RowKit Gs
set_option linter.unusedVariables false

set_option maxHeartbeats 1000000 in
theorem reads_walk (A A' : Option Addr) (c c' : Nat) (xs ys : List Int) (x : Int) [IsU x] (w : World) (hs : SI w w.heap.size .u8 A xs) (hs' : SI w w.heap.size .u64 A' ys)
    (hc : xs.length ≤ c) (hcm : c ≤ maxLen) (hcm' : c' ≤ maxLen) (hc' : ys.length ≤ c') (hx : ∀ n ∈ xs, (Lit.int .u8 n).wf = true) (hy : ∀ n ∈ ys, (Lit.int .u64 n).wf = true) :
    Calls Try.prog 5 #[.slice A xs.length c, .slice A' ys.length c', .int .u64 x] w fun e w' => e = .returned (.bool true) ∧ Below w.heap.size w w' := by
  have HS := Lib.hid hs
  have HS' := Lib.hid hs'
  have HX := Lib.hid (fun n hn => u8_wf (hx n hn))
  have HY := Lib.hid (fun n hn => u64_wf (hy n hn))
  unfold maxLen at hcm hcm'
  clear hs hs' hx hy
  by_cases hg : 2000 < xs.length ∨ 100 < ys.length
  · have hgg : xs.length ≤ 2000 → 100 < ys.length := by omega
    rcases Nat.lt_or_ge 2000 xs.length with h1 | h1
    · clear hg hgg
      go_enter Try.func5, Try.ntmps5
      go_wp2_with fail
      refine (live_any _).mono ?_
      rintro e w1 ⟨rfl, hb⟩
      have HB := Lib.hid hb
      clear hb
      go_wp2_with fail
      go_ret
      exact ⟨rfl, HB.out⟩
    · have h2 := hgg h1
      clear hg hgg
      go_enter Try.func5, Try.ntmps5
      go_wp2_with fail
      refine (live_any _).mono ?_
      rintro e w1 ⟨rfl, hb⟩
      have HB := Lib.hid hb
      clear hb
      go_wp2_with fail
      go_ret
      exact ⟨rfl, HB.out⟩
  · have h1 : xs.length ≤ 2000 := by omega
    have h2 : ys.length ≤ 100 := by omega
    clear hg
    go_enter Try.func5, Try.ntmps5
    go_wp2_with fail
    refine (live_any _).mono ?_
    rintro e w1 ⟨rfl, hb1⟩
    have HB1 := Lib.hid hb1
    clear hb1
    go_wp2_with fail
    refine (Of_any A c xs HX.out (by omega) hc _ (HS.out.on HB1.out)).mono ?_
    rintro e w2 ⟨v2, rfl, hown, hb2⟩
    have HB2 := Lib.hid (HB1.out.trans (hb2.mono HB1.out.size))
    have HB2' := Lib.hid hb2
    obtain ⟨A2, c2, rfl, hl2, hm2, hs2⟩ := own_slice hown
    have HS2 := Lib.hid hs2
    clear hown hb2 hs2 hl2 hm2
    go_wp2_with fail
    refine (refOf_any A c xs HX.out (by omega) _ (HS.out.on HB2.out)).mono ?_
    rintro e w3 ⟨v3, rfl, hown, hb3⟩
    have HB3 := Lib.hid (HB2.out.trans (hb3.mono HB2.out.size))
    have HB3' := Lib.hid hb3
    obtain ⟨A3, c3, rfl, hl3, hm3, hs3⟩ := own_slice hown
    have HS3 := Lib.hid hs3
    clear hown hb3 hs3 hl3 hm3
    go_wp2_with fail
    refine (Same_yes A2 A3 c2 c3 (fof xs) w3.heap.size _ (by rw [fof_length]; omega) (HS2.out.on HB3'.out) HS3.out).mono ?_
    rintro e w4 ⟨rfl, n4, rfl⟩
    go_wp2_with fail
    refine (Eval_any A' c' ys x HY.out IsU.lo IsU.hi (by omega) _ _ (HS'.out.on (below_drewN HB3.out n4))).mono ?_
    rintro e w5 ⟨rfl, n5, rfl⟩
    go_wp2_with fail
    refine (refEval_any A' c' ys x HY.out IsU.lo IsU.hi (by omega) _ _ (HS'.out.on (below_drewN HB3.out _))).mono ?_
    rintro e w6 ⟨rfl, rfl⟩
    go_wp2_with fail
    go_ret
    exact ⟨rfl, below_drewN HB3.out _⟩
end Go.Proofs.Ythdcimbdahjjbaa
