/- The walk of the law QuorumCommits. -/
import Derived.Test.YtlannmedefjfhaaGreatQuorumR4
import Derived.Test.YtlannmedefjfhaaGreatQuorumX
namespace Go.Proofs.YtlannmedefjfhaaGreat
open Go.ChangeShapes Go.WideShapes Go.ChangeAt Go.RowKit Gs
set_option linter.unusedVariables false

/-- Both answers side by side. -/
theorem commit_both (x : Int × Int) (n : Int) [IsU x.2] (A : Option Addr) (c : Nat) (ms : List Int) (hm : ByFix c ms) : ∃ (y : Int × Int) (e : Int),
    (∀ w, SI w w.heap.size .u8 A ms → Calls Tryz.prog 20 #[.agg #[.int .i64 x.1, .int .u64 x.2], .int .i64 n, .slice A ms.length c] w fun r w' => r = .returned (.tuple #[.agg #[.int .i64 y.1, .int .u64 y.2], .int .i64 e]) ∧ Below w.heap.size w w') ∧
    (∀ w, SI w w.heap.size .u8 A ms → Calls Tryz.prog 21 #[.agg #[.int .i64 x.1, .int .u64 x.2], .int .i64 n, .slice A ms.length c] w fun r w' => r = .returned (.tuple #[.agg #[.int .i64 y.1, .int .u64 y.2], .int .i64 e]) ∧ Below w.heap.size w w') := by
  by_cases h : SignerOk x n
  · exact ⟨qcom x n ms, 0, fun w hs => Commit_ok x n h A c ms hm w hs, fun w hs => Commit6_ok x n h A c ms hm w hs⟩
  · exact ⟨(0, 0), 1, fun w _ => Commit_no x n h A ms.length c w, fun w _ => Commit6_no x n h A ms.length c w⟩

set_option maxRecDepth 100000 in
set_option maxHeartbeats 4000000 in
theorem commits_walk6 (x : Int × Int) [IsU x.2] (n : Int) (A2 : Option Addr) (c2 : Nat) (xs2 : List Int) (w : World) (hs2 : SI w w.heap.size .u8 A2 xs2) (hl2 : xs2.length ≤ c2) (hm2 : c2 ≤ maxLen) (hx2 : ∀ n ∈ xs2, (Lit.int .u8 n).wf = true) :
    Calls Tryz.prog 4 #[.agg #[.int .i64 x.1, .int .u64 x.2], .int .i64 n, .slice A2 xs2.length c2] w fun e w' => e = .returned (.bool true) ∧ Below w.heap.size w w' := by
  have D0 := Lib.hid ((Below.refl w.heap.size w).alloc (Nat.le_refl _) (.cells #[.int .i64 x.1, .int .u64 x.2] 37))
  have KC := Lib.hid (Blk.new w 37 #[.int .i64 x.1, .int .u64 x.2])
  have S2 := Lib.hid hs2
  by_cases hl : xs2.length ≤ 200
  · have q1 : decide (200 < (xs2.length : Int)) = false := decide_eq_false (by omega)
    obtain ⟨y, e, h1, h2⟩ := commit_both x n A2 c2 xs2 ⟨by omega, hl2, hm2, fun n hn => u8_wf (hx2 n hn)⟩
    have P1 := Lib.hid h1
    have P2 := Lib.hid h2
    have b1 : (y.1 == y.1) = true := by simp
    have b2 : (y.2 == y.2) = true := by simp
    have b3 : (e == e) = true := by simp
    clear hs2 hx2 h1 h2
    go_enter Tryz.func4, Tryz.ntmps4
    go_wp2_with fail
    refine (live6 _).mono ?_; rintro _ w1 ⟨rfl, b⟩
    have B1 := Lib.hid (below_on D0.out b)
    have kc := KC.out.below b KC.out.lt
    have KC1 := Lib.hid kc
    have k0 := kc.cell 0
    have k1 := kc.cell 1
    clear b kc KC D0
    go_wp2_with fail
    refine (P1.out _ (S2.out.on B1.out)).mono ?_; rintro _ w2 ⟨rfl, b⟩
    have b' := b.alloc b.size (.cells #[.int .i64 y.1, .int .u64 y.2] 37)
    have B2 := Lib.hid (below_on B1.out b')
    have kc := KC1.out.below b' KC1.out.lt
    have KY := Lib.hid (Blk.new w2 37 #[.int .i64 y.1, .int .u64 y.2])
    clear k0 k1 b
    have k0 := kc.cell 0
    have k1 := kc.cell 1
    clear kc b'
    go_wp2_with fail
    refine (P2.out _ (S2.out.on B2.out)).mono ?_; rintro _ w3 ⟨rfl, b⟩
    have b' := b.alloc b.size (.cells #[.int .i64 y.1, .int .u64 y.2] 37)
    have B3 := Lib.hid (below_on B2.out b')
    have ky := KY.out.below b' KY.out.lt
    have s0 := ky.cell 0
    have s1 := ky.cell 1
    have kz := Blk.new w3 37 #[.int .i64 y.1, .int .u64 y.2]
    have t0 := kz.cell 0
    have t1 := kz.cell 1
    have hlt := KY.out.lt
    have hlz := b.size
    clear k0 k1 b b' ky kz
    go_wp2_with fail
    go_ret
    exact ⟨rfl, B3.out⟩
  · have q1 : decide (200 < (xs2.length : Int)) = true := decide_eq_true (by omega)
    clear hs2 hx2
    go_enter Tryz.func4, Tryz.ntmps4
    go_wp2_with fail
    refine (live6 _).mono ?_; rintro _ w1 ⟨rfl, b⟩
    have B1 := Lib.hid (below_on D0.out b)
    clear b
    go_wp2_with fail
    go_ret
    exact ⟨rfl, B1.out⟩
end Go.Proofs.YtlannmedefjfhaaGreat
