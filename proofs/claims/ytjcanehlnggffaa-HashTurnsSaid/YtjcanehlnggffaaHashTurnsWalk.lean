/- The walk of the law HashTurns. -/
import Derived.Test.YtjcanehlnggffaaHashUndone
import Derived.RegionTactic
import Derived.Deep.Cut
namespace Go.Proofs.Ytjcanehlnggffaa
open Go.ChangeShapes Go.WideShapes Go.ChangeAt Go.RowKit Gs
set_option linter.unusedVariables false

set_option maxHeartbeats 4000000 in
theorem turns_walk (a b c : Int) [IsU a] [IsU b] [IsU c] (w : World) :
    Calls Try.prog 7 #[.agg #[.int .u64 a, .int .u64 b, .int .u64 c]] w fun e w' => e = .returned (.bool true) ∧ Below w.heap.size w w' := by
  have a0 : 0 ≤ a := IsU.lo
  have b0 : 0 ≤ b := IsU.lo
  have c0' : 0 ≤ c := IsU.lo
  have n3 := eq3_same
  have x0 := (hmix_el (a, b, c)).1.2
  have x1 := (hmix_el (a, b, c)).2.1.2
  have x2 := (hmix_el (a, b, c)).2.2.2
  unfold PP at x0 x1 x2
  go_enter Try.func7, Try.ntmps7
  go_wp2_with fail
  refine (live_any _).mono ?_
  rintro e w1 ⟨rfl, hb1⟩
  have Q := Lib.hid ((Blk.new_at w 23 #[.int .u64 a, .int .u64 b, .int .u64 c] rfl).below hb1 (by simp))
  have HB := Lib.hid (((Below.refl _ _).alloc (Nat.le_refl _) _).trans (hb1.mono (by simp)))
  obtain ⟨⟨c0, c1, c2⟩, _, _⟩ := Q.out.facts3
  clear hb1
  go_wp2_with fail
  refine (Mix_any _ _ _ _).mono ?_
  rintro e w2 ⟨rfl, hb2⟩
  have Q2 := Lib.hid (Q.out.below hb2 Q.out.lt)
  have HB2 := Lib.hid (HB.out.trans (hb2.mono HB.out.size))
  clear hb2 c0 c1 c2
  go_upto_region 5 with (fail)
  refine wp_named (fun W => Blk W w2.heap.size 23 #[.int .u64 (hmix (a, b, c)).1, .int .u64 (hmix (a, b, c)).2.1, .int .u64 (hmix (a, b, c)).2.2] ∧ Blk W w.heap.size 23 #[.int .u64 a, .int .u64 b, .int .u64 c] ∧ Below w.heap.size w W) ⟨Blk.new_at _ _ _ rfl, Q2.out.alloc _, HB2.out.alloc HB2.out.size _⟩ ?_
  rintro w3 ⟨p2, p0, pB⟩
  obtain ⟨⟨c0, c1, c2⟩, _, _⟩ := p2.facts3
  have P2 := Lib.hid p2
  have P0 := Lib.hid p0
  have PB := Lib.hid pB
  have lt3 := p2.lt
  have lt0 := Q2.out.lt
  clear p2 p0 pB
  go_wp2_with fail
  go_loopw [6] (fun i wr => ∃ m : Nat, m ≤ 8 ∧ i = .int .i64 ((m : Int) - 1) ∧ Blk wr w3.heap.size 23 #[.int .u64 (bkst (a, b, c) m).1, .int .u64 (bkst (a, b, c) m).2.1, .int .u64 (bkst (a, b, c) m).2.2] ∧ Blk wr w2.heap.size 23 #[.int .u64 (hmix (a, b, c)).1, .int .u64 (hmix (a, b, c)).2.1, .int .u64 (hmix (a, b, c)).2.2] ∧ Blk wr w.heap.size 23 #[.int .u64 a, .int .u64 b, .int .u64 c] ∧ Below w.heap.size w wr) (fun i _ => (intOf i + 1).toNat)
  case atStart => exact ⟨8, by omega, rfl, Blk.new_at _ _ _ rfl, P2.out.alloc _, P0.out.alloc _, PB.out.alloc PB.out.size _⟩
  case round =>
    obtain ⟨m, hm, rfl, k3, k2, k0, kB⟩ := hrel
    have K2 := Lib.hid k2
    have K3 := Lib.hid k3
    have K0 := Lib.hid k0
    have KB' := Lib.hid kB
    have ltk := k3.lt
    have hU := (bkst_el (a, b, c) m).u3
    clear c0 c1 c2
    obtain ⟨⟨c0, c1, c2⟩, f0, f1, f2⟩ := k3.facts3
    clear k3 k2 k0 kB
    by_cases hlt : 0 < m
    · obtain ⟨r, rfl⟩ : ∃ r, m = r + 1 := ⟨m - 1, by omega⟩
      haveI := IsU.of hU.1
      haveI := IsU.of hU.2.1
      haveI := IsU.of hU.2.2
      have HS := Lib.hid (bkst_step (a, b, c) r)
      rw [show ((r + 1 : Nat) : Int) - 1 = (r : Int) by omega]
      clear hU
      go_wp2_with fail
      refine Calls.mono (undone_any r (by omega) _ _ _ _) ?_
      rintro e w5 ⟨rfl, hb5⟩
      have HS' : Hid (und r ((bkst (a, b, c) (r + 1)).1, (bkst (a, b, c) (r + 1)).2.1, (bkst (a, b, c) (r + 1)).2.2) = bkst (a, b, c) r) := HS.out
      rw [HS'.out]
      have N3 := K3.out.below hb5 K3.out.lt
      have HN := Lib.hid (And.intro N3 (And.intro (K2.out.below hb5 K2.out.lt) (And.intro (K0.out.below hb5 K0.out.lt) (KB'.out.trans (hb5.mono KB'.out.size)))))
      clear hb5 c0 c1 c2 f0 f1 f2
      obtain ⟨⟨c0, c1, c2⟩, f0, f1, f2⟩ := N3.facts3
      clear N3
      go_wp2_with fail
      go_roundw
      case rel => exact ⟨r, by omega, by go_num, HN.out.1.set3, ((HN.out.2.1.other (by first | omega | (simp; done) | (simp; omega)) _).other (by first | omega | (simp; done) | (simp; omega)) _).other (by first | omega | (simp; done) | (simp; omega)) _, ((HN.out.2.2.1.other (by first | omega | (simp; done) | (simp; omega)) _).other (by first | omega | (simp; done) | (simp; omega)) _).other (by first | omega | (simp; done) | (simp; omega)) _, ((HN.out.2.2.2.setCell (by first | omega | (simp; done) | (simp; omega)) _).setCell (by first | omega | (simp; done) | (simp; omega)) _).setCell (by first | omega | (simp; done) | (simp; omega)) _⟩
      case measure => simp [intOf]
    · obtain rfl : m = 0 := by omega
      have HZ := Lib.hid (bkst_zero (a, b, c))
      rw [HZ.out] at c0 c1 c2
      obtain ⟨⟨d0, d1, d2⟩, _, _⟩ := K0.out.facts3
      have HRED : Hid (red3 (a, b, c) = (a % 2305843009213693951, b % 2305843009213693951, c % 2305843009213693951)) := rfl
      rw [HZ.out, HRED.out] at K3
      clear hU f0 f1 f2 c0 c1 c2
      go_upto_region 11 with (fail)
      refine wp_named (fun W => Blk W wr.heap.size 23 #[.int .u64 (a % 2305843009213693951), .int .u64 (b % 2305843009213693951), .int .u64 (c % 2305843009213693951)] ∧ Blk W w3.heap.size 23 #[.int .u64 (a % 2305843009213693951), .int .u64 (b % 2305843009213693951), .int .u64 (c % 2305843009213693951)] ∧ Blk W w2.heap.size 23 #[.int .u64 (hmix (a, b, c)).1, .int .u64 (hmix (a, b, c)).2.1, .int .u64 (hmix (a, b, c)).2.2] ∧ Below w.heap.size w W) ⟨Blk.new_at _ _ _ rfl, K3.out.alloc _, K2.out.alloc _, KB'.out.alloc KB'.out.size _⟩ ?_
      rintro w5 ⟨j1, j2, j3, jB⟩
      obtain ⟨⟨c0, c1, c2⟩, _, _⟩ := j1.facts3
      obtain ⟨⟨e0, e1, e2⟩, _, _⟩ := j2.facts3
      obtain ⟨⟨f0, f1, f2⟩, _, _⟩ := j3.facts3
      have JB := Lib.hid jB
      clear j1 j2 j3 jB d0 d1 d2
      go_wp2_with fail
      go_ret
      exact ⟨rfl, JB.out⟩
end Go.Proofs.Ytjcanehlnggffaa
