/- The walk of the law HashReaches. -/
import Derived.Test.YtjcanehlnggffaaHashUndone
import Derived.RegionTactic
import Derived.Deep.Cut
import Derived.Deep.RegionHeld3
import Derived.Deep.DrawnRows
namespace Go.Proofs.Ytjcanehlnggffaa
open Go.ChangeShapes Go.WideShapes Go.ChangeAt Go.RowKit Gs
set_option linter.unusedVariables false
attribute [local go_sem ↓] Go.wp_at_zero Go.wp_at_succ

set_option maxHeartbeats 4000000 in
theorem reaches_walk (a b c : Int) [IsU a] [IsU b] [IsU c] (w : World) :
    Calls Try.prog 8 #[.agg #[.int .u64 a, .int .u64 b, .int .u64 c]] w fun e w' => e = .returned (.bool true) ∧ Below w.heap.size w w' := by
  have a0 : 0 ≤ a := IsU.lo
  have b0 : 0 ≤ b := IsU.lo
  have c0' : 0 ≤ c := IsU.lo
  have n3 := eq3_same
  have HU := Lib.hid (dn_u (a, b, c) ⟨⟨IsU.lo, IsU.hi⟩, ⟨IsU.lo, IsU.hi⟩, ⟨IsU.lo, IsU.hi⟩⟩)
  go_enter Try.func8, Try.ntmps8
  go_wp2_with fail
  refine (live_any _).mono ?_
  rintro e w1 ⟨rfl, hb1⟩
  have Q := Lib.hid ((Blk.new_at w 23 #[.int .u64 a, .int .u64 b, .int .u64 c] rfl).below hb1 (by simp))
  have HB := Lib.hid (((Below.refl _ _).alloc (Nat.le_refl _) _).trans (hb1.mono (by simp)))
  obtain ⟨⟨c0, c1, c2⟩, _, _⟩ := Q.out.facts3
  have lt0 := Q.out.lt
  clear hb1
  go_wp2_with fail
  go_loopw [5] (fun i wr => ∃ j : Nat, j ≤ 8 ∧ i = .int .i64 (7 - (j : Int)) ∧ Blk wr w1.heap.size 23 #[.int .u64 (dn (a, b, c) j).1, .int .u64 (dn (a, b, c) j).2.1, .int .u64 (dn (a, b, c) j).2.2] ∧ Blk wr w.heap.size 23 #[.int .u64 a, .int .u64 b, .int .u64 c] ∧ Below w.heap.size w wr) (fun i _ => (intOf i + 1).toNat)
  case atStart => exact ⟨0, by omega, rfl, Blk.new_at _ _ _ rfl, Q.out.alloc _, HB.out.alloc HB.out.size _⟩
  case round =>
    obtain ⟨j, hj, rfl, k3, k0, kB⟩ := hrel
    have K3 := Lib.hid k3
    have K0 := Lib.hid k0
    have KB' := Lib.hid kB
    have ltk := k3.lt
    have hU := HU.out j
    clear c0 c1 c2
    obtain ⟨⟨c0, c1, c2⟩, f0, f1, f2⟩ := k3.facts3
    clear k3 k0 kB
    by_cases hlt : j < 8
    · obtain ⟨r, hr⟩ : ∃ r, r = 7 - j := ⟨_, rfl⟩
      haveI := IsU.of hU.1
      haveI := IsU.of hU.2.1
      haveI := IsU.of hU.2.2
      have HS : Hid (und r ((dn (a, b, c) j).1, (dn (a, b, c) j).2.1, (dn (a, b, c) j).2.2) = dn (a, b, c) (j + 1)) := by rw [hr]; rfl
      have hr8 : r < 8 := by omega
      have HR := Lib.hid (show (7 : Int) - ((j + 1 : Nat) : Int) = (r : Int) - 1 by omega)
      rw [show (7 : Int) - (j : Int) = (r : Int) by omega]
      clear hU hr
      go_wp2_with fail
      refine Calls.mono (undone_any r hr8 _ _ _ _) ?_
      rintro e w5 ⟨rfl, hb5⟩
      rw [HS.out]
      have N3 := K3.out.below hb5 K3.out.lt
      have HN := Lib.hid (And.intro N3 (And.intro (K0.out.below hb5 K0.out.lt) (KB'.out.trans (hb5.mono KB'.out.size))))
      clear hb5 c0 c1 c2 f0 f1 f2
      obtain ⟨⟨c0, c1, c2⟩, f0, f1, f2⟩ := N3.facts3
      clear N3
      go_wp2_with fail
      go_roundw
      case rel => exact ⟨j + 1, by omega, by rw [HR.out], HN.out.1.set3, ((HN.out.2.1.other (by first | omega | (simp; done) | (simp; omega)) _).other (by first | omega | (simp; done) | (simp; omega)) _).other (by first | omega | (simp; done) | (simp; omega)) _, ((HN.out.2.2.setCell (by first | omega | (simp; done) | (simp; omega)) _).setCell (by first | omega | (simp; done) | (simp; omega)) _).setCell (by first | omega | (simp; done) | (simp; omega)) _⟩
      case measure => simp [intOf]
    · obtain rfl : j = 8 := by omega
      haveI := IsU.of hU.1
      haveI := IsU.of hU.2.1
      haveI := IsU.of hU.2.2
      obtain ⟨⟨d0, d1, d2⟩, _, _⟩ := K0.out.facts3
      have HD : Hid (hmix ((dn (a, b, c) 8).1, (dn (a, b, c) 8).2.1, (dn (a, b, c) 8).2.2) = (a % 2305843009213693951, b % 2305843009213693951, c % 2305843009213693951)) := hmix_dn (a, b, c)
      clear hU f0 f1 f2 c0 c1 c2
      go_upto_region 10 with (fail)
      refine wp_named (fun W => Blk W wr.heap.size 23 #[.int .u64 (a % 2305843009213693951), .int .u64 (b % 2305843009213693951), .int .u64 (c % 2305843009213693951)] ∧ Blk W w1.heap.size 23 #[.int .u64 (dn (a, b, c) 8).1, .int .u64 (dn (a, b, c) 8).2.1, .int .u64 (dn (a, b, c) 8).2.2] ∧ Below w.heap.size w W) ⟨Blk.new_at _ _ _ rfl, K3.out.alloc _, KB'.out.alloc KB'.out.size _⟩ ?_
      rintro w5 ⟨j1, j2, jB⟩
      have lt1 := j1.lt
      have lt2 := j2.lt
      obtain ⟨⟨c0, c1, c2⟩, _, _⟩ := j1.facts3
      obtain ⟨⟨e0, e1, e2⟩, _, _⟩ := j2.facts3
      have JB := Lib.hid jB
      have hd : w5.heap.size ≤ w5.drew.heap.size := Nat.le_refl _
      clear j1 j2 jB d0 d1 d2
      go_region_held3 (fun w' => w'.cell? ⟨w1.heap.size, 0, none⟩ = some (.int .u64 (dn (a, b, c) 8).1) ∧ w'.cell? ⟨w1.heap.size, 1, none⟩ = some (.int .u64 (dn (a, b, c) 8).2.1) ∧ w'.cell? ⟨w1.heap.size, 2, none⟩ = some (.int .u64 (dn (a, b, c) 8).2.2) ∧ w'.cell? ⟨wr.heap.size, 0, none⟩ = some (.int .u64 (a % 2305843009213693951)) ∧ w'.cell? ⟨wr.heap.size, 1, none⟩ = some (.int .u64 (b % 2305843009213693951)) ∧ w'.cell? ⟨wr.heap.size, 2, none⟩ = some (.int .u64 (c % 2305843009213693951))) (first | exact ⟨by assumption, by assumption, by assumption, by assumption, by assumption, by assumption⟩ | go_keep)
        ((go_at_call 14; refine (Mix_any _ _ _ _).mono ?_; rintro e w6 ⟨rfl, hb⟩; have hW := (Below.refl w5.heap.size w5).drew.trans (hb.mono (by omega)); have k0 := (hW.cell (p := ⟨w1.heap.size, 0, none⟩) lt2).trans e0; have k1 := (hW.cell (p := ⟨w1.heap.size, 1, none⟩) lt2).trans e1; have k2 := (hW.cell (p := ⟨w1.heap.size, 2, none⟩) lt2).trans e2; have k3 := (hW.cell (p := ⟨wr.heap.size, 0, none⟩) lt1).trans c0; have k4 := (hW.cell (p := ⟨wr.heap.size, 1, none⟩) lt1).trans c1; have k5 := (hW.cell (p := ⟨wr.heap.size, 2, none⟩) lt1).trans c2; rw [HD.out]))
      all_goals
        go_wp2_with fail
        go_ret
        exact ⟨rfl, JB.out.trans (hW.mono JB.out.size)⟩
end Go.Proofs.Ytjcanehlnggffaa
