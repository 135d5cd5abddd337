/- The walk of the law HashMixes. -/
import Derived.Test.YtjcanehlnggffaaHashLive
import Derived.RegionTactic
import Derived.Deep.RegionHeld3
import Derived.Deep.DrawnRows
namespace Go.Proofs.Ytjcanehlnggffaa
open Go.ChangeShapes Go.WideShapes Go.ChangeAt Go.RowKit Gs
set_option linter.unusedVariables false
attribute [local go_sem ↓] Go.wp_at_zero Go.wp_at_succ

set_option maxHeartbeats 2000000 in
theorem mixes_walk (a b c : Int) [IsU a] [IsU b] [IsU c] (w : World) :
    Calls Try.prog 3 #[.agg #[.int .u64 a, .int .u64 b, .int .u64 c]] w fun e w' => e = .returned (.bool true) ∧ Below w.heap.size w w' := by
  have n3 := eq3_same
  go_enter Try.func3, Try.ntmps3
  go_wp2_with fail
  refine (live_any _).mono ?_
  rintro e w1 ⟨rfl, hb1⟩
  have Q := Lib.hid ((Blk.new_at w 23 #[.int .u64 a, .int .u64 b, .int .u64 c] rfl).below hb1 (by simp))
  have HB := Lib.hid (((Below.refl _ _).alloc (Nat.le_refl _) _).trans (hb1.mono (by simp)))
  have lt1 := Q.out.lt
  obtain ⟨⟨c0, c1, c2⟩, _, _⟩ := Q.out.facts3
  have hd : w1.heap.size ≤ w1.drew.heap.size := Nat.le_refl _
  clear hb1
  go_wp2_with fail
  go_region_held3 (fun w' => w'.cell? ⟨w.heap.size, 0, none⟩ = some (.int .u64 a) ∧ w'.cell? ⟨w.heap.size, 1, none⟩ = some (.int .u64 b) ∧ w'.cell? ⟨w.heap.size, 2, none⟩ = some (.int .u64 c)) (first | exact ⟨by assumption, by assumption, by assumption⟩ | go_keep)
    (first
      | (go_at_call 14; refine (Mix_any _ _ _ _).mono ?_; rintro e w2 ⟨rfl, hb⟩; have hW := (Below.refl w1.heap.size w1).drew.trans (hb.mono (by omega)); have k0 := (hW.cell (p := ⟨w.heap.size, 0, none⟩) lt1).trans c0; have k1 := (hW.cell (p := ⟨w.heap.size, 1, none⟩) lt1).trans c1; have k2 := (hW.cell (p := ⟨w.heap.size, 2, none⟩) lt1).trans c2)
      | (go_at_call 15; refine (refMix_any _ _ _ _).mono ?_; rintro e w3 ⟨rfl, hb⟩; have hW := hW.trans (hb.mono hW.size); have k0 := (hW.cell (p := ⟨w.heap.size, 0, none⟩) lt1).trans c0; have k1 := (hW.cell (p := ⟨w.heap.size, 1, none⟩) lt1).trans c1; have k2 := (hW.cell (p := ⟨w.heap.size, 2, none⟩) lt1).trans c2))
  all_goals
    go_wp2_with fail
    go_ret
    exact ⟨rfl, HB.out.trans (hW.mono HB.out.size)⟩
end Go.Proofs.Ytjcanehlnggffaa
