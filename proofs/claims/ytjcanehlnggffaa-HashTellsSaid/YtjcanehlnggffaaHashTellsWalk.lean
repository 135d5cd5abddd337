/- The walk of the law HashTells. -/
import Derived.Test.YtjcanehlnggffaaHashLive
import Derived.Test.YtjcanehlnggffaaHashS
import Derived.RegionTactic
import Derived.Deep.RegionHeldLaw
import Derived.Deep.DrawnRows
import Derived.Deep.Cut
namespace Go.Proofs.Ytjcanehlnggffaa
open Go.ChangeShapes Go.WideShapes Go.ChangeAt Go.RowKit Gs
set_option linter.unusedVariables false

set_option maxHeartbeats 4000000 in
theorem tells_walk (a b : Int) [IsU a] [IsU b] (A : Option Addr) (c : Nat) (xs : List Int) (m : Int) [IsU m] (w : World) (hs : SI w w.heap.size .u8 A xs) (hc : xs.length ≤ c) (hm : c ≤ maxLen) (hx : ∀ n ∈ xs, (Lit.int .u8 n).wf = true) :
    Calls Try.prog 6 #[.agg #[.int .u64 a, .int .u64 b], .slice A xs.length c, .int .u64 m] w fun e w' => e = .returned (.bool true) ∧ Below w.heap.size w w' := by
  have HS := Lib.hid hs
  have HX := Lib.hid (fun n hn => u8_wf (hx n hn))
  have n2 := eq2_same
  unfold maxLen at hm
  clear hs hx
  by_cases h1 : xs.length ≤ 400
  · go_enter Try.func6, Try.ntmps6
    go_wp2_with fail
    refine (live_any _).mono ?_
    rintro e w1 ⟨rfl, hb1⟩
    have Q0 := Lib.hid ((Blk.new_at w 29 #[.int .u64 a, .int .u64 b] rfl).below hb1 (by simp))
    have B1 := Lib.hid (((Below.refl _ _).alloc (Nat.le_refl _) _).trans (hb1.mono (by simp)))
    clear hb1
    go_wp2_with fail
    refine (hOf_all A c xs HX.out hc _ (HS.out.on B1.out)).mono ?_
    rintro e w2 ⟨rfl, b2⟩
    have Q1 := Lib.hid ((Q0.out.below b2 Q0.out.lt))
    have B2 := Lib.hid (B1.out.trans (b2.mono B1.out.size))
    clear b2
    go_upto_region 7 with (fail)
    refine wp_named (fun W => Blk W w2.heap.size 29 #[.int .u64 (hofA xs).1, .int .u64 (hofA xs).2] ∧ Blk W w.heap.size 29 #[.int .u64 a, .int .u64 b] ∧ Below w.heap.size w W) ⟨Blk.new_at w2 _ _ rfl, Q1.out.alloc _, B2.out.alloc B2.out.size _⟩ ?_
    rintro W2 ⟨q2, q0, d2⟩
    have D2 := Lib.hid d2
    have P2 := Lib.hid q2
    have P0 := Lib.hid q0
    clear d2 q2 q0
    go_wp2_with fail
    refine (refOfB_all A c xs HX.out hc _ (HS.out.on D2.out)).mono ?_
    rintro e w3 ⟨rfl, b3⟩
    have P23 := Lib.hid (P2.out.below b3 P2.out.lt)
    have P03 := Lib.hid (P0.out.below b3 P0.out.lt)
    have B3 := Lib.hid (D2.out.trans (b3.mono D2.out.size))
    clear b3
    go_upto_region 8 with (fail)
    refine wp_named (fun W => Blk W w3.heap.size 29 #[.int .u64 (hofA xs).1, .int .u64 (hofA xs).2] ∧ Blk W w2.heap.size 29 #[.int .u64 (hofA xs).1, .int .u64 (hofA xs).2] ∧ Blk W w.heap.size 29 #[.int .u64 a, .int .u64 b] ∧ Below w.heap.size w W) ⟨Blk.new_at w3 _ _ rfl, P23.out.alloc _, P03.out.alloc _, B3.out.alloc B3.out.size _⟩ ?_
    rintro W3 ⟨q3, q2, q0, d3⟩
    obtain ⟨⟨c0, c1⟩, _, _⟩ := q0.facts2
    obtain ⟨⟨c2, c3⟩, _, _⟩ := q2.facts2
    obtain ⟨⟨c4, c5⟩, _, _⟩ := q3.facts2
    have l0 := q0.lt
    have l2 := q2.lt
    have l3 := q3.lt
    have D3 := Lib.hid d3
    clear d3 q3 q2 q0
    have hd : W3.heap.size ≤ W3.drew.heap.size := Nat.le_refl _
    go_region_held_law (fun w' => w'.cell? ⟨w.heap.size, 0, none⟩ = some (.int .u64 a) ∧ w'.cell? ⟨w.heap.size, 1, none⟩ = some (.int .u64 b) ∧ w'.cell? ⟨w2.heap.size, 0, none⟩ = some (.int .u64 (hofA xs).1) ∧ w'.cell? ⟨w2.heap.size, 1, none⟩ = some (.int .u64 (hofA xs).2) ∧ w'.cell? ⟨w3.heap.size, 0, none⟩ = some (.int .u64 (hofA xs).1) ∧ w'.cell? ⟨w3.heap.size, 1, none⟩ = some (.int .u64 (hofA xs).2)) (first | exact ⟨by assumption, by assumption, by assumption, by assumption, by assumption, by assumption⟩ | go_keep)
      (first
        | (go_at_call 25; refine (Bytes_b 0 a b _ (by omega)).mono ?_; rintro e w5 ⟨Ax, cx, rfl, hcx, hmx, sx, b5⟩; have hW := (Below.refl W3.heap.size W3).drew.trans (b5.mono (by omega)); have k0 := (hW.cell (p := ⟨w.heap.size, 0, none⟩) l0).trans c0; have k1 := (hW.cell (p := ⟨w.heap.size, 1, none⟩) l0).trans c1; have k2 := (hW.cell (p := ⟨w2.heap.size, 0, none⟩) l2).trans c2; have k3 := (hW.cell (p := ⟨w2.heap.size, 1, none⟩) l2).trans c3; have k4 := (hW.cell (p := ⟨w3.heap.size, 0, none⟩) l3).trans c4; have k5 := (hW.cell (p := ⟨w3.heap.size, 1, none⟩) l3).trans c5; have cv := conv_si (c := cx) (n := 16) (by simp [be_length]) sx)
        | (go_at_call 26; refine (refBytes_b 0 a b _ (by omega)).mono ?_; rintro e w5 ⟨Ay, cy, rfl, hcy, hmy, sy, b5⟩; have hV := b5; have hW := hW.trans (b5.mono hW.size); have k0 := (hW.cell (p := ⟨w.heap.size, 0, none⟩) l0).trans c0; have k1 := (hW.cell (p := ⟨w.heap.size, 1, none⟩) l0).trans c1; have k2 := (hW.cell (p := ⟨w2.heap.size, 0, none⟩) l2).trans c2; have k3 := (hW.cell (p := ⟨w2.heap.size, 1, none⟩) l2).trans c3; have k4 := (hW.cell (p := ⟨w3.heap.size, 0, none⟩) l3).trans c4; have k5 := (hW.cell (p := ⟨w3.heap.size, 1, none⟩) l3).trans c5; have cv := conv_si (c := cx) (n := 16) (by simp [be_length]) (sx.on b5); have cw := conv_si (c := cy) (n := 16) (by simp [be_length]) sy)
        | (go_at_call 27; refine (Num_any a b m _).mono ?_; rintro e w5 ⟨rfl, b5⟩; have hW := hW.trans (b5.mono hW.size); have k0 := (hW.cell (p := ⟨w.heap.size, 0, none⟩) l0).trans c0; have k1 := (hW.cell (p := ⟨w.heap.size, 1, none⟩) l0).trans c1; have k2 := (hW.cell (p := ⟨w2.heap.size, 0, none⟩) l2).trans c2; have k3 := (hW.cell (p := ⟨w2.heap.size, 1, none⟩) l2).trans c3; have k4 := (hW.cell (p := ⟨w3.heap.size, 0, none⟩) l3).trans c4; have k5 := (hW.cell (p := ⟨w3.heap.size, 1, none⟩) l3).trans c5)
        | (go_at_call 28; refine (refNum_any a b m _).mono ?_; rintro e w5 ⟨rfl, b5⟩; have hW := hW.trans (b5.mono hW.size); have k0 := (hW.cell (p := ⟨w.heap.size, 0, none⟩) l0).trans c0; have k1 := (hW.cell (p := ⟨w.heap.size, 1, none⟩) l0).trans c1; have k2 := (hW.cell (p := ⟨w2.heap.size, 0, none⟩) l2).trans c2; have k3 := (hW.cell (p := ⟨w2.heap.size, 1, none⟩) l2).trans c3; have k4 := (hW.cell (p := ⟨w3.heap.size, 0, none⟩) l3).trans c4; have k5 := (hW.cell (p := ⟨w3.heap.size, 1, none⟩) l3).trans c5))
    all_goals
      go_wp2_with fail
      go_ret
      exact ⟨rfl, D3.out.trans (hW.mono D3.out.size)⟩
  · go_enter Try.func6, Try.ntmps6
    go_wp2_with fail
    refine (live_any _).mono ?_
    rintro e w1 ⟨rfl, hb1⟩
    have B1 := Lib.hid (((Below.refl _ _).alloc (Nat.le_refl _) _).trans (hb1.mono (by simp)))
    clear hb1
    go_wp2_with fail
    go_ret
    exact ⟨rfl, B1.out⟩
end Go.Proofs.Ytjcanehlnggffaa
