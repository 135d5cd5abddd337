/- The walk of the law SignSigns. -/
import Derived.Test.YtippfhlljlfcnaaSignLive
namespace Go.Proofs.Ytippfhlljlfcnaa
open Go.ChangeShapes Go.WideShapes Go.ChangeAt Go.RowKit Gs
set_option linter.unusedVariables false

set_option maxHeartbeats 4000000 in
theorem signs_walk (s p : Int) [IsU s] [IsU p] (A : Option Addr) (c : Nat) (xs : List Int) (e t : Int) [IsU e] [IsU t] (w : World) (hs : SI w w.heap.size .u8 A xs) (hc : xs.length ≤ c) (hm : c ≤ maxLen) (hx : ∀ n ∈ xs, (Lit.int .u8 n).wf = true) :
    Calls Try.prog 4 #[.int .u64 s, .int .u64 p, .slice A xs.length c, .agg #[.int .u64 e, .int .u64 t]] w fun e w' => e = .returned (.bool true) ∧ Below w.heap.size w w' := by
  have HS := Lib.hid hs
  have HX := Lib.hid (fun n hn => u8_wf (hx n hn))
  have HM := Lib.hid hm
  clear hs hx hm
  have B0 := Lib.hid ((Below.refl w.heap.size w).alloc (Nat.le_refl _) (.cells #[.int .u64 e, .int .u64 t] 33))
  have Q0 := Lib.hid (Blk.new_at w 33 #[.int .u64 e, .int .u64 t] rfl)
  have s0 : 0 ≤ s := IsU.lo
  have s1 : s < 18446744073709551616 := IsU.hi
  by_cases h1 : xs.length ≤ 1000
  · have P1 := Lib.hid (Check_any p e t A c xs HX.out h1 hc HM.out)
    have P2 := Lib.hid (refCheck_any p e t A c xs HX.out h1 hc HM.out)
    generalize chk p xs e t = v at P1 P2
    obtain ⟨z, y, f, hS, hR⟩ : ∃ z y f : Int, (∀ w, SI w w.heap.size .u8 A xs → Calls Try.prog 19 #[.int .u64 s, .slice A xs.length c] w fun r w' => r = .returned (.tuple #[.agg #[.int .u64 z, .int .u64 y], .int .i64 f]) ∧ Below w.heap.size w w') ∧ (∀ w, SI w w.heap.size .u8 A xs → Calls Try.prog 20 #[.int .u64 s, .slice A xs.length c] w fun r w' => r = .returned (.tuple #[.agg #[.int .u64 z, .int .u64 y], .int .i64 f]) ∧ Below w.heap.size w w') := by
      by_cases h : 1 ≤ s ∧ s < 1152921504606845789
      · exact ⟨_, _, _, Sign_ok s h.1 h.2 A c xs HX.out h1 hc HM.out, refSign_ok s h.1 h.2 A c xs HX.out h1 hc HM.out⟩
      · exact ⟨_, _, _, fun w _ => Sign_bad s s0 s1 (by omega) _ w, fun w _ => refSign_bad s s0 s1 (by omega) _ w⟩
    have P3 := Lib.hid hS
    have P4 := Lib.hid hR
    clear hS hR
    go_enter Try.func4, Try.ntmps4
    go_wp2_with fail
    refine (live4 _).mono ?_; rintro _ w1 ⟨rfl, b⟩; have B1 := Lib.hid (below_on B0.out b); have Q1 := Lib.hid (Q0.out.below b Q0.out.lt); clear b
    go_wp2_with fail
    refine (few_yes A xs.length c h1 _).mono ?_; rintro _ w' ⟨rfl, rfl⟩
    go_wp2_with fail
    refine (P3.out _ (HS.out.on B1.out)).mono ?_; rintro _ w2 ⟨rfl, b⟩; have B2 := Lib.hid (below_on B1.out b); have Q2 := Lib.hid (Q1.out.below b Q1.out.lt); clear b
    go_upto_region 6 with (fail)
    refine wp_named (fun W => Blk W w.heap.size 33 #[.int .u64 e, .int .u64 t] ∧ Blk W w2.heap.size 33 #[.int .u64 z, .int .u64 y] ∧ Below w.heap.size w W) ⟨Q2.out.alloc _, Blk.new_at w2 _ _ rfl, B2.out.alloc B2.out.size _⟩ ?_
    rintro W2 ⟨q, r, b⟩
    have Q := Lib.hid q
    have R := Lib.hid r
    have D2 := Lib.hid b
    clear q r b
    go_wp2_with fail
    refine (P4.out _ (HS.out.on D2.out)).mono ?_; rintro _ w3 ⟨rfl, b⟩; have B3 := Lib.hid (below_on D2.out b); have Q3 := Lib.hid (Q.out.below b Q.out.lt); have R3 := Lib.hid (R.out.below b R.out.lt); clear b
    go_upto_region 7 with (fail)
    refine wp_named (fun W => Blk W w.heap.size 33 #[.int .u64 e, .int .u64 t] ∧ Blk W w2.heap.size 33 #[.int .u64 z, .int .u64 y] ∧ Blk W w3.heap.size 33 #[.int .u64 z, .int .u64 y] ∧ Below w.heap.size w W) ⟨Q3.out.alloc _, R3.out.alloc _, Blk.new_at w3 _ _ rfl, B3.out.alloc B3.out.size _⟩ ?_
    rintro W3 ⟨q, r, o, b⟩
    have D3 := Lib.hid b
    have l0 := q.lt
    have l2 := r.lt
    have l3 := o.lt
    obtain ⟨⟨c0, c1⟩, _, _⟩ := q.facts2
    obtain ⟨⟨c2, c3⟩, _, _⟩ := r.facts2
    obtain ⟨⟨c4, c5⟩, _, _⟩ := o.facts2
    clear q r o b Q R Q1 Q2 Q3 R3 B0 B1 B2 B3 D2 P3 P4 Q0
    have hd : W3.heap.size ≤ W3.drew.heap.size := Nat.le_refl _
    go_region_held_law (fun w' => w'.cell? ⟨w.heap.size, 0, none⟩ = some (.int .u64 e) ∧ w'.cell? ⟨w.heap.size, 1, none⟩ = some (.int .u64 t) ∧ w'.cell? ⟨w2.heap.size, 0, none⟩ = some (.int .u64 z) ∧ w'.cell? ⟨w2.heap.size, 1, none⟩ = some (.int .u64 y) ∧ w'.cell? ⟨w3.heap.size, 0, none⟩ = some (.int .u64 z) ∧ w'.cell? ⟨w3.heap.size, 1, none⟩ = some (.int .u64 y)) (first | exact ⟨by assumption, by assumption, by assumption, by assumption, by assumption, by assumption⟩ | go_keep)
      (first
        | (go_at_call 21; refine (P1.out _ (HS.out.on D3.out.drew)).mono ?_; rintro _ w5 ⟨rfl, b5⟩; have hW := (Below.refl W3.heap.size W3).drew.trans (b5.mono (by omega)); have k0 := (hW.cell (p := ⟨w.heap.size, 0, none⟩) l0).trans c0; have k1 := (hW.cell (p := ⟨w.heap.size, 1, none⟩) l0).trans c1; have k2 := (hW.cell (p := ⟨w2.heap.size, 0, none⟩) l2).trans c2; have k3 := (hW.cell (p := ⟨w2.heap.size, 1, none⟩) l2).trans c3; have k4 := (hW.cell (p := ⟨w3.heap.size, 0, none⟩) l3).trans c4; have k5 := (hW.cell (p := ⟨w3.heap.size, 1, none⟩) l3).trans c5)
        | (go_at_call 22; refine (P2.out _ (HS.out.on (D3.out.trans (hW.mono D3.out.size)))).mono ?_; rintro _ w5 ⟨rfl, b5⟩; have hW := hW.trans (b5.mono hW.size); have k0 := (hW.cell (p := ⟨w.heap.size, 0, none⟩) l0).trans c0; have k1 := (hW.cell (p := ⟨w.heap.size, 1, none⟩) l0).trans c1; have k2 := (hW.cell (p := ⟨w2.heap.size, 0, none⟩) l2).trans c2; have k3 := (hW.cell (p := ⟨w2.heap.size, 1, none⟩) l2).trans c3; have k4 := (hW.cell (p := ⟨w3.heap.size, 0, none⟩) l3).trans c4; have k5 := (hW.cell (p := ⟨w3.heap.size, 1, none⟩) l3).trans c5))
    all_goals
      go_wp2_with fail
      go_ret
      exact ⟨rfl, D3.out.trans (hW.mono D3.out.size)⟩
  · go_enter Try.func4, Try.ntmps4
    go_wp2_with fail
    refine (live4 _).mono ?_; rintro e w1 ⟨rfl, b⟩; have B1 := Lib.hid (below_on B0.out b); clear b
    go_wp2_with fail
    refine (few_no A xs.length c h1 _).mono ?_; rintro e w' ⟨rfl, rfl⟩
    go_wp2_with fail
    go_ret
    exact ⟨rfl, B1.out⟩
end Go.Proofs.Ytippfhlljlfcnaa
