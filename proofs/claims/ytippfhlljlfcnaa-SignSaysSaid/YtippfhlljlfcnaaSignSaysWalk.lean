/- The walk of the law SignSays. -/
import Derived.Test.YtippfhlljlfcnaaSignLive
namespace Go.Proofs.Ytippfhlljlfcnaa
open Go.ChangeShapes Go.WideShapes Go.ChangeAt Go.RowKit Gs
set_option linter.unusedVariables false

set_option maxHeartbeats 4000000 in
theorem says_walk (p : Int) [IsU p] (A : Option Addr) (c : Nat) (xs : List Int) (e s : Int) [IsU e] [IsU s] (w : World) (hs : SI w w.heap.size .u8 A xs) (hc : xs.length ≤ c) (hm : c ≤ maxLen) (hx : ∀ n ∈ xs, (Lit.int .u8 n).wf = true) :
    Calls Try.prog 8 #[.int .u64 p, .slice A xs.length c, .agg #[.int .u64 e, .int .u64 s]] w fun e w' => e = .returned (.bool true) ∧ Below w.heap.size w w' := by
  have HS := Lib.hid hs
  have HX := Lib.hid (fun n hn => u8_wf (hx n hn))
  have HM := Lib.hid hm
  clear hs hx hm
  have B0 := Lib.hid ((Below.refl w.heap.size w).alloc (Nat.le_refl _) (.cells #[.int .u64 e, .int .u64 s] 33))
  have Q0 := Lib.hid (Blk.new_at w 33 #[.int .u64 e, .int .u64 s] rfl)
  have e0 : 0 ≤ e := IsU.lo
  have s0 : 0 ≤ s := IsU.lo
  by_cases h1 : xs.length ≤ 1000
  · have P1 := Lib.hid (Check_any p e s A c xs HX.out h1 hc HM.out)
    have P2 := Lib.hid (In_q p)
    by_cases hp : qin p = true
    · rw [hp] at P2
      by_cases hb : e < 1152921504606845789 ∧ s < 1152921504606845789
      · have e1 := hb.1
        have s1 := hb.2
        haveI : IsU (1152921504606845789 - e) := ⟨by omega, by omega⟩
        have P3 := Lib.hid (Base_q s)
        have P4 := Lib.hid (Pow_q p (1152921504606845789 - e))
        have P5 := Lib.hid (Mul_q (qpow 4 s) (qpow p (1152921504606845789 - e)))
        rw [show qmul (qpow 4 s) (qpow p (1152921504606845789 - e)) = scom p e s from rfl] at P5
        have P6 := Lib.hid (Challenge_any (scom p e s) p A c xs HX.out h1 hc HM.out)
        rw [show chk p xs e s = if e = schal (scom p e s) p xs then 0 else 40 by unfold chk; rw [if_pos hp, if_pos hb]] at P1
        have hwr : IntKind.u64.wrap (1152921504606845789 - e) = 1152921504606845789 - e := by rw [IntKind.wrap_u64]; omega
        generalize schal (scom p e s) p xs = z at P1 P6
        generalize scom p e s = t at P5 P6
        generalize qpow 4 s = x at P3 P5
        generalize qpow p (1152921504606845789 - e) = y at P4 P5
        clear hp hb
        obtain ⟨f, hf, hz⟩ : ∃ f : Int, (if e = z then (0 : Int) else 40) = f ∧ ((e = z ∧ f = 0) ∨ (f = 40 ∧ (z == e) = false)) := by
          by_cases h : e = z
          · exact ⟨0, if_pos h, .inl ⟨h, rfl⟩⟩
          · exact ⟨40, if_neg h, .inr ⟨rfl, beq_eq_false_iff_ne.2 (fun g => h g.symm)⟩⟩
        rw [hf] at P1
        clear hf
        go_enter Try.func8, Try.ntmps8
        go_wp2_with fail
        refine (live4 _).mono ?_; rintro _ w1 ⟨rfl, b1⟩; have B1 := Lib.hid (below_on B0.out b1)
        have Q1 := Lib.hid (Q0.out.below b1 Q0.out.lt)
        clear b1
        obtain ⟨⟨c0, c1⟩, _, _⟩ := Q1.out.facts2
        go_wp2_with fail
        refine (few_yes A xs.length c h1 _).mono ?_; rintro _ w' ⟨rfl, rfl⟩
        go_wp2_with fail
        refine (P1.out _ (HS.out.on B1.out)).mono ?_; rintro _ w2 ⟨rfl, b⟩; have B2 := Lib.hid (below_on B1.out b); have Q2 := Lib.hid (Q1.out.below b Q1.out.lt); clear b c0 c1
        go_wp2_with fail
        refine (P2.out _).mono ?_; rintro _ w3 ⟨rfl, b⟩; have B3 := Lib.hid (below_on B2.out b); have Q3 := Lib.hid (Q2.out.below b Q2.out.lt); clear b
        obtain ⟨⟨c0, c1⟩, _, _⟩ := Q3.out.facts2
        have l0 := Q3.out.lt
        clear Q0 Q1 Q2 Q3 B0 B1 B2 P1 P2
        go_wp2_with fail
        have hd : w3.heap.size ≤ w3.drew.heap.size := Nat.le_refl _
        go_region_held_law (fun w' => w'.cell? ⟨w.heap.size, 0, none⟩ = some (.int .u64 e) ∧ w'.cell? ⟨w.heap.size, 1, none⟩ = some (.int .u64 s)) (first | exact ⟨by assumption, by assumption⟩ | go_keep)
          (first
            | (go_at_call 25; refine (P3.out _).mono ?_; rintro _ w5 ⟨rfl, b5⟩; have hW := (Below.refl w3.heap.size w3).drew.trans (b5.mono (by omega)); have k0 := (hW.cell (p := ⟨w.heap.size, 0, none⟩) l0).trans c0; have k1 := (hW.cell (p := ⟨w.heap.size, 1, none⟩) l0).trans c1)
            | (go_at_call 29; refine (P4.out _).mono ?_; rintro _ w5 ⟨rfl, b5⟩; have hW := hW.trans (b5.mono hW.size); have k0 := (hW.cell (p := ⟨w.heap.size, 0, none⟩) l0).trans c0; have k1 := (hW.cell (p := ⟨w.heap.size, 1, none⟩) l0).trans c1)
            | (go_at_call 28; refine (P5.out _).mono ?_; rintro _ w5 ⟨rfl, b5⟩; have hW := hW.trans (b5.mono hW.size); have k0 := (hW.cell (p := ⟨w.heap.size, 0, none⟩) l0).trans c0; have k1 := (hW.cell (p := ⟨w.heap.size, 1, none⟩) l0).trans c1))
        have B5 := Lib.hid (B3.out.trans (hW.mono B3.out.size))
        have l5 : w.heap.size < w5.heap.size := Nat.lt_of_lt_of_le l0 hW.size
        clear c0 c1
        have c0 := k0
        have c1 := k1
        clear k0 k1 hW hd P3 P4 P5 B3
        go_wp2_with fail
        have hd : w5.heap.size ≤ w5.drew.heap.size := Nat.le_refl _
        go_region_held_law (fun w' => w'.cell? ⟨w.heap.size, 0, none⟩ = some (.int .u64 e) ∧ w'.cell? ⟨w.heap.size, 1, none⟩ = some (.int .u64 s)) (first | exact ⟨by assumption, by assumption⟩ | go_keep)
          (first
            | (go_at_call 17; refine (P6.out _ (HS.out.on B5.out.drew)).mono ?_; rintro _ w6 ⟨rfl, b6⟩; have hW := (Below.refl w5.heap.size w5).drew.trans (b6.mono (by omega)); have k0 := (hW.cell (p := ⟨w.heap.size, 0, none⟩) l5).trans c0; have k1 := (hW.cell (p := ⟨w.heap.size, 1, none⟩) l5).trans c1))
        have B6 := Lib.hid (B5.out.trans (hW.mono B5.out.size))
        clear hW k0 k1 c0 c1
        rcases hz with ⟨rfl, rfl⟩ | ⟨rfl, hz⟩
        all_goals
          go_wp2_with fail
          go_ret
          exact ⟨rfl, B6.out⟩
      · rw [show chk p xs e s = 40 by unfold chk; rw [if_pos hp, if_neg hb]] at P1
        have hb : 1152921504606845789 ≤ e ∨ (e < 1152921504606845789 ∧ 1152921504606845789 ≤ s) := by omega
        clear hp
        rcases hb with hb | ⟨hb, hb'⟩
        all_goals
          go_enter Try.func8, Try.ntmps8
          go_wp2_with fail
          refine (live4 _).mono ?_; rintro _ w1 ⟨rfl, b1⟩; have B1 := Lib.hid (below_on B0.out b1)
          have Q1 := Lib.hid (Q0.out.below b1 Q0.out.lt)
          clear b1
          obtain ⟨⟨c0, c1⟩, _, _⟩ := Q1.out.facts2
          go_wp2_with fail
          refine (few_yes A xs.length c h1 _).mono ?_; rintro _ w' ⟨rfl, rfl⟩
          go_wp2_with fail
          refine (P1.out _ (HS.out.on B1.out)).mono ?_; rintro _ w2 ⟨rfl, b⟩; have B2 := Lib.hid (below_on B1.out b); have Q2 := Lib.hid (Q1.out.below b Q1.out.lt); clear b c0 c1
          go_wp2_with fail
          refine (P2.out _).mono ?_; rintro _ w3 ⟨rfl, b⟩; have B3 := Lib.hid (below_on B2.out b); have Q3 := Lib.hid (Q2.out.below b Q2.out.lt); clear b
          obtain ⟨⟨c0, c1⟩, _, _⟩ := Q3.out.facts2
          go_wp2_with fail
          go_ret
          exact ⟨rfl, B3.out⟩
    · have hp : qin p = false := Bool.eq_false_iff.2 hp
      rw [hp] at P2
      rw [show chk p xs e s = 1 by unfold chk; rw [if_neg (by rw [hp]; decide)]] at P1
      clear hp
      go_enter Try.func8, Try.ntmps8
      go_wp2_with fail
      refine (live4 _).mono ?_; rintro _ w1 ⟨rfl, b1⟩; have B1 := Lib.hid (below_on B0.out b1)
      have Q1 := Lib.hid (Q0.out.below b1 Q0.out.lt)
      clear b1
      obtain ⟨⟨c0, c1⟩, _, _⟩ := Q1.out.facts2
      go_wp2_with fail
      refine (few_yes A xs.length c h1 _).mono ?_; rintro _ w' ⟨rfl, rfl⟩
      go_wp2_with fail
      refine (P1.out _ (HS.out.on B1.out)).mono ?_; rintro _ w2 ⟨rfl, b⟩; have B2 := Lib.hid (below_on B1.out b); have Q2 := Lib.hid (Q1.out.below b Q1.out.lt); clear b c0 c1
      go_wp2_with fail
      refine (P2.out _).mono ?_; rintro _ w3 ⟨rfl, b⟩; have B3 := Lib.hid (below_on B2.out b); have Q3 := Lib.hid (Q2.out.below b Q2.out.lt); clear b
      obtain ⟨⟨c0, c1⟩, _, _⟩ := Q3.out.facts2
      go_wp2_with fail
      go_ret
      exact ⟨rfl, B3.out⟩
  · go_enter Try.func8, Try.ntmps8
    go_wp2_with fail
    refine (live4 _).mono ?_; rintro e w1 ⟨rfl, b⟩; have B1 := Lib.hid (below_on B0.out b); clear b
    go_wp2_with fail
    refine (few_no A xs.length c h1 _).mono ?_; rintro e w' ⟨rfl, rfl⟩
    go_wp2_with fail
    go_ret
    exact ⟨rfl, B1.out⟩
end Go.Proofs.Ytippfhlljlfcnaa
