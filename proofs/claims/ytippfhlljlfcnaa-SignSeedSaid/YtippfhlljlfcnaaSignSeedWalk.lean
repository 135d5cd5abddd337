/- The walk of the law SignSeed. -/
import Derived.Test.YtippfhlljlfcnaaSignLive
namespace Go.Proofs.Ytippfhlljlfcnaa
open Go.ChangeShapes Go.WideShapes Go.ChangeAt Go.RowKit Gs
set_option linter.unusedVariables false

set_option maxHeartbeats 4000000 in
theorem seed_walk (A0 : Option Addr) (c0 : Nat) (xs0 : List Int) (A1 : Option Addr) (c1 : Nat) (xs1 : List Int) (w : World) (hs0 : SI w w.heap.size .u8 A0 xs0) (hc0 : xs0.length ≤ c0) (hm0 : c0 ≤ maxLen) (hx0 : ∀ n ∈ xs0, (Lit.int .u8 n).wf = true) (hs1 : SI w w.heap.size .u8 A1 xs1) (hc1 : xs1.length ≤ c1) (hm1 : c1 ≤ maxLen) (hx1 : ∀ n ∈ xs1, (Lit.int .u8 n).wf = true) :
    Calls Try.prog 6 #[.slice A0 xs0.length c0, .slice A1 xs1.length c1] w fun e w' => e = .returned (.bool true) ∧ Below w.heap.size w w' := by
  have HS0 := Lib.hid hs0
  have HX0 := Lib.hid (fun n hn => u8_wf (hx0 n hn))
  have HM0 := Lib.hid hm0
  clear hs0 hx0 hm0
  have HS1 := Lib.hid hs1
  have HX1 := Lib.hid (fun n hn => u8_wf (hx1 n hn))
  have HM1 := Lib.hid hm1
  clear hs1 hx1 hm1
  have B0 := Lib.hid (Below.refl w.heap.size w)
  by_cases h0 : xs0.length ≤ 1000
  · by_cases h1 : xs1.length ≤ 1000
    · have hb := ssecret_bound xs0
      have P1 := Lib.hid (Secret_any A0 c0 xs0 HX0.out h0 hc0 HM0.out)
      have P2 := Lib.hid (Public_ok (ssecret xs0) hb.1 hb.2)
      have P3 := Lib.hid (Sign_ok (ssecret xs0) hb.1 hb.2 A1 c1 xs1 HX1.out h1 hc1 HM1.out)
      have P4 := Lib.hid (Check_any (qpow 4 (ssecret xs0)) (ssigE (ssecret xs0) xs1) (ssigS (ssecret xs0) xs1) A1 c1 xs1 HX1.out h1 hc1 HM1.out)
      rw [chk_sign xs1 (by omega)] at P4
      have P5 := Lib.hid (In_q (qpow 4 (ssecret xs0)))
      rw [qin_base (by omega)] at P5
      have P6 := Lib.hid (Base_q (ssecret xs0))
      generalize ssigS (ssecret xs0) xs1 = y at P3 P4
      generalize ssigE (ssecret xs0) xs1 = z at P3 P4
      generalize qpow 4 (ssecret xs0) = p at P2 P4 P5 P6
      generalize ssecret xs0 = s at P1 P2 P3 P6 hb
      have s1 := hb.1
      have s2 := hb.2
      clear hb
      go_enter Try.func6, Try.ntmps6
      go_wp2_with fail
      refine (live4 _).mono ?_; rintro e w1 ⟨rfl, b⟩; have B1 := Lib.hid (below_on B0.out b); clear b
      go_wp2_with fail
      refine (few_yes A0 xs0.length c0 h0 _).mono ?_; rintro e w' ⟨rfl, rfl⟩
      go_wp2_with fail
      refine (few_yes A1 xs1.length c1 h1 _).mono ?_; rintro e w' ⟨rfl, rfl⟩
      go_wp2_with fail
      refine (P1.out _ (HS0.out.on B1.out)).mono ?_; rintro e w2 ⟨rfl, b⟩; have B2 := Lib.hid (below_on B1.out b); clear b
      go_wp2_with fail
      refine (P2.out _).mono ?_; rintro e w3 ⟨rfl, b⟩; have B3 := Lib.hid (below_on B2.out b); clear b
      go_wp2_with fail
      refine (P3.out _ (HS1.out.on B3.out)).mono ?_; rintro e w4 ⟨rfl, b⟩; have B4 := Lib.hid (below_on B3.out b); clear b
      go_upto_region 8 with (fail)
      refine wp_named (fun W => Blk W w4.heap.size 33 #[.int .u64 z, .int .u64 y] ∧ Below w.heap.size w W) ⟨Blk.new_at w4 _ _ rfl, B4.out.alloc B4.out.size _⟩ ?_
      rintro W4 ⟨q, b⟩
      have D4 := Lib.hid b
      have Q4 := Lib.hid q
      clear q b
      go_wp2_with fail
      refine (P5.out _).mono ?_; rintro e w5 ⟨rfl, b⟩; have B5 := Lib.hid (below_on D4.out b); have Q5 := Lib.hid (Q4.out.below b Q4.out.lt); clear b
      go_wp2_with fail
      refine (P6.out _).mono ?_; rintro e w6 ⟨rfl, b⟩; have B6 := Lib.hid (below_on B5.out b); have Q6 := Lib.hid (Q5.out.below b Q5.out.lt); clear b
      obtain ⟨⟨d0, d1⟩, _, _⟩ := Q6.out.facts2
      go_wp2_with fail
      refine (P4.out _ (HS1.out.on B6.out)).mono ?_; rintro e w7 ⟨rfl, b⟩; have B7 := Lib.hid (below_on B6.out b); clear b
      go_wp2_with fail
      go_ret
      exact ⟨rfl, B7.out⟩
    · go_enter Try.func6, Try.ntmps6
      go_wp2_with fail
      refine (live4 _).mono ?_; rintro e w1 ⟨rfl, b⟩; have B1 := Lib.hid (below_on B0.out b); clear b
      go_wp2_with fail
      refine (few_yes A0 xs0.length c0 h0 _).mono ?_; rintro e w' ⟨rfl, rfl⟩
      go_wp2_with fail
      refine (few_no A1 xs1.length c1 h1 _).mono ?_; rintro e w' ⟨rfl, rfl⟩
      go_wp2_with fail
      go_ret
      exact ⟨rfl, B1.out⟩
  · go_enter Try.func6, Try.ntmps6
    go_wp2_with fail
    refine (live4 _).mono ?_; rintro e w1 ⟨rfl, b⟩; have B1 := Lib.hid (below_on B0.out b); clear b
    go_wp2_with fail
    refine (few_no A0 xs0.length c0 h0 _).mono ?_; rintro e w' ⟨rfl, rfl⟩
    go_wp2_with fail
    go_ret
    exact ⟨rfl, B1.out⟩
end Go.Proofs.Ytippfhlljlfcnaa
