/- The walk of the law SignKeys. -/
import Derived.Test.YtippfhlljlfcnaaSignLive
namespace Go.Proofs.Ytippfhlljlfcnaa
open Go.ChangeShapes Go.WideShapes Go.ChangeAt Go.RowKit Gs
set_option linter.unusedVariables false

set_option maxHeartbeats 4000000 in
theorem keys_walk (A : Option Addr) (c : Nat) (xs : List Int) (a b : Int) [IsU a] [IsU b] (w : World) (hs : SI w w.heap.size .u8 A xs) (hc : xs.length ≤ c) (hm : c ≤ maxLen) (hx : ∀ n ∈ xs, (Lit.int .u8 n).wf = true) :
    Calls Try.prog 3 #[.slice A xs.length c, .int .u64 a, .int .u64 b] w fun e w' => e = .returned (.bool true) ∧ Below w.heap.size w w' := by
  have HS := Lib.hid hs
  have HX := Lib.hid (fun n hn => u8_wf (hx n hn))
  have HM := Lib.hid hm
  clear hs hx hm
  have B0 := Lib.hid (Below.refl w.heap.size w)
  have a0 : 0 ≤ a := IsU.lo
  have a1 : a < 18446744073709551616 := IsU.hi
  by_cases h1 : xs.length ≤ 1000
  · have P1 := Lib.hid (Secret_any A c xs HX.out h1 hc HM.out)
    have P2 := Lib.hid (refSecret_any A c xs HX.out h1 hc HM.out)
    have P3 := Lib.hid (Challenge_any a b A c xs HX.out h1 hc HM.out)
    have P4 := Lib.hid (refChallenge_any a b A c xs HX.out h1 hc HM.out)
    generalize ssecret xs = s at P1 P2
    generalize schal a b xs = z at P3 P4
    by_cases h2 : 1 ≤ a ∧ a < 1152921504606845789
    · have K1 := Lib.hid (Public_ok a h2.1 h2.2)
      have K2 := Lib.hid (refPublic_ok a h2.1 h2.2)
      generalize qpow 4 a = p at K1 K2
      go_enter Try.func3, Try.ntmps3
      go_wp2_with fail
      refine (live4 _).mono ?_; rintro e w1 ⟨rfl, b⟩; have B1 := Lib.hid (below_on B0.out b); clear b
      go_wp2_with fail
      refine (few_yes A xs.length c h1 _).mono ?_; rintro e w' ⟨rfl, rfl⟩
      go_wp2_with fail
      refine (K1.out _).mono ?_; rintro e w2 ⟨rfl, b⟩; have B2 := Lib.hid (below_on B1.out b); clear b
      go_wp2_with fail
      refine (K2.out _).mono ?_; rintro e w' ⟨rfl, rfl⟩
      go_wp2_with fail
      refine (P1.out _ (HS.out.on B2.out)).mono ?_; rintro e w3 ⟨rfl, b⟩; have B3 := Lib.hid (below_on B2.out b); clear b
      go_wp2_with fail
      refine (P2.out _ (HS.out.on B3.out)).mono ?_; rintro e w4 ⟨rfl, b⟩; have B4 := Lib.hid (below_on B3.out b); clear b
      go_wp2_with fail
      refine (P3.out _ (HS.out.on B4.out)).mono ?_; rintro e w5 ⟨rfl, b⟩; have B5 := Lib.hid (below_on B4.out b); clear b
      go_wp2_with fail
      refine (P4.out _ (HS.out.on B5.out)).mono ?_; rintro e w6 ⟨rfl, b⟩; have B6 := Lib.hid (below_on B5.out b); clear b
      go_wp2_with fail
      go_ret
      exact ⟨rfl, B6.out⟩
    · have K1 := Lib.hid (Public_bad a a0 a1 (by omega))
      have K2 := Lib.hid (refPublic_bad a a0 a1 (by omega))
      clear h2
      go_enter Try.func3, Try.ntmps3
      go_wp2_with fail
      refine (live4 _).mono ?_; rintro e w1 ⟨rfl, b⟩; have B1 := Lib.hid (below_on B0.out b); clear b
      go_wp2_with fail
      refine (few_yes A xs.length c h1 _).mono ?_; rintro e w' ⟨rfl, rfl⟩
      go_wp2_with fail
      refine (K1.out _).mono ?_; rintro e w2 ⟨rfl, b⟩; have B2 := Lib.hid (below_on B1.out b); clear b
      go_wp2_with fail
      refine (K2.out _).mono ?_; rintro e w' ⟨rfl, rfl⟩
      go_wp2_with fail
      refine (P1.out _ (HS.out.on B2.out)).mono ?_; rintro e w3 ⟨rfl, b⟩; have B3 := Lib.hid (below_on B2.out b); clear b
      go_wp2_with fail
      refine (P2.out _ (HS.out.on B3.out)).mono ?_; rintro e w4 ⟨rfl, b⟩; have B4 := Lib.hid (below_on B3.out b); clear b
      go_wp2_with fail
      refine (P3.out _ (HS.out.on B4.out)).mono ?_; rintro e w5 ⟨rfl, b⟩; have B5 := Lib.hid (below_on B4.out b); clear b
      go_wp2_with fail
      refine (P4.out _ (HS.out.on B5.out)).mono ?_; rintro e w6 ⟨rfl, b⟩; have B6 := Lib.hid (below_on B5.out b); clear b
      go_wp2_with fail
      go_ret
      exact ⟨rfl, B6.out⟩
  · go_enter Try.func3, Try.ntmps3
    go_wp2_with fail
    refine (live4 _).mono ?_; rintro e w1 ⟨rfl, b⟩; have B1 := Lib.hid (below_on B0.out b); clear b
    go_wp2_with fail
    refine (few_no A xs.length c h1 _).mono ?_; rintro e w' ⟨rfl, rfl⟩
    go_wp2_with fail
    go_ret
    exact ⟨rfl, B1.out⟩
end Go.Proofs.Ytippfhlljlfcnaa
