/- The walk of the law ShareJoins. -/
import Derived.Test.YtgboijbnjjmmkaaShareBoth
namespace Go.Proofs.Ytgboijbnjjmmkaa
open Go.ChangeShapes Go.WideShapes Go.ChangeAt Go.RowKit Gs
set_option linter.unusedVariables false

set_option maxHeartbeats 4000000 in
theorem joins_walk (A : Option Addr) (c : Nat) (l : List (Int × Int)) (A1 : Option Addr) (c1 : Nat) (xs : List Int) (i : Int) (w : World) (hs : SS w w.heap.size A l) (hc : l.length ≤ c) (hm : c ≤ maxLen) (hu : ∀ p ∈ l, 0 ≤ p.2 ∧ p.2 < 18446744073709551616) (hs1 : SI w w.heap.size .i64 A1 xs) (hc1 : xs.length ≤ c1) (hm1 : c1 ≤ maxLen) :
    Calls Try.prog 4 #[.slice A l.length c, .slice A1 xs.length c1, .int .i64 i] w fun e w' => e = .returned (.bool true) ∧ Below w.heap.size w w' := by
  have HS := Lib.hid hs
  have HI := Lib.hid hs1
  have B0 := Lib.hid (Below.refl w.heap.size w)
  clear hs hs1
  by_cases h1 : l.length ≤ 10
  · by_cases h2 : xs.length ≤ 10
    · obtain ⟨a, e, hP, hR⟩ := join_both A c l (by omega) hc hm hu
      obtain ⟨b, f, hP', hR'⟩ := weight_both A1 c1 xs (by omega) hc1 hm1 i
      have P1 := Lib.hid hP
      have P2 := Lib.hid hR
      have P3 := Lib.hid hP'
      have P4 := Lib.hid hR'
      clear hP hR hP' hR' hu hm hm1
      go_enter Try.func4, Try.ntmps4
      go_wp2_with fail
      refine (live5 _).mono ?_; rintro _ w1 ⟨rfl, b⟩; have B1 := Lib.hid (below_on B0.out b); clear b
      go_wp2_with fail
      refine (P1.out _ (HS.out.on B1.out)).mono ?_; rintro _ w2 ⟨rfl, b⟩; have B2 := Lib.hid (below_on B1.out b); clear b
      go_wp2_with fail
      refine (P2.out _ (HS.out.on B2.out)).mono ?_; rintro _ w3 ⟨rfl, b⟩; have B3 := Lib.hid (below_on B2.out b); clear b
      go_wp2_with fail
      refine (P3.out _ (HI.out.on B3.out)).mono ?_; rintro _ w4 ⟨rfl, b⟩; have B4 := Lib.hid (below_on B3.out b); clear b
      go_wp2_with fail
      refine (P4.out _ (HI.out.on B4.out)).mono ?_; rintro _ w5 ⟨rfl, b⟩; have B5 := Lib.hid (below_on B4.out b); clear b
      go_wp2_with fail
      go_ret
      exact ⟨rfl, B5.out⟩
    · clear hm hu hm1
      go_enter Try.func4, Try.ntmps4
      go_wp2_with fail
      refine (live5 _).mono ?_; rintro _ w1 ⟨rfl, b⟩; have B1 := Lib.hid (below_on B0.out b); clear b
      go_wp2_with fail
      go_ret
      exact ⟨rfl, B1.out⟩
  · clear hm hu hm1
    go_enter Try.func4, Try.ntmps4
    go_wp2_with fail
    refine (live5 _).mono ?_; rintro _ w1 ⟨rfl, b⟩; have B1 := Lib.hid (below_on B0.out b); clear b
    go_wp2_with fail
    go_ret
    exact ⟨rfl, B1.out⟩
end Go.Proofs.Ytgboijbnjjmmkaa
