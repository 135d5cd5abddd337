/- The walk of the law ShareChecks. -/
import Derived.Test.YtgboijbnjjmmkaaShareBoth
namespace Go.Proofs.Ytgboijbnjjmmkaa
open Go.ChangeShapes Go.WideShapes Go.ChangeAt Go.RowKit Gs
set_option linter.unusedVariables false

set_option maxHeartbeats 4000000 in
theorem checks_walk (t : Int) (A : Option Addr) (c : Nat) (l : List (Int × Int)) (w : World) (hs : SS w w.heap.size A l) (hc : l.length ≤ c) (hm : c ≤ maxLen) (hu : ∀ p ∈ l, 0 ≤ p.2 ∧ p.2 < 18446744073709551616) :
    Calls Try.prog 5 #[.int .i64 t, .slice A l.length c] w fun e w' => e = .returned (.bool true) ∧ Below w.heap.size w w' := by
  have HS := Lib.hid hs
  have B0 := Lib.hid (Below.refl w.heap.size w)
  clear hs
  by_cases h1 : l.length ≤ 10
  · obtain ⟨n, hP, hR⟩ := check_both t A c l (by omega) hc hm hu
    have P1 := Lib.hid hP
    have P2 := Lib.hid hR
    clear hP hR hu hm
    go_enter Try.func5, Try.ntmps5
    go_wp2_with fail
    refine (live5 _).mono ?_; rintro e w1 ⟨rfl, b⟩; have B1 := Lib.hid (below_on B0.out b); clear b
    go_wp2_with fail
    refine (P1.out _ (HS.out.on B1.out)).mono ?_; rintro e w2 ⟨rfl, b⟩; have B2 := Lib.hid (below_on B1.out b); clear b
    go_wp2_with fail
    refine (P2.out _ (HS.out.on B2.out)).mono ?_; rintro e w3 ⟨rfl, b⟩; have B3 := Lib.hid (below_on B2.out b); clear b
    go_wp2_with fail
    go_ret
    exact ⟨rfl, B3.out⟩
  · clear hm hu
    go_enter Try.func5, Try.ntmps5
    go_wp2_with fail
    refine (live5 _).mono ?_; rintro e w1 ⟨rfl, b⟩; have B1 := Lib.hid (below_on B0.out b); clear b
    go_wp2_with fail
    go_ret
    exact ⟨rfl, B1.out⟩
end Go.Proofs.Ytgboijbnjjmmkaa
