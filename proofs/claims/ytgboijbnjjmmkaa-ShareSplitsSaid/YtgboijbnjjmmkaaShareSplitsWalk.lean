/- The walk of the law ShareSplits. -/
import Derived.Test.YtgboijbnjjmmkaaShareBoth
namespace Go.Proofs.Ytgboijbnjjmmkaa
open Go.ChangeShapes Go.WideShapes Go.ChangeAt Go.RowKit Gs
set_option linter.unusedVariables false

set_option maxHeartbeats 4000000 in
theorem splits_walk (s t n : Int) [hs0 : IsU s] (A : Option Addr) (c : Nat) (xs : List Int) (A1 : Option Addr) (c1 : Nat) (l : List (Int × Int)) (w : World) (hs : SI w w.heap.size .u8 A xs) (hc : xs.length ≤ c) (hm : c ≤ maxLen) (hx : ∀ n ∈ xs, (Lit.int .u8 n).wf = true) (hs1 : SS w w.heap.size A1 l) (hc1 : l.length ≤ c1) (hm1 : c1 ≤ maxLen) (hu : ∀ p ∈ l, 0 ≤ p.2 ∧ p.2 < 18446744073709551616) :
    Calls Try.prog 3 #[.int .u64 s, .int .i64 t, .int .i64 n, .slice A xs.length c, .slice A1 l.length c1] w fun e w' => e = .returned (.bool true) ∧ Below w.heap.size w w' := by
  have HS := Lib.hid hs
  have HI := Lib.hid hs1
  have B0 := Lib.hid (Below.refl w.heap.size w)
  have hx := fun n hn => u8_wf (hx n hn)
  clear hs hs1
  by_cases h1 : xs.length ≤ 300
  · by_cases h2 : l.length ≤ 10
    · obtain ⟨m, e, hm7, hP, hR⟩ := split_both s t n hs0.1 A c xs hx (by omega) hc hm
      obtain ⟨m', f, hml, hP', hR'⟩ := public_both A1 c1 l (by omega) hc1 hm1 hu
      have P1 := Lib.hid hP
      have P2 := Lib.hid hR
      have P3 := Lib.hid hP'
      have P4 := Lib.hid hR'
      clear hP hR hP' hR' hu hm hm1 hx
      go_enter Try.func3, Try.ntmps3
      go_wp2_with fail
      refine (live5 _).mono ?_; rintro _ w1 ⟨rfl, b⟩; have B1 := Lib.hid (below_on B0.out b); clear b
      go_wp2_with fail
      refine (P1.out _ (HS.out.on B1.out)).mono ?_; rintro _ w2 ⟨v1, rfl, ho, b⟩
      obtain ⟨D1, d1, rfl, _, _, hs, _⟩ := own_sliceS ho
      have B2 := Lib.hid (below_on B1.out b)
      have S2 := Lib.hid hs
      clear b ho hs
      go_wp2_with fail
      refine (P2.out _ (HS.out.on B2.out)).mono ?_; rintro _ w3 ⟨v2, rfl, ho, b⟩
      obtain ⟨D2, d2, rfl, _, _, hs, _⟩ := own_sliceS ho
      have B3 := Lib.hid (below_on B2.out b)
      have S3 := Lib.hid (S2.out.on b)
      have T3 := Lib.hid hs
      clear b ho hs
      go_wp2_with fail
      refine (P3.out _ (HI.out.on B3.out)).mono ?_; rintro _ w4 ⟨v3, rfl, ho, b⟩
      obtain ⟨D3, d3, rfl, _, _, hs, _⟩ := own_sliceS ho
      have B4 := Lib.hid (below_on B3.out b)
      have S4 := Lib.hid (S3.out.on b)
      have T4 := Lib.hid (T3.out.on b)
      have U4 := Lib.hid hs
      clear b ho hs
      go_wp2_with fail
      refine (P4.out _ (HI.out.on B4.out)).mono ?_; rintro _ w5 ⟨v4, rfl, ho, b⟩
      obtain ⟨D4, d4, rfl, _, _, hs, _⟩ := own_sliceS ho
      have B5 := Lib.hid (below_on B4.out b)
      have S5 := Lib.hid (S4.out.on b)
      have T5 := Lib.hid (T4.out.on b)
      have U5 := Lib.hid (U4.out.on b)
      have V5 := Lib.hid hs
      clear b ho hs
      go_wp2_with fail
      refine (SameS_yes D1 D2 d1 d2 m (by omega) _ _ S5.out T5.out).mono ?_; rintro _ w6 ⟨rfl, hd⟩
      have B6 := Lib.hid (below_on B5.out (hd.below _))
      have U6 := Lib.hid (hd.ss U5.out)
      have V6 := Lib.hid (hd.ss V5.out)
      clear hd
      go_wp2_with fail
      refine (SameS_yes D3 D4 d3 d4 m' (by omega) _ _ U6.out V6.out).mono ?_; rintro _ w7 ⟨rfl, hd⟩
      have B7 := Lib.hid (below_on B6.out (hd.below _))
      clear hd
      go_wp2_with fail
      go_ret
      exact ⟨rfl, B7.out⟩
    · clear hm hu hm1 hx
      go_enter Try.func3, Try.ntmps3
      go_wp2_with fail
      refine (live5 _).mono ?_; rintro _ w1 ⟨rfl, b⟩; have B1 := Lib.hid (below_on B0.out b); clear b
      go_wp2_with fail
      go_ret
      exact ⟨rfl, B1.out⟩
  · clear hm hu hm1 hx
    go_enter Try.func3, Try.ntmps3
    go_wp2_with fail
    refine (live5 _).mono ?_; rintro _ w1 ⟨rfl, b⟩; have B1 := Lib.hid (below_on B0.out b); clear b
    go_wp2_with fail
    go_ret
    exact ⟨rfl, B1.out⟩
end Go.Proofs.Ytgboijbnjjmmkaa
