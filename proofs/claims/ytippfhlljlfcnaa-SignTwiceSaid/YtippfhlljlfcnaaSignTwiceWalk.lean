/- The walk of the law SignTwice. -/
import Derived.Test.YtippfhlljlfcnaaSignLive
namespace Go.Proofs.Ytippfhlljlfcnaa
open Go.ChangeShapes Go.WideShapes Go.ChangeAt Go.RowKit Gs
set_option linter.unusedVariables false

set_option maxHeartbeats 4000000 in
theorem twice_walk (n k : Int) [IsU n] [IsU k] (A0 : Option Addr) (c0 : Nat) (xs0 : List Int) (A1 : Option Addr) (c1 : Nat) (xs1 : List Int) (w : World) (hs0 : SI w w.heap.size .u8 A0 xs0) (hc0 : xs0.length ≤ c0) (hm0 : c0 ≤ maxLen) (hx0 : ∀ n ∈ xs0, (Lit.int .u8 n).wf = true) (hs1 : SI w w.heap.size .u8 A1 xs1) (hc1 : xs1.length ≤ c1) (hm1 : c1 ≤ maxLen) (hx1 : ∀ n ∈ xs1, (Lit.int .u8 n).wf = true) :
    Calls Try.prog 10 #[.int .u64 n, .int .u64 k, .slice A0 xs0.length c0, .slice A1 xs1.length c1] w fun e w' => e = .returned (.bool true) ∧ Below w.heap.size w w' := by
  have HS0 := Lib.hid hs0
  have HX0 := Lib.hid (fun n hn => u8_wf (hx0 n hn))
  have HM0 := Lib.hid hm0
  clear hs0 hx0 hm0
  have HS1 := Lib.hid hs1
  have HX1 := Lib.hid (fun n hn => u8_wf (hx1 n hn))
  have HM1 := Lib.hid hm1
  clear hs1 hx1 hm1
  have B0 := Lib.hid (Below.refl w.heap.size w)
  have k0 : 0 ≤ k := IsU.lo
  by_cases h0 : xs0.length ≤ 1000
  · by_cases h1 : xs1.length ≤ 1000
    · have hb := ssn_bound n
      have P1 := Lib.hid (secret_any n)
      have P2 := Lib.hid (Public_ok (ssn n) hb.1 hb.2)
      have P3 := Lib.hid (Base_q k)
      have P4 := Lib.hid (Challenge_any (qpow 4 k) (qpow 4 (ssn n)) A0 c0 xs0 HX0.out h0 hc0 HM0.out)
      have P5 := Lib.hid (Challenge_any (qpow 4 k) (qpow 4 (ssn n)) A1 c1 xs1 HX1.out h1 hc1 HM1.out)
      have G1 := chk_signed xs0 (show 0 ≤ ssn n by omega) k0
      have G2 := chk_signed xs1 (show 0 ≤ ssn n by omega) k0
      have cb := schal_bound (qpow 4 k) (qpow 4 (ssn n)) xs0
      have db := schal_bound (qpow 4 k) (qpow 4 (ssn n)) xs1
      generalize schal (qpow 4 k) (qpow 4 (ssn n)) xs0 = c at P4 G1 cb
      generalize schal (qpow 4 k) (qpow 4 (ssn n)) xs1 = d at P5 G2 db
      haveI : IsU c := ⟨by omega, by omega⟩
      haveI : IsU d := ⟨by omega, by omega⟩
      have P6 := Lib.hid (MulR_r c (ssn n))
      have P7 := Lib.hid (AddR_r k (rmul c (ssn n)))
      by_cases hcd : c = d
      · subst hcd
        generalize radd k (rmul c (ssn n)) = x at P7
        generalize rmul c (ssn n) = u at P6 P7
        generalize qpow 4 k = t at P3 P4 P5
        generalize qpow 4 (ssn n) = p at P2 P4 P5
        generalize ssn n = s at P1 P2 P6 hb
        clear G1 G2 cb db hb
        go_enter Try.func10, Try.ntmps10
        go_wp2_with fail
        refine (live4 _).mono ?_; rintro e w1 ⟨rfl, b⟩; have B1 := Lib.hid (below_on B0.out b); clear b
        go_wp2_with fail
        refine (few_yes A0 xs0.length c0 h0 _).mono ?_; rintro e w' ⟨rfl, rfl⟩
        go_wp2_with fail
        refine (few_yes A1 xs1.length c1 h1 _).mono ?_; rintro e w' ⟨rfl, rfl⟩
        go_wp2_with fail
        refine (P1.out _).mono ?_; rintro e w' ⟨rfl, rfl⟩
        go_wp2_with fail
        refine (P2.out _).mono ?_; rintro e w2 ⟨rfl, b⟩; have B2 := Lib.hid (below_on B1.out b); clear b
        go_wp2_with fail
        refine (P3.out _).mono ?_; rintro e w3 ⟨rfl, b⟩; have B3 := Lib.hid (below_on B2.out b); clear b
        go_wp2_with fail
        refine (P4.out _ (HS0.out.on B3.out)).mono ?_; rintro e w4 ⟨rfl, b⟩; have B4 := Lib.hid (below_on B3.out b); clear b
        go_wp2_with fail
        refine (P3.out _).mono ?_; rintro e w5 ⟨rfl, b⟩; have B5 := Lib.hid (below_on B4.out b); clear b
        go_wp2_with fail
        refine (P5.out _ (HS1.out.on B5.out)).mono ?_; rintro e w6 ⟨rfl, b⟩; have B6 := Lib.hid (below_on B5.out b); clear b
        go_wp2_with fail
        refine (P6.out _).mono ?_; rintro e w7 ⟨rfl, b⟩; have B7 := Lib.hid (below_on B6.out b); clear b
        go_wp2_with fail
        refine (P7.out _).mono ?_; rintro e w' ⟨rfl, rfl⟩
        go_wp2_with fail
        refine (P6.out _).mono ?_; rintro e w8 ⟨rfl, b⟩; have B8 := Lib.hid (below_on B7.out b); clear b
        go_wp2_with fail
        refine (P7.out _).mono ?_; rintro e w' ⟨rfl, rfl⟩
        go_wp2_with fail
        go_ret
        exact ⟨rfl, B8.out⟩
      · have P8 := Lib.hid (MulR_r d (ssn n))
        have P9 := Lib.hid (AddR_r k (rmul d (ssn n)))
        have P10 := Lib.hid (SubR_r c d)
        have P11 := Lib.hid (InvR_r (rsub c d))
        rw [rerr_unlike cb.1 cb.2 db.1 db.2 hcd] at P11
        have P12 := Lib.hid (Check_any (qpow 4 (ssn n)) c (radd k (rmul c (ssn n))) A0 c0 xs0 HX0.out h0 hc0 HM0.out)
        rw [G1] at P12
        have P13 := Lib.hid (Check_any (qpow 4 (ssn n)) d (radd k (rmul d (ssn n))) A1 c1 xs1 HX1.out h1 hc1 HM1.out)
        rw [G2] at P13
        have P14 := Lib.hid (SubR_r (radd k (rmul c (ssn n))) (radd k (rmul d (ssn n))))
        have P15 := Lib.hid (MulR_r (rsub (radd k (rmul c (ssn n))) (radd k (rmul d (ssn n)))) (rinv (rsub c d)))
        rw [given_away hb.1 hb.2 cb.1 cb.2 db.1 db.2 hcd] at P15
        generalize rsub (radd k (rmul c (ssn n))) (radd k (rmul d (ssn n))) = v at P14 P15
        generalize radd k (rmul c (ssn n)) = x at P7 P12 P14
        generalize radd k (rmul d (ssn n)) = y at P9 P13 P14
        generalize rinv (rsub c d) = i at P11 P15
        generalize rsub c d = r at P10 P11
        generalize rmul c (ssn n) = u at P6 P7
        generalize rmul d (ssn n) = u' at P8 P9
        generalize qpow 4 k = t at P3 P4 P5
        generalize qpow 4 (ssn n) = p at P2 P4 P5 P12 P13
        generalize ssn n = s at P1 P2 P6 P8 P15 hb
        clear G1 G2 cb db hb
        go_enter Try.func10, Try.ntmps10
        go_wp2_with fail
        refine (live4 _).mono ?_; rintro e w1 ⟨rfl, b⟩; have B1 := Lib.hid (below_on B0.out b); clear b
        go_wp2_with fail
        refine (few_yes A0 xs0.length c0 h0 _).mono ?_; rintro e w' ⟨rfl, rfl⟩
        go_wp2_with fail
        refine (few_yes A1 xs1.length c1 h1 _).mono ?_; rintro e w' ⟨rfl, rfl⟩
        go_wp2_with fail
        refine (P1.out _).mono ?_; rintro e w' ⟨rfl, rfl⟩
        go_wp2_with fail
        refine (P2.out _).mono ?_; rintro e w2 ⟨rfl, b⟩; have B2 := Lib.hid (below_on B1.out b); clear b
        go_wp2_with fail
        refine (P3.out _).mono ?_; rintro e w3 ⟨rfl, b⟩; have B3 := Lib.hid (below_on B2.out b); clear b
        go_wp2_with fail
        refine (P4.out _ (HS0.out.on B3.out)).mono ?_; rintro e w4 ⟨rfl, b⟩; have B4 := Lib.hid (below_on B3.out b); clear b
        go_wp2_with fail
        refine (P3.out _).mono ?_; rintro e w5 ⟨rfl, b⟩; have B5 := Lib.hid (below_on B4.out b); clear b
        go_wp2_with fail
        refine (P5.out _ (HS1.out.on B5.out)).mono ?_; rintro e w6 ⟨rfl, b⟩; have B6 := Lib.hid (below_on B5.out b); clear b
        go_wp2_with fail
        refine (P6.out _).mono ?_; rintro e w7 ⟨rfl, b⟩; have B7 := Lib.hid (below_on B6.out b); clear b
        go_wp2_with fail
        refine (P7.out _).mono ?_; rintro e w' ⟨rfl, rfl⟩
        go_wp2_with fail
        refine (P8.out _).mono ?_; rintro e w8 ⟨rfl, b⟩; have B8 := Lib.hid (below_on B7.out b); clear b
        go_wp2_with fail
        refine (P9.out _).mono ?_; rintro e w' ⟨rfl, rfl⟩
        go_wp2_with fail
        refine (P10.out _).mono ?_; rintro e w' ⟨rfl, rfl⟩
        go_wp2_with fail
        refine (P11.out _).mono ?_; rintro e w9 ⟨rfl, b⟩; have B9 := Lib.hid (below_on B8.out b); clear b
        go_wp2_with fail
        refine (P12.out _ (HS0.out.on B9.out)).mono ?_; rintro e w10 ⟨rfl, b⟩; have B10 := Lib.hid (below_on B9.out b); clear b
        go_wp2_with fail
        refine (P13.out _ (HS1.out.on B10.out)).mono ?_; rintro e w11 ⟨rfl, b⟩; have B11 := Lib.hid (below_on B10.out b); clear b
        go_wp2_with fail
        refine (P14.out _).mono ?_; rintro e w' ⟨rfl, rfl⟩
        go_wp2_with fail
        refine (P15.out _).mono ?_; rintro e w12 ⟨rfl, b⟩; have B12 := Lib.hid (below_on B11.out b); clear b
        go_wp2_with fail
        go_ret
        exact ⟨rfl, B12.out⟩
    · go_enter Try.func10, Try.ntmps10
      go_wp2_with fail
      refine (live4 _).mono ?_; rintro e w1 ⟨rfl, b⟩; have B1 := Lib.hid (below_on B0.out b); clear b
      go_wp2_with fail
      refine (few_yes A0 xs0.length c0 h0 _).mono ?_; rintro e w' ⟨rfl, rfl⟩
      go_wp2_with fail
      refine (few_no A1 xs1.length c1 h1 _).mono ?_; rintro e w' ⟨rfl, rfl⟩
      go_wp2_with fail
      go_ret
      exact ⟨rfl, B1.out⟩
  · go_enter Try.func10, Try.ntmps10
    go_wp2_with fail
    refine (live4 _).mono ?_; rintro e w1 ⟨rfl, b⟩; have B1 := Lib.hid (below_on B0.out b); clear b
    go_wp2_with fail
    refine (few_no A0 xs0.length c0 h0 _).mono ?_; rintro e w' ⟨rfl, rfl⟩
    go_wp2_with fail
    go_ret
    exact ⟨rfl, B1.out⟩
end Go.Proofs.Ytippfhlljlfcnaa
