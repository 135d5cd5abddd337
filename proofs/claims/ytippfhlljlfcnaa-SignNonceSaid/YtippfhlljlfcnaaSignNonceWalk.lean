/- The walk of the law SignNonce. -/
import Derived.Test.YtippfhlljlfcnaaSignLive
namespace Go.Proofs.Ytippfhlljlfcnaa
open Go.ChangeShapes Go.WideShapes Go.ChangeAt Go.RowKit Gs
set_option linter.unusedVariables false

set_option maxHeartbeats 4000000 in
theorem nonce_walk (n k : Int) [IsU n] [IsU k] (A : Option Addr) (c : Nat) (xs : List Int) (w : World) (hs : SI w w.heap.size .u8 A xs) (hc : xs.length ≤ c) (hm : c ≤ maxLen) (hx : ∀ n ∈ xs, (Lit.int .u8 n).wf = true) :
    Calls Try.prog 7 #[.int .u64 n, .int .u64 k, .slice A xs.length c] w fun e w' => e = .returned (.bool true) ∧ Below w.heap.size w w' := by
  have HS := Lib.hid hs
  have HX := Lib.hid (fun n hn => u8_wf (hx n hn))
  have HM := Lib.hid hm
  clear hs hx hm
  have B0 := Lib.hid (Below.refl w.heap.size w)
  have k0 : 0 ≤ k := IsU.lo
  by_cases h1 : xs.length ≤ 1000
  · have hb := ssn_bound n
    have P1 := Lib.hid (secret_any n)
    have P2 := Lib.hid (Public_ok (ssn n) hb.1 hb.2)
    have P3 := Lib.hid (Base_q k)
    have P4 := Lib.hid (Challenge_any (qpow 4 k) (qpow 4 (ssn n)) A c xs HX.out h1 hc HM.out)
    have P5 := Lib.hid (MulR_r (schal (qpow 4 k) (qpow 4 (ssn n)) xs) (ssn n))
    have P6 := Lib.hid (AddR_r k (rmul (schal (qpow 4 k) (qpow 4 (ssn n)) xs) (ssn n)))
    have P7 := Lib.hid (Check_any (qpow 4 (ssn n)) (schal (qpow 4 k) (qpow 4 (ssn n)) xs) (radd k (rmul (schal (qpow 4 k) (qpow 4 (ssn n)) xs) (ssn n))) A c xs HX.out h1 hc HM.out)
    rw [chk_signed xs (by omega) k0] at P7
    have zb := schal_bound (qpow 4 k) (qpow 4 (ssn n)) xs
    generalize radd k (rmul (schal (qpow 4 k) (qpow 4 (ssn n)) xs) (ssn n)) = y at P6 P7
    generalize rmul (schal (qpow 4 k) (qpow 4 (ssn n)) xs) (ssn n) = u at P5 P6
    generalize schal (qpow 4 k) (qpow 4 (ssn n)) xs = z at P4 P5 P7 zb
    generalize qpow 4 k = x at P3 P4
    generalize qpow 4 (ssn n) = p at P2 P4 P7
    generalize ssn n = s at P1 P2 P5 hb
    have z1 := zb.2
    clear zb hb
    go_enter Try.func7, Try.ntmps7
    go_wp2_with fail
    refine (live4 _).mono ?_; rintro e w1 ⟨rfl, b⟩; have B1 := Lib.hid (below_on B0.out b); clear b
    go_wp2_with fail
    refine (few_yes A xs.length c h1 _).mono ?_; rintro e w' ⟨rfl, rfl⟩
    go_wp2_with fail
    refine (P1.out _).mono ?_; rintro e w' ⟨rfl, rfl⟩
    go_wp2_with fail
    refine (P2.out _).mono ?_; rintro e w2 ⟨rfl, b⟩; have B2 := Lib.hid (below_on B1.out b); clear b
    go_wp2_with fail
    refine (P3.out _).mono ?_; rintro e w3 ⟨rfl, b⟩; have B3 := Lib.hid (below_on B2.out b); clear b
    go_wp2_with fail
    refine (P4.out _ (HS.out.on B3.out)).mono ?_; rintro e w4 ⟨rfl, b⟩; have B4 := Lib.hid (below_on B3.out b); clear b
    go_wp2_with fail
    refine (P1.out _).mono ?_; rintro e w' ⟨rfl, rfl⟩
    go_wp2_with fail
    refine (P5.out _).mono ?_; rintro e w5 ⟨rfl, b⟩; have B5 := Lib.hid (below_on B4.out b); clear b
    go_wp2_with fail
    refine (P6.out _).mono ?_; rintro e w' ⟨rfl, rfl⟩
    go_upto_region 8 with (fail)
    refine wp_named (fun W => Blk W w5.heap.size 33 #[.int .u64 z, .int .u64 y] ∧ Below w.heap.size w W) ⟨Blk.new_at w5 _ _ rfl, B5.out.alloc B5.out.size _⟩ ?_
    rintro W5 ⟨q, b⟩
    have D5 := Lib.hid b
    obtain ⟨⟨c0, c1⟩, _, _⟩ := q.facts2
    clear q b
    go_wp2_with fail
    refine (P7.out _ (HS.out.on D5.out)).mono ?_; rintro e w6 ⟨rfl, b⟩; have B6 := Lib.hid (below_on D5.out b); clear b
    go_wp2_with fail
    go_ret
    exact ⟨rfl, B6.out⟩
  · go_enter Try.func7, Try.ntmps7
    go_wp2_with fail
    refine (live4 _).mono ?_; rintro e w1 ⟨rfl, b⟩; have B1 := Lib.hid (below_on B0.out b); clear b
    go_wp2_with fail
    refine (few_no A xs.length c h1 _).mono ?_; rintro e w' ⟨rfl, rfl⟩
    go_wp2_with fail
    go_ret
    exact ⟨rfl, B1.out⟩
end Go.Proofs.Ytippfhlljlfcnaa
