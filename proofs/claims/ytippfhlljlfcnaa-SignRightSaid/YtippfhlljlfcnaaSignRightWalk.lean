/- The walk of the law SignRight. -/
import Derived.Test.YtippfhlljlfcnaaSignLive
namespace Go.Proofs.Ytippfhlljlfcnaa
open Go.ChangeShapes Go.WideShapes Go.ChangeAt Go.RowKit Gs
set_option linter.unusedVariables false

set_option maxHeartbeats 4000000 in
theorem right_walk (n : Int) [IsU n] (A : Option Addr) (c : Nat) (xs : List Int) (w : World) (hs : SI w w.heap.size .u8 A xs) (hc : xs.length ≤ c) (hm : c ≤ maxLen) (hx : ∀ n ∈ xs, (Lit.int .u8 n).wf = true) :
    Calls Try.prog 5 #[.int .u64 n, .slice A xs.length c] w fun e w' => e = .returned (.bool true) ∧ Below w.heap.size w w' := by
  have HS := Lib.hid hs
  have HX := Lib.hid (fun n hn => u8_wf (hx n hn))
  have HM := Lib.hid hm
  clear hs hx hm
  have B0 := Lib.hid (Below.refl w.heap.size w)
  by_cases h1 : xs.length ≤ 1000
  · have hb := ssn_bound n
    have P1 := Lib.hid (secret_any n)
    have P2 := Lib.hid (Public_ok (ssn n) hb.1 hb.2)
    have P3 := Lib.hid (Sign_ok (ssn n) hb.1 hb.2 A c xs HX.out h1 hc HM.out)
    have P4 := Lib.hid (Check_any (qpow 4 (ssn n)) (ssigE (ssn n) xs) (ssigS (ssn n) xs) A c xs HX.out h1 hc HM.out)
    rw [chk_sign xs (by omega)] at P4
    have e1 := (ssigE_bound (ssn n) xs).2
    have s1 := (ssigS_bound (ssn n) xs).2
    generalize ssigS (ssn n) xs = y at P3 P4 s1
    generalize ssigE (ssn n) xs = z at P3 P4 e1
    generalize qpow 4 (ssn n) = p at P2 P4
    generalize ssn n = s at P1 P2 P3 hb
    clear hb
    go_enter Try.func5, Try.ntmps5
    go_wp2_with fail
    refine (live4 _).mono ?_; rintro e w1 ⟨rfl, b⟩; have B1 := Lib.hid (below_on B0.out b); clear b
    go_wp2_with fail
    refine (few_yes A xs.length c h1 _).mono ?_; rintro e w' ⟨rfl, rfl⟩
    go_wp2_with fail
    refine (P1.out _).mono ?_; rintro e w' ⟨rfl, rfl⟩
    go_wp2_with fail
    refine (P2.out _).mono ?_; rintro e w2 ⟨rfl, b⟩; have B2 := Lib.hid (below_on B1.out b); clear b
    go_wp2_with fail
    refine (P1.out _).mono ?_; rintro e w' ⟨rfl, rfl⟩
    go_wp2_with fail
    refine (P3.out _ (HS.out.on B2.out)).mono ?_; rintro e w3 ⟨rfl, b⟩; have B3 := Lib.hid (below_on B2.out b); clear b
    go_upto_region 7 with (fail)
    refine wp_named (fun W => Blk W w3.heap.size 33 #[.int .u64 z, .int .u64 y] ∧ Below w.heap.size w W) ⟨Blk.new_at w3 _ _ rfl, B3.out.alloc B3.out.size _⟩ ?_
    rintro W3 ⟨q, b⟩
    have D3 := Lib.hid b
    have Q3 := Lib.hid q
    clear q b
    go_wp2_with fail
    refine (P1.out _).mono ?_; rintro e w' ⟨rfl, rfl⟩
    go_wp2_with fail
    refine (P3.out _ (HS.out.on D3.out)).mono ?_; rintro e w4 ⟨rfl, b⟩; have B4 := Lib.hid (below_on D3.out b); have Q4 := Lib.hid (Q3.out.below b Q3.out.lt); clear b
    go_upto_region 8 with (fail)
    refine wp_named (fun W => Blk W w3.heap.size 33 #[.int .u64 z, .int .u64 y] ∧ Blk W w4.heap.size 33 #[.int .u64 z, .int .u64 y] ∧ Below w.heap.size w W) ⟨Q4.out.alloc _, Blk.new_at w4 _ _ rfl, B4.out.alloc B4.out.size _⟩ ?_
    rintro W4 ⟨q, r, b⟩
    have D4 := Lib.hid b
    obtain ⟨⟨c0, c1⟩, _, _⟩ := q.facts2
    obtain ⟨⟨c2, c3⟩, _, _⟩ := r.facts2
    clear q r b
    go_wp2_with fail
    refine (P4.out _ (HS.out.on D4.out)).mono ?_; rintro e w6 ⟨rfl, b⟩; have B6 := Lib.hid (below_on D4.out b); clear b
    go_wp2_with fail
    go_ret
    exact ⟨rfl, B6.out⟩
  · go_enter Try.func5, Try.ntmps5
    go_wp2_with fail
    refine (live4 _).mono ?_; rintro e w1 ⟨rfl, b⟩; have B1 := Lib.hid (below_on B0.out b); clear b
    go_wp2_with fail
    refine (few_no A xs.length c h1 _).mono ?_; rintro e w' ⟨rfl, rfl⟩
    go_wp2_with fail
    go_ret
    exact ⟨rfl, B1.out⟩
end Go.Proofs.Ytippfhlljlfcnaa
