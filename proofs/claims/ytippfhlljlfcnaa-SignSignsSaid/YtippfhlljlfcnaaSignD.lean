/- Contracts of the document's own answers: public keys, what is signed. -/
import Derived.Test.YtippfhlljlfcnaaSignC
namespace Go.Proofs.Ytippfhlljlfcnaa
open Go.ChangeShapes Go.WideShapes Go.ChangeAt Go.RowKit Gs
set_option linter.unusedVariables false

theorem right_ok (s : Int) (h1 : 1 ≤ s) (h2 : s < 1152921504606845789) (w : World) :
    Calls Try.prog 32 #[.int .u64 s] w fun e w' => e = .returned (.bool true) ∧ w = w' := by
  go_enter Try.func32, Try.ntmps32
  go_wp2_with fail
  go_ret
  exact ⟨rfl, rfl⟩
theorem right_bad (s : Int) (h0 : 0 ≤ s) (h3 : s < 18446744073709551616) (h : s < 1 ∨ 1152921504606845789 ≤ s) (w : World) :
    Calls Try.prog 32 #[.int .u64 s] w fun e w' => e = .returned (.bool false) ∧ w = w' := by
  rcases h with h | h
  all_goals
    go_enter Try.func32, Try.ntmps32
    go_wp2_with fail
    go_ret
    first
      | exact ⟨rfl, rfl⟩
      | exact ⟨congrArg (fun b => Ending.returned (Value.bool b)) (decide_eq_false (by omega)), rfl⟩

theorem refPublic_ok (s : Int) (h1 : 1 ≤ s) (h2 : s < 1152921504606845789) (w : World) :
    Calls Try.prog 14 #[.int .u64 s] w fun e w' => e = .returned (.tuple #[.int .u64 (qpow 4 s), .int .i64 0]) ∧ w = w' := by
  haveI : IsU s := ⟨by omega, by omega⟩
  have R := Lib.hid (right_ok s h1 h2)
  have P := Lib.hid (ref_Base s)
  generalize qpow 4 s = x at P ⊢
  go_enter Try.func14, Try.ntmps14
  go_wp2_with fail
  refine (R.out _).mono ?_; rintro e w' ⟨rfl, rfl⟩
  go_wp2_with fail
  refine (P.out _).mono ?_; rintro e w' ⟨rfl, rfl⟩
  go_wp2_with fail
  go_ret2
  exact ⟨rfl, rfl⟩
theorem refPublic_bad (s : Int) (h0 : 0 ≤ s) (h3 : s < 18446744073709551616) (h : s < 1 ∨ 1152921504606845789 ≤ s) (w : World) :
    Calls Try.prog 14 #[.int .u64 s] w fun e w' => e = .returned (.tuple #[.int .u64 0, .int .i64 1]) ∧ w = w' := by
  have R := Lib.hid (right_bad s h0 h3 h)
  clear h
  go_enter Try.func14, Try.ntmps14
  go_wp2_with fail
  refine (R.out _).mono ?_; rintro e w' ⟨rfl, rfl⟩
  go_wp2_with fail
  go_ret2
  exact ⟨rfl, rfl⟩

set_option maxHeartbeats 4000000 in
theorem refSign_ok (s : Int) (h1 : 1 ≤ s) (h2 : s < 1152921504606845789) (A : Option Addr) (cp : Nat) (xs : List Int) (hx : ∀ x ∈ xs, 0 ≤ x ∧ x < 256) (hl : xs.length ≤ 1000) (hc : xs.length ≤ cp) (hm : cp ≤ maxLen) (w : World) (hs : SI w w.heap.size .u8 A xs) :
    Calls Try.prog 20 #[.int .u64 s, .slice A xs.length cp] w fun e w' => e = .returned (.tuple #[.agg #[.int .u64 (ssigE s xs), .int .u64 (ssigS s xs)], .int .i64 0]) ∧ Below w.heap.size w w' := by
  have V := Lib.hid (show Sli w (.slice A xs.length cp) xs from ⟨A, cp, rfl, hc, hm, hs⟩)
  haveI : IsU s := ⟨by omega, by omega⟩
  haveI : IsU 1152921504606845788 := ⟨by omega, by omega⟩
  have HX := Lib.hid hx
  have HM := Lib.hid hm
  have HS := Lib.hid hs
  have P1 := Lib.hid (refPublic_ok s h1 h2)
  have P2 := Lib.hid (eight_slice s)
  have K := Lib.hid (nonce_parts s hx hl)
  have T := Lib.hid (fun A c' => refTagged_any ⟨#[110, 111, 110, 99, 101]⟩ A c' [be s 8, xs] K.out.byte K.out.len K.out.few)
  have M := Lib.hid (refNum_any (hst (coded (sbytes ⟨#[110, 111, 110, 99, 101]⟩) [be s 8, xs])).1 (hst (coded (sbytes ⟨#[110, 111, 110, 99, 101]⟩) [be s 8, xs])).2.1 1152921504606845788)
  rw [show hnum (hst (coded (sbytes ⟨#[110, 111, 110, 99, 101]⟩) [be s 8, xs])).1 (hst (coded (sbytes ⟨#[110, 111, 110, 99, 101]⟩) [be s 8, xs])).2.1 1152921504606845788 = hof ⟨#[110, 111, 110, 99, 101]⟩ [be s 8, xs] 1152921504606845788 from rfl] at M
  have hn := hof_bound ⟨#[110, 111, 110, 99, 101]⟩ [be s 8, xs] (m := 1152921504606845788) (by omega)
  have P4 := Lib.hid (ref_Base (snonce s xs))
  have P5 := Lib.hid (fun A c => refChallenge_any (qpow 4 (snonce s xs)) (qpow 4 s) A c xs HX.out hl)
  rw [show schal (qpow 4 (snonce s xs)) (qpow 4 s) xs = ssigE s xs from rfl] at P5
  have P6 := Lib.hid (ref_MulR (ssigE s xs) s)
  have P7 := Lib.hid (ref_AddR (snonce s xs) (rmul (ssigE s xs) s))
  rw [show radd (snonce s xs) (rmul (ssigE s xs) s) = ssigS s xs from rfl] at P7
  rw [show snonce s xs = 1 + hof ⟨#[110, 111, 110, 99, 101]⟩ [be s 8, xs] 1152921504606845788 from rfl] at P4 P5 P7
  clear hs hx hm h1 h2
  generalize ssigS s xs = y at P7 ⊢
  generalize rmul (ssigE s xs) s = u at P6 P7
  generalize ssigE s xs = z at P5 P6 ⊢
  generalize hof ⟨#[110, 111, 110, 99, 101]⟩ [be s 8, xs] 1152921504606845788 = k at M P4 P5 P7 hn
  generalize qpow 4 (1 + k) = b at P4 P5
  generalize qpow 4 s = p at P1 P5
  have k0 := hn.1
  have k1 := hn.2
  clear hn
  have B0 := Lib.hid ((Below.refl w.heap.size w).alloc (Nat.le_refl _) (.cells #[.int .u64 0, .int .u64 0] 33))
  have Q0 := Lib.hid (Blk.new_at w 33 #[.int .u64 0, .int .u64 0] rfl)
  go_enter Try.func20, Try.ntmps20
  go_wp2_with fail
  refine (P1.out _).mono ?_; rintro e w' ⟨rfl, rfl⟩
  go_wp2_with fail
  refine (P2.out _).mono ?_; rintro e w2 ⟨A2, rfl, s2, b⟩
  have Q2 := Lib.hid (Q0.out.below b Q0.out.lt)
  have B2 := Lib.hid (below_on B0.out b)
  have V1 := Lib.hid (show Sli w2 (.slice A2 8 8) (be s 8) from ⟨A2, 8, by rw [be_length], by rw [be_length]; omega, by unfold maxLen; omega, s2⟩)
  have V3 := Lib.hid (V.out.on B2.out)
  clear b s2 B0 Q0 P1 P2
  go_wp2_with fail
  refine (T.out _ _ _ (sp2 (Blk.new_at w2 _ _ rfl) (V1.out.on ((Below.refl _ _).alloc (Nat.le_refl _) _)) (V3.out.on ((Below.refl _ _).alloc (Nat.le_refl _) _)))).mono ?_
  rintro e w3 ⟨rfl, b⟩
  have B3 := Lib.hid (below_on (B2.out.alloc B2.out.size _) b)
  have Q3 := Lib.hid ((Q2.out.alloc (.cells #[.slice A2 8 8, .slice A xs.length cp] 22)).below b (by have := Q2.out.lt; simp; omega))
  clear b
  go_wp2_with fail
  refine (M.out _).mono ?_; rintro e w4 ⟨rfl, b⟩
  have Q4 := Lib.hid (Q3.out.below b Q3.out.lt)
  have B4 := Lib.hid (below_on B3.out b)
  clear b
  go_wp2_with fail
  refine (P4.out _).mono ?_; rintro e w' ⟨rfl, rfl⟩
  go_wp2_with fail
  refine (P5.out A cp hc HM.out _ (HS.out.on B4.out)).mono ?_; rintro e w6 ⟨rfl, b⟩
  have Q6 := Lib.hid (Q4.out.below b Q4.out.lt)
  have B6 := Lib.hid (below_on B4.out b)
  clear b
  obtain ⟨⟨c0, c1⟩, f0, f1⟩ := Q6.out.facts2
  go_wp2_with fail
  refine (P6.out _).mono ?_; rintro e w' ⟨rfl, rfl⟩
  go_wp2_with fail
  refine (P7.out _).mono ?_; rintro e w8 ⟨rfl, rfl⟩
  go_wp2_with fail
  have h := (Q6.out.set2 (x' := .int .u64 z) (y' := .int .u64 y)).facts2.1
  refine bodyPost_ret (v := .tuple #[.agg #[.int .u64 z, .int .u64 y], .int .i64 0]) (by simp [results, Try.results20, go_sem, h.1, h.2]) rfl ⟨rfl, ?_⟩
  exact (B6.out.setCell (by simp) _).setCell (by simp) _

theorem refSign_bad (s : Int) (h0 : 0 ≤ s) (h3 : s < 18446744073709551616) (h : s < 1 ∨ 1152921504606845789 ≤ s) (v : Value) (w : World) :
    Calls Try.prog 20 #[.int .u64 s, v] w fun e w' => e = .returned (.tuple #[.agg #[.int .u64 0, .int .u64 0], .int .i64 1]) ∧ Below w.heap.size w w' := by
  have B1 := Lib.hid ((Below.refl w.heap.size w).alloc (Nat.le_refl _) (.cells #[.int .u64 0, .int .u64 0] 33))
  have Q1 := Lib.hid (Blk.new_at w 33 #[.int .u64 0, .int .u64 0] rfl)
  have P1 := Lib.hid (refPublic_bad s h0 h3 h)
  clear h
  go_enter Try.func20, Try.ntmps20
  go_wp2_with fail
  refine (P1.out _).mono ?_; rintro e w' ⟨rfl, rfl⟩
  go_wp2_with fail
  have h := Q1.out.facts2.1
  refine bodyPost_ret (v := .tuple #[.agg #[.int .u64 0, .int .u64 0], .int .i64 1]) (by simp [results, Try.results20, go_sem]) rfl ⟨rfl, ?_⟩
  exact B1.out
end Go.Proofs.Ytippfhlljlfcnaa
