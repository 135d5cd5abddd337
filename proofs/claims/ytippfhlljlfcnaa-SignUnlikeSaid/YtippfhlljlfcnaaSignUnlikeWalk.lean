/- The walk of the law SignUnlike. -/
import Derived.Test.YtippfhlljlfcnaaSignLive
namespace Go.Proofs.Ytippfhlljlfcnaa
open Go.ChangeShapes Go.WideShapes Go.ChangeAt Go.RowKit Gs
set_option linter.unusedVariables false

set_option maxHeartbeats 4000000 in
theorem unlike_walk (a b : Int) [IsU a] [IsU b] (w : World) :
    Calls Try.prog 9 #[.int .u64 a, .int .u64 b] w fun e w' => e = .returned (.bool true) ∧ Below w.heap.size w w' := by
  have B0 := Lib.hid (Below.refl w.heap.size w)
  have a0 : 0 ≤ a := IsU.lo
  have a1 : a < 18446744073709551616 := IsU.hi
  have sb := ssn_bound a
  have tb := ssn_bound b
  have P1 := Lib.hid (secret_any a)
  have P2 := Lib.hid (secret_any b)
  have P3 := Lib.hid (Public_ok (ssn a) sb.1 sb.2)
  have P4 := Lib.hid (Public_ok (ssn b) tb.1 tb.2)
  have P5 := Lib.hid (AddR_r (ssn a) (ssn b))
  have P6 := Lib.hid (Mul_q (qpow 4 (ssn a)) (qpow 4 (ssn b)))
  rw [← base_add (by omega) (by omega)] at P6
  have hd := base_same (show 0 ≤ ssn a by omega) sb.2 (show 0 ≤ ssn b by omega) tb.2
  have rb := radd_bound (ssn a) (ssn b)
  obtain ⟨v, e, hK, hE⟩ : ∃ v e : Int, (∀ w, Calls Try.prog 13 #[.int .u64 a] w fun r w' => r = .returned (.tuple #[.int .u64 v, .int .i64 e]) ∧ Below w.heap.size w w') ∧ ((e = 0 ∧ 1 ≤ a ∧ a < 1152921504606845789) ∨ (e = 1 ∧ a < 1) ∨ (e = 1 ∧ 1 ≤ a ∧ 1152921504606845789 ≤ a)) := by
    by_cases h : 1 ≤ a ∧ a < 1152921504606845789
    · exact ⟨_, _, Public_ok a h.1 h.2, .inl ⟨rfl, h⟩⟩
    · exact ⟨_, _, Public_bad a a0 a1 (by omega), by omega⟩
  have P0 := Lib.hid hK
  clear hK
  obtain ⟨z, f, hK, hF⟩ : ∃ z f : Int, (∀ w, Calls Try.prog 13 #[.int .u64 (radd (ssn a) (ssn b))] w fun r w' => r = .returned (.tuple #[.int .u64 z, .int .i64 f]) ∧ Below w.heap.size w w') ∧ ((f = 0 ∧ ¬ radd (ssn a) (ssn b) = 0 ∧ z = qpow 4 (radd (ssn a) (ssn b))) ∨ (f = 1 ∧ radd (ssn a) (ssn b) = 0)) := by
    by_cases h : radd (ssn a) (ssn b) = 0
    · exact ⟨_, _, Public_bad _ rb.1 (by omega) (by omega), .inr ⟨rfl, h⟩⟩
    · exact ⟨_, _, Public_ok _ (by omega) (by omega), .inl ⟨rfl, h, rfl⟩⟩
  have P7 := Lib.hid hK
  clear hK
  generalize qpow 4 (radd (ssn a) (ssn b)) = y at P6 hF
  generalize radd (ssn a) (ssn b) = r at P5 P7 hF rb
  generalize qpow 4 (ssn a) = p at P3 P6 hd
  generalize qpow 4 (ssn b) = q at P4 P6 hd
  generalize ssn a = s at P1 P3 P5 hd sb
  generalize ssn b = t at P2 P4 P5 hd tb
  clear sb tb rb
  have hG : ((p == q) = true ∧ (s == t) = true) ∨ ((p == q) = false ∧ (s == t) = false) := by
    by_cases h : s = t
    · exact .inl ⟨beq_iff_eq.2 (hd.2 h), beq_iff_eq.2 h⟩
    · exact .inr ⟨beq_eq_false_iff_ne.2 (fun g => h (hd.1 g)), beq_eq_false_iff_ne.2 h⟩
  clear hd
  rcases hE with ⟨rfl, hE, hE'⟩ | ⟨rfl, hE⟩ | ⟨rfl, hE, hE'⟩
  all_goals
    rcases hF with ⟨rfl, hr, rfl⟩ | ⟨rfl, rfl⟩
    · have hr' : (r == 0) = false := beq_eq_false_iff_ne.2 hr
      have hr'' : (r != 0) = true := bne_iff_ne.2 hr
      rcases hG with ⟨g1, g2⟩ | ⟨g1, g2⟩
      all_goals
        go_enter Try.func9, Try.ntmps9
        go_wp2_with fail
        refine (live4 _).mono ?_; rintro e w1 ⟨rfl, b⟩; have B1 := Lib.hid (below_on B0.out b); clear b
        go_wp2_with fail
        refine (P0.out _).mono ?_; rintro e w2 ⟨rfl, b⟩; have B2 := Lib.hid (below_on B1.out b); clear b
        go_wp2_with fail
        refine (P1.out _).mono ?_; rintro e w' ⟨rfl, rfl⟩
        go_wp2_with fail
        refine (P3.out _).mono ?_; rintro e w3 ⟨rfl, b⟩; have B3 := Lib.hid (below_on B2.out b); clear b
        go_wp2_with fail
        refine (P2.out _).mono ?_; rintro e w' ⟨rfl, rfl⟩
        go_wp2_with fail
        refine (P4.out _).mono ?_; rintro e w4 ⟨rfl, b⟩; have B4 := Lib.hid (below_on B3.out b); clear b
        go_wp2_with fail
        refine (P1.out _).mono ?_; rintro e w' ⟨rfl, rfl⟩
        go_wp2_with fail
        refine (P2.out _).mono ?_; rintro e w' ⟨rfl, rfl⟩
        go_wp2_with fail
        refine (P5.out _).mono ?_; rintro e w' ⟨rfl, rfl⟩
        go_wp2_with fail
        refine (P7.out _).mono ?_; rintro e w5 ⟨rfl, b⟩; have B5 := Lib.hid (below_on B4.out b); clear b
        go_wp2_with fail
        refine (P1.out _).mono ?_; rintro e w' ⟨rfl, rfl⟩
        go_wp2_with fail
        refine (P2.out _).mono ?_; rintro e w' ⟨rfl, rfl⟩
        go_wp2_with fail
        refine (P6.out _).mono ?_; rintro e w6 ⟨rfl, b⟩; have B6 := Lib.hid (below_on B5.out b); clear b
        go_wp2_with fail
        go_ret
        exact ⟨rfl, B6.out⟩
    · rcases hG with ⟨g1, g2⟩ | ⟨g1, g2⟩
      all_goals
        go_enter Try.func9, Try.ntmps9
        go_wp2_with fail
        refine (live4 _).mono ?_; rintro e w1 ⟨rfl, b⟩; have B1 := Lib.hid (below_on B0.out b); clear b
        go_wp2_with fail
        refine (P0.out _).mono ?_; rintro e w2 ⟨rfl, b⟩; have B2 := Lib.hid (below_on B1.out b); clear b
        go_wp2_with fail
        refine (P1.out _).mono ?_; rintro e w' ⟨rfl, rfl⟩
        go_wp2_with fail
        refine (P3.out _).mono ?_; rintro e w3 ⟨rfl, b⟩; have B3 := Lib.hid (below_on B2.out b); clear b
        go_wp2_with fail
        refine (P2.out _).mono ?_; rintro e w' ⟨rfl, rfl⟩
        go_wp2_with fail
        refine (P4.out _).mono ?_; rintro e w4 ⟨rfl, b⟩; have B4 := Lib.hid (below_on B3.out b); clear b
        go_wp2_with fail
        refine (P1.out _).mono ?_; rintro e w' ⟨rfl, rfl⟩
        go_wp2_with fail
        refine (P2.out _).mono ?_; rintro e w' ⟨rfl, rfl⟩
        go_wp2_with fail
        refine (P5.out _).mono ?_; rintro e w' ⟨rfl, rfl⟩
        go_wp2_with fail
        refine (P7.out _).mono ?_; rintro e w5 ⟨rfl, b⟩; have B5 := Lib.hid (below_on B4.out b); clear b
        go_wp2_with fail
        refine (P1.out _).mono ?_; rintro e w' ⟨rfl, rfl⟩
        go_wp2_with fail
        refine (P2.out _).mono ?_; rintro e w' ⟨rfl, rfl⟩
        go_wp2_with fail
        go_ret
        exact ⟨rfl, B5.out⟩
end Go.Proofs.Ytippfhlljlfcnaa
