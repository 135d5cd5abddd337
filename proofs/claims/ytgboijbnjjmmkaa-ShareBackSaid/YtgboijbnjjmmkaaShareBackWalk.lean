/- The walk of the law ShareBack. -/
import Derived.Test.YtgboijbnjjmmkaaShareGood
namespace Go.Proofs.Ytgboijbnjjmmkaa
open Go.ChangeShapes Go.WideShapes Go.ChangeAt Go.RowKit Gs
set_option linter.unusedVariables false

theorem join_good {c : List Int} {N : Nat} {S : List (Int × Int)} (h : Good c N S) (hN : N ≤ 7) (h1 : 1 ≤ S.length) (h7 : S.length ≤ 7) (hc : c.length ≤ S.length) {s : Int} (hs : pval 0 c = s) (A : Option Addr) (cp n : Nat) (hn : S.length = n) (hlc : n ≤ cp) (hm : cp ≤ maxLen) (w : World) (hS : SS w w.heap.size A S) :
    Calls Try.prog 18 #[.slice A n cp] w fun r w' => r = .returned (.tuple #[.int .u64 s, .int .i64 0]) ∧ Below w.heap.size w w' := by
  subst hn
  refine (Join_any A cp S _ rfl (by omega) hlc hm h.u w hS).mono fun r w' ⟨h2, h3⟩ => ⟨?_, h3⟩
  rw [h2.2.1 (fun e => by rw [e] at h1; simp at h1) (h.join hN h1 h7), h.jat hN h1 h7 hc, hs]

set_option maxHeartbeats 4000000 in
theorem back_walk5 (s t n : Int) [hs0 : IsU s] (A : Option Addr) (c : Nat) (xs : List Int) (f m : Int) (f0 : 0 ≤ f) (f1 : f < 256) (m0 : 0 ≤ m) (m1 : m < 256) (tu : Bool) (w : World) (hs : SI w w.heap.size .u8 A xs) (hc : xs.length ≤ c) (hm : c ≤ maxLen) (hx : ∀ n ∈ xs, (Lit.int .u8 n).wf = true) :
    Calls Try.prog 6 #[.int .u64 s, .int .i64 t, .int .i64 n, .slice A xs.length c, .int .u8 f, .int .u8 m, .bool tu] w fun e w' => e = .returned (.bool true) ∧ Below w.heap.size w w' := by
  have HS := Lib.hid hs
  have B0 := Lib.hid (Below.refl w.heap.size w)
  have hx := fun n hn => u8_wf (hx n hn)
  have s0 := hs0.1
  clear hs
  by_cases h1 : xs.length ≤ 300
  · by_cases hsp : SplitI s t n
    · obtain ⟨t1, tn, n7, s1⟩ := hsp
      obtain ⟨T, rfl⟩ := Int.eq_ofNat_of_zero_le (show 0 ≤ t by omega)
      obtain ⟨N, rfl⟩ := Int.eq_ofNat_of_zero_le (show 0 ≤ n by omega)
      obtain ⟨F, rfl⟩ := Int.eq_ofNat_of_zero_le f0
      have hT1 : 1 ≤ T := by omega
      have hTN : T ≤ N := by omega
      have hN7 : N ≤ 7 := by omega
      obtain ⟨M, hM, hTM, hMN⟩ : ∃ M : Nat, (T : Int) + m % ((N : Int) - T + 1) = M ∧ T ≤ M ∧ M ≤ N := by
        have h2 := Int.emod_nonneg m (show (N : Int) - T + 1 ≠ 0 by omega)
        have h3 := Int.emod_lt_of_pos m (show (0 : Int) < (N : Int) - T + 1 by omega)
        exact ⟨((T : Int) + m % ((N : Int) - T + 1)).toNat, by omega, by omega, by omega⟩
      obtain ⟨r, hr, r0, r1⟩ : ∃ r : Int, m % ((N : Int) - T + 1) = r ∧ 0 ≤ r ∧ r ≤ 7 := ⟨m % ((N : Int) - T + 1), rfl, by have := Int.emod_nonneg m (show (N : Int) - T + 1 ≠ 0 by omega); omega, by have := Int.emod_lt_of_pos m (show (0 : Int) < (N : Int) - T + 1 by omega); omega⟩
      rw [hr] at hM
      have hd0 : ((N : Int) - T + 1 == 0) = false := beq_eq_false_iff_ne.2 (by omega)
      have P1 := Lib.hid (Split_ok s T N s0 hT1 hTN hN7 s1 A c xs hx (by omega) hc hm)
      have P2 := Lib.hid (fun A c => some_any (csplit (cpoly s xs T) N) F M tu A c (by rw [csplit_length]; omega) (by rw [csplit_length]; omega) (by omega) (by omega))
      rw [csplit_length] at P2
      have HL := Lib.hid (someL_length (csplit (cpoly s xs T) N) F M tu)
      have P3 := Lib.hid (fun A cp => join_good (some_good (cpoly s xs T) F M N tu (by omega) hMN) hN7 (by rw [HL.out]; omega) (by rw [HL.out]; omega) (by rw [HL.out, cpoly_length]; exact hTM) (cpoly_head xs hT1 ⟨s0, s1⟩) A cp M HL.out)
      have HN := Lib.hid (csplit_length (cpoly s xs T) N)
      generalize csplit (cpoly s xs T) N = l at P1 P2 P3 HL HN
      have HMr := Lib.hid (And.intro hr (And.intro hM hd0))
      have HF := Lib.hid (show wrap64 (F : Int) = (F : Int) by unfold wrap64; omega)
      clear hx hm hr hM hd0 f0 f1
      go_enter Try.func6, Try.ntmps6
      go_wp2_with fail
      refine (live5 _).mono ?_; rintro _ w1 ⟨rfl, b⟩; have B1 := Lib.hid (below_on B0.out b); clear b
      go_wp2_with fail
      refine (P1.out _ (HS.out.on B1.out)).mono ?_; rintro _ w2 ⟨v1, rfl, ho, b⟩
      obtain ⟨D1, d1, rfl, _, _, hs, _⟩ := own_sliceS ho
      have B2 := Lib.hid (below_on B1.out b)
      have S2 := Lib.hid hs
      clear b ho hs
      rw [HN.out]
      obtain ⟨hr, hM, hd0⟩ := HMr.out
      go_wp2_with fail
      rw [HF.out]
      refine (P2.out D1 d1 _ S2.out).mono ?_; rintro _ w3 ⟨v2, rfl, ho, b⟩
      obtain ⟨D2, d2, rfl, hd1, hd2, hs, _⟩ := own_sliceS ho
      have B3 := Lib.hid (below_on B2.out b)
      have S3 := Lib.hid hs
      rw [HL.out] at hd1
      have HD1 := Lib.hid hd1
      have HD2 := Lib.hid hd2
      clear b ho hs hd1 hd2
      rw [HL.out]
      go_wp2_with fail
      refine (P3.out D2 d2 HD1.out HD2.out _ S3.out).mono ?_; rintro _ w4 ⟨rfl, b⟩; have B4 := Lib.hid (below_on B3.out b); clear b
      go_wp2_with fail
      go_ret
      exact ⟨rfl, B4.out⟩
    · have P1 := Lib.hid (Split_bad s t n s0 hsp (.slice A xs.length c))
      clear hm hx hsp
      go_enter Try.func6, Try.ntmps6
      go_wp2_with fail
      refine (live5 _).mono ?_; rintro _ w1 ⟨rfl, b⟩; have B1 := Lib.hid (below_on B0.out b); clear b
      go_wp2_with fail
      refine (P1.out _).mono ?_; rintro _ w2 ⟨rfl, b⟩; have B2 := Lib.hid (below_on B1.out b); clear b
      go_wp2_with fail
      go_ret
      exact ⟨rfl, B2.out⟩
  · clear hm hx
    go_enter Try.func6, Try.ntmps6
    go_wp2_with fail
    refine (live5 _).mono ?_; rintro _ w1 ⟨rfl, b⟩; have B1 := Lib.hid (below_on B0.out b); clear b
    go_wp2_with fail
    go_ret
    exact ⟨rfl, B1.out⟩
end Go.Proofs.Ytgboijbnjjmmkaa
