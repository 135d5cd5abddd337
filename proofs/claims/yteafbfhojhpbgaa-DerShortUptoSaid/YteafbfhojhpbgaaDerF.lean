/- Contracts of whole numbers: how many bytes, the bytes, the number that bytes are. -/
import Derived.Test.YteafbfhojhpbgaaDerIntMath
import Derived.Test.YteafbfhojhpbgaaDerE
namespace Go.Proofs.Yteafbfhojhpbgaa
open Go.ChangeShapes Go.WideShapes Go.ChangeAt Go.RowKit Gs
set_option linter.unusedVariables false

theorem own_far {w : World} {B e size n : Nat} {v : Value} {xs : List Value} (h : w.ownsRow B e size v n xs) {p : Addr} (hp : p.block < B) (u : Value) : (w.setCell p u).ownsRow B e size v n xs := by
  refine ⟨h.1, ?_⟩
  rcases h.2 with ⟨rfl, h0⟩ | ⟨g, cap, cur, rfl, hb, hg, r⟩
  · exact .inl ⟨rfl, h0⟩
  · exact .inr ⟨g, cap, cur, rfl, hb, (Below.heap_setCell w p u g (by omega)).trans hg, r⟩
theorem own_less {w : World} {B B' e size n : Nat} {v : Value} {xs : List Value} (h : w.ownsRow B e size v n xs) (hB : B' ≤ B) : w.ownsRow B' e size v n xs := by
  refine ⟨h.1, ?_⟩
  rcases h.2 with ⟨rfl, h0⟩ | ⟨g, cap, cur, rfl, hb, hg, r⟩
  · exact .inl ⟨rfl, h0⟩
  · exact .inr ⟨g, cap, cur, rfl, Nat.le_trans hB hb, hg, r⟩
theorem fits_dec {n : Int} {s : Nat} {v : Int} (h : n / 2 ^ (8 * s - 1) = v) : decide (FitsI n s) = (decide (v = 0) || decide (v = -1)) := by
  rw [Bool.eq_iff_iff]
  simp [FitsI, h]

set_option maxHeartbeats 4000000 in
theorem fits_any (n : Int) (s : Nat) (h1 : 1 ≤ s) (h8 : s ≤ 8) (w : World) :
    Calls Try.prog 53 #[.int .i64 n, .int .i64 s] w fun e w' => e = .returned (.bool (decide (FitsI n s))) ∧ w = w' := by
  rcases (show s = 1 ∨ s = 2 ∨ s = 3 ∨ s = 4 ∨ s = 5 ∨ s = 6 ∨ s = 7 ∨ s = 8 by omega) with rfl | rfl | rfl | rfl | rfl | rfl | rfl | rfl
  · rw [fits_dec (show n / 2 ^ (8 * 1 - 1) = n / 128 from rfl)]
    by_cases a : n / 128 = 0
    · rw [decide_eq_true a, Bool.true_or]
      have q0 : (n / 128 == 0) = true := by simpa using a
      clear a
      go_enter Try.func53, Try.ntmps53
      go_wp2_with fail
      go_ret
      exact ⟨rfl, rfl⟩
    have q0 : (n / 128 == 0) = false := by simpa using a
    rw [decide_eq_false a, Bool.false_or]
    by_cases b : n / 128 = -1
    · rw [decide_eq_true b]
      have q1 : (n / 128 == -1) = true := by simpa using b
      clear a b
      go_enter Try.func53, Try.ntmps53
      go_wp2_with fail
      go_ret
      exact ⟨rfl, rfl⟩
    · rw [decide_eq_false b]
      have q1 : (n / 128 == -1) = false := by simpa using b
      clear a b
      go_enter Try.func53, Try.ntmps53
      go_wp2_with fail
      go_ret
      exact ⟨rfl, rfl⟩
  · rw [fits_dec (show n / 2 ^ (8 * 2 - 1) = n / 32768 from rfl)]
    by_cases a : n / 32768 = 0
    · rw [decide_eq_true a, Bool.true_or]
      have q0 : (n / 32768 == 0) = true := by simpa using a
      clear a
      go_enter Try.func53, Try.ntmps53
      go_wp2_with fail
      go_ret
      exact ⟨rfl, rfl⟩
    have q0 : (n / 32768 == 0) = false := by simpa using a
    rw [decide_eq_false a, Bool.false_or]
    by_cases b : n / 32768 = -1
    · rw [decide_eq_true b]
      have q1 : (n / 32768 == -1) = true := by simpa using b
      clear a b
      go_enter Try.func53, Try.ntmps53
      go_wp2_with fail
      go_ret
      exact ⟨rfl, rfl⟩
    · rw [decide_eq_false b]
      have q1 : (n / 32768 == -1) = false := by simpa using b
      clear a b
      go_enter Try.func53, Try.ntmps53
      go_wp2_with fail
      go_ret
      exact ⟨rfl, rfl⟩
  · rw [fits_dec (show n / 2 ^ (8 * 3 - 1) = n / 8388608 from rfl)]
    by_cases a : n / 8388608 = 0
    · rw [decide_eq_true a, Bool.true_or]
      have q0 : (n / 8388608 == 0) = true := by simpa using a
      clear a
      go_enter Try.func53, Try.ntmps53
      go_wp2_with fail
      go_ret
      exact ⟨rfl, rfl⟩
    have q0 : (n / 8388608 == 0) = false := by simpa using a
    rw [decide_eq_false a, Bool.false_or]
    by_cases b : n / 8388608 = -1
    · rw [decide_eq_true b]
      have q1 : (n / 8388608 == -1) = true := by simpa using b
      clear a b
      go_enter Try.func53, Try.ntmps53
      go_wp2_with fail
      go_ret
      exact ⟨rfl, rfl⟩
    · rw [decide_eq_false b]
      have q1 : (n / 8388608 == -1) = false := by simpa using b
      clear a b
      go_enter Try.func53, Try.ntmps53
      go_wp2_with fail
      go_ret
      exact ⟨rfl, rfl⟩
  · rw [fits_dec (show n / 2 ^ (8 * 4 - 1) = n / 2147483648 from rfl)]
    by_cases a : n / 2147483648 = 0
    · rw [decide_eq_true a, Bool.true_or]
      have q0 : (n / 2147483648 == 0) = true := by simpa using a
      clear a
      go_enter Try.func53, Try.ntmps53
      go_wp2_with fail
      go_ret
      exact ⟨rfl, rfl⟩
    have q0 : (n / 2147483648 == 0) = false := by simpa using a
    rw [decide_eq_false a, Bool.false_or]
    by_cases b : n / 2147483648 = -1
    · rw [decide_eq_true b]
      have q1 : (n / 2147483648 == -1) = true := by simpa using b
      clear a b
      go_enter Try.func53, Try.ntmps53
      go_wp2_with fail
      go_ret
      exact ⟨rfl, rfl⟩
    · rw [decide_eq_false b]
      have q1 : (n / 2147483648 == -1) = false := by simpa using b
      clear a b
      go_enter Try.func53, Try.ntmps53
      go_wp2_with fail
      go_ret
      exact ⟨rfl, rfl⟩
  · rw [fits_dec (show n / 2 ^ (8 * 5 - 1) = n / 549755813888 from rfl)]
    by_cases a : n / 549755813888 = 0
    · rw [decide_eq_true a, Bool.true_or]
      have q0 : (n / 549755813888 == 0) = true := by simpa using a
      clear a
      go_enter Try.func53, Try.ntmps53
      go_wp2_with fail
      go_ret
      exact ⟨rfl, rfl⟩
    have q0 : (n / 549755813888 == 0) = false := by simpa using a
    rw [decide_eq_false a, Bool.false_or]
    by_cases b : n / 549755813888 = -1
    · rw [decide_eq_true b]
      have q1 : (n / 549755813888 == -1) = true := by simpa using b
      clear a b
      go_enter Try.func53, Try.ntmps53
      go_wp2_with fail
      go_ret
      exact ⟨rfl, rfl⟩
    · rw [decide_eq_false b]
      have q1 : (n / 549755813888 == -1) = false := by simpa using b
      clear a b
      go_enter Try.func53, Try.ntmps53
      go_wp2_with fail
      go_ret
      exact ⟨rfl, rfl⟩
  · rw [fits_dec (show n / 2 ^ (8 * 6 - 1) = n / 140737488355328 from rfl)]
    by_cases a : n / 140737488355328 = 0
    · rw [decide_eq_true a, Bool.true_or]
      have q0 : (n / 140737488355328 == 0) = true := by simpa using a
      clear a
      go_enter Try.func53, Try.ntmps53
      go_wp2_with fail
      go_ret
      exact ⟨rfl, rfl⟩
    have q0 : (n / 140737488355328 == 0) = false := by simpa using a
    rw [decide_eq_false a, Bool.false_or]
    by_cases b : n / 140737488355328 = -1
    · rw [decide_eq_true b]
      have q1 : (n / 140737488355328 == -1) = true := by simpa using b
      clear a b
      go_enter Try.func53, Try.ntmps53
      go_wp2_with fail
      go_ret
      exact ⟨rfl, rfl⟩
    · rw [decide_eq_false b]
      have q1 : (n / 140737488355328 == -1) = false := by simpa using b
      clear a b
      go_enter Try.func53, Try.ntmps53
      go_wp2_with fail
      go_ret
      exact ⟨rfl, rfl⟩
  · rw [fits_dec (show n / 2 ^ (8 * 7 - 1) = n / 36028797018963968 from rfl)]
    by_cases a : n / 36028797018963968 = 0
    · rw [decide_eq_true a, Bool.true_or]
      have q0 : (n / 36028797018963968 == 0) = true := by simpa using a
      clear a
      go_enter Try.func53, Try.ntmps53
      go_wp2_with fail
      go_ret
      exact ⟨rfl, rfl⟩
    have q0 : (n / 36028797018963968 == 0) = false := by simpa using a
    rw [decide_eq_false a, Bool.false_or]
    by_cases b : n / 36028797018963968 = -1
    · rw [decide_eq_true b]
      have q1 : (n / 36028797018963968 == -1) = true := by simpa using b
      clear a b
      go_enter Try.func53, Try.ntmps53
      go_wp2_with fail
      go_ret
      exact ⟨rfl, rfl⟩
    · rw [decide_eq_false b]
      have q1 : (n / 36028797018963968 == -1) = false := by simpa using b
      clear a b
      go_enter Try.func53, Try.ntmps53
      go_wp2_with fail
      go_ret
      exact ⟨rfl, rfl⟩
  · rw [fits_dec (show n / 2 ^ (8 * 8 - 1) = n / 9223372036854775808 from rfl)]
    by_cases a : n / 9223372036854775808 = 0
    · rw [decide_eq_true a, Bool.true_or]
      have q0 : (n / 9223372036854775808 == 0) = true := by simpa using a
      clear a
      go_enter Try.func53, Try.ntmps53
      go_wp2_with fail
      go_ret
      exact ⟨rfl, rfl⟩
    have q0 : (n / 9223372036854775808 == 0) = false := by simpa using a
    rw [decide_eq_false a, Bool.false_or]
    by_cases b : n / 9223372036854775808 = -1
    · rw [decide_eq_true b]
      have q1 : (n / 9223372036854775808 == -1) = true := by simpa using b
      clear a b
      go_enter Try.func53, Try.ntmps53
      go_wp2_with fail
      go_ret
      exact ⟨rfl, rfl⟩
    · rw [decide_eq_false b]
      have q1 : (n / 9223372036854775808 == -1) = false := by simpa using b
      clear a b
      go_enter Try.func53, Try.ntmps53
      go_wp2_with fail
      go_ret
      exact ⟨rfl, rfl⟩

set_option maxRecDepth 100000 in
set_option maxHeartbeats 4000000 in
theorem Int_any (n : Int) (h0 : -9223372036854775808 ≤ n) (h1 : n < 9223372036854775808) (w : World) :
    Calls Try.prog 23 #[.int .i64 n] w fun e w' => ∃ v, e = .returned (.agg #[.int .i64 2, v, .slice none 0 0]) ∧ OwnB w' w.heap.size v (intE n) ∧ Below w.heap.size w w' := by
  obtain ⟨s1, s8, sf, sn⟩ := sizeI_is n h0 h1
  obtain ⟨i0, hi, hz0, hz1, hz2⟩ := info_parts Try.info5
  have HI := Lib.hid (And.intro hi (And.intro hz0 (And.intro hz1 hz2)))
  clear hi hz0 hz1 hz2
  have HF := Lib.hid sf
  have HN := Lib.hid sn
  have HE := Lib.hid (show intE n = bz n (sizeI n) from rfl)
  generalize sizeI n = s at *
  clear sf sn h0 h1
  have D0 := Lib.hid ((Below.refl w.heap.size w).alloc (Nat.le_refl _) (.cells #[.int .i64 0, .slice none 0 0, .slice none 0 0] 25))
  have K0 := Lib.hid (Blk.new w 25 #[.int .i64 0, .slice none 0 0, .slice none 0 0])
  go_enter Try.func23, Try.ntmps23
  go_wp2_with fail
  refine wp_named (fun W => Blk W w.heap.size 25 #[.int .i64 0, .slice none 0 0, .slice none 0 0] ∧ Below w.heap.size w W) ⟨K0.out, D0.out⟩ ?_
  clear K0 D0
  rintro W0 ⟨k, b⟩
  have K0 := Lib.hid k
  have B0 := Lib.hid b
  clear k b
  go_loopw [3] (fun z wr => ∃ q : Nat, 1 ≤ q ∧ q ≤ s ∧ z = .int .i64 q ∧ Blk wr w.heap.size 25 #[.int .i64 0, .slice none 0 0, .slice none 0 0] ∧ Below w.heap.size w wr) (fun z _ => s - (intOf z).toNat)
  case atStart => exact ⟨1, by omega, by omega, rfl, K0.out, B0.out⟩
  case round =>
    obtain ⟨q, hq1, hq, rfl, k, b⟩ := hrel
    have K1 := Lib.hid k
    have B1 := Lib.hid b
    clear k b
    have P := Lib.hid (fits_any n q hq1 (by omega))
    by_cases hlt : q < s
    · rw [decide_eq_false (HN.out q hq1 hlt)] at P
      go_wp2_with fail
      refine (P.out _).mono ?_; rintro _ _ ⟨rfl, rfl⟩
      go_wp2_with fail
      go_roundw
      case rel => exact ⟨q + 1, by omega, by omega, by go_num, K1.out, B1.out⟩
      case measure => simp [intOf]; omega
    · obtain rfl : s = q := by omega
      rw [decide_eq_true HF.out] at P
      go_wp2_with fail
      refine (P.out _).mono ?_; rintro _ _ ⟨rfl, rfl⟩
      go_wp2_with (at_make; refine wpList_make_own _ rfl _ _ 22 rfl (w.heap.size + 1) 5 i0 (.int .u8 0) 1 Try.underlying22 HI.out.1 HI.out.2.1 HI.out.2.2.1 _ _ _ s rfl rfl (by omega) (by rw [HI.out.2.2.2]; omega) (by unfold maxLen; omega) (by exact K1.out.lt) ?_; intro w1 hown1 hgrow1; have HO1 := Lib.hid hown1; have HG1 := Lib.hid hgrow1; clear hown1 hgrow1)
      have BX := Lib.hid (B1.out.grown HG1.out B1.out.size (by simp))
      have KX := Lib.hid (K1.out.grown HG1.out (by simp))
      clear HF HN P K1 B1 K0 B0
      have HS8 := Lib.hid (And.intro s1 s8)
      go_loopw [4, 15] (fun b i wr => ∃ k : Nat, k ≤ s ∧ i = .int .i64 k ∧ OwnB wr (w.heap.size + 1) b ((bz n s).take k) ∧ Blk wr w.heap.size 25 #[.int .i64 0, .slice none 0 0, .slice none 0 0] ∧ Below w.heap.size w wr) (fun _ i _ => s - (intOf i).toNat)
      case atStart => exact ⟨0, by omega, rfl, own_b HO1.out rfl rfl, KX.out, BX.out⟩
      case round =>
        obtain ⟨k, hk, rfl, ho, kb, hb⟩ := hrel
        have HO := Lib.hid ho
        have KB := Lib.hid kb
        have HB := Lib.hid hb
        have hz := hb.size
        have hlt0 := kb.lt
        clear ho hb kb
        by_cases hlt : k < s
        · have HLen := Lib.hid (show ((bz n s).take k).length = k by rw [List.length_take, bz_length, Nat.min_eq_left hk])
          have hby := bz_take n s k hlt
          obtain ⟨p, hp⟩ : ∃ p : Nat, s - 1 = p := ⟨_, rfl⟩
          obtain ⟨j, hj⟩ : ∃ j : Nat, s - 1 - k = j := ⟨_, rfl⟩
          rw [hj] at hby
          have HBy := Lib.hid hby
          have ea : IntKind.i64.wrap ((s : Int) - 1) = (p : Int) := by rw [show (s : Int) - 1 = (p : Int) by omega]; exact IntWalk.i64_in _ (by omega)
          have eb : IntKind.i64.wrap ((p : Int) - (k : Int)) = (j : Int) := by rw [show (p : Int) - (k : Int) = (j : Int) by omega]; exact IntWalk.i64_in _ (by omega)
          have ec : IntKind.i64.wrap (8 * (j : Int)) = ((8 * j : Nat) : Int) := by rw [show 8 * (j : Int) = ((8 * j : Nat) : Int) by omega]; exact IntWalk.i64_in _ (by omega)
          have hj64 : 8 * j < 64 := by omega
          clear hby hp hj
          go_wp2_with (at_builtin; refine wpList_append_own _ rfl _ _ 22 rfl (w.heap.size + 1) 5 i0 (.int .u8 0) 1 1 Try.underlying22 HI.out.1 HI.out.2.1 HI.out.2.2.1 HI.out.2.2.2 rfl (by decide) _ _ _ rfl (HO.out.alloc _) ⟨wr.heap.size, 0, none⟩ 1 1 [.int .u8 (n / 2 ^ (8 * j) % 256)] rfl rfl (cell_one_new _ _ _) (by simp [Value.oneCell']) (by rw [HLen.out]; unfold maxLen; omega) (by rw [HLen.out]; omega) (by simp; omega) ?_; intro v' w1 hown' hgrow _; have HO2 := Lib.hid hown'; have HG := Lib.hid hgrow; clear hown' hgrow)
          go_roundw
          case rel =>
            refine ⟨k + 1, by omega, by go_num, ?_, (KB.out.alloc _).grown HG.out (fun e => by have := own_ge HO.out _ e.symm; omega), (HB.out.alloc hz _).grown HG.out (by simp; omega) (fun g e => by have := own_ge HO.out g e; omega)⟩
            rw [HBy.out]
            exact own_b HO2.out (by simp) (by simp)
          case measure => simp [intOf]; omega
        · obtain rfl : s = k := by omega
          have ho := HO.out
          rw [bz_all] at ho
          clear HO
          obtain ⟨A4, c4, rfl, q1, q2, _, _⟩ := own_sliceB ho
          have HO := Lib.hid ho
          have HL := Lib.hid (bz_length n s)
          clear ho q1 q2
          have c0 := KB.out.cell 0
          have c1 := KB.out.cell 1
          have c2 := KB.out.cell 2
          have f0 := KB.out.free 0
          have f1 := KB.out.free 1
          have f2 := KB.out.free 2
          generalize (bz n s).length = m at *
          go_wp2_with fail
          have h := (KB.out.set3 (x' := .int .i64 2) (y' := .slice A4 m c4) (z' := .slice none 0 0)).facts3.1
          refine bodyPost_ret (v := .agg #[.int .i64 2, .slice A4 m c4, .slice none 0 0]) (by simp [results, Try.results23, go_sem, h.1, h.2.1, h.2.2]) rfl ?_
          exact ⟨_, rfl, by rw [HE.out]; exact own_less (own_far (own_far (own_far HO.out (by show w.heap.size < _; omega) _) (by show w.heap.size < _; omega) _) (by show w.heap.size < _; omega) _) (by omega), below_setR (below_setR (below_setR HB.out (Nat.le_refl _) _) (Nat.le_refl _) _) (Nat.le_refl _) _⟩
end Go.Proofs.Yteafbfhojhpbgaa
