/- Contracts of the sieve: what may be one; a number's bytes. -/
import Derived.Test.YtgkdkkppeeikoaaHashLib4
import Derived.Test.YtgkdkkppeeikoaaHashLib2
import Derived.Test.YtgkdkkppeeikoaaSieveMath
namespace Go.Proofs.Ytgkdkkppeeikoaa
open Go.ChangeShapes Go.WideShapes Go.ChangeAt Go.RowKit Gs
set_option linter.unusedVariables false

theorem Blk.facts4 {w : World} {g : Nat} {t : TypeId} {x y z u : Value} (h : Blk w g t #[x, y, z, u]) : w.cell? ⟨g, 0, none⟩ = some x ∧ w.cell? ⟨g, 1, none⟩ = some y ∧ w.cell? ⟨g, 2, none⟩ = some z ∧ w.cell? ⟨g, 3, none⟩ = some u :=
  ⟨h.cell 0, h.cell 1, h.cell 2, h.cell 3⟩
theorem belowOn {w0 w w' : World} (h : Below w0.heap.size w0 w) (k : Below w.heap.size w w') : Below w0.heap.size w0 w' := h.trans (k.mono h.size)
theorem right_any (n : Int) (w : World) :
    Calls Try.prog 20 #[.int .i64 n] w fun e w' => e = .returned (.bool (rightN n)) ∧ w = w' := by
  by_cases h0 : 0 ≤ n
  · by_cases h1 : n ≤ 1099511627776
    · rw [rightN_iff.2 ⟨h0, h1⟩]
      have d0 : decide (0 ≤ n) = true := decide_eq_true h0
      have d1 : decide (n ≤ 1099511627776) = true := decide_eq_true h1
      go_enter Try.func20, Try.ntmps20
      go_wp2
      go_ret
      exact ⟨rfl, rfl⟩
    · rw [show rightN n = false from by unfold rightN; exact decide_eq_false (fun h => h1 h.2)]
      have d0 : decide (0 ≤ n) = true := decide_eq_true h0
      have d1 : decide (n ≤ 1099511627776) = false := decide_eq_false h1
      go_enter Try.func20, Try.ntmps20
      go_wp2
      go_ret
      exact ⟨rfl, rfl⟩
  · rw [show rightN n = false from by unfold rightN; exact decide_eq_false (fun h => h0 h.1)]
    have d0 : decide (0 ≤ n) = false := decide_eq_false h0
    go_enter Try.func20, Try.ntmps20
    go_wp2
    go_ret
    exact ⟨rfl, rfl⟩

theorem mayN_no {bits hashes salt : Int} (h : ¬ (8 ≤ bits ∧ bits ≤ 8192 ∧ bits % 8 = 0 ∧ 1 ≤ hashes ∧ hashes ≤ 8)) : mayN bits hashes salt = false := by
  unfold mayN; rw [decide_eq_false h, Bool.false_and]
theorem mayN_rest {bits hashes salt : Int} (h : 8 ≤ bits ∧ bits ≤ 8192 ∧ bits % 8 = 0 ∧ 1 ≤ hashes ∧ hashes ≤ 8) : mayN bits hashes salt = rightN salt := by
  unfold mayN; rw [decide_eq_true h, Bool.true_and]

theorem mayBe_any (bits hashes salt : Int) (w : World) :
    Calls Try.prog 23 #[.int .i64 bits, .int .i64 hashes, .int .i64 salt] w fun e w' => e = .returned (.bool (mayN bits hashes salt)) ∧ w = w' := by
  by_cases h0 : 8 ≤ bits
  · have d0 : decide (8 ≤ bits) = true := decide_eq_true h0
    by_cases h1 : bits ≤ 8192
    · have d1 : decide (bits ≤ 8192) = true := decide_eq_true h1
      by_cases h2 : bits % 8 = 0
      · have d2 : (bits % 8 == 0) = true := beq_iff_eq.2 h2
        by_cases h3 : 1 ≤ hashes
        · have d3 : decide (1 ≤ hashes) = true := decide_eq_true h3
          by_cases h4 : hashes ≤ 8
          · have d4 : decide (hashes ≤ 8) = true := decide_eq_true h4
            rw [mayN_rest ⟨h0, h1, h2, h3, h4⟩]
            clear h2
            go_enter Try.func23, Try.ntmps23
            go_wp2_with fail
            refine (right_any salt _).mono ?_; rintro e w' ⟨rfl, rfl⟩
            go_wp2_with fail
            go_ret
            exact ⟨rfl, rfl⟩
          · have d4 : decide (hashes ≤ 8) = false := decide_eq_false h4
            rw [mayN_no (fun h => h4 h.2.2.2.2)]
            clear h2
            go_enter Try.func23, Try.ntmps23
            go_wp2_with fail
            go_ret
            exact ⟨rfl, rfl⟩
        · have d3 : decide (1 ≤ hashes) = false := decide_eq_false h3
          rw [mayN_no (fun h => h3 h.2.2.2.1)]
          clear h2
          go_enter Try.func23, Try.ntmps23
          go_wp2_with fail
          go_ret
          exact ⟨rfl, rfl⟩
      · have d2 : (bits % 8 == 0) = false := beq_eq_false_iff_ne.2 h2
        rw [mayN_no (fun h => h2 h.2.2.1)]
        clear h2
        go_enter Try.func23, Try.ntmps23
        go_wp2_with fail
        go_ret
        exact ⟨rfl, rfl⟩
    · have d1 : decide (bits ≤ 8192) = false := decide_eq_false h1
      rw [mayN_no (fun h => h1 h.2.1)]
      go_enter Try.func23, Try.ntmps23
      go_wp2_with fail
      go_ret
      exact ⟨rfl, rfl⟩
  · have d0 : decide (8 ≤ bits) = false := decide_eq_false h0
    rw [mayN_no (fun h => h0 h.1)]
    go_enter Try.func23, Try.ntmps23
    go_wp2_with fail
    go_ret
    exact ⟨rfl, rfl⟩

/-- A sieve's value. -/
abbrev svV (bits hashes salt : Int) (A : Option Addr) (len c : Nat) : Value := .agg #[.int .i64 bits, .int .i64 hashes, .int .i64 salt, .slice A len c]

theorem Check_any (bits hashes salt : Int) (A : Option Addr) (len c : Nat) (hl : len ≤ maxLen) (w : World) :
    Calls Try.prog 12 #[svV bits hashes salt A len c] w fun e w' => e = .returned (.int .i64 (errS (chkS bits hashes salt len))) ∧ Below w.heap.size w w' := by
  unfold maxLen at hl
  by_cases hm : mayN bits hashes salt = true
  · have HP := Lib.hid (mayBe_any bits hashes salt)
    have hb := (mayN_iff.1 hm).1
    have b0 : 0 ≤ bits := by omega
    have b1 : bits ≤ 8192 := hb.2.1
    clear hb
    by_cases hc : (len : Int) = bits / 8
    · have HC := Lib.hid (chkS_iff.2 ⟨hm, hc⟩)
      have d : ((len : Int) != bits / 8) = false := by rw [hc]; simp
      have HM := Lib.hid hm
      clear hc hm
      rw [HC.out]
      go_enter Try.func12, Try.ntmps12
      go_wp2_with fail
      refine (HP.out _).mono ?_; rintro e w' ⟨rfl, rfl⟩
      rw [HM.out]
      go_wp2_with fail
      go_ret
      exact ⟨rfl, (Below.refl _ _).alloc (Nat.le_refl _) _⟩
    · have HC := Lib.hid (show chkS bits hashes salt len = false from by cases h : chkS bits hashes salt len; rfl; exact absurd (chkS_iff.1 h).2 hc)
      have d : ((len : Int) != bits / 8) = true := by simpa using hc
      have HM := Lib.hid hm
      clear hc hm
      rw [HC.out]
      go_enter Try.func12, Try.ntmps12
      go_wp2_with fail
      refine (HP.out _).mono ?_; rintro e w' ⟨rfl, rfl⟩
      rw [HM.out]
      go_wp2_with fail
      go_ret
      exact ⟨rfl, (Below.refl _ _).alloc (Nat.le_refl _) _⟩
  · have HP := Lib.hid (mayBe_any bits hashes salt)
    have HC := Lib.hid (show chkS bits hashes salt len = false from by cases h : chkS bits hashes salt len; rfl; exact absurd (chkS_iff.1 h).1 hm)
    have HM := Lib.hid (show mayN bits hashes salt = false from by simpa using hm)
    clear hm
    rw [HC.out]
    go_enter Try.func12, Try.ntmps12
    go_wp2_with fail
    refine (HP.out _).mono ?_; rintro e w' ⟨rfl, rfl⟩
    rw [HM.out]
    go_wp2_with fail
    go_ret
    exact ⟨rfl, (Below.refl _ _).alloc (Nat.le_refl _) _⟩

theorem bit_any (p : Nat) (hp : p ≤ 9223372036854775807) (w : World) :
    Calls Try.prog 22 #[.int .i64 (p : Int)] w fun e w' => e = .returned (.int .u8 (bitOf p)) ∧ w = w' := by
  have hk : p % 8 < 8 := by omega
  have e1 : ((p : Int) % 8) = ((p % 8 : Nat) : Int) := by omega
  obtain ⟨k, hk'⟩ : ∃ k, p % 8 = k := ⟨_, rfl⟩
  have HB := Lib.hid (show bitOf p = ((2 ^ k : Nat) : Int) by unfold bitOf; rw [hk'])
  rw [hk'] at e1 hk
  rw [HB.out]
  have p0 : 0 ≤ (p : Int) := by omega
  clear hk'
  go_enter Try.func22, Try.ntmps22
  go_wp2
  go_ret
  refine ⟨?_, rfl⟩
  have hk8 : k = 0 ∨ k = 1 ∨ k = 2 ∨ k = 3 ∨ k = 4 ∨ k = 5 ∨ k = 6 ∨ k = 7 := by omega
  rcases hk8 with rfl | rfl | rfl | rfl | rfl | rfl | rfl | rfl <;> rfl

set_option maxHeartbeats 1000000 in
theorem bytesOf_any (n : Int) (h0 : 0 ≤ n) (h1 : n ≤ 9223372036854775807) (w : World) :
    Calls Try.prog 30 #[.int .i64 n] w fun e w' => ∃ v', e = .returned v' ∧ OwnB w' w.heap.size v' (be n 8) ∧ Below w.heap.size w w' := by
  obtain ⟨i0, hi, hz0, hz1, hz2⟩ := info_parts Try.info5
  have HI := Lib.hid (And.intro hi (And.intro hz0 (And.intro hz1 hz2)))
  clear hi hz0 hz1 hz2
  go_enter Try.func30, Try.ntmps30
  go_wp2_with (at_make; refine wpList_make_own _ rfl _ _ 24 rfl w.heap.size 5 i0 (.int .u8 0) 1 Try.underlying24 HI.out.1 HI.out.2.1 HI.out.2.2.1 _ _ _ 8 rfl rfl (by omega) (by rw [HI.out.2.2.2]; omega) (by unfold maxLen; omega) (Nat.le_refl _) ?_; intro w1 hown1 hgrow1; have HO1 := Lib.hid hown1; have HG1 := Lib.hid hgrow1; clear hown1 hgrow1)
  have HB1 := Lib.hid (show Below w.heap.size w w1 from (Below.refl _ _).grown HG1.out (Nat.le_refl _) (by simp))
  go_loopw [3, 6] (fun b i wr => ∃ k : Nat, k ≤ 8 ∧ i = .int .i64 (k : Int) ∧ OwnB wr w.heap.size b ((be n 8).take k) ∧ Below w.heap.size w wr) (fun _ i _ => (8 - intOf i).toNat)
  case atStart => exact ⟨0, by omega, rfl, HO1.out, HB1.out⟩
  case round =>
    obtain ⟨k, hk, rfl, ho, hb⟩ := hrel
    have HO' := Lib.hid ho
    have HB := Lib.hid hb
    clear ho hb
    by_cases hlt : k < 8
    · have HBy := Lib.hid (be_take n 8 k hlt)
      have HLen := Lib.hid (show ((be n 8).take k).length = k by rw [List.length_take, be_length, Nat.min_eq_left hk])
      obtain ⟨j, hj⟩ : ∃ j : Nat, j = 7 - k := ⟨_, rfl⟩
      have hjj : (7 : Int) - (k : Int) = j := by omega
      have hj7 : j ≤ 7 := by omega
      have HJ := Lib.hid (show 8 - 1 - k = j by omega)
      clear hj
      go_wp2_with (at_builtin; refine wpList_append_own _ rfl _ _ 24 rfl w.heap.size 5 i0 (.int .u8 0) 1 1 Try.underlying24 HI.out.1 HI.out.2.1 HI.out.2.2.1 HI.out.2.2.2 rfl (by decide) _ _ _ rfl (HO'.out.alloc _) ⟨wr.heap.size, 0, none⟩ 1 1 [.int .u8 (n / 2 ^ (8 * j) % 256)] rfl rfl (cell_one_new _ _ _) (by simp [Value.oneCell']) (by rw [HLen.out]; unfold maxLen; omega) (by rw [HLen.out]; omega) (by have := HB.out.size; simp; omega) ?_; intro v' w1 hown' hgrow _; have HO2 := Lib.hid hown'; have HG := Lib.hid hgrow; clear hown' hgrow)
      go_roundw
      case rel =>
        refine ⟨k + 1, by omega, by go_num, ?_, ?_⟩
        · rw [HBy.out, HJ.out]
          exact own_b HO2.out (by simp) (by simp [byt])
        · refine (HB.out.alloc HB.out.size _).grown HG.out (by have := HB.out.size; simp; omega) (fun g e => ?_)
          exact own_ge HO'.out g e
      case measure => simp [intOf]; omega
    · obtain rfl : k = 8 := by omega
      have HA := Lib.hid (be_all n 8)
      go_wp2_with fail
      go_ret
      exact ⟨_, rfl, by have h := HO'.out; rwa [HA.out] at h, HB.out⟩
end Go.Proofs.Ytgkdkkppeeikoaa
