/- The number that bytes are: the program's own. -/
import Derived.Test.YteafbfhojhpbgaaDerF
namespace Go.Proofs.Yteafbfhojhpbgaa
open Go.ChangeShapes Go.WideShapes Go.ChangeAt Go.RowKit Gs
set_option linter.unusedVariables false

theorem or_i64 (n x : Int) (h0 : -36028797018963968 ≤ n) (h1 : n < 36028797018963968) (x0 : 0 ≤ x) (x1 : x < 256) : bits .or .i64 (n * 256) x = 256 * n + x := by
  have e1 : BitVec.ofInt 64 (n * 256) = BitVec.ofInt 64 n <<< 8 := by
    apply BitVec.eq_of_toNat_eq
    rw [BitVec.toNat_shiftLeft, BitVec.toNat_ofInt, BitVec.toNat_ofInt, Nat.shiftLeft_eq]
    omega
  have e2 : BitVec.ofInt 64 (n * 256) &&& BitVec.ofInt 64 x = 0#64 := by
    rw [e1]
    apply BitVec.eq_of_getLsbD_eq
    intro i hi
    simp only [BitVec.getLsbD_and, BitVec.getLsbD_shiftLeft, BitVec.getLsbD_zero]
    by_cases h : i < 8
    · simp [h]
    · have : (BitVec.ofInt 64 x).getLsbD i = false := by
        rw [BitVec.getLsbD, BitVec.toNat_ofInt]
        apply Nat.testBit_lt_two_pow
        have : 2 ^ 8 ≤ 2 ^ i := Nat.pow_le_pow_right (by omega) (by omega)
        omega
      rw [this, Bool.and_false]
  show IntKind.i64.wrap ((BitVec.ofInt 64 (n * 256) ||| BitVec.ofInt 64 x).toNat : Nat) = _
  rw [← BitVec.add_eq_or_of_and_eq_zero _ _ e2, ← BitVec.ofInt_add, BitVec.toNat_ofInt, IntKind.wrap_i64]
  omega

theorem foldI_append (a : Int) (b c : List Int) : foldI a (b ++ c) = foldI (foldI a b) c := List.foldl_append
theorem foldI_one (a x : Int) : foldI a [x] = 256 * a + x := rfl
theorem fold_bound (b : List Int) (hb : ∀ x ∈ b, 0 ≤ x ∧ x < 256) : ∀ k, k ≤ 7 → k ≤ b.length → -36028797018963968 ≤ foldI (headI b) (b.take k) ∧ foldI (headI b) (b.take k) < 36028797018963968 := by
  have hh : headI b = 0 ∨ headI b = -1 := by
    unfold headI
    split
    · exact .inr rfl
    · exact .inl rfl
  suffices ∀ k, k + 1 ≤ b.length → -(128 * 256 ^ k) ≤ foldI (headI b) (b.take (k + 1)) ∧ foldI (headI b) (b.take (k + 1)) < 128 * 256 ^ k by
    intro k h7 hk
    rcases k with _ | k
    · rw [List.take_zero]; show _ ≤ headI b ∧ headI b < _; omega
    · have := this k hk
      have hp : (256 : Int) ^ k ≤ 281474976710656 := by
        rcases (show k = 0 ∨ k = 1 ∨ k = 2 ∨ k = 3 ∨ k = 4 ∨ k = 5 ∨ k = 6 by omega) with rfl | rfl | rfl | rfl | rfl | rfl | rfl <;> decide
      omega
  intro k
  induction k with
  | zero =>
    intro hk
    obtain ⟨x, r, rfl⟩ : ∃ x r, b = x :: r := by
      rcases b with _ | ⟨x, r⟩
      · exact absurd hk (Nat.not_succ_le_zero 0)
      · exact ⟨x, r, rfl⟩
    have hx := hb x List.mem_cons_self
    show -(128 * 1) ≤ 256 * headI (x :: r) + x ∧ 256 * headI (x :: r) + x < 128 * 1
    unfold headI
    simp only [List.getElem?_cons_zero, Option.getD_some]
    split <;> omega
  | succ k ih =>
    intro hk
    have h := ih (by omega)
    have hk' : k + 1 < b.length := by omega
    have hx := hb b[k + 1] (List.getElem_mem hk')
    rw [List.take_succ_eq_append_getElem hk', foldI_append, foldI_one, Int.pow_succ]
    omega

set_option maxRecDepth 100000 in
set_option maxHeartbeats 4000000 in
theorem numberOf_any (x : It) (hb : ∀ y ∈ x.b, 0 ≤ y ∧ y < 256) (h1 : 1 ≤ x.b.length) (h8 : x.b.length ≤ 8) (Ab : Option Addr) (cb : Nat) (vl : Value) (w : World) (hs : SI w w.heap.size .u8 Ab x.b) :
    Calls Try.prog 56 #[.agg #[.int .i64 x.tag, .slice Ab x.b.length cb, vl]] w fun e w' => e = .returned (.int .i64 (valI x.b)) ∧ Below w.heap.size w w' := by
  obtain ⟨t, b, l⟩ := x
  simp only [It.tag, It.b] at *
  obtain ⟨n, hn⟩ : ∃ n, b.length = n := ⟨_, rfl⟩
  rw [hn] at h1 h8 ⊢
  obtain ⟨ad, rfl, had, c00⟩ : ∃ ad, Ab = some ad ∧ ad.block < w.heap.size ∧ w.cell? ad = some (.int .u8 (b[0]?.getD 0)) := by
    obtain ⟨ad, e, h, c⟩ := hs 0 (by omega)
    exact ⟨ad, e, h, by simpa [Addr.add] using c⟩
  have hh : b[0]?.getD 0 / 128 = 1 ∧ headI b = -1 ∨ b[0]?.getD 0 / 128 = 0 ∧ headI b = 0 := by
    have hx := hb (b[0]'(by omega)) (List.getElem_mem _)
    rw [List.getElem?_eq_getElem (show 0 < b.length by omega), Option.getD_some]
    unfold headI
    rw [List.getElem?_eq_getElem (show 0 < b.length by omega), Option.getD_some]
    split
    · exact .inl ⟨by omega, rfl⟩
    · exact .inr ⟨by omega, rfl⟩
  have HV := Lib.hid (show valI b = foldI (headI b) b from rfl)
  have HBd := Lib.hid (fold_bound b hb)
  have HX := Lib.hid hb
  have HN := Lib.hid hn
  have HS := Lib.hid hs
  have D0 := Lib.hid ((Below.refl w.heap.size w).alloc (Nat.le_refl _) (.cells #[.int .i64 t, .slice (some ad) n cb, vl] 25))
  have K0 := Lib.hid (Blk.new w 25 #[.int .i64 t, .slice (some ad) n cb, vl])
  have hnn : (0 : Int) < (n : Int) := by omega
  generalize headI b = h at *
  generalize b[0]?.getD 0 = y0 at *
  have MAIN := Lib.hid (fun (wr : World) (k : Nat) (hk : k < n) (HB : Below w.heap.size w wr) => (show ∃ y, wr.cell? (ad.add k) = some (.int .u8 y) ∧ bits .or .i64 (foldI h (b.take k) * 256) y = foldI h (b.take (k + 1)) ∧ (-9223372036854775808 ≤ foldI h (b.take k) * 256 ∧ foldI h (b.take k) * 256 < 9223372036854775808) ∧ 0 ≤ y ∧ y < 256 from by
    have hkl : k < b.length := by rw [HN.out]; exact hk
    obtain ⟨ad', e, _, c⟩ := si_at (HS.out.below HB) k hkl
    cases e
    have hx := HX.out b[k] (List.getElem_mem hkl)
    have hbd := HBd.out k (by omega) (by omega)
    refine ⟨b[k], c, ?_, by omega, hx⟩
    rw [or_i64 _ _ hbd.1 hbd.2 hx.1 hx.2, List.take_succ_eq_append_getElem hkl, foldI_append, foldI_one]))
  have HE := Lib.hid (show foldI h (b.take n) = foldI h b by rw [List.take_of_length_le (by omega)])
  rw [HV.out]
  clear hb hs hn HX HBd HN HV
  rcases hh with ⟨q, rfl⟩ | ⟨q, rfl⟩
  all_goals
    go_enter Try.func56, Try.ntmps56
    go_wp2_with fail
    go_loopw [3, 15] (fun z i wr => ∃ k : Nat, k ≤ n ∧ i = .int .i64 k ∧ z = .int .i64 (foldI _ (b.take k)) ∧ Below w.heap.size w wr) (fun _ i _ => n - (intOf i).toNat)
    case atStart => exact ⟨0, by omega, rfl, rfl, D0.out⟩
    case round =>
      obtain ⟨k, hk, rfl, rfl, hb⟩ := hrel
      have HB := Lib.hid hb
      have hz := hb.size
      clear hb
      by_cases hlt : k < n
      · obtain ⟨y, c, e1, e2, e3⟩ := MAIN.out wr k hlt HB.out
        have HX := Lib.hid e1
        have ew := IntWalk.i64_in _ ⟨e2.1, Int.le_of_lt_add_one e2.2⟩
        generalize foldI _ (b.take k) = z at *
        generalize hz' : foldI _ (b.take (k + 1)) = z' at *
        have HZ := Lib.hid hz'
        clear e2 hz'
        go_wp2_with fail
        go_roundw
        case rel => exact ⟨k + 1, by omega, by go_num, by rw [HZ.out], HB.out⟩
        case measure => simp [intOf]; omega
      · obtain rfl : n = k := by omega
        rw [HE.out]
        go_wp2_with fail
        go_ret
        exact ⟨rfl, HB.out⟩
end Go.Proofs.Yteafbfhojhpbgaa
