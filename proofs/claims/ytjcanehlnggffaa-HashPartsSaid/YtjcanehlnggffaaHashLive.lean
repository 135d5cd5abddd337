/- The chapter's examples hold. -/
import Derived.Test.YtjcanehlnggffaaHashO
import Derived.Deep.Cut
namespace Go.Proofs.Ytjcanehlnggffaa
open Go.ChangeShapes Go.WideShapes Go.ChangeAt Go.RowKit Gs
set_option linter.unusedVariables false

set_option maxRecDepth 100000 in
set_option maxHeartbeats 4000000 in
theorem live_any (w : World) : Calls Try.prog 13 #[] w fun e w' => e = .returned (.bool true) ∧ Below w.heap.size w w' := by
  haveI : IsU 7 := ⟨by omega, by omega⟩
  haveI : IsU 258 := ⟨by omega, by omega⟩
  haveI : IsU 2 := ⟨by omega, by omega⟩
  haveI : IsU 3 := ⟨by omega, by omega⟩
  haveI : IsU 4 := ⟨by omega, by omega⟩
  haveI : IsU 5 := ⟨by omega, by omega⟩
  go_enter Try.func13, Try.ntmps13
  go_wp2_with fail
  refine (Mix_any 0 0 0 _).mono ?_
  rintro e w1 ⟨rfl, b1⟩
  obtain ⟨m0, hm0⟩ : ∃ m, hmix (0, 0, 0) = m := ⟨_, rfl⟩
  obtain ⟨m7, hm7⟩ : ∃ m, hmix (7, 0, 1) = m := ⟨_, rfl⟩
  have M0 := Lib.hid hm0
  have M7 := Lib.hid hm7
  rw [hm0]
  clear hm0 hm7
  have B1 := Lib.hid b1
  clear b1
  go_wp2_with fail
  refine calls_named (fun W => Blks W [(w1.heap.size, 23, #[.int .u64 m0.1, .int .u64 m0.2.1, .int .u64 m0.2.2])] ∧ Below w.heap.size w W) ⟨Blks.push (L := []) trivial rfl _ _, B1.out.alloc B1.out.size _⟩ ?_
  rintro W1 ⟨l1, d1⟩
  refine (Mix_any 7 0 1 _).mono ?_
  rintro e w2 ⟨rfl, b2⟩
  rw [M7.out]
  have L2 := Lib.hid (l1.below b2)
  have D2 := Lib.hid (d1.trans (b2.mono d1.size))
  clear l1 d1 b2
  go_wp2_with fail
  refine calls_named (fun W => Blks W [(w2.heap.size, 23, #[.int .u64 m7.1, .int .u64 m7.2.1, .int .u64 m7.2.2]), (w1.heap.size, 23, #[.int .u64 m0.1, .int .u64 m0.2.1, .int .u64 m0.2.2])] ∧ Below w.heap.size w W) ⟨L2.out.push rfl _ _, D2.out.alloc D2.out.size _⟩ ?_
  rintro W2 ⟨l1, d1⟩
  refine (Sum_nil _).mono ?_
  rintro e w3 ⟨rfl, b3⟩
  rw [M0.out]
  have L3 := Lib.hid (l1.below b3)
  have D3 := Lib.hid (d1.trans (b3.mono d1.size))
  clear l1 d1 b3
  go_wp2_with fail
  refine calls_named (fun W => Blks W [(w2.heap.size, 23, #[.int .u64 m7.1, .int .u64 m7.2.1, .int .u64 m7.2.2]), (w1.heap.size, 23, #[.int .u64 m0.1, .int .u64 m0.2.1, .int .u64 m0.2.2])] ∧ Below w.heap.size w W ∧ SI W W.heap.size .u8 (some ⟨w3.heap.size, 0, none⟩) [7]) ⟨L3.out.alloc _, D3.out.alloc D3.out.size _, SI_new w3 rfl (by simp) rfl⟩ ?_
  rintro W3 ⟨l1, d1, s1⟩
  refine (Sum_7 _ _ s1).mono ?_
  rintro e w4 ⟨rfl, b4⟩
  rw [M7.out]
  have L4 := Lib.hid (l1.below b4)
  have D4 := Lib.hid (d1.trans (b4.mono d1.size))
  have Z4 := D4.out.size
  clear l1 d1 b4 s1
  go_wp2_with fail
  refine calls_named (fun W => Blks W [(w4.heap.size + 1, 29, #[.int .u64 m7.1, .int .u64 m7.2.1]), (w4.heap.size, 29, #[.int .u64 m0.1, .int .u64 m0.2.1]), (w2.heap.size, 23, #[.int .u64 m7.1, .int .u64 m7.2.1, .int .u64 m7.2.2]), (w1.heap.size, 23, #[.int .u64 m0.1, .int .u64 m0.2.1, .int .u64 m0.2.2])] ∧ Below w.heap.size w W) ⟨(L4.out.push rfl _ _).push (by simp) _ _, (D4.out.alloc D4.out.size _).alloc (by simp; omega) _⟩ ?_
  rintro W4 ⟨l1, d1⟩
  refine (Bytes_b 0 1 258 _ (by omega)).mono ?_
  rintro e w5 ⟨Ax, cx, rfl, hcx, hmx, sx, b5⟩
  have L5 := Lib.hid (l1.below b5)
  have D5 := Lib.hid (d1.trans (b5.mono d1.size))
  have SX := Lib.hid sx
  clear l1 d1 b5 sx
  go_wp2_with fail
  refine (Of_live Ax cx hcx _ SX.out).mono ?_
  rintro e w6 ⟨rfl, b6⟩
  have L6 := Lib.hid (L5.out.below b6)
  have D6 := Lib.hid (D5.out.trans (b6.mono D5.out.size))
  have SX6 := Lib.hid (SX.out.on b6)
  clear b6
  go_wp2_with fail
  refine calls_named (fun W => Blks W [(w6.heap.size, 29, #[.int .u64 1, .int .u64 258]), (w4.heap.size + 1, 29, #[.int .u64 m7.1, .int .u64 m7.2.1]), (w4.heap.size, 29, #[.int .u64 m0.1, .int .u64 m0.2.1]), (w2.heap.size, 23, #[.int .u64 m7.1, .int .u64 m7.2.1, .int .u64 m7.2.2]), (w1.heap.size, 23, #[.int .u64 m0.1, .int .u64 m0.2.1, .int .u64 m0.2.2])] ∧ Below w.heap.size w W ∧ SI W W.heap.size .u8 Ax (be 1 8 ++ be 258 8)) ⟨L6.out.push rfl _ _, D6.out.alloc D6.out.size _, SX6.out.on ((Below.refl _ _).alloc (Nat.le_refl _) _)⟩ ?_
  rintro W6 ⟨l1, d1, s1⟩
  refine (Of_nil _).mono ?_
  rintro e w7 ⟨rfl, b7⟩
  have L7 := Lib.hid (l1.below b7)
  have D7 := Lib.hid (d1.trans (b7.mono d1.size))
  have SX7 := Lib.hid (s1.on b7)
  clear l1 d1 b7 s1
  go_wp2_with fail
  refine calls_named (fun W => Blks W [(w7.heap.size, 29, #[.int .u64 0, .int .u64 0]), (w6.heap.size, 29, #[.int .u64 1, .int .u64 258]), (w4.heap.size + 1, 29, #[.int .u64 m7.1, .int .u64 m7.2.1]), (w4.heap.size, 29, #[.int .u64 m0.1, .int .u64 m0.2.1]), (w2.heap.size, 23, #[.int .u64 m7.1, .int .u64 m7.2.1, .int .u64 m7.2.2]), (w1.heap.size, 23, #[.int .u64 m0.1, .int .u64 m0.2.1, .int .u64 m0.2.2])] ∧ Below w.heap.size w W ∧ SI W W.heap.size .u8 Ax (be 1 8 ++ be 258 8)) ⟨L7.out.push rfl _ _, D7.out.alloc D7.out.size _, SX7.out.on ((Below.refl _ _).alloc (Nat.le_refl _) _)⟩ ?_
  rintro W7 ⟨l1, d1, s1⟩
  refine (Pair_any 1 2 3 4 _).mono ?_
  rintro e w8 ⟨rfl, b8⟩
  have L8 := Lib.hid (l1.below b8)
  have D8 := Lib.hid (d1.trans (b8.mono d1.size))
  have SX8 := Lib.hid (s1.on b8)
  clear l1 d1 b8 s1
  go_wp2_with fail
  refine calls_named (fun W => Blks W [(w8.heap.size, 29, #[.int .u64 (hpair 1 2 3 4).1, .int .u64 (hpair 1 2 3 4).2.1]), (w7.heap.size, 29, #[.int .u64 0, .int .u64 0]), (w6.heap.size, 29, #[.int .u64 1, .int .u64 258]), (w4.heap.size + 1, 29, #[.int .u64 m7.1, .int .u64 m7.2.1]), (w4.heap.size, 29, #[.int .u64 m0.1, .int .u64 m0.2.1]), (w2.heap.size, 23, #[.int .u64 m7.1, .int .u64 m7.2.1, .int .u64 m7.2.2]), (w1.heap.size, 23, #[.int .u64 m0.1, .int .u64 m0.2.1, .int .u64 m0.2.2])] ∧ Below w.heap.size w W ∧ SI W W.heap.size .u8 Ax (be 1 8 ++ be 258 8)) ⟨L8.out.push rfl _ _, D8.out.alloc D8.out.size _, SX8.out.on ((Below.refl _ _).alloc (Nat.le_refl _) _)⟩ ?_
  rintro W8 ⟨l1, d1, s1⟩
  refine (Bytes_b 0 1 2 _ (by omega)).mono ?_
  rintro e w9 ⟨A9, c9, rfl, hc9, hm9, s9, b9⟩
  have L9 := Lib.hid (l1.below b9)
  have D9 := Lib.hid (d1.trans (b9.mono d1.size))
  have SX9 := Lib.hid (s1.on b9)
  have S9 := Lib.hid s9
  clear l1 d1 b9 s1 s9
  go_wp2_with fail
  refine (Bytes_b 0 3 4 _ (by omega)).mono ?_
  rintro e w10 ⟨A10, c10, rfl, hc10, hm10, s10, b10⟩
  have L10 := Lib.hid (L9.out.below b10)
  have D10 := Lib.hid (D9.out.trans (b10.mono D9.out.size))
  have SX10 := Lib.hid (SX9.out.on b10)
  have S9' := Lib.hid (S9.out.on b10)
  have S10 := Lib.hid s10
  clear b10 s10
  go_wp2_with fail
  refine (Tagged_pair _ _ (be 1 8 ++ be 2 8) (be 3 8 ++ be 4 8) (sum_bound _ _) (sum_bound _ _) (by simp [be_length]) (by simp [be_length]) _ (SP_new2 _ rfl (by simp) (by simp [be_length]) (by simp [be_length]) S9'.out S10.out hc9 hm9 hc10 hm10)).mono ?_
  rintro e w11 ⟨rfl, b11⟩
  have L11 := Lib.hid ((L10.out.alloc _).below b11)
  have D11 := Lib.hid ((D10.out.alloc D10.out.size _).trans (b11.mono (by have := D10.out.size; simp; omega)))
  have SX11 := Lib.hid ((SX10.out.on ((Below.refl _ _).alloc (Nat.le_refl _) _)).on b11)
  clear b11
  go_upto_region 9 with (fail)
  refine wp_named (fun W => Blks W [(w11.heap.size, 29, #[.int .u64 (hpair 1 2 3 4).1, .int .u64 (hpair 1 2 3 4).2.1]), (w8.heap.size, 29, #[.int .u64 (hpair 1 2 3 4).1, .int .u64 (hpair 1 2 3 4).2.1]), (w7.heap.size, 29, #[.int .u64 0, .int .u64 0]), (w6.heap.size, 29, #[.int .u64 1, .int .u64 258]), (w4.heap.size + 1, 29, #[.int .u64 m7.1, .int .u64 m7.2.1]), (w4.heap.size, 29, #[.int .u64 m0.1, .int .u64 m0.2.1]), (w2.heap.size, 23, #[.int .u64 m7.1, .int .u64 m7.2.1, .int .u64 m7.2.2]), (w1.heap.size, 23, #[.int .u64 m0.1, .int .u64 m0.2.1, .int .u64 m0.2.2])] ∧ Below w.heap.size w W ∧ SI W W.heap.size .u8 Ax (be 1 8 ++ be 258 8)) ⟨L11.out.push rfl _ _, D11.out.alloc D11.out.size _, SX11.out.on ((Below.refl _ _).alloc (Nat.le_refl _) _)⟩ ?_
  rintro W ⟨⟨q11, q8, q7, q6, q4b, q4a, q2, q1, _⟩, d1, s1⟩
  obtain ⟨⟨c0, c1⟩, _, _⟩ := q11.facts2
  obtain ⟨⟨c2, c3⟩, _, _⟩ := q8.facts2
  obtain ⟨⟨c4, c5⟩, _, _⟩ := q7.facts2
  obtain ⟨⟨c6, c7⟩, _, _⟩ := q6.facts2
  obtain ⟨⟨c8, c9'⟩, _, _⟩ := q4b.facts2
  obtain ⟨⟨c10', c11⟩, _, _⟩ := q4a.facts2
  obtain ⟨⟨c12, c13, c14⟩, _, _⟩ := q2.facts3
  obtain ⟨⟨c15, c16, c17⟩, _, _⟩ := q1.facts3
  have cv := conv_si (c := cx) (n := 16) (by simp [be_length]) s1
  rw [show strOfNums (be 1 8 ++ be 258 8) = { data := #[0, 0, 0, 0, 0, 0, 0, 1, 0, 0, 0, 0, 0, 0, 1, 2] } by decide] at cv
  clear q11 q8 q7 q6 q4b q4a q2 q1 s1
  have DF := Lib.hid d1
  clear d1
  have n3 : ∀ w, (Op.equalIn 10000 23 (.agg #[.int .u64 m0.1, .int .u64 m0.2.1, .int .u64 m0.2.2]) (.agg #[.int .u64 m7.1, .int .u64 m7.2.1, .int .u64 m7.2.2])).run Try.prog w = .ok false w := fun w => by
    rw [eq3, ← M0.out, ← M7.out, mix_unlike]; rfl
  have n2 := eq2_same
  go_wp2_with fail
  refine (Num_live _).mono ?_
  rintro e w12 ⟨rfl, b12⟩
  have D12 := Lib.hid (DF.out.trans (b12.mono DF.out.size))
  clear b12
  go_wp2_with fail
  refine (Num_zero _ _ _).mono ?_
  rintro e w13 ⟨rfl, b13⟩
  have D13 := Lib.hid (D12.out.trans (b13.mono D12.out.size))
  clear b13
  go_wp2_with fail
  go_ret
  exact ⟨rfl, D13.out⟩
end Go.Proofs.Ytjcanehlnggffaa
