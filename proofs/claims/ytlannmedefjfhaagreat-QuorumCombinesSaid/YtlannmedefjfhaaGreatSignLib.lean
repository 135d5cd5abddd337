/- Several texts of one kind, one behind the other: SignA, SignB, SignC, SignD. -/
import Derived.Test.YtlannmedefjfhaaGreatHashLib2
import Derived.Test.YtlannmedefjfhaaGreatHashLib4
import Derived.Test.YtlannmedefjfhaaGreatCycLib
import Derived.RegionTactic
import Derived.Deep.DrawnRows
import Derived.Test.YtlannmedefjfhaaGreatPlain
/- Contracts of the signatures: a number's eight bytes, as an array and as a slice. -/
namespace Go.Proofs.YtlannmedefjfhaaGreat
open Go.ChangeShapes Go.WideShapes Go.ChangeAt Go.RowKit Gs
set_option linter.unusedVariables false

/-- A number's eight bytes as a value of an array. -/
def be8 (n : Int) : Value := .agg #[.int .u8 (byt n 7), .int .u8 (byt n 6), .int .u8 (byt n 5), .int .u8 (byt n 4), .int .u8 (byt n 3), .int .u8 (byt n 2), .int .u8 (byt n 1), .int .u8 (byt n 0)]

theorem si_be8 {w : World} {g : Nat} {t : TypeId} {n : Int} (h : Blk w g t #[.int .u8 (byt n 7), .int .u8 (byt n 6), .int .u8 (byt n 5), .int .u8 (byt n 4), .int .u8 (byt n 3), .int .u8 (byt n 2), .int .u8 (byt n 1), .int .u8 (byt n 0)]) : SI w w.heap.size .u8 (some ⟨g, 0, none⟩) (be n 8) := fun j hj => by
  rw [be_length] at hj
  refine ⟨_, rfl, h.lt, ?_⟩
  rcases j with _ | _ | _ | _ | _ | _ | _ | _ | j
  · exact h.cell 0
  · exact h.cell 1
  · exact h.cell 2
  · exact h.cell 3
  · exact h.cell 4
  · exact h.cell 5
  · exact h.cell 6
  · exact h.cell 7
  · omega

/-- Between two rounds of a loop: the world under a new name, with what is known of it. -/
theorem rounds_named {P : Program} {c : Code} {K : Exit → Act → World → Prop} {n : Nat} {a : Act} {W : World} (Q : World → Prop) (hQ : Q W) (h : ∀ w2, Q w2 → Code.rounds P c K n a w2) : Code.rounds P c K n a W := h W hQ

set_option maxHeartbeats 4000000 in
theorem bytesOf_any (n : Int) [hn : IsU n] (w : World) :
    Calls Tryz.prog 118 #[.int .u64 n] w fun e w' => e = .returned (be8 n) ∧ Below w.heap.size w w' := by
  have n0 := hn.1
  have n1 := hn.2
  go_enter Tryz.func118, Tryz.ntmps118
  go_wp2_with fail
  refine wp_named (fun W => Blk W w.heap.size 122 #[.int .u8 0, .int .u8 0, .int .u8 0, .int .u8 0, .int .u8 0, .int .u8 0, .int .u8 0, .int .u8 0] ∧ Blk W (w.heap.size + 1) 122 #[.int .u8 0, .int .u8 0, .int .u8 0, .int .u8 0, .int .u8 0, .int .u8 0, .int .u8 0, .int .u8 0] ∧ Below w.heap.size w W) ⟨(Blk.new_at w _ _ rfl).alloc _, Blk.new_at _ _ _ (by simp), ((Below.refl _ _).alloc (Nat.le_refl _) _).alloc (by simp) _⟩ ?_
  rintro W0 ⟨q, r, b⟩
  have Q0 := Lib.hid q
  have R0 := Lib.hid r
  have B0 := Lib.hid b
  clear q r b
  refine wp_loop_rounds 9 ?_
  have hk : byt n 7 = n / 72057594037927936 := by unfold byt; omega
  have HK0 := Lib.hid hk
  clear hk
  have c0 := R0.out.cell 0
  have f0 := R0.out.free 0
  rw [rounds_succ]
  go_wp2_with fail
  refine rounds_named (fun W => Blk W w.heap.size 122 #[.int .u8 0, .int .u8 0, .int .u8 0, .int .u8 0, .int .u8 0, .int .u8 0, .int .u8 0, .int .u8 0] ∧ Blk W (w.heap.size + 1) 122 #[.int .u8 (byt n 7), .int .u8 0, .int .u8 0, .int .u8 0, .int .u8 0, .int .u8 0, .int .u8 0, .int .u8 0] ∧ Below w.heap.size w W) ⟨Q0.out.other (by simp) _, by have h := R0.out.set 0 (.int .u8 (byt n 7)); rw [HK0.out] at h; rw [HK0.out]; exact h, B0.out.setCell (by simp) _⟩ ?_
  clear c0 f0
  rintro W1 ⟨q, r, b⟩
  have Q1 := Lib.hid q
  have R1 := Lib.hid r
  have B1 := Lib.hid b
  clear q r b
  have hk : byt n 6 = n / 281474976710656 % 256 := by unfold byt; omega
  have HK1 := Lib.hid hk
  clear hk
  have c0 := R1.out.cell 1
  have f0 := R1.out.free 1
  rw [rounds_succ]
  go_wp2_with fail
  refine rounds_named (fun W => Blk W w.heap.size 122 #[.int .u8 0, .int .u8 0, .int .u8 0, .int .u8 0, .int .u8 0, .int .u8 0, .int .u8 0, .int .u8 0] ∧ Blk W (w.heap.size + 1) 122 #[.int .u8 (byt n 7), .int .u8 (byt n 6), .int .u8 0, .int .u8 0, .int .u8 0, .int .u8 0, .int .u8 0, .int .u8 0] ∧ Below w.heap.size w W) ⟨Q1.out.other (by simp) _, by have h := R1.out.set 1 (.int .u8 (byt n 6)); rw [HK1.out] at h; rw [HK1.out]; exact h, B1.out.setCell (by simp) _⟩ ?_
  clear c0 f0
  rintro W2 ⟨q, r, b⟩
  have Q2 := Lib.hid q
  have R2 := Lib.hid r
  have B2 := Lib.hid b
  clear q r b
  have hk : byt n 5 = n / 1099511627776 % 256 := by unfold byt; omega
  have HK2 := Lib.hid hk
  clear hk
  have c0 := R2.out.cell 2
  have f0 := R2.out.free 2
  rw [rounds_succ]
  go_wp2_with fail
  refine rounds_named (fun W => Blk W w.heap.size 122 #[.int .u8 0, .int .u8 0, .int .u8 0, .int .u8 0, .int .u8 0, .int .u8 0, .int .u8 0, .int .u8 0] ∧ Blk W (w.heap.size + 1) 122 #[.int .u8 (byt n 7), .int .u8 (byt n 6), .int .u8 (byt n 5), .int .u8 0, .int .u8 0, .int .u8 0, .int .u8 0, .int .u8 0] ∧ Below w.heap.size w W) ⟨Q2.out.other (by simp) _, by have h := R2.out.set 2 (.int .u8 (byt n 5)); rw [HK2.out] at h; rw [HK2.out]; exact h, B2.out.setCell (by simp) _⟩ ?_
  clear c0 f0
  rintro W3 ⟨q, r, b⟩
  have Q3 := Lib.hid q
  have R3 := Lib.hid r
  have B3 := Lib.hid b
  clear q r b
  have hk : byt n 4 = n / 4294967296 % 256 := by unfold byt; omega
  have HK3 := Lib.hid hk
  clear hk
  have c0 := R3.out.cell 3
  have f0 := R3.out.free 3
  rw [rounds_succ]
  go_wp2_with fail
  refine rounds_named (fun W => Blk W w.heap.size 122 #[.int .u8 0, .int .u8 0, .int .u8 0, .int .u8 0, .int .u8 0, .int .u8 0, .int .u8 0, .int .u8 0] ∧ Blk W (w.heap.size + 1) 122 #[.int .u8 (byt n 7), .int .u8 (byt n 6), .int .u8 (byt n 5), .int .u8 (byt n 4), .int .u8 0, .int .u8 0, .int .u8 0, .int .u8 0] ∧ Below w.heap.size w W) ⟨Q3.out.other (by simp) _, by have h := R3.out.set 3 (.int .u8 (byt n 4)); rw [HK3.out] at h; rw [HK3.out]; exact h, B3.out.setCell (by simp) _⟩ ?_
  clear c0 f0
  rintro W4 ⟨q, r, b⟩
  have Q4 := Lib.hid q
  have R4 := Lib.hid r
  have B4 := Lib.hid b
  clear q r b
  have hk : byt n 3 = n / 16777216 % 256 := by unfold byt; omega
  have HK4 := Lib.hid hk
  clear hk
  have c0 := R4.out.cell 4
  have f0 := R4.out.free 4
  rw [rounds_succ]
  go_wp2_with fail
  refine rounds_named (fun W => Blk W w.heap.size 122 #[.int .u8 0, .int .u8 0, .int .u8 0, .int .u8 0, .int .u8 0, .int .u8 0, .int .u8 0, .int .u8 0] ∧ Blk W (w.heap.size + 1) 122 #[.int .u8 (byt n 7), .int .u8 (byt n 6), .int .u8 (byt n 5), .int .u8 (byt n 4), .int .u8 (byt n 3), .int .u8 0, .int .u8 0, .int .u8 0] ∧ Below w.heap.size w W) ⟨Q4.out.other (by simp) _, by have h := R4.out.set 4 (.int .u8 (byt n 3)); rw [HK4.out] at h; rw [HK4.out]; exact h, B4.out.setCell (by simp) _⟩ ?_
  clear c0 f0
  rintro W5 ⟨q, r, b⟩
  have Q5 := Lib.hid q
  have R5 := Lib.hid r
  have B5 := Lib.hid b
  clear q r b
  have hk : byt n 2 = n / 65536 % 256 := by unfold byt; omega
  have HK5 := Lib.hid hk
  clear hk
  have c0 := R5.out.cell 5
  have f0 := R5.out.free 5
  rw [rounds_succ]
  go_wp2_with fail
  refine rounds_named (fun W => Blk W w.heap.size 122 #[.int .u8 0, .int .u8 0, .int .u8 0, .int .u8 0, .int .u8 0, .int .u8 0, .int .u8 0, .int .u8 0] ∧ Blk W (w.heap.size + 1) 122 #[.int .u8 (byt n 7), .int .u8 (byt n 6), .int .u8 (byt n 5), .int .u8 (byt n 4), .int .u8 (byt n 3), .int .u8 (byt n 2), .int .u8 0, .int .u8 0] ∧ Below w.heap.size w W) ⟨Q5.out.other (by simp) _, by have h := R5.out.set 5 (.int .u8 (byt n 2)); rw [HK5.out] at h; rw [HK5.out]; exact h, B5.out.setCell (by simp) _⟩ ?_
  clear c0 f0
  rintro W6 ⟨q, r, b⟩
  have Q6 := Lib.hid q
  have R6 := Lib.hid r
  have B6 := Lib.hid b
  clear q r b
  have hk : byt n 1 = n / 256 % 256 := by unfold byt; omega
  have HK6 := Lib.hid hk
  clear hk
  have c0 := R6.out.cell 6
  have f0 := R6.out.free 6
  rw [rounds_succ]
  go_wp2_with fail
  refine rounds_named (fun W => Blk W w.heap.size 122 #[.int .u8 0, .int .u8 0, .int .u8 0, .int .u8 0, .int .u8 0, .int .u8 0, .int .u8 0, .int .u8 0] ∧ Blk W (w.heap.size + 1) 122 #[.int .u8 (byt n 7), .int .u8 (byt n 6), .int .u8 (byt n 5), .int .u8 (byt n 4), .int .u8 (byt n 3), .int .u8 (byt n 2), .int .u8 (byt n 1), .int .u8 0] ∧ Below w.heap.size w W) ⟨Q6.out.other (by simp) _, by have h := R6.out.set 6 (.int .u8 (byt n 1)); rw [HK6.out] at h; rw [HK6.out]; exact h, B6.out.setCell (by simp) _⟩ ?_
  clear c0 f0
  rintro W7 ⟨q, r, b⟩
  have Q7 := Lib.hid q
  have R7 := Lib.hid r
  have B7 := Lib.hid b
  clear q r b
  have hk : byt n 0 = n % 256 := by unfold byt; omega
  have HK7 := Lib.hid hk
  clear hk
  have c0 := R7.out.cell 7
  have f0 := R7.out.free 7
  rw [rounds_succ]
  go_wp2_with fail
  refine rounds_named (fun W => Blk W w.heap.size 122 #[.int .u8 0, .int .u8 0, .int .u8 0, .int .u8 0, .int .u8 0, .int .u8 0, .int .u8 0, .int .u8 0] ∧ Blk W (w.heap.size + 1) 122 #[.int .u8 (byt n 7), .int .u8 (byt n 6), .int .u8 (byt n 5), .int .u8 (byt n 4), .int .u8 (byt n 3), .int .u8 (byt n 2), .int .u8 (byt n 1), .int .u8 (byt n 0)] ∧ Below w.heap.size w W) ⟨Q7.out.other (by simp) _, by have h := R7.out.set 7 (.int .u8 (byt n 0)); rw [HK7.out] at h; rw [HK7.out]; exact h, B7.out.setCell (by simp) _⟩ ?_
  clear c0 f0
  rintro W8 ⟨q, r, b⟩
  have Q8 := Lib.hid q
  have R8 := Lib.hid r
  have B8 := Lib.hid b
  clear q r b
  rw [rounds_succ]
  have c0 := R8.out.cell 0
  have c1 := R8.out.cell 1
  have c2 := R8.out.cell 2
  have c3 := R8.out.cell 3
  have c4 := R8.out.cell 4
  have c5 := R8.out.cell 5
  have c6 := R8.out.cell 6
  have c7 := R8.out.cell 7
  have d0 := Q8.out.cell 0
  have d1 := Q8.out.cell 1
  have d2 := Q8.out.cell 2
  have d3 := Q8.out.cell 3
  have d4 := Q8.out.cell 4
  have d5 := Q8.out.cell 5
  have d6 := Q8.out.cell 6
  have d7 := Q8.out.cell 7
  have f0 := Q8.out.free 0
  have f1 := Q8.out.free 1
  have f2 := Q8.out.free 2
  have f3 := Q8.out.free 3
  have f4 := Q8.out.free 4
  have f5 := Q8.out.free 5
  have f6 := Q8.out.free 6
  have f7 := Q8.out.free 7
  go_wp2_with fail
  have h := ((((((((Q8.out.set 0 (.int .u8 (byt n 7))).set 1 (.int .u8 (byt n 6))).set 2 (.int .u8 (byt n 5))).set 3 (.int .u8 (byt n 4))).set 4 (.int .u8 (byt n 3))).set 5 (.int .u8 (byt n 2))).set 6 (.int .u8 (byt n 1))).set 7 (.int .u8 (byt n 0)))
  have e0 := h.cell 0
  have e1 := h.cell 1
  have e2 := h.cell 2
  have e3 := h.cell 3
  have e4 := h.cell 4
  have e5 := h.cell 5
  have e6 := h.cell 6
  have e7 := h.cell 7
  refine bodyPost_ret (v := be8 n) (by simp [results, Tryz.results118, go_sem, be8, e0, e1, e2, e3, e4, e5, e6, e7]) rfl ⟨rfl, ?_⟩
  exact ((((((((B8.out.setCell (by simp) _).setCell (by simp) _).setCell (by simp) _).setCell (by simp) _).setCell (by simp) _).setCell (by simp) _).setCell (by simp) _).setCell (by simp) _)

set_option maxHeartbeats 4000000 in
theorem eight_slice (n : Int) [hn : IsU n] (w : World) :
    Calls Tryz.prog 142 #[.int .u64 n] w fun e w' => ∃ A, e = .returned (.slice A 8 8) ∧ SI w' w'.heap.size .u8 A (be n 8) ∧ Below w.heap.size w w' := by
  have n0 := hn.1
  have n1 := hn.2
  have HN0 := Lib.hid (show n / 1 = n by omega)
  have m0 : (Instr.makeSlice 22 (.int .i64 8) (.int .i64 8)).run Tryz.prog w = .ok (.slice (some ⟨w.heap.size, 0, none⟩) 8 8) (w.alloc (.cells #[.int .u8 0, .int .u8 0, .int .u8 0, .int .u8 0, .int .u8 0, .int .u8 0, .int .u8 0, .int .u8 0] 5)) := by kernel_rfl
  go_enter Tryz.func142, Tryz.ntmps142
  go_wp2_with fail
  refine wp_named (fun W => Blk W w.heap.size 5 #[.int .u8 0, .int .u8 0, .int .u8 0, .int .u8 0, .int .u8 0, .int .u8 0, .int .u8 0, .int .u8 0] ∧ Below w.heap.size w W) ⟨Blk.new_at w _ _ rfl, (Below.refl _ _).alloc (Nat.le_refl _) _⟩ ?_
  rintro W0 ⟨r, b⟩
  have R0 := Lib.hid r
  have B0 := Lib.hid b
  clear r b m0
  refine wp_loop_rounds 9 ?_
  have HK0 := Lib.hid (show byt n 0 = n % 256 by have := HN0.out; unfold byt; omega)
  have c0 := R0.out.cell 7
  have f0 := R0.out.free 7
  rw [rounds_succ]
  go_wp2_with fail
  refine rounds_named (fun W => Blk W w.heap.size 5 #[.int .u8 0, .int .u8 0, .int .u8 0, .int .u8 0, .int .u8 0, .int .u8 0, .int .u8 0, .int .u8 (byt n 0)] ∧ Below w.heap.size w W) ⟨by have h := R0.out.set 7 (.int .u8 (byt n 0)); rw [HK0.out] at h; rw [HK0.out]; exact h, B0.out.setCell (by simp) _⟩ ?_
  clear c0 f0
  rintro W1 ⟨r, b⟩
  have R1 := Lib.hid r
  have B1 := Lib.hid b
  clear r b
  generalize hm : n / 256 = m1
  have HN1 := Lib.hid (show n / 256 = m1 by have := HN0.out; omega)
  have l1 : 0 ≤ m1 := by omega
  have u1 : m1 < 18446744073709551616 := by omega
  clear hm
  have HK1 := Lib.hid (show byt n 1 = m1 % 256 by have := HN1.out; unfold byt; omega)
  have c0 := R1.out.cell 6
  have f0 := R1.out.free 6
  rw [rounds_succ]
  go_wp2_with fail
  refine rounds_named (fun W => Blk W w.heap.size 5 #[.int .u8 0, .int .u8 0, .int .u8 0, .int .u8 0, .int .u8 0, .int .u8 0, .int .u8 (byt n 1), .int .u8 (byt n 0)] ∧ Below w.heap.size w W) ⟨by have h := R1.out.set 6 (.int .u8 (byt n 1)); rw [HK1.out] at h; rw [HK1.out]; exact h, B1.out.setCell (by simp) _⟩ ?_
  clear c0 f0
  rintro W2 ⟨r, b⟩
  have R2 := Lib.hid r
  have B2 := Lib.hid b
  clear r b
  generalize hm : m1 / 256 = m2
  have HN2 := Lib.hid (show n / 65536 = m2 by have := HN1.out; omega)
  have l2 : 0 ≤ m2 := by omega
  have u2 : m2 < 18446744073709551616 := by omega
  clear hm
  have HK2 := Lib.hid (show byt n 2 = m2 % 256 by have := HN2.out; unfold byt; omega)
  have c0 := R2.out.cell 5
  have f0 := R2.out.free 5
  rw [rounds_succ]
  go_wp2_with fail
  refine rounds_named (fun W => Blk W w.heap.size 5 #[.int .u8 0, .int .u8 0, .int .u8 0, .int .u8 0, .int .u8 0, .int .u8 (byt n 2), .int .u8 (byt n 1), .int .u8 (byt n 0)] ∧ Below w.heap.size w W) ⟨by have h := R2.out.set 5 (.int .u8 (byt n 2)); rw [HK2.out] at h; rw [HK2.out]; exact h, B2.out.setCell (by simp) _⟩ ?_
  clear c0 f0
  rintro W3 ⟨r, b⟩
  have R3 := Lib.hid r
  have B3 := Lib.hid b
  clear r b
  generalize hm : m2 / 256 = m3
  have HN3 := Lib.hid (show n / 16777216 = m3 by have := HN2.out; omega)
  have l3 : 0 ≤ m3 := by omega
  have u3 : m3 < 18446744073709551616 := by omega
  clear hm
  have HK3 := Lib.hid (show byt n 3 = m3 % 256 by have := HN3.out; unfold byt; omega)
  have c0 := R3.out.cell 4
  have f0 := R3.out.free 4
  rw [rounds_succ]
  go_wp2_with fail
  refine rounds_named (fun W => Blk W w.heap.size 5 #[.int .u8 0, .int .u8 0, .int .u8 0, .int .u8 0, .int .u8 (byt n 3), .int .u8 (byt n 2), .int .u8 (byt n 1), .int .u8 (byt n 0)] ∧ Below w.heap.size w W) ⟨by have h := R3.out.set 4 (.int .u8 (byt n 3)); rw [HK3.out] at h; rw [HK3.out]; exact h, B3.out.setCell (by simp) _⟩ ?_
  clear c0 f0
  rintro W4 ⟨r, b⟩
  have R4 := Lib.hid r
  have B4 := Lib.hid b
  clear r b
  generalize hm : m3 / 256 = m4
  have HN4 := Lib.hid (show n / 4294967296 = m4 by have := HN3.out; omega)
  have l4 : 0 ≤ m4 := by omega
  have u4 : m4 < 18446744073709551616 := by omega
  clear hm
  have HK4 := Lib.hid (show byt n 4 = m4 % 256 by have := HN4.out; unfold byt; omega)
  have c0 := R4.out.cell 3
  have f0 := R4.out.free 3
  rw [rounds_succ]
  go_wp2_with fail
  refine rounds_named (fun W => Blk W w.heap.size 5 #[.int .u8 0, .int .u8 0, .int .u8 0, .int .u8 (byt n 4), .int .u8 (byt n 3), .int .u8 (byt n 2), .int .u8 (byt n 1), .int .u8 (byt n 0)] ∧ Below w.heap.size w W) ⟨by have h := R4.out.set 3 (.int .u8 (byt n 4)); rw [HK4.out] at h; rw [HK4.out]; exact h, B4.out.setCell (by simp) _⟩ ?_
  clear c0 f0
  rintro W5 ⟨r, b⟩
  have R5 := Lib.hid r
  have B5 := Lib.hid b
  clear r b
  generalize hm : m4 / 256 = m5
  have HN5 := Lib.hid (show n / 1099511627776 = m5 by have := HN4.out; omega)
  have l5 : 0 ≤ m5 := by omega
  have u5 : m5 < 18446744073709551616 := by omega
  clear hm
  have HK5 := Lib.hid (show byt n 5 = m5 % 256 by have := HN5.out; unfold byt; omega)
  have c0 := R5.out.cell 2
  have f0 := R5.out.free 2
  rw [rounds_succ]
  go_wp2_with fail
  refine rounds_named (fun W => Blk W w.heap.size 5 #[.int .u8 0, .int .u8 0, .int .u8 (byt n 5), .int .u8 (byt n 4), .int .u8 (byt n 3), .int .u8 (byt n 2), .int .u8 (byt n 1), .int .u8 (byt n 0)] ∧ Below w.heap.size w W) ⟨by have h := R5.out.set 2 (.int .u8 (byt n 5)); rw [HK5.out] at h; rw [HK5.out]; exact h, B5.out.setCell (by simp) _⟩ ?_
  clear c0 f0
  rintro W6 ⟨r, b⟩
  have R6 := Lib.hid r
  have B6 := Lib.hid b
  clear r b
  generalize hm : m5 / 256 = m6
  have HN6 := Lib.hid (show n / 281474976710656 = m6 by have := HN5.out; omega)
  have l6 : 0 ≤ m6 := by omega
  have u6 : m6 < 18446744073709551616 := by omega
  clear hm
  have HK6 := Lib.hid (show byt n 6 = m6 % 256 by have := HN6.out; unfold byt; omega)
  have c0 := R6.out.cell 1
  have f0 := R6.out.free 1
  rw [rounds_succ]
  go_wp2_with fail
  refine rounds_named (fun W => Blk W w.heap.size 5 #[.int .u8 0, .int .u8 (byt n 6), .int .u8 (byt n 5), .int .u8 (byt n 4), .int .u8 (byt n 3), .int .u8 (byt n 2), .int .u8 (byt n 1), .int .u8 (byt n 0)] ∧ Below w.heap.size w W) ⟨by have h := R6.out.set 1 (.int .u8 (byt n 6)); rw [HK6.out] at h; rw [HK6.out]; exact h, B6.out.setCell (by simp) _⟩ ?_
  clear c0 f0
  rintro W7 ⟨r, b⟩
  have R7 := Lib.hid r
  have B7 := Lib.hid b
  clear r b
  generalize hm : m6 / 256 = m7
  have HN7 := Lib.hid (show n / 72057594037927936 = m7 by have := HN6.out; omega)
  have l7 : 0 ≤ m7 := by omega
  have u7 : m7 < 18446744073709551616 := by omega
  clear hm
  have HK7 := Lib.hid (show byt n 7 = m7 % 256 by have := HN7.out; unfold byt; omega)
  have c0 := R7.out.cell 0
  have f0 := R7.out.free 0
  rw [rounds_succ]
  go_wp2_with fail
  refine rounds_named (fun W => Blk W w.heap.size 5 #[.int .u8 (byt n 7), .int .u8 (byt n 6), .int .u8 (byt n 5), .int .u8 (byt n 4), .int .u8 (byt n 3), .int .u8 (byt n 2), .int .u8 (byt n 1), .int .u8 (byt n 0)] ∧ Below w.heap.size w W) ⟨by have h := R7.out.set 0 (.int .u8 (byt n 7)); rw [HK7.out] at h; rw [HK7.out]; exact h, B7.out.setCell (by simp) _⟩ ?_
  clear c0 f0
  rintro W8 ⟨r, b⟩
  have R8 := Lib.hid r
  have B8 := Lib.hid b
  clear r b
  generalize hm : m7 / 256 = m8
  have HN8 := Lib.hid (show n / 18446744073709551616 = m8 by have := HN7.out; omega)
  have l8 : 0 ≤ m8 := by omega
  have u8 : m8 < 18446744073709551616 := by omega
  clear hm
  rw [rounds_succ]
  go_wp2_with fail
  go_ret
  exact ⟨_, rfl, si_be8 R8.out, B8.out⟩
end Go.Proofs.YtlannmedefjfhaaGreat

/- Contracts of the signatures: what is hashed of parts, as a number; a secret of a seed. -/
namespace Go.Proofs.YtlannmedefjfhaaGreat
open Go.ChangeShapes Go.WideShapes Go.ChangeAt Go.RowKit Gs
set_option linter.unusedVariables false

/-- What is hashed of a tag and parts, as a number below m. -/
def hof (s : ByteArray) (ps : List (List Int)) (m : Int) : Int := hnum (hst (coded (sbytes s) ps)).1 (hst (coded (sbytes s) ps)).2.1 m
theorem hnum_bound (a b : Int) {m : Int} (h : 0 < m) : 0 ≤ hnum a b m ∧ hnum a b m < m := by
  unfold hnum
  rw [if_neg (by omega)]
  exact ⟨Int.emod_nonneg _ (by omega), Int.emod_lt_of_pos _ h⟩
theorem hof_bound (s : ByteArray) (ps : List (List Int)) {m : Int} (h : 0 < m) : 0 ≤ hof s ps m ∧ hof s ps m < m := hnum_bound _ _ h
instance (l : List Int) : IsU (hst l).1 := IsU.of (hst_el l).1.u64
instance (l : List Int) : IsU (hst l).2.1 := IsU.of (hst_el l).2.1.u64

/-- Bytes that a slice holds. -/
def Sli (w : World) (v : Value) (xs : List Int) : Prop := ∃ A c, v = .slice A xs.length c ∧ xs.length ≤ c ∧ c ≤ maxLen ∧ SI w w.heap.size .u8 A xs
theorem Sli.on {w w' : World} {v : Value} {xs : List Int} (h : Sli w v xs) (hb : Below w.heap.size w w') : Sli w' v xs := by
  obtain ⟨A, c, e, h1, h2, hs⟩ := h
  exact ⟨A, c, e, h1, h2, hs.on hb⟩
theorem sli_at {w : World} {xs : List Int} {ps : List (List Int)} {j : Nat} (hj : j < ps.length) (e : ps[j] = xs) {v : Value} (h : Sli w v xs) {ad : Addr} (hb : ad.block < w.heap.size) (hc : w.cell? (ad.add j) = some v) :
    ∃ ad', some ad = some ad' ∧ ad'.block < w.heap.size ∧ ∃ A' c', w.cell? (ad'.add j) = some (.slice A' ps[j].length c') ∧ ps[j].length ≤ c' ∧ c' ≤ maxLen ∧ SI w w.heap.size .u8 A' ps[j] := by
  subst e
  obtain ⟨A, c, rfl, h1, h2, hs⟩ := h
  exact ⟨ad, rfl, hb, A, c, hc, h1, h2, hs⟩
theorem sp1 {w : World} {g : Nat} {t : TypeId} {v : Value} {xs : List Int} (h : Blk w g t #[v]) (hv : Sli w v xs) : SP w w.heap.size (some ⟨g, 0, none⟩) [xs] := fun j hj => by
  rcases j with _ | j
  · exact sli_at (ps := [xs]) (j := 0) hj rfl hv h.lt (h.cell 0)
  · simp at hj
theorem sp2 {w : World} {g : Nat} {t : TypeId} {v u : Value} {xs ys : List Int} (h : Blk w g t #[v, u]) (hv : Sli w v xs) (hu : Sli w u ys) : SP w w.heap.size (some ⟨g, 0, none⟩) [xs, ys] := fun j hj => by
  rcases j with _ | _ | j
  · exact sli_at (ps := [xs, ys]) (j := 0) hj rfl hv h.lt (h.cell 0)
  · exact sli_at (ps := [xs, ys]) (j := 1) hj rfl hu h.lt (h.cell 1)
  · exact absurd hj (by simp)
theorem sp3 {w : World} {g : Nat} {t : TypeId} {v u z : Value} {xs ys zs : List Int} (h : Blk w g t #[v, u, z]) (hv : Sli w v xs) (hu : Sli w u ys) (hz : Sli w z zs) : SP w w.heap.size (some ⟨g, 0, none⟩) [xs, ys, zs] := fun j hj => by
  rcases j with _ | _ | _ | j
  · exact sli_at (ps := [xs, ys, zs]) (j := 0) hj rfl hv h.lt (h.cell 0)
  · exact sli_at (ps := [xs, ys, zs]) (j := 1) hj rfl hu h.lt (h.cell 1)
  · exact sli_at (ps := [xs, ys, zs]) (j := 2) hj rfl hz h.lt (h.cell 2)
  · exact absurd hj (by simp)

/-- What parts are: bytes, not too long in all. -/
structure Parts (s : ByteArray) (ps : List (List Int)) : Prop where
  byte : ∀ p ∈ ps, ∀ x ∈ p, 0 ≤ x ∧ x < 256
  len : s.size + psz ps ≤ 1099511627776
  few : ps.length ≤ 1099511627776

theorem numberOf_any (m : Int) [IsU m] (s : ByteArray) (A : Option Addr) (c k : Nat) (ps : List (List Int)) (hk : ps.length = k) (hp : Parts s ps) (w : World) (h : SP w w.heap.size A ps) :
    Calls Tryz.prog 119 #[.int .u64 m, .string s, .slice A k c] w fun e w' => e = .returned (.int .u64 (hof s ps m)) ∧ Below w.heap.size w w' := by
  subst hk
  have B0 := Lib.hid (Below.refl w.heap.size w)
  have T := Lib.hid (Tagged_any s A c ps hp.byte hp.len hp.few)
  have M := Lib.hid (Num_any (hst (coded (sbytes s) ps)).1 (hst (coded (sbytes s) ps)).2.1 m)
  have H := Lib.hid h
  clear h hp
  go_enter Tryz.func119, Tryz.ntmps119
  go_wp2_with fail
  refine (T.out _ H.out).mono ?_; rintro e w1 ⟨rfl, b⟩; have B1 := Lib.hid (below_on B0.out b); clear b
  go_wp2_with fail
  refine (M.out _).mono ?_; rintro e w2 ⟨rfl, b⟩; have B2 := Lib.hid (below_on B1.out b); clear b
  go_wp2_with fail
  go_ret
  exact ⟨rfl, B2.out⟩

theorem secretOf_any (s : ByteArray) (A : Option Addr) (c k : Nat) (ps : List (List Int)) (hk : ps.length = k) (hp : Parts s ps) (w : World) (h : SP w w.heap.size A ps) :
    Calls Tryz.prog 85 #[.string s, .slice A k c] w fun e w' => e = .returned (.int .u64 (1 + hof s ps 1152921504606845788)) ∧ Below w.heap.size w w' := by
  have B0 := Lib.hid (Below.refl w.heap.size w)
  haveI : IsU 1152921504606845788 := ⟨by omega, by omega⟩
  have T := Lib.hid (numberOf_any 1152921504606845788 s A c k ps hk hp)
  have hb := hof_bound s ps (m := 1152921504606845788) (by omega)
  have H := Lib.hid h
  clear h hp
  generalize hof s ps 1152921504606845788 = x at T hb ⊢
  have x0 := hb.1
  have x1 := hb.2
  clear hb
  go_enter Tryz.func85, Tryz.ntmps85
  go_wp2_with fail
  refine (T.out _ H.out).mono ?_; rintro e w1 ⟨rfl, b⟩; have B1 := Lib.hid (below_on B0.out b); clear b
  go_wp2_with fail
  go_ret
  exact ⟨rfl, B1.out⟩

/-- What a seed's secret is. -/
def ssecret (xs : List Int) : Int := 1 + hof ⟨#[115, 101, 99, 114, 101, 116]⟩ [xs] 1152921504606845788
theorem ssecret_bound (xs : List Int) : 1 ≤ ssecret xs ∧ ssecret xs < 1152921504606845789 := by
  have h := hof_bound ⟨#[115, 101, 99, 114, 101, 116]⟩ [xs] (m := 1152921504606845788) (by omega)
  unfold ssecret; omega
instance (xs : List Int) : IsU (ssecret xs) := ⟨by have := ssecret_bound xs; omega, by have := ssecret_bound xs; omega⟩

theorem Secret_any (A : Option Addr) (c : Nat) (xs : List Int) (hx : ∀ x ∈ xs, 0 ≤ x ∧ x < 256) (hl : xs.length ≤ 1000) (hc : xs.length ≤ c) (hm : c ≤ maxLen) (w : World) (hs : SI w w.heap.size .u8 A xs) :
    Calls Tryz.prog 33 #[.slice A xs.length c] w fun e w' => e = .returned (.int .u64 (ssecret xs)) ∧ Below w.heap.size w w' := by
  have V := Lib.hid (show Sli w (.slice A xs.length c) xs from ⟨A, c, rfl, hc, hm, hs⟩)
  have T := Lib.hid (fun A c => secretOf_any ⟨#[115, 101, 99, 114, 101, 116]⟩ A c 1 [xs] rfl ⟨by simpa using hx, by simp [psz, ByteArray.size]; omega, by simp⟩)
  clear hs hx hm
  go_enter Tryz.func33, Tryz.ntmps33
  go_wp2_with fail
  refine (T.out _ _ _ (sp1 (Blk.new_at w _ _ rfl) (V.out.on ((Below.refl _ _).alloc (Nat.le_refl _) _)))).mono ?_
  rintro e w1 ⟨rfl, b⟩
  have B1 := Lib.hid (below_on ((Below.refl w.heap.size w).alloc (Nat.le_refl _) _) b)
  clear b
  go_wp2_with fail
  go_ret
  exact ⟨rfl, B1.out⟩

theorem refSecret_any (A : Option Addr) (c : Nat) (xs : List Int) (hx : ∀ x ∈ xs, 0 ≤ x ∧ x < 256) (hl : xs.length ≤ 1000) (hc : xs.length ≤ c) (hm : c ≤ maxLen) (w : World) (hs : SI w w.heap.size .u8 A xs) :
    Calls Tryz.prog 37 #[.slice A xs.length c] w fun e w' => e = .returned (.int .u64 (ssecret xs)) ∧ Below w.heap.size w w' := by
  have V := Lib.hid (show Sli w (.slice A xs.length c) xs from ⟨A, c, rfl, hc, hm, hs⟩)
  haveI : IsU 1152921504606845788 := ⟨by omega, by omega⟩
  have T := Lib.hid (fun A c => refTagged_any ⟨#[115, 101, 99, 114, 101, 116]⟩ A c [xs] (by simpa using hx) (by simp [psz, ByteArray.size]; omega) (by simp))
  have M := Lib.hid (refNum_any (hst (coded (sbytes ⟨#[115, 101, 99, 114, 101, 116]⟩) [xs])).1 (hst (coded (sbytes ⟨#[115, 101, 99, 114, 101, 116]⟩) [xs])).2.1 1152921504606845788)
  have hb := hof_bound ⟨#[115, 101, 99, 114, 101, 116]⟩ [xs] (m := 1152921504606845788) (by omega)
  unfold ssecret
  rw [show hnum (hst (coded (sbytes ⟨#[115, 101, 99, 114, 101, 116]⟩) [xs])).1 (hst (coded (sbytes ⟨#[115, 101, 99, 114, 101, 116]⟩) [xs])).2.1 1152921504606845788 = hof ⟨#[115, 101, 99, 114, 101, 116]⟩ [xs] 1152921504606845788 from rfl] at M
  generalize hof ⟨#[115, 101, 99, 114, 101, 116]⟩ [xs] 1152921504606845788 = x at M hb ⊢
  have x0 := hb.1
  have x1 := hb.2
  clear hs hx hm hb
  go_enter Tryz.func37, Tryz.ntmps37
  go_wp2_with fail
  refine (T.out _ _ _ (sp1 (Blk.new_at w _ _ rfl) (V.out.on ((Below.refl _ _).alloc (Nat.le_refl _) _)))).mono ?_
  rintro e w1 ⟨rfl, b⟩
  have B1 := Lib.hid (below_on ((Below.refl w.heap.size w).alloc (Nat.le_refl _) _) b)
  clear b
  go_wp2_with fail
  refine (M.out _).mono ?_; rintro e w2 ⟨rfl, b⟩; have B2 := Lib.hid (below_on B1.out b); clear b
  go_wp2_with fail
  go_ret
  exact ⟨rfl, B2.out⟩

/-- What is hashed of a commitment. -/
def schal (c p : Int) (xs : List Int) : Int := hof ⟨#[115, 105, 103, 110]⟩ [be c 8, be p 8, xs] 1152921504606845789
theorem schal_bound (c p : Int) (xs : List Int) : 0 ≤ schal c p xs ∧ schal c p xs < 1152921504606845789 := hof_bound _ _ (by omega)
instance (c p : Int) (xs : List Int) : IsU (schal c p xs) := ⟨by have := schal_bound c p xs; omega, by have := schal_bound c p xs; omega⟩
theorem chal_parts (c p : Int) {xs : List Int} (hx : ∀ x ∈ xs, 0 ≤ x ∧ x < 256) (hl : xs.length ≤ 1000) : Parts ⟨#[115, 105, 103, 110]⟩ [be c 8, be p 8, xs] :=
  ⟨by
    intro q hq
    simp only [List.mem_cons, List.not_mem_nil, or_false] at hq
    rcases hq with rfl | rfl | rfl
    · exact be_bound _ _
    · exact be_bound _ _
    · exact hx, by simp [psz, ByteArray.size, be_length]; omega, by simp⟩

theorem Challenge_any (c p : Int) [IsU c] [IsU p] (A : Option Addr) (cp : Nat) (xs : List Int) (hx : ∀ x ∈ xs, 0 ≤ x ∧ x < 256) (hl : xs.length ≤ 1000) (hc : xs.length ≤ cp) (hm : cp ≤ maxLen) (w : World) (hs : SI w w.heap.size .u8 A xs) :
    Calls Tryz.prog 74 #[.int .u64 c, .int .u64 p, .slice A xs.length cp] w fun e w' => e = .returned (.int .u64 (schal c p xs)) ∧ Below w.heap.size w w' := by
  have V := Lib.hid (show Sli w (.slice A xs.length cp) xs from ⟨A, cp, rfl, hc, hm, hs⟩)
  haveI : IsU 1152921504606845789 := ⟨by omega, by omega⟩
  have T := Lib.hid (fun A c' => numberOf_any 1152921504606845789 ⟨#[115, 105, 103, 110]⟩ A c' 3 [be c 8, be p 8, xs] rfl (chal_parts c p hx hl))
  have P1 := Lib.hid (bytesOf_any c)
  have P2 := Lib.hid (bytesOf_any p)
  unfold be8 at P1 P2
  clear hs hx hm
  go_enter Tryz.func74, Tryz.ntmps74
  go_wp2_with fail
  refine (P1.out _).mono ?_; rintro e w1 ⟨rfl, b⟩; have B1 := Lib.hid b; clear b
  go_wp2_with fail
  refine (P2.out _).mono ?_; rintro e w2 ⟨rfl, b⟩; have B2 := Lib.hid (below_on B1.out b); clear b
  go_wp2_with fail
  refine wp_named (fun W => Blk W w2.heap.size 122 #[.int .u8 (byt c 7), .int .u8 (byt c 6), .int .u8 (byt c 5), .int .u8 (byt c 4), .int .u8 (byt c 3), .int .u8 (byt c 2), .int .u8 (byt c 1), .int .u8 (byt c 0)] ∧ Blk W (w2.heap.size + 1) 122 #[.int .u8 (byt p 7), .int .u8 (byt p 6), .int .u8 (byt p 5), .int .u8 (byt p 4), .int .u8 (byt p 3), .int .u8 (byt p 2), .int .u8 (byt p 1), .int .u8 (byt p 0)] ∧ Below w.heap.size w W) ⟨(Blk.new_at w2 _ _ rfl).alloc _, Blk.new_at _ _ _ (by simp), (B2.out.alloc B2.out.size _).alloc (by have := B2.out.size; simp; omega) _⟩ ?_
  rintro W ⟨q1, q2, b3⟩
  have B3 := Lib.hid b3
  have V1 := Lib.hid (show Sli W (.slice (some ⟨w2.heap.size, 0, none⟩) 8 8) (be c 8) from ⟨_, 8, by rw [be_length], by rw [be_length]; omega, by unfold maxLen; omega, si_be8 q1⟩)
  have V2 := Lib.hid (show Sli W (.slice (some ⟨w2.heap.size + 1, 0, none⟩) 8 8) (be p 8) from ⟨_, 8, by rw [be_length], by rw [be_length]; omega, by unfold maxLen; omega, si_be8 q2⟩)
  have V3 := Lib.hid (V.out.on B3.out)
  clear q1 q2 b3 P1 P2
  go_region_with
    (first | (go_at_call 119; refine (T.out _ _ _ (sp3 (Blk.drew (Blk.new_at W _ _ rfl)) (V1.out.on ((Below.refl _ _).alloc (Nat.le_refl _) _).drew) (V2.out.on ((Below.refl _ _).alloc (Nat.le_refl _) _).drew) (V3.out.on ((Below.refl _ _).alloc (Nat.le_refl _) _).drew))).mono ?_; rintro e w5 ⟨rfl, b5⟩; have hW := below_on ((Below.refl W.heap.size W).alloc (Nat.le_refl _) _).drew b5))
  all_goals
    go_wp2_with fail
    go_ret
    exact ⟨rfl, B3.out.trans (hW.mono B3.out.size)⟩

theorem refChallenge_any (c p : Int) [IsU c] [IsU p] (A : Option Addr) (cp : Nat) (xs : List Int) (hx : ∀ x ∈ xs, 0 ≤ x ∧ x < 256) (hl : xs.length ≤ 1000) (hc : xs.length ≤ cp) (hm : cp ≤ maxLen) (w : World) (hs : SI w w.heap.size .u8 A xs) :
    Calls Tryz.prog 116 #[.int .u64 c, .int .u64 p, .slice A xs.length cp] w fun e w' => e = .returned (.int .u64 (schal c p xs)) ∧ Below w.heap.size w w' := by
  have B0 := Lib.hid (Below.refl w.heap.size w)
  have V := Lib.hid (show Sli w (.slice A xs.length cp) xs from ⟨A, cp, rfl, hc, hm, hs⟩)
  haveI : IsU 1152921504606845789 := ⟨by omega, by omega⟩
  have K := Lib.hid (chal_parts c p hx hl)
  have T := Lib.hid (fun A c' => refTagged_any ⟨#[115, 105, 103, 110]⟩ A c' [be c 8, be p 8, xs] K.out.byte K.out.len K.out.few)
  have M := Lib.hid (refNum_any (hst (coded (sbytes ⟨#[115, 105, 103, 110]⟩) [be c 8, be p 8, xs])).1 (hst (coded (sbytes ⟨#[115, 105, 103, 110]⟩) [be c 8, be p 8, xs])).2.1 1152921504606845789)
  have P1 := Lib.hid (eight_slice c)
  have P2 := Lib.hid (eight_slice p)
  clear hs hx hm
  go_enter Tryz.func116, Tryz.ntmps116
  go_wp2_with fail
  refine (P1.out _).mono ?_; rintro e w1 ⟨A1, rfl, s1, b⟩; have B1 := Lib.hid (below_on B0.out b); clear b
  have S1 := Lib.hid s1
  clear s1
  go_wp2_with fail
  refine (P2.out _).mono ?_; rintro e w2 ⟨A2, rfl, s2, b⟩
  have V1 := Lib.hid (show Sli w2 (.slice A1 8 8) (be c 8) from ⟨A1, 8, by rw [be_length], by rw [be_length]; omega, by unfold maxLen; omega, S1.out.on b⟩)
  have V2 := Lib.hid (show Sli w2 (.slice A2 8 8) (be p 8) from ⟨A2, 8, by rw [be_length], by rw [be_length]; omega, by unfold maxLen; omega, s2⟩)
  have B2 := Lib.hid (below_on B1.out b)
  have V3 := Lib.hid (V.out.on B2.out)
  clear b s2
  go_wp2_with fail
  refine (T.out _ _ _ (sp3 (Blk.new_at w2 _ _ rfl) (V1.out.on ((Below.refl _ _).alloc (Nat.le_refl _) _)) (V2.out.on ((Below.refl _ _).alloc (Nat.le_refl _) _)) (V3.out.on ((Below.refl _ _).alloc (Nat.le_refl _) _)))).mono ?_
  rintro e w3 ⟨rfl, b⟩
  have B3 := Lib.hid (below_on (B2.out.alloc B2.out.size _) b)
  clear b
  go_wp2_with fail
  refine (M.out _).mono ?_; rintro e w4 ⟨rfl, b⟩; have B4 := Lib.hid (below_on B3.out b); clear b
  go_wp2_with fail
  go_ret
  exact ⟨rfl, B4.out⟩
end Go.Proofs.YtlannmedefjfhaaGreat

/- Contracts of the signatures: public keys, what is signed. -/
namespace Go.Proofs.YtlannmedefjfhaaGreat
open Go.ChangeShapes Go.WideShapes Go.ChangeAt Go.RowKit Gs
set_option linter.unusedVariables false

theorem Public_ok (s : Int) (h1 : 1 ≤ s) (h2 : s < 1152921504606845789) (w : World) :
    Calls Tryz.prog 36 #[.int .u64 s] w fun e w' => e = .returned (.tuple #[.int .u64 (qpow 4 s), .int .i64 0]) ∧ Below w.heap.size w w' := by
  haveI : IsU s := ⟨by omega, by omega⟩
  have B0 := Lib.hid (Below.refl w.heap.size w)
  have P := Lib.hid (Base_q s)
  generalize qpow 4 s = x at P ⊢
  go_enter Tryz.func36, Tryz.ntmps36
  go_wp2_with fail
  refine (P.out _).mono ?_; rintro e w1 ⟨rfl, b⟩; have B1 := Lib.hid (below_on B0.out b); clear b
  go_wp2_with fail
  go_ret2
  exact ⟨rfl, B1.out⟩
theorem Public_bad (s : Int) (h0 : 0 ≤ s) (h3 : s < 18446744073709551616) (h : s < 1 ∨ 1152921504606845789 ≤ s) (w : World) :
    Calls Tryz.prog 36 #[.int .u64 s] w fun e w' => e = .returned (.tuple #[.int .u64 0, .int .i64 1]) ∧ Below w.heap.size w w' := by
  have B0 := Lib.hid (Below.refl w.heap.size w)
  rcases h with h | h
  all_goals
    go_enter Tryz.func36, Tryz.ntmps36
    go_wp2_with fail
    go_ret2
    exact ⟨rfl, B0.out⟩

/-- The nonce of a secret and a message. -/
def snonce (s : Int) (xs : List Int) : Int := 1 + hof ⟨#[110, 111, 110, 99, 101]⟩ [be s 8, xs] 1152921504606845788
theorem snonce_bound (s : Int) (xs : List Int) : 1 ≤ snonce s xs ∧ snonce s xs < 1152921504606845789 := by
  have h := hof_bound ⟨#[110, 111, 110, 99, 101]⟩ [be s 8, xs] (m := 1152921504606845788) (by omega)
  unfold snonce; omega
instance (s : Int) (xs : List Int) : IsU (snonce s xs) := ⟨by have := snonce_bound s xs; omega, by have := snonce_bound s xs; omega⟩
theorem nonce_parts (s : Int) {xs : List Int} (hx : ∀ x ∈ xs, 0 ≤ x ∧ x < 256) (hl : xs.length ≤ 1000) : Parts ⟨#[110, 111, 110, 99, 101]⟩ [be s 8, xs] :=
  ⟨by
    intro q hq
    simp only [List.mem_cons, List.not_mem_nil, or_false] at hq
    rcases hq with rfl | rfl
    · exact be_bound _ _
    · exact hx, by simp [psz, ByteArray.size, be_length]; omega, by simp⟩
/-- The two numbers of what is signed. -/
def ssigE (s : Int) (xs : List Int) : Int := schal (qpow 4 (snonce s xs)) (qpow 4 s) xs
def ssigS (s : Int) (xs : List Int) : Int := radd (snonce s xs) (rmul (ssigE s xs) s)
instance (s : Int) (xs : List Int) : IsU (ssigE s xs) := by unfold ssigE; infer_instance
instance (s : Int) (xs : List Int) : IsU (ssigS s xs) := by unfold ssigS; infer_instance
theorem ssigE_bound (s : Int) (xs : List Int) : 0 ≤ ssigE s xs ∧ ssigE s xs < 1152921504606845789 := schal_bound _ _ _
theorem ssigS_bound (s : Int) (xs : List Int) : 0 ≤ ssigS s xs ∧ ssigS s xs < 1152921504606845789 := radd_bound _ _

end Go.Proofs.YtlannmedefjfhaaGreat

/- Contracts of the document's own answers: public keys, what is signed. -/
namespace Go.Proofs.YtlannmedefjfhaaGreat
open Go.ChangeShapes Go.WideShapes Go.ChangeAt Go.RowKit Gs
set_option linter.unusedVariables false

theorem right_ok (s : Int) (h1 : 1 ≤ s) (h2 : s < 1152921504606845789) (w : World) :
    Calls Tryz.prog 94 #[.int .u64 s] w fun e w' => e = .returned (.bool true) ∧ w = w' := by
  go_enter Tryz.func94, Tryz.ntmps94
  go_wp2_with fail
  go_ret
  exact ⟨rfl, rfl⟩
theorem right_bad (s : Int) (h0 : 0 ≤ s) (h3 : s < 18446744073709551616) (h : s < 1 ∨ 1152921504606845789 ≤ s) (w : World) :
    Calls Tryz.prog 94 #[.int .u64 s] w fun e w' => e = .returned (.bool false) ∧ w = w' := by
  rcases h with h | h
  all_goals
    go_enter Tryz.func94, Tryz.ntmps94
    go_wp2_with fail
    go_ret
    first
      | exact ⟨rfl, rfl⟩
      | exact ⟨congrArg (fun b => Ending.returned (Value.bool b)) (decide_eq_false (by omega)), rfl⟩

theorem refPublic_ok (s : Int) (h1 : 1 ≤ s) (h2 : s < 1152921504606845789) (w : World) :
    Calls Tryz.prog 40 #[.int .u64 s] w fun e w' => e = .returned (.tuple #[.int .u64 (qpow 4 s), .int .i64 0]) ∧ w = w' := by
  haveI : IsU s := ⟨by omega, by omega⟩
  have R := Lib.hid (right_ok s h1 h2)
  have P := Lib.hid (ref_Base s)
  generalize qpow 4 s = x at P ⊢
  go_enter Tryz.func40, Tryz.ntmps40
  go_wp2_with fail
  refine (R.out _).mono ?_; rintro e w' ⟨rfl, rfl⟩
  go_wp2_with fail
  refine (P.out _).mono ?_; rintro e w' ⟨rfl, rfl⟩
  go_wp2_with fail
  go_ret2
  exact ⟨rfl, rfl⟩
theorem refPublic_bad (s : Int) (h0 : 0 ≤ s) (h3 : s < 18446744073709551616) (h : s < 1 ∨ 1152921504606845789 ≤ s) (w : World) :
    Calls Tryz.prog 40 #[.int .u64 s] w fun e w' => e = .returned (.tuple #[.int .u64 0, .int .i64 1]) ∧ w = w' := by
  have R := Lib.hid (right_bad s h0 h3 h)
  clear h
  go_enter Tryz.func40, Tryz.ntmps40
  go_wp2_with fail
  refine (R.out _).mono ?_; rintro e w' ⟨rfl, rfl⟩
  go_wp2_with fail
  go_ret2
  exact ⟨rfl, rfl⟩

end Go.Proofs.YtlannmedefjfhaaGreat
