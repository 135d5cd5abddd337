/- Contracts of the signatures: a number's eight bytes, as an array and as a slice. -/
import Derived.Test.YtippfhlljlfcnaaHashG
import Derived.Test.YtippfhlljlfcnaaHashH
import Derived.Test.YtippfhlljlfcnaaHashS
import Derived.Test.YtippfhlljlfcnaaCycE
import Derived.RegionTactic
import Derived.Deep.DrawnRows
namespace Go.Proofs.Ytippfhlljlfcnaa
open Go.ChangeShapes Go.WideShapes Go.ChangeAt Go.RowKit Gs
set_option linter.unusedVariables false

/-- A number's eight bytes as a value of an array. -/
def be8 (n : Int) : Value := .agg #[.int .u8 (byt n 7), .int .u8 (byt n 6), .int .u8 (byt n 5), .int .u8 (byt n 4), .int .u8 (byt n 3), .int .u8 (byt n 2), .int .u8 (byt n 1), .int .u8 (byt n 0)]

theorem si_be8 {w : World} {g : Nat} {t : TypeId} {n : Int} (h : Blk w g t #[.int .u8 (byt n 7), .int .u8 (byt n 6), .int .u8 (byt n 5), .int .u8 (byt n 4), .int .u8 (byt n 3), .int .u8 (byt n 2), .int .u8 (byt n 1), .int .u8 (byt n 0)]) : SI w w.heap.size .u8 (some ⟨g, 0, none⟩) (be n 8) := fun j hj => by
  rw [be_length] at hj
  refine ⟨_, rfl, h.lt, ?_⟩
  rcases j with _ | _ | _ | _ | _ | _ | _ | _ | j
  · exact h.cell 0
  · exact h.cell 1
  · exact h.cell 2
  · exact h.cell 3
  · exact h.cell 4
  · exact h.cell 5
  · exact h.cell 6
  · exact h.cell 7
  · omega

/-- Between two rounds of a loop: the world under a new name, with what is known of it. -/
theorem rounds_named {P : Program} {c : Code} {K : Exit → Act → World → Prop} {n : Nat} {a : Act} {W : World} (Q : World → Prop) (hQ : Q W) (h : ∀ w2, Q w2 → Code.rounds P c K n a w2) : Code.rounds P c K n a W := h W hQ

set_option maxHeartbeats 4000000 in
theorem bytesOf_any (n : Int) [hn : IsU n] (w : World) :
    Calls Try.prog 37 #[.int .u64 n] w fun e w' => e = .returned (be8 n) ∧ Below w.heap.size w w' := by
  have n0 := hn.1
  have n1 := hn.2
  go_enter Try.func37, Try.ntmps37
  go_wp2_with fail
  refine wp_named (fun W => Blk W w.heap.size 52 #[.int .u8 0, .int .u8 0, .int .u8 0, .int .u8 0, .int .u8 0, .int .u8 0, .int .u8 0, .int .u8 0] ∧ Blk W (w.heap.size + 1) 52 #[.int .u8 0, .int .u8 0, .int .u8 0, .int .u8 0, .int .u8 0, .int .u8 0, .int .u8 0, .int .u8 0] ∧ Below w.heap.size w W) ⟨(Blk.new_at w _ _ rfl).alloc _, Blk.new_at _ _ _ (by simp), ((Below.refl _ _).alloc (Nat.le_refl _) _).alloc (by simp) _⟩ ?_
  rintro W0 ⟨q, r, b⟩
  have Q0 := Lib.hid q
  have R0 := Lib.hid r
  have B0 := Lib.hid b
  clear q r b
  refine wp_loop_rounds 9 ?_
  have hk : byt n 7 = n / 72057594037927936 := by unfold byt; omega
  have HK0 := Lib.hid hk
  clear hk
  have c0 := R0.out.cell 0
  have f0 := R0.out.free 0
  rw [rounds_succ]
  go_wp2_with fail
  refine rounds_named (fun W => Blk W w.heap.size 52 #[.int .u8 0, .int .u8 0, .int .u8 0, .int .u8 0, .int .u8 0, .int .u8 0, .int .u8 0, .int .u8 0] ∧ Blk W (w.heap.size + 1) 52 #[.int .u8 (byt n 7), .int .u8 0, .int .u8 0, .int .u8 0, .int .u8 0, .int .u8 0, .int .u8 0, .int .u8 0] ∧ Below w.heap.size w W) ⟨Q0.out.other (by simp) _, by have h := R0.out.set 0 (.int .u8 (byt n 7)); rw [HK0.out] at h; rw [HK0.out]; exact h, B0.out.setCell (by simp) _⟩ ?_
  clear c0 f0
  rintro W1 ⟨q, r, b⟩
  have Q1 := Lib.hid q
  have R1 := Lib.hid r
  have B1 := Lib.hid b
  clear q r b
  have hk : byt n 6 = n / 281474976710656 % 256 := by unfold byt; omega
  have HK1 := Lib.hid hk
  clear hk
  have c0 := R1.out.cell 1
  have f0 := R1.out.free 1
  rw [rounds_succ]
  go_wp2_with fail
  refine rounds_named (fun W => Blk W w.heap.size 52 #[.int .u8 0, .int .u8 0, .int .u8 0, .int .u8 0, .int .u8 0, .int .u8 0, .int .u8 0, .int .u8 0] ∧ Blk W (w.heap.size + 1) 52 #[.int .u8 (byt n 7), .int .u8 (byt n 6), .int .u8 0, .int .u8 0, .int .u8 0, .int .u8 0, .int .u8 0, .int .u8 0] ∧ Below w.heap.size w W) ⟨Q1.out.other (by simp) _, by have h := R1.out.set 1 (.int .u8 (byt n 6)); rw [HK1.out] at h; rw [HK1.out]; exact h, B1.out.setCell (by simp) _⟩ ?_
  clear c0 f0
  rintro W2 ⟨q, r, b⟩
  have Q2 := Lib.hid q
  have R2 := Lib.hid r
  have B2 := Lib.hid b
  clear q r b
  have hk : byt n 5 = n / 1099511627776 % 256 := by unfold byt; omega
  have HK2 := Lib.hid hk
  clear hk
  have c0 := R2.out.cell 2
  have f0 := R2.out.free 2
  rw [rounds_succ]
  go_wp2_with fail
  refine rounds_named (fun W => Blk W w.heap.size 52 #[.int .u8 0, .int .u8 0, .int .u8 0, .int .u8 0, .int .u8 0, .int .u8 0, .int .u8 0, .int .u8 0] ∧ Blk W (w.heap.size + 1) 52 #[.int .u8 (byt n 7), .int .u8 (byt n 6), .int .u8 (byt n 5), .int .u8 0, .int .u8 0, .int .u8 0, .int .u8 0, .int .u8 0] ∧ Below w.heap.size w W) ⟨Q2.out.other (by simp) _, by have h := R2.out.set 2 (.int .u8 (byt n 5)); rw [HK2.out] at h; rw [HK2.out]; exact h, B2.out.setCell (by simp) _⟩ ?_
  clear c0 f0
  rintro W3 ⟨q, r, b⟩
  have Q3 := Lib.hid q
  have R3 := Lib.hid r
  have B3 := Lib.hid b
  clear q r b
  have hk : byt n 4 = n / 4294967296 % 256 := by unfold byt; omega
  have HK3 := Lib.hid hk
  clear hk
  have c0 := R3.out.cell 3
  have f0 := R3.out.free 3
  rw [rounds_succ]
  go_wp2_with fail
  refine rounds_named (fun W => Blk W w.heap.size 52 #[.int .u8 0, .int .u8 0, .int .u8 0, .int .u8 0, .int .u8 0, .int .u8 0, .int .u8 0, .int .u8 0] ∧ Blk W (w.heap.size + 1) 52 #[.int .u8 (byt n 7), .int .u8 (byt n 6), .int .u8 (byt n 5), .int .u8 (byt n 4), .int .u8 0, .int .u8 0, .int .u8 0, .int .u8 0] ∧ Below w.heap.size w W) ⟨Q3.out.other (by simp) _, by have h := R3.out.set 3 (.int .u8 (byt n 4)); rw [HK3.out] at h; rw [HK3.out]; exact h, B3.out.setCell (by simp) _⟩ ?_
  clear c0 f0
  rintro W4 ⟨q, r, b⟩
  have Q4 := Lib.hid q
  have R4 := Lib.hid r
  have B4 := Lib.hid b
  clear q r b
  have hk : byt n 3 = n / 16777216 % 256 := by unfold byt; omega
  have HK4 := Lib.hid hk
  clear hk
  have c0 := R4.out.cell 4
  have f0 := R4.out.free 4
  rw [rounds_succ]
  go_wp2_with fail
  refine rounds_named (fun W => Blk W w.heap.size 52 #[.int .u8 0, .int .u8 0, .int .u8 0, .int .u8 0, .int .u8 0, .int .u8 0, .int .u8 0, .int .u8 0] ∧ Blk W (w.heap.size + 1) 52 #[.int .u8 (byt n 7), .int .u8 (byt n 6), .int .u8 (byt n 5), .int .u8 (byt n 4), .int .u8 (byt n 3), .int .u8 0, .int .u8 0, .int .u8 0] ∧ Below w.heap.size w W) ⟨Q4.out.other (by simp) _, by have h := R4.out.set 4 (.int .u8 (byt n 3)); rw [HK4.out] at h; rw [HK4.out]; exact h, B4.out.setCell (by simp) _⟩ ?_
  clear c0 f0
  rintro W5 ⟨q, r, b⟩
  have Q5 := Lib.hid q
  have R5 := Lib.hid r
  have B5 := Lib.hid b
  clear q r b
  have hk : byt n 2 = n / 65536 % 256 := by unfold byt; omega
  have HK5 := Lib.hid hk
  clear hk
  have c0 := R5.out.cell 5
  have f0 := R5.out.free 5
  rw [rounds_succ]
  go_wp2_with fail
  refine rounds_named (fun W => Blk W w.heap.size 52 #[.int .u8 0, .int .u8 0, .int .u8 0, .int .u8 0, .int .u8 0, .int .u8 0, .int .u8 0, .int .u8 0] ∧ Blk W (w.heap.size + 1) 52 #[.int .u8 (byt n 7), .int .u8 (byt n 6), .int .u8 (byt n 5), .int .u8 (byt n 4), .int .u8 (byt n 3), .int .u8 (byt n 2), .int .u8 0, .int .u8 0] ∧ Below w.heap.size w W) ⟨Q5.out.other (by simp) _, by have h := R5.out.set 5 (.int .u8 (byt n 2)); rw [HK5.out] at h; rw [HK5.out]; exact h, B5.out.setCell (by simp) _⟩ ?_
  clear c0 f0
  rintro W6 ⟨q, r, b⟩
  have Q6 := Lib.hid q
  have R6 := Lib.hid r
  have B6 := Lib.hid b
  clear q r b
  have hk : byt n 1 = n / 256 % 256 := by unfold byt; omega
  have HK6 := Lib.hid hk
  clear hk
  have c0 := R6.out.cell 6
  have f0 := R6.out.free 6
  rw [rounds_succ]
  go_wp2_with fail
  refine rounds_named (fun W => Blk W w.heap.size 52 #[.int .u8 0, .int .u8 0, .int .u8 0, .int .u8 0, .int .u8 0, .int .u8 0, .int .u8 0, .int .u8 0] ∧ Blk W (w.heap.size + 1) 52 #[.int .u8 (byt n 7), .int .u8 (byt n 6), .int .u8 (byt n 5), .int .u8 (byt n 4), .int .u8 (byt n 3), .int .u8 (byt n 2), .int .u8 (byt n 1), .int .u8 0] ∧ Below w.heap.size w W) ⟨Q6.out.other (by simp) _, by have h := R6.out.set 6 (.int .u8 (byt n 1)); rw [HK6.out] at h; rw [HK6.out]; exact h, B6.out.setCell (by simp) _⟩ ?_
  clear c0 f0
  rintro W7 ⟨q, r, b⟩
  have Q7 := Lib.hid q
  have R7 := Lib.hid r
  have B7 := Lib.hid b
  clear q r b
  have hk : byt n 0 = n % 256 := by unfold byt; omega
  have HK7 := Lib.hid hk
  clear hk
  have c0 := R7.out.cell 7
  have f0 := R7.out.free 7
  rw [rounds_succ]
  go_wp2_with fail
  refine rounds_named (fun W => Blk W w.heap.size 52 #[.int .u8 0, .int .u8 0, .int .u8 0, .int .u8 0, .int .u8 0, .int .u8 0, .int .u8 0, .int .u8 0] ∧ Blk W (w.heap.size + 1) 52 #[.int .u8 (byt n 7), .int .u8 (byt n 6), .int .u8 (byt n 5), .int .u8 (byt n 4), .int .u8 (byt n 3), .int .u8 (byt n 2), .int .u8 (byt n 1), .int .u8 (byt n 0)] ∧ Below w.heap.size w W) ⟨Q7.out.other (by simp) _, by have h := R7.out.set 7 (.int .u8 (byt n 0)); rw [HK7.out] at h; rw [HK7.out]; exact h, B7.out.setCell (by simp) _⟩ ?_
  clear c0 f0
  rintro W8 ⟨q, r, b⟩
  have Q8 := Lib.hid q
  have R8 := Lib.hid r
  have B8 := Lib.hid b
  clear q r b
  rw [rounds_succ]
  have c0 := R8.out.cell 0
  have c1 := R8.out.cell 1
  have c2 := R8.out.cell 2
  have c3 := R8.out.cell 3
  have c4 := R8.out.cell 4
  have c5 := R8.out.cell 5
  have c6 := R8.out.cell 6
  have c7 := R8.out.cell 7
  have d0 := Q8.out.cell 0
  have d1 := Q8.out.cell 1
  have d2 := Q8.out.cell 2
  have d3 := Q8.out.cell 3
  have d4 := Q8.out.cell 4
  have d5 := Q8.out.cell 5
  have d6 := Q8.out.cell 6
  have d7 := Q8.out.cell 7
  have f0 := Q8.out.free 0
  have f1 := Q8.out.free 1
  have f2 := Q8.out.free 2
  have f3 := Q8.out.free 3
  have f4 := Q8.out.free 4
  have f5 := Q8.out.free 5
  have f6 := Q8.out.free 6
  have f7 := Q8.out.free 7
  go_wp2_with fail
  have h := ((((((((Q8.out.set 0 (.int .u8 (byt n 7))).set 1 (.int .u8 (byt n 6))).set 2 (.int .u8 (byt n 5))).set 3 (.int .u8 (byt n 4))).set 4 (.int .u8 (byt n 3))).set 5 (.int .u8 (byt n 2))).set 6 (.int .u8 (byt n 1))).set 7 (.int .u8 (byt n 0)))
  have e0 := h.cell 0
  have e1 := h.cell 1
  have e2 := h.cell 2
  have e3 := h.cell 3
  have e4 := h.cell 4
  have e5 := h.cell 5
  have e6 := h.cell 6
  have e7 := h.cell 7
  refine bodyPost_ret (v := be8 n) (by simp [results, Try.results37, go_sem, be8, e0, e1, e2, e3, e4, e5, e6, e7]) rfl ⟨rfl, ?_⟩
  exact ((((((((B8.out.setCell (by simp) _).setCell (by simp) _).setCell (by simp) _).setCell (by simp) _).setCell (by simp) _).setCell (by simp) _).setCell (by simp) _).setCell (by simp) _)

set_option maxHeartbeats 4000000 in
theorem eight_slice (n : Int) [hn : IsU n] (w : World) :
    Calls Try.prog 39 #[.int .u64 n] w fun e w' => ∃ A, e = .returned (.slice A 8 8) ∧ SI w' w'.heap.size .u8 A (be n 8) ∧ Below w.heap.size w w' := by
  have n0 := hn.1
  have n1 := hn.2
  have HN0 := Lib.hid (show n / 1 = n by omega)
  have m0 : (Instr.makeSlice 22 (.int .i64 8) (.int .i64 8)).run Try.prog w = .ok (.slice (some ⟨w.heap.size, 0, none⟩) 8 8) (w.alloc (.cells #[.int .u8 0, .int .u8 0, .int .u8 0, .int .u8 0, .int .u8 0, .int .u8 0, .int .u8 0, .int .u8 0] 5)) := by kernel_rfl
  go_enter Try.func39, Try.ntmps39
  go_wp2_with fail
  refine wp_named (fun W => Blk W w.heap.size 5 #[.int .u8 0, .int .u8 0, .int .u8 0, .int .u8 0, .int .u8 0, .int .u8 0, .int .u8 0, .int .u8 0] ∧ Below w.heap.size w W) ⟨Blk.new_at w _ _ rfl, (Below.refl _ _).alloc (Nat.le_refl _) _⟩ ?_
  rintro W0 ⟨r, b⟩
  have R0 := Lib.hid r
  have B0 := Lib.hid b
  clear r b m0
  refine wp_loop_rounds 9 ?_
  have HK0 := Lib.hid (show byt n 0 = n % 256 by have := HN0.out; unfold byt; omega)
  have c0 := R0.out.cell 7
  have f0 := R0.out.free 7
  rw [rounds_succ]
  go_wp2_with fail
  refine rounds_named (fun W => Blk W w.heap.size 5 #[.int .u8 0, .int .u8 0, .int .u8 0, .int .u8 0, .int .u8 0, .int .u8 0, .int .u8 0, .int .u8 (byt n 0)] ∧ Below w.heap.size w W) ⟨by have h := R0.out.set 7 (.int .u8 (byt n 0)); rw [HK0.out] at h; rw [HK0.out]; exact h, B0.out.setCell (by simp) _⟩ ?_
  clear c0 f0
  rintro W1 ⟨r, b⟩
  have R1 := Lib.hid r
  have B1 := Lib.hid b
  clear r b
  generalize hm : n / 256 = m1
  have HN1 := Lib.hid (show n / 256 = m1 by have := HN0.out; omega)
  have l1 : 0 ≤ m1 := by omega
  have u1 : m1 < 18446744073709551616 := by omega
  clear hm
  have HK1 := Lib.hid (show byt n 1 = m1 % 256 by have := HN1.out; unfold byt; omega)
  have c0 := R1.out.cell 6
  have f0 := R1.out.free 6
  rw [rounds_succ]
  go_wp2_with fail
  refine rounds_named (fun W => Blk W w.heap.size 5 #[.int .u8 0, .int .u8 0, .int .u8 0, .int .u8 0, .int .u8 0, .int .u8 0, .int .u8 (byt n 1), .int .u8 (byt n 0)] ∧ Below w.heap.size w W) ⟨by have h := R1.out.set 6 (.int .u8 (byt n 1)); rw [HK1.out] at h; rw [HK1.out]; exact h, B1.out.setCell (by simp) _⟩ ?_
  clear c0 f0
  rintro W2 ⟨r, b⟩
  have R2 := Lib.hid r
  have B2 := Lib.hid b
  clear r b
  generalize hm : m1 / 256 = m2
  have HN2 := Lib.hid (show n / 65536 = m2 by have := HN1.out; omega)
  have l2 : 0 ≤ m2 := by omega
  have u2 : m2 < 18446744073709551616 := by omega
  clear hm
  have HK2 := Lib.hid (show byt n 2 = m2 % 256 by have := HN2.out; unfold byt; omega)
  have c0 := R2.out.cell 5
  have f0 := R2.out.free 5
  rw [rounds_succ]
  go_wp2_with fail
  refine rounds_named (fun W => Blk W w.heap.size 5 #[.int .u8 0, .int .u8 0, .int .u8 0, .int .u8 0, .int .u8 0, .int .u8 (byt n 2), .int .u8 (byt n 1), .int .u8 (byt n 0)] ∧ Below w.heap.size w W) ⟨by have h := R2.out.set 5 (.int .u8 (byt n 2)); rw [HK2.out] at h; rw [HK2.out]; exact h, B2.out.setCell (by simp) _⟩ ?_
  clear c0 f0
  rintro W3 ⟨r, b⟩
  have R3 := Lib.hid r
  have B3 := Lib.hid b
  clear r b
  generalize hm : m2 / 256 = m3
  have HN3 := Lib.hid (show n / 16777216 = m3 by have := HN2.out; omega)
  have l3 : 0 ≤ m3 := by omega
  have u3 : m3 < 18446744073709551616 := by omega
  clear hm
  have HK3 := Lib.hid (show byt n 3 = m3 % 256 by have := HN3.out; unfold byt; omega)
  have c0 := R3.out.cell 4
  have f0 := R3.out.free 4
  rw [rounds_succ]
  go_wp2_with fail
  refine rounds_named (fun W => Blk W w.heap.size 5 #[.int .u8 0, .int .u8 0, .int .u8 0, .int .u8 0, .int .u8 (byt n 3), .int .u8 (byt n 2), .int .u8 (byt n 1), .int .u8 (byt n 0)] ∧ Below w.heap.size w W) ⟨by have h := R3.out.set 4 (.int .u8 (byt n 3)); rw [HK3.out] at h; rw [HK3.out]; exact h, B3.out.setCell (by simp) _⟩ ?_
  clear c0 f0
  rintro W4 ⟨r, b⟩
  have R4 := Lib.hid r
  have B4 := Lib.hid b
  clear r b
  generalize hm : m3 / 256 = m4
  have HN4 := Lib.hid (show n / 4294967296 = m4 by have := HN3.out; omega)
  have l4 : 0 ≤ m4 := by omega
  have u4 : m4 < 18446744073709551616 := by omega
  clear hm
  have HK4 := Lib.hid (show byt n 4 = m4 % 256 by have := HN4.out; unfold byt; omega)
  have c0 := R4.out.cell 3
  have f0 := R4.out.free 3
  rw [rounds_succ]
  go_wp2_with fail
  refine rounds_named (fun W => Blk W w.heap.size 5 #[.int .u8 0, .int .u8 0, .int .u8 0, .int .u8 (byt n 4), .int .u8 (byt n 3), .int .u8 (byt n 2), .int .u8 (byt n 1), .int .u8 (byt n 0)] ∧ Below w.heap.size w W) ⟨by have h := R4.out.set 3 (.int .u8 (byt n 4)); rw [HK4.out] at h; rw [HK4.out]; exact h, B4.out.setCell (by simp) _⟩ ?_
  clear c0 f0
  rintro W5 ⟨r, b⟩
  have R5 := Lib.hid r
  have B5 := Lib.hid b
  clear r b
  generalize hm : m4 / 256 = m5
  have HN5 := Lib.hid (show n / 1099511627776 = m5 by have := HN4.out; omega)
  have l5 : 0 ≤ m5 := by omega
  have u5 : m5 < 18446744073709551616 := by omega
  clear hm
  have HK5 := Lib.hid (show byt n 5 = m5 % 256 by have := HN5.out; unfold byt; omega)
  have c0 := R5.out.cell 2
  have f0 := R5.out.free 2
  rw [rounds_succ]
  go_wp2_with fail
  refine rounds_named (fun W => Blk W w.heap.size 5 #[.int .u8 0, .int .u8 0, .int .u8 (byt n 5), .int .u8 (byt n 4), .int .u8 (byt n 3), .int .u8 (byt n 2), .int .u8 (byt n 1), .int .u8 (byt n 0)] ∧ Below w.heap.size w W) ⟨by have h := R5.out.set 2 (.int .u8 (byt n 5)); rw [HK5.out] at h; rw [HK5.out]; exact h, B5.out.setCell (by simp) _⟩ ?_
  clear c0 f0
  rintro W6 ⟨r, b⟩
  have R6 := Lib.hid r
  have B6 := Lib.hid b
  clear r b
  generalize hm : m5 / 256 = m6
  have HN6 := Lib.hid (show n / 281474976710656 = m6 by have := HN5.out; omega)
  have l6 : 0 ≤ m6 := by omega
  have u6 : m6 < 18446744073709551616 := by omega
  clear hm
  have HK6 := Lib.hid (show byt n 6 = m6 % 256 by have := HN6.out; unfold byt; omega)
  have c0 := R6.out.cell 1
  have f0 := R6.out.free 1
  rw [rounds_succ]
  go_wp2_with fail
  refine rounds_named (fun W => Blk W w.heap.size 5 #[.int .u8 0, .int .u8 (byt n 6), .int .u8 (byt n 5), .int .u8 (byt n 4), .int .u8 (byt n 3), .int .u8 (byt n 2), .int .u8 (byt n 1), .int .u8 (byt n 0)] ∧ Below w.heap.size w W) ⟨by have h := R6.out.set 1 (.int .u8 (byt n 6)); rw [HK6.out] at h; rw [HK6.out]; exact h, B6.out.setCell (by simp) _⟩ ?_
  clear c0 f0
  rintro W7 ⟨r, b⟩
  have R7 := Lib.hid r
  have B7 := Lib.hid b
  clear r b
  generalize hm : m6 / 256 = m7
  have HN7 := Lib.hid (show n / 72057594037927936 = m7 by have := HN6.out; omega)
  have l7 : 0 ≤ m7 := by omega
  have u7 : m7 < 18446744073709551616 := by omega
  clear hm
  have HK7 := Lib.hid (show byt n 7 = m7 % 256 by have := HN7.out; unfold byt; omega)
  have c0 := R7.out.cell 0
  have f0 := R7.out.free 0
  rw [rounds_succ]
  go_wp2_with fail
  refine rounds_named (fun W => Blk W w.heap.size 5 #[.int .u8 (byt n 7), .int .u8 (byt n 6), .int .u8 (byt n 5), .int .u8 (byt n 4), .int .u8 (byt n 3), .int .u8 (byt n 2), .int .u8 (byt n 1), .int .u8 (byt n 0)] ∧ Below w.heap.size w W) ⟨by have h := R7.out.set 0 (.int .u8 (byt n 7)); rw [HK7.out] at h; rw [HK7.out]; exact h, B7.out.setCell (by simp) _⟩ ?_
  clear c0 f0
  rintro W8 ⟨r, b⟩
  have R8 := Lib.hid r
  have B8 := Lib.hid b
  clear r b
  generalize hm : m7 / 256 = m8
  have HN8 := Lib.hid (show n / 18446744073709551616 = m8 by have := HN7.out; omega)
  have l8 : 0 ≤ m8 := by omega
  have u8 : m8 < 18446744073709551616 := by omega
  clear hm
  rw [rounds_succ]
  go_wp2_with fail
  go_ret
  exact ⟨_, rfl, si_be8 R8.out, B8.out⟩
end Go.Proofs.Ytippfhlljlfcnaa
