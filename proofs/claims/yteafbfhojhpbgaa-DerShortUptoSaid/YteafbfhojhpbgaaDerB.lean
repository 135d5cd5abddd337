/- What a tag asks: the table of functions; one of its rows. -/
import Derived.Test.YteafbfhojhpbgaaDerA
namespace Go.Proofs.Yteafbfhojhpbgaa
open Go.ChangeShapes Go.WideShapes Go.ChangeAt Go.RowKit Gs
set_option linter.unusedVariables false

def dmdV (t : Int) (f : FuncId) (h : Bool) : Array Value := #[.int .i64 t, .func (.func f) #[] #[], .bool h]
def dmdsV : Value := .agg #[.int .i64 1, .func (.func 81) #[] #[], .bool false, .int .i64 2, .func (.func 82) #[] #[], .bool false, .int .i64 4, .func (.func 83) #[] #[], .bool false, .int .i64 12, .func (.func 84) #[] #[], .bool false, .int .i64 48, .func (.func 85) #[] #[], .bool true]

set_option maxRecDepth 100000 in
set_option maxHeartbeats 4000000 in
theorem demands_any (w : World) : Calls Try.prog 76 #[] w fun e w' => e = .returned dmdsV ∧ Below w.heap.size w w' := by
  have D0 := Lib.hid ((Below.refl w.heap.size w).alloc (Nat.le_refl _) (.cells #[.int .i64 1, .func (.func 81) #[] #[], .bool false, .int .i64 2, .func (.func 82) #[] #[], .bool false, .int .i64 4, .func (.func 83) #[] #[], .bool false, .int .i64 12, .func (.func 84) #[] #[], .bool false, .int .i64 48, .func (.func 85) #[] #[], .bool true] 86))
  have K0 := Lib.hid (Blk.new w 86 #[.int .i64 1, .func (.func 81) #[] #[], .bool false, .int .i64 2, .func (.func 82) #[] #[], .bool false, .int .i64 4, .func (.func 83) #[] #[], .bool false, .int .i64 12, .func (.func 84) #[] #[], .bool false, .int .i64 48, .func (.func 85) #[] #[], .bool true])
  go_enter Try.func76, Try.ntmps76
  go_wp2_with fail
  have c0 := K0.out.cell 0
  have c1 := K0.out.cell 1
  have c2 := K0.out.cell 2
  have c3 := K0.out.cell 3
  have c4 := K0.out.cell 4
  have c5 := K0.out.cell 5
  have c6 := K0.out.cell 6
  have c7 := K0.out.cell 7
  have c8 := K0.out.cell 8
  have c9 := K0.out.cell 9
  have c10 := K0.out.cell 10
  have c11 := K0.out.cell 11
  have c12 := K0.out.cell 12
  have c13 := K0.out.cell 13
  have c14 := K0.out.cell 14
  refine bodyPost_ret (v := dmdsV) (by unfold dmdsV; simp [results, Try.results76, go_sem, c0, c1, c2, c3, c4, c5, c6, c7, c8, c9, c10, c11, c12, c13, c14]) rfl (show _ ∧ _ from ⟨rfl, D0.out⟩)

/-- The row of a tag. -/
def dmdF (t : Int) : FuncId := if t = 1 then 81 else if t = 2 then 82 else if t = 4 then 83 else if t = 12 then 84 else 85
theorem rounds_named {P : Program} {c : Code} {K : Exit → Act → World → Prop} {n : Nat} {a : Act} {W : World} (Q : World → Prop) (hQ : Q W) (h : ∀ w2, Q w2 → Code.rounds P c K n a w2) : Code.rounds P c K n a W := h W hQ
/-- What is told of a tag. -/
def dmdE (t : Int) (e : Ending) : Prop := (isTag t = true → e = .returned (.tuple #[.agg #[.int .i64 t, .func (.func (dmdF t)) #[] #[], .bool (decide (t = 48))], .bool true])) ∧ (isTag t = false → e = .returned (.tuple #[.agg #[.int .i64 0, .nilFunc, .bool false], .bool false]))

theorem idx_dmd0 (w : World) : (Instr.index 86 (.agg #[.int .i64 1, .func (.func 81) #[] #[], .bool false, .int .i64 2, .func (.func 82) #[] #[], .bool false, .int .i64 4, .func (.func 83) #[] #[], .bool false, .int .i64 12, .func (.func 84) #[] #[], .bool false, .int .i64 48, .func (.func 85) #[] #[], .bool true]) (.int .i64 0)).run Try.prog w = .ok (.agg #[.int .i64 1, .func (.func 81) #[] #[], .bool false]) w := by kernel_rfl
theorem idx_dmd1 (w : World) : (Instr.index 86 (.agg #[.int .i64 1, .func (.func 81) #[] #[], .bool false, .int .i64 2, .func (.func 82) #[] #[], .bool false, .int .i64 4, .func (.func 83) #[] #[], .bool false, .int .i64 12, .func (.func 84) #[] #[], .bool false, .int .i64 48, .func (.func 85) #[] #[], .bool true]) (.int .i64 1)).run Try.prog w = .ok (.agg #[.int .i64 2, .func (.func 82) #[] #[], .bool false]) w := by kernel_rfl
theorem idx_dmd2 (w : World) : (Instr.index 86 (.agg #[.int .i64 1, .func (.func 81) #[] #[], .bool false, .int .i64 2, .func (.func 82) #[] #[], .bool false, .int .i64 4, .func (.func 83) #[] #[], .bool false, .int .i64 12, .func (.func 84) #[] #[], .bool false, .int .i64 48, .func (.func 85) #[] #[], .bool true]) (.int .i64 2)).run Try.prog w = .ok (.agg #[.int .i64 4, .func (.func 83) #[] #[], .bool false]) w := by kernel_rfl
theorem idx_dmd3 (w : World) : (Instr.index 86 (.agg #[.int .i64 1, .func (.func 81) #[] #[], .bool false, .int .i64 2, .func (.func 82) #[] #[], .bool false, .int .i64 4, .func (.func 83) #[] #[], .bool false, .int .i64 12, .func (.func 84) #[] #[], .bool false, .int .i64 48, .func (.func 85) #[] #[], .bool true]) (.int .i64 3)).run Try.prog w = .ok (.agg #[.int .i64 12, .func (.func 84) #[] #[], .bool false]) w := by kernel_rfl
theorem idx_dmd4 (w : World) : (Instr.index 86 (.agg #[.int .i64 1, .func (.func 81) #[] #[], .bool false, .int .i64 2, .func (.func 82) #[] #[], .bool false, .int .i64 4, .func (.func 83) #[] #[], .bool false, .int .i64 12, .func (.func 84) #[] #[], .bool false, .int .i64 48, .func (.func 85) #[] #[], .bool true]) (.int .i64 4)).run Try.prog w = .ok (.agg #[.int .i64 48, .func (.func 85) #[] #[], .bool true]) w := by kernel_rfl

set_option maxRecDepth 100000 in
set_option maxHeartbeats 4000000 in
theorem demandOf_any (t : Int) (w : World) : Calls Try.prog 66 #[.int .i64 t] w fun e w' => dmdE t e ∧ Below w.heap.size w w' := by
  have D0 := Lib.hid ((Below.refl w.heap.size w).alloc (Nat.le_refl _) (.cells #[.int .i64 0, .nilFunc, .bool false] 75))
  have K0 := Lib.hid (Blk.new w 75 #[.int .i64 0, .nilFunc, .bool false])
  by_cases h0 : t = 1
  · subst h0
    go_enter Try.func66, Try.ntmps66
    go_wp2_with fail
    refine (demands_any _).mono ?_; rintro _ w1 ⟨rfl, b⟩
    have BB := Lib.hid (below_on D0.out b)
    have KB := Lib.hid (K0.out.below b K0.out.lt)
    clear b
    unfold dmdsV
    go_wp2_with fail
    refine wp_loop_rounds 6 ?_
    rw [rounds_succ]
    have KX := Lib.hid (KB.out.alloc (.cells #[.int .i64 1, .func (.func 81) #[] #[], .bool false] 75))
    have c0 := KX.out.cell 0
    have c1 := KX.out.cell 1
    have c2 := KX.out.cell 2
    have f0 := KX.out.free 0
    have f1 := KX.out.free 1
    have f2 := KX.out.free 2
    have d0 := KB.out.cell 0
    have d1 := KB.out.cell 1
    have d2 := KB.out.cell 2
    have g0 := KB.out.free 0
    have g1 := KB.out.free 1
    have g2 := KB.out.free 2
    have hlt := KB.out.lt
    go_wp2_with fail
    rw [idx_dmd0]
    go_wp2_with fail
    have h := ((KB.out.set3 (x' := .int .i64 1) (y' := .func (.func 81) #[] #[]) (z' := .bool false)).alloc (.cells #[.int .i64 1, .func (.func 81) #[] #[], .bool false] 75)).facts3.1
    refine bodyPost_ret (v := .tuple #[.agg #[.int .i64 1, .func (.func 81) #[] #[], .bool false], .bool true]) (by simp [results, Try.results66, go_sem, h.1, h.2.1, h.2.2]) rfl ⟨⟨fun _ => rfl, fun h => by cases h⟩, ?_⟩
    exact Below.alloc (below_setR (below_setR (below_setR BB.out (Nat.le_refl _) _) (Nat.le_refl _) _) (Nat.le_refl _) _) (by simpa using BB.out.size) _
  by_cases h1 : t = 2
  · subst h1
    go_enter Try.func66, Try.ntmps66
    go_wp2_with fail
    refine (demands_any _).mono ?_; rintro _ w1 ⟨rfl, b⟩
    have BB := Lib.hid (below_on D0.out b)
    have KB := Lib.hid (K0.out.below b K0.out.lt)
    clear b
    unfold dmdsV
    go_wp2_with fail
    refine wp_loop_rounds 6 ?_
    rw [rounds_succ]
    go_wp2_with fail
    rw [idx_dmd0]
    go_wp2_with fail
    refine rounds_named (fun W => Blk W w.heap.size 75 #[.int .i64 0, .nilFunc, .bool false] ∧ Below w.heap.size w W) ⟨KB.out.alloc _, BB.out.alloc BB.out.size _⟩ ?_
    rintro V0 ⟨q, b⟩
    clear KB BB
    have KB := Lib.hid q
    have BB := Lib.hid b
    clear q b
    rw [rounds_succ]
    have KX := Lib.hid (KB.out.alloc (.cells #[.int .i64 2, .func (.func 82) #[] #[], .bool false] 75))
    have c0 := KX.out.cell 0
    have c1 := KX.out.cell 1
    have c2 := KX.out.cell 2
    have f0 := KX.out.free 0
    have f1 := KX.out.free 1
    have f2 := KX.out.free 2
    have d0 := KB.out.cell 0
    have d1 := KB.out.cell 1
    have d2 := KB.out.cell 2
    have g0 := KB.out.free 0
    have g1 := KB.out.free 1
    have g2 := KB.out.free 2
    have hlt := KB.out.lt
    go_wp2_with fail
    rw [idx_dmd1]
    go_wp2_with fail
    have h := ((KB.out.set3 (x' := .int .i64 2) (y' := .func (.func 82) #[] #[]) (z' := .bool false)).alloc (.cells #[.int .i64 2, .func (.func 82) #[] #[], .bool false] 75)).facts3.1
    refine bodyPost_ret (v := .tuple #[.agg #[.int .i64 2, .func (.func 82) #[] #[], .bool false], .bool true]) (by simp [results, Try.results66, go_sem, h.1, h.2.1, h.2.2]) rfl ⟨⟨fun _ => rfl, fun h => by cases h⟩, ?_⟩
    exact Below.alloc (below_setR (below_setR (below_setR BB.out (Nat.le_refl _) _) (Nat.le_refl _) _) (Nat.le_refl _) _) (by simpa using BB.out.size) _
  by_cases h2 : t = 4
  · subst h2
    go_enter Try.func66, Try.ntmps66
    go_wp2_with fail
    refine (demands_any _).mono ?_; rintro _ w1 ⟨rfl, b⟩
    have BB := Lib.hid (below_on D0.out b)
    have KB := Lib.hid (K0.out.below b K0.out.lt)
    clear b
    unfold dmdsV
    go_wp2_with fail
    refine wp_loop_rounds 6 ?_
    rw [rounds_succ]
    go_wp2_with fail
    rw [idx_dmd0]
    go_wp2_with fail
    refine rounds_named (fun W => Blk W w.heap.size 75 #[.int .i64 0, .nilFunc, .bool false] ∧ Below w.heap.size w W) ⟨KB.out.alloc _, BB.out.alloc BB.out.size _⟩ ?_
    rintro V0 ⟨q, b⟩
    clear KB BB
    have KB := Lib.hid q
    have BB := Lib.hid b
    clear q b
    rw [rounds_succ]
    go_wp2_with fail
    rw [idx_dmd1]
    go_wp2_with fail
    refine rounds_named (fun W => Blk W w.heap.size 75 #[.int .i64 0, .nilFunc, .bool false] ∧ Below w.heap.size w W) ⟨KB.out.alloc _, BB.out.alloc BB.out.size _⟩ ?_
    rintro V1 ⟨q, b⟩
    clear KB BB
    have KB := Lib.hid q
    have BB := Lib.hid b
    clear q b
    rw [rounds_succ]
    have KX := Lib.hid (KB.out.alloc (.cells #[.int .i64 4, .func (.func 83) #[] #[], .bool false] 75))
    have c0 := KX.out.cell 0
    have c1 := KX.out.cell 1
    have c2 := KX.out.cell 2
    have f0 := KX.out.free 0
    have f1 := KX.out.free 1
    have f2 := KX.out.free 2
    have d0 := KB.out.cell 0
    have d1 := KB.out.cell 1
    have d2 := KB.out.cell 2
    have g0 := KB.out.free 0
    have g1 := KB.out.free 1
    have g2 := KB.out.free 2
    have hlt := KB.out.lt
    go_wp2_with fail
    rw [idx_dmd2]
    go_wp2_with fail
    have h := ((KB.out.set3 (x' := .int .i64 4) (y' := .func (.func 83) #[] #[]) (z' := .bool false)).alloc (.cells #[.int .i64 4, .func (.func 83) #[] #[], .bool false] 75)).facts3.1
    refine bodyPost_ret (v := .tuple #[.agg #[.int .i64 4, .func (.func 83) #[] #[], .bool false], .bool true]) (by simp [results, Try.results66, go_sem, h.1, h.2.1, h.2.2]) rfl ⟨⟨fun _ => rfl, fun h => by cases h⟩, ?_⟩
    exact Below.alloc (below_setR (below_setR (below_setR BB.out (Nat.le_refl _) _) (Nat.le_refl _) _) (Nat.le_refl _) _) (by simpa using BB.out.size) _
  by_cases h3 : t = 12
  · subst h3
    go_enter Try.func66, Try.ntmps66
    go_wp2_with fail
    refine (demands_any _).mono ?_; rintro _ w1 ⟨rfl, b⟩
    have BB := Lib.hid (below_on D0.out b)
    have KB := Lib.hid (K0.out.below b K0.out.lt)
    clear b
    unfold dmdsV
    go_wp2_with fail
    refine wp_loop_rounds 6 ?_
    rw [rounds_succ]
    go_wp2_with fail
    rw [idx_dmd0]
    go_wp2_with fail
    refine rounds_named (fun W => Blk W w.heap.size 75 #[.int .i64 0, .nilFunc, .bool false] ∧ Below w.heap.size w W) ⟨KB.out.alloc _, BB.out.alloc BB.out.size _⟩ ?_
    rintro V0 ⟨q, b⟩
    clear KB BB
    have KB := Lib.hid q
    have BB := Lib.hid b
    clear q b
    rw [rounds_succ]
    go_wp2_with fail
    rw [idx_dmd1]
    go_wp2_with fail
    refine rounds_named (fun W => Blk W w.heap.size 75 #[.int .i64 0, .nilFunc, .bool false] ∧ Below w.heap.size w W) ⟨KB.out.alloc _, BB.out.alloc BB.out.size _⟩ ?_
    rintro V1 ⟨q, b⟩
    clear KB BB
    have KB := Lib.hid q
    have BB := Lib.hid b
    clear q b
    rw [rounds_succ]
    go_wp2_with fail
    rw [idx_dmd2]
    go_wp2_with fail
    refine rounds_named (fun W => Blk W w.heap.size 75 #[.int .i64 0, .nilFunc, .bool false] ∧ Below w.heap.size w W) ⟨KB.out.alloc _, BB.out.alloc BB.out.size _⟩ ?_
    rintro V2 ⟨q, b⟩
    clear KB BB
    have KB := Lib.hid q
    have BB := Lib.hid b
    clear q b
    rw [rounds_succ]
    have KX := Lib.hid (KB.out.alloc (.cells #[.int .i64 12, .func (.func 84) #[] #[], .bool false] 75))
    have c0 := KX.out.cell 0
    have c1 := KX.out.cell 1
    have c2 := KX.out.cell 2
    have f0 := KX.out.free 0
    have f1 := KX.out.free 1
    have f2 := KX.out.free 2
    have d0 := KB.out.cell 0
    have d1 := KB.out.cell 1
    have d2 := KB.out.cell 2
    have g0 := KB.out.free 0
    have g1 := KB.out.free 1
    have g2 := KB.out.free 2
    have hlt := KB.out.lt
    go_wp2_with fail
    rw [idx_dmd3]
    go_wp2_with fail
    have h := ((KB.out.set3 (x' := .int .i64 12) (y' := .func (.func 84) #[] #[]) (z' := .bool false)).alloc (.cells #[.int .i64 12, .func (.func 84) #[] #[], .bool false] 75)).facts3.1
    refine bodyPost_ret (v := .tuple #[.agg #[.int .i64 12, .func (.func 84) #[] #[], .bool false], .bool true]) (by simp [results, Try.results66, go_sem, h.1, h.2.1, h.2.2]) rfl ⟨⟨fun _ => rfl, fun h => by cases h⟩, ?_⟩
    exact Below.alloc (below_setR (below_setR (below_setR BB.out (Nat.le_refl _) _) (Nat.le_refl _) _) (Nat.le_refl _) _) (by simpa using BB.out.size) _
  by_cases h4 : t = 48
  · subst h4
    go_enter Try.func66, Try.ntmps66
    go_wp2_with fail
    refine (demands_any _).mono ?_; rintro _ w1 ⟨rfl, b⟩
    have BB := Lib.hid (below_on D0.out b)
    have KB := Lib.hid (K0.out.below b K0.out.lt)
    clear b
    unfold dmdsV
    go_wp2_with fail
    refine wp_loop_rounds 6 ?_
    rw [rounds_succ]
    go_wp2_with fail
    rw [idx_dmd0]
    go_wp2_with fail
    refine rounds_named (fun W => Blk W w.heap.size 75 #[.int .i64 0, .nilFunc, .bool false] ∧ Below w.heap.size w W) ⟨KB.out.alloc _, BB.out.alloc BB.out.size _⟩ ?_
    rintro V0 ⟨q, b⟩
    clear KB BB
    have KB := Lib.hid q
    have BB := Lib.hid b
    clear q b
    rw [rounds_succ]
    go_wp2_with fail
    rw [idx_dmd1]
    go_wp2_with fail
    refine rounds_named (fun W => Blk W w.heap.size 75 #[.int .i64 0, .nilFunc, .bool false] ∧ Below w.heap.size w W) ⟨KB.out.alloc _, BB.out.alloc BB.out.size _⟩ ?_
    rintro V1 ⟨q, b⟩
    clear KB BB
    have KB := Lib.hid q
    have BB := Lib.hid b
    clear q b
    rw [rounds_succ]
    go_wp2_with fail
    rw [idx_dmd2]
    go_wp2_with fail
    refine rounds_named (fun W => Blk W w.heap.size 75 #[.int .i64 0, .nilFunc, .bool false] ∧ Below w.heap.size w W) ⟨KB.out.alloc _, BB.out.alloc BB.out.size _⟩ ?_
    rintro V2 ⟨q, b⟩
    clear KB BB
    have KB := Lib.hid q
    have BB := Lib.hid b
    clear q b
    rw [rounds_succ]
    go_wp2_with fail
    rw [idx_dmd3]
    go_wp2_with fail
    refine rounds_named (fun W => Blk W w.heap.size 75 #[.int .i64 0, .nilFunc, .bool false] ∧ Below w.heap.size w W) ⟨KB.out.alloc _, BB.out.alloc BB.out.size _⟩ ?_
    rintro V3 ⟨q, b⟩
    clear KB BB
    have KB := Lib.hid q
    have BB := Lib.hid b
    clear q b
    rw [rounds_succ]
    have KX := Lib.hid (KB.out.alloc (.cells #[.int .i64 48, .func (.func 85) #[] #[], .bool true] 75))
    have c0 := KX.out.cell 0
    have c1 := KX.out.cell 1
    have c2 := KX.out.cell 2
    have f0 := KX.out.free 0
    have f1 := KX.out.free 1
    have f2 := KX.out.free 2
    have d0 := KB.out.cell 0
    have d1 := KB.out.cell 1
    have d2 := KB.out.cell 2
    have g0 := KB.out.free 0
    have g1 := KB.out.free 1
    have g2 := KB.out.free 2
    have hlt := KB.out.lt
    go_wp2_with fail
    rw [idx_dmd4]
    go_wp2_with fail
    have h := ((KB.out.set3 (x' := .int .i64 48) (y' := .func (.func 85) #[] #[]) (z' := .bool true)).alloc (.cells #[.int .i64 48, .func (.func 85) #[] #[], .bool true] 75)).facts3.1
    refine bodyPost_ret (v := .tuple #[.agg #[.int .i64 48, .func (.func 85) #[] #[], .bool true], .bool true]) (by simp [results, Try.results66, go_sem, h.1, h.2.1, h.2.2]) rfl ⟨⟨fun _ => rfl, fun h => by cases h⟩, ?_⟩
    exact Below.alloc (below_setR (below_setR (below_setR BB.out (Nat.le_refl _) _) (Nat.le_refl _) _) (Nat.le_refl _) _) (by simpa using BB.out.size) _
  have hf : isTag t = false := decide_eq_false (by omega)
  have q0 : ((1 : Int) == t) = false := beq_eq_false_iff_ne.2 (fun e => h0 e.symm)
  have q1 : ((2 : Int) == t) = false := beq_eq_false_iff_ne.2 (fun e => h1 e.symm)
  have q2 : ((4 : Int) == t) = false := beq_eq_false_iff_ne.2 (fun e => h2 e.symm)
  have q3 : ((12 : Int) == t) = false := beq_eq_false_iff_ne.2 (fun e => h3 e.symm)
  have q4 : ((48 : Int) == t) = false := beq_eq_false_iff_ne.2 (fun e => h4 e.symm)
  clear h0 h1 h2 h3 h4
  go_enter Try.func66, Try.ntmps66
  go_wp2_with fail
  refine (demands_any _).mono ?_; rintro _ w1 ⟨rfl, b⟩
  have BB := Lib.hid (below_on D0.out b)
  have KB := Lib.hid (K0.out.below b K0.out.lt)
  clear b
  unfold dmdsV
  go_wp2_with fail
  refine wp_loop_rounds 6 ?_
  rw [rounds_succ]
  go_wp2_with fail
  rw [idx_dmd0]
  go_wp2_with fail
  refine rounds_named (fun W => Blk W w.heap.size 75 #[.int .i64 0, .nilFunc, .bool false] ∧ Below w.heap.size w W) ⟨KB.out.alloc _, BB.out.alloc BB.out.size _⟩ ?_
  rintro V0 ⟨q, b⟩
  clear KB BB
  have KB := Lib.hid q
  have BB := Lib.hid b
  clear q b
  rw [rounds_succ]
  go_wp2_with fail
  rw [idx_dmd1]
  go_wp2_with fail
  refine rounds_named (fun W => Blk W w.heap.size 75 #[.int .i64 0, .nilFunc, .bool false] ∧ Below w.heap.size w W) ⟨KB.out.alloc _, BB.out.alloc BB.out.size _⟩ ?_
  rintro V1 ⟨q, b⟩
  clear KB BB
  have KB := Lib.hid q
  have BB := Lib.hid b
  clear q b
  rw [rounds_succ]
  go_wp2_with fail
  rw [idx_dmd2]
  go_wp2_with fail
  refine rounds_named (fun W => Blk W w.heap.size 75 #[.int .i64 0, .nilFunc, .bool false] ∧ Below w.heap.size w W) ⟨KB.out.alloc _, BB.out.alloc BB.out.size _⟩ ?_
  rintro V2 ⟨q, b⟩
  clear KB BB
  have KB := Lib.hid q
  have BB := Lib.hid b
  clear q b
  rw [rounds_succ]
  go_wp2_with fail
  rw [idx_dmd3]
  go_wp2_with fail
  refine rounds_named (fun W => Blk W w.heap.size 75 #[.int .i64 0, .nilFunc, .bool false] ∧ Below w.heap.size w W) ⟨KB.out.alloc _, BB.out.alloc BB.out.size _⟩ ?_
  rintro V3 ⟨q, b⟩
  clear KB BB
  have KB := Lib.hid q
  have BB := Lib.hid b
  clear q b
  rw [rounds_succ]
  go_wp2_with fail
  rw [idx_dmd4]
  go_wp2_with fail
  refine rounds_named (fun W => Blk W w.heap.size 75 #[.int .i64 0, .nilFunc, .bool false] ∧ Below w.heap.size w W) ⟨KB.out.alloc _, BB.out.alloc BB.out.size _⟩ ?_
  rintro V4 ⟨q, b⟩
  clear KB BB
  have KB := Lib.hid q
  have BB := Lib.hid b
  clear q b
  rw [rounds_succ]
  have c0 := KB.out.cell 0
  have c1 := KB.out.cell 1
  have c2 := KB.out.cell 2
  have f0 := KB.out.free 0
  have f1 := KB.out.free 1
  have f2 := KB.out.free 2
  have hlt := KB.out.lt
  go_wp2_with fail
  have h := (KB.out.set3 (x' := .int .i64 0) (y' := .nilFunc) (z' := .bool false)).facts3.1
  refine bodyPost_ret (v := .tuple #[.agg #[.int .i64 0, .nilFunc, .bool false], .bool false]) (by simp [results, Try.results66, go_sem, h.1, h.2.1, h.2.2]) rfl ⟨⟨fun h => (by rw [hf] at h; cases h), fun _ => rfl⟩, ?_⟩
  exact below_setR (below_setR (below_setR BB.out (Nat.le_refl _) _) (Nat.le_refl _) _) (Nat.le_refl _) _
end Go.Proofs.Yteafbfhojhpbgaa
