/- Contracts of budget with answers known; the example of the chapter. (Printed by tools/gen_budget_l.py.) -/
import Derived.Test.YtnjmhijfaijopaaBudgetK
namespace Go.Proofs.Ytnjmhijfaijopaa
open Go.ChangeShapes Go.WideShapes Go.ChangeAt Go.RowKit Gs
set_option linter.unusedVariables false
set_option linter.unusedSimpArgs false

theorem QS.on2 {w w' : World} {A : Option Addr} {l : List Sp} (h : QS w w.heap.size A l) (hb : Below w.heap.size w w') : QS w' w'.heap.size A l := h.on hb
section
variable (A : Option Addr) (n c : Nat) (L : List Sp) (hn : L.length = n) (hl : n ≤ 1048576)
include hn hl
theorem Check_k (r : Int) (h : chkS L = r) (w : World) (hs : QS w w.heap.size A L) : Calls Try.prog 13 #[.slice A n c] w fun e w' => e = .returned (.int .i64 r) ∧ Below w.heap.size w w' := by
  subst hn h; exact Check17_any A c L (by omega) w hs
section
variable (N : ByteArray) (al : Bool) (PA : Option Addr) (pn pc : Nat) (km lm mo wi : Int)
theorem Left_k (rule acc now r : Int) (h : leftS L mo wi rule acc now = r) (w : World) (hs : QS w w.heap.size A L) : Calls Try.prog 15 #[.slice A n c, .agg #[.string N, .bool al, .slice PA pn pc, .int .u64 km, .int .i64 lm, .int .i64 mo, .int .i64 wi], .int .i64 rule, .int .i64 acc, .int .i64 now] w fun e w' => e = .returned (.int .i64 r) ∧ Below w.heap.size w w' := by
  subst hn h; exact Left17_any N al PA pn pc km lm mo wi A c L (by omega) rule acc now w hs
theorem Spend_k (rule acc now : Int) (X : List Sp) (er : Int) (m : Nat) (h : spendS L mo wi rule acc now = (X, er)) (hm : X.length = m) (w : World) (hs : QS w w.heap.size A L) :
    Calls Try.prog 17 #[.slice A n c, .agg #[.string N, .bool al, .slice PA pn pc, .int .u64 km, .int .i64 lm, .int .i64 mo, .int .i64 wi], .int .i64 rule, .int .i64 acc, .int .i64 now] w fun e w' => ∃ A' c', e = .returned (.tuple #[.slice A' m c', .int .i64 er]) ∧ (m ≤ c' ∧ c' ≤ maxLen) ∧ QS w' w'.heap.size A' X ∧ Below w.heap.size w w' := by
  subst hn hm
  refine (Spend17_any N al PA pn pc km lm mo wi A c L hl rule acc now w hs).mono ?_
  rintro e w' ⟨v, he, ho, hb⟩
  rw [h] at he ho
  obtain ⟨A', c', rfl, h1, h2, h3, _⟩ := own_sliceQ ho
  exact ⟨A', c', he, ⟨h1, h2⟩, h3, hb⟩
end
end
theorem qs_new {w : World} {g : Nat} {t : TypeId} {l : List Sp} (h : Blk w g t (cellsQ l).toArray) : QS w w.heap.size (some ⟨g, 0, none⟩) l := fun j hj => by
  have e : ((⟨g, 0, none⟩ : Addr).add (j * 4)) = ⟨g, j * 4, none⟩ := add_atN g (j * 4)
  refine ⟨_, rfl, h.lt, ?_, ?_, ?_, ?_⟩
  all_goals rw [e]
  all_goals rw [h.cell]
  · simpa using (cellsQ_at l j hj).1
  · simpa using (cellsQ_at l j hj).2.1
  · simpa using (cellsQ_at l j hj).2.2.1
  · simpa using (cellsQ_at l j hj).2.2.2
theorem add_zero (a : Addr) : a.add 0 = a := by unfold Addr.add; simp
set_option maxRecDepth 100000 in
set_option maxHeartbeats 16000000 in
theorem live17 (w : World) : Calls Try.prog 11 #[] w fun e w' => e = .returned (.bool true) ∧ Below w.heap.size w w' := by
  have e1 : spendS [] 2 10 1 7 5 = ([(7, 1, 5, 1)], 0) := by decide
  have e2 : spendS [(7, 1, 5, 1)] 2 10 1 7 6 = ([(7, 1, 5, 2)], 0) := by decide
  have e3 : spendS [(7, 1, 5, 2)] 2 10 1 7 7 = ([], 170) := by decide
  have e4 : spendS [(7, 1, 5, 2)] 2 10 1 7 15 = ([(7, 1, 15, 1)], 0) := by decide
  have S1 := Lib.hid (fun A c w hs => Spend_k A 0 c [] rfl (by omega) ⟨#[]⟩ false none 0 0 0 0 2 10 1 7 5 [(7, 1, 5, 1)] 0 1 e1 rfl w hs)
  have S2 := Lib.hid (fun A c w hs => Spend_k A 1 c [(7, 1, 5, 1)] rfl (by omega) ⟨#[]⟩ false none 0 0 0 0 2 10 1 7 6 [(7, 1, 5, 2)] 0 1 e2 rfl w hs)
  have S3 := Lib.hid (fun A c w hs => Spend_k A 1 c [(7, 1, 5, 2)] rfl (by omega) ⟨#[]⟩ false none 0 0 0 0 2 10 1 7 7 [] 170 0 e3 rfl w hs)
  have S4 := Lib.hid (fun A c w hs => Spend_k A 1 c [(7, 1, 5, 2)] rfl (by omega) ⟨#[]⟩ false none 0 0 0 0 2 10 1 7 15 [(7, 1, 15, 1)] 0 1 e4 rfl w hs)
  clear e1 e2 e3 e4
  have L1 := Lib.hid (fun A c w hs => Left_k A 0 c [] rfl (by omega) ⟨#[]⟩ false none 0 0 0 0 2 10 1 7 5 2 (by decide) w hs)
  have L2 := Lib.hid (fun A c w hs => Left_k A 1 c [(7, 1, 5, 1)] rfl (by omega) ⟨#[]⟩ false none 0 0 0 0 2 10 1 7 6 1 (by decide) w hs)
  have L3 := Lib.hid (fun A c w hs => Left_k A 1 c [(7, 1, 5, 2)] rfl (by omega) ⟨#[]⟩ false none 0 0 0 0 2 10 1 7 7 0 (by decide) w hs)
  have L4 := Lib.hid (fun A c w hs => Left_k A 1 c [(7, 1, 5, 2)] rfl (by omega) ⟨#[]⟩ false none 0 0 0 0 2 10 1 7 15 2 (by decide) w hs)
  have K1 := Lib.hid (fun A c w hs => Check_k A 1 c [(7, 1, 15, 1)] rfl (by omega) 0 (by decide) w hs)
  have K2 := Lib.hid (fun A c w hs => Check_k A 1 c [(0, 0, 0, 0)] rfl (by omega) 1 (by decide) w hs)
  have B0 := Lib.hid (Below.refl w.heap.size w)
  have na := (Below.refl w.heap.size w).alloc (Nat.le_refl _) (.cells #[.string ⟨#[]⟩, .bool false, .slice none 0 0, .int .u64 0, .int .i64 0, .int .i64 2, .int .i64 10] 28)
  have B1 := Lib.hid (below_on B0.out na)
  have X := Lib.hid (Blk.new w 28 #[.string ⟨#[]⟩, .bool false, .slice none 0 0, .int .u64 0, .int .i64 0, .int .i64 2, .int .i64 10])
  clear na
  have x0 : (w.alloc (.cells #[.string ⟨#[]⟩, .bool false, .slice none 0 0, .int .u64 0, .int .i64 0, .int .i64 2, .int .i64 10] 28)).cell? ⟨w.heap.size, 0, none⟩ = some (.string ⟨#[]⟩) := X.out.cell 0
  have x1 : (w.alloc (.cells #[.string ⟨#[]⟩, .bool false, .slice none 0 0, .int .u64 0, .int .i64 0, .int .i64 2, .int .i64 10] 28)).cell? ⟨w.heap.size, 1, none⟩ = some (.bool false) := X.out.cell 1
  have x2 : (w.alloc (.cells #[.string ⟨#[]⟩, .bool false, .slice none 0 0, .int .u64 0, .int .i64 0, .int .i64 2, .int .i64 10] 28)).cell? ⟨w.heap.size, 2, none⟩ = some (.slice none 0 0) := X.out.cell 2
  have x3 : (w.alloc (.cells #[.string ⟨#[]⟩, .bool false, .slice none 0 0, .int .u64 0, .int .i64 0, .int .i64 2, .int .i64 10] 28)).cell? ⟨w.heap.size, 3, none⟩ = some (.int .u64 0) := X.out.cell 3
  have x4 : (w.alloc (.cells #[.string ⟨#[]⟩, .bool false, .slice none 0 0, .int .u64 0, .int .i64 0, .int .i64 2, .int .i64 10] 28)).cell? ⟨w.heap.size, 4, none⟩ = some (.int .i64 0) := X.out.cell 4
  have x5 : (w.alloc (.cells #[.string ⟨#[]⟩, .bool false, .slice none 0 0, .int .u64 0, .int .i64 0, .int .i64 2, .int .i64 10] 28)).cell? ⟨w.heap.size, 5, none⟩ = some (.int .i64 2) := X.out.cell 5
  have x6 : (w.alloc (.cells #[.string ⟨#[]⟩, .bool false, .slice none 0 0, .int .u64 0, .int .i64 0, .int .i64 2, .int .i64 10] 28)).cell? ⟨w.heap.size, 6, none⟩ = some (.int .i64 10) := X.out.cell 6
  go_enter Try.func11, Try.ntmps11
  go_wp2_with fail
  generalize w.alloc (.cells #[.string ⟨#[]⟩, .bool false, .slice none 0 0, .int .u64 0, .int .i64 0, .int .i64 2, .int .i64 10] 28) = w1 at B1 X x0 x1 x2 x3 x4 x5 x6 ⊢
  (with_reducible refine (S1.out none 0 _ (QS.nil _ _ _)).mono ?_)
  rintro e w2 ⟨A1, c1, rfl, hcc, hq, b⟩
  clear x0 x1 x2 x3 x4 x5 x6
  have B2 := Lib.hid (below_on B1.out b)
  replace X := Lib.hid (X.out.below b X.out.lt)
  have Q1 := Lib.hid (hq)
  have Q1c := Lib.hid (hcc)
  clear b hq hcc
  have x0 : w2.cell? ⟨w.heap.size, 0, none⟩ = some (.string ⟨#[]⟩) := X.out.cell 0
  have x1 : w2.cell? ⟨w.heap.size, 1, none⟩ = some (.bool false) := X.out.cell 1
  have x2 : w2.cell? ⟨w.heap.size, 2, none⟩ = some (.slice none 0 0) := X.out.cell 2
  have x3 : w2.cell? ⟨w.heap.size, 3, none⟩ = some (.int .u64 0) := X.out.cell 3
  have x4 : w2.cell? ⟨w.heap.size, 4, none⟩ = some (.int .i64 0) := X.out.cell 4
  have x5 : w2.cell? ⟨w.heap.size, 5, none⟩ = some (.int .i64 2) := X.out.cell 5
  have x6 : w2.cell? ⟨w.heap.size, 6, none⟩ = some (.int .i64 10) := X.out.cell 6
  go_wp2_with fail
  (with_reducible refine (S2.out A1 c1 _ Q1.out).mono ?_)
  rintro e w3 ⟨A2, c2, rfl, hcc, hq, b⟩
  clear x0 x1 x2 x3 x4 x5 x6
  have B3 := Lib.hid (below_on B2.out b)
  replace X := Lib.hid (X.out.below b X.out.lt)
  replace Q1 := Lib.hid (Q1.out.on b)
  have Q2 := Lib.hid (hq)
  have Q2c := Lib.hid (hcc)
  clear b hq hcc
  have x0 : w3.cell? ⟨w.heap.size, 0, none⟩ = some (.string ⟨#[]⟩) := X.out.cell 0
  have x1 : w3.cell? ⟨w.heap.size, 1, none⟩ = some (.bool false) := X.out.cell 1
  have x2 : w3.cell? ⟨w.heap.size, 2, none⟩ = some (.slice none 0 0) := X.out.cell 2
  have x3 : w3.cell? ⟨w.heap.size, 3, none⟩ = some (.int .u64 0) := X.out.cell 3
  have x4 : w3.cell? ⟨w.heap.size, 4, none⟩ = some (.int .i64 0) := X.out.cell 4
  have x5 : w3.cell? ⟨w.heap.size, 5, none⟩ = some (.int .i64 2) := X.out.cell 5
  have x6 : w3.cell? ⟨w.heap.size, 6, none⟩ = some (.int .i64 10) := X.out.cell 6
  go_wp2_with fail
  (with_reducible refine (S3.out A2 c2 _ Q2.out).mono ?_)
  rintro e w4 ⟨A3, c3, rfl, hcc, hq, b⟩
  clear x0 x1 x2 x3 x4 x5 x6
  have B4 := Lib.hid (below_on B3.out b)
  replace X := Lib.hid (X.out.below b X.out.lt)
  replace Q1 := Lib.hid (Q1.out.on b)
  replace Q2 := Lib.hid (Q2.out.on b)
  have Q3 := Lib.hid (hq)
  have Q3c := Lib.hid (hcc)
  clear b hq hcc
  have x0 : w4.cell? ⟨w.heap.size, 0, none⟩ = some (.string ⟨#[]⟩) := X.out.cell 0
  have x1 : w4.cell? ⟨w.heap.size, 1, none⟩ = some (.bool false) := X.out.cell 1
  have x2 : w4.cell? ⟨w.heap.size, 2, none⟩ = some (.slice none 0 0) := X.out.cell 2
  have x3 : w4.cell? ⟨w.heap.size, 3, none⟩ = some (.int .u64 0) := X.out.cell 3
  have x4 : w4.cell? ⟨w.heap.size, 4, none⟩ = some (.int .i64 0) := X.out.cell 4
  have x5 : w4.cell? ⟨w.heap.size, 5, none⟩ = some (.int .i64 2) := X.out.cell 5
  have x6 : w4.cell? ⟨w.heap.size, 6, none⟩ = some (.int .i64 10) := X.out.cell 6
  go_wp2_with fail
  (with_reducible refine (S4.out A2 c2 _ Q2.out).mono ?_)
  rintro e w5 ⟨A4, c4, rfl, hcc, hq, b⟩
  clear x0 x1 x2 x3 x4 x5 x6
  have B5 := Lib.hid (below_on B4.out b)
  replace X := Lib.hid (X.out.below b X.out.lt)
  replace Q1 := Lib.hid (Q1.out.on b)
  replace Q2 := Lib.hid (Q2.out.on b)
  replace Q3 := Lib.hid (Q3.out.on b)
  have Q4 := Lib.hid (hq)
  have Q4c := Lib.hid (hcc)
  clear b hq hcc
  have x0 : w5.cell? ⟨w.heap.size, 0, none⟩ = some (.string ⟨#[]⟩) := X.out.cell 0
  have x1 : w5.cell? ⟨w.heap.size, 1, none⟩ = some (.bool false) := X.out.cell 1
  have x2 : w5.cell? ⟨w.heap.size, 2, none⟩ = some (.slice none 0 0) := X.out.cell 2
  have x3 : w5.cell? ⟨w.heap.size, 3, none⟩ = some (.int .u64 0) := X.out.cell 3
  have x4 : w5.cell? ⟨w.heap.size, 4, none⟩ = some (.int .i64 0) := X.out.cell 4
  have x5 : w5.cell? ⟨w.heap.size, 5, none⟩ = some (.int .i64 2) := X.out.cell 5
  have x6 : w5.cell? ⟨w.heap.size, 6, none⟩ = some (.int .i64 10) := X.out.cell 6
  go_wp2_with fail
  (with_reducible refine (L1.out none 0 _ (QS.nil _ _ _)).mono ?_)
  rintro e w6 ⟨rfl, b⟩
  clear x0 x1 x2 x3 x4 x5 x6
  have B6 := Lib.hid (below_on B5.out b)
  replace X := Lib.hid (X.out.below b X.out.lt)
  replace Q1 := Lib.hid (Q1.out.on b)
  replace Q2 := Lib.hid (Q2.out.on b)
  replace Q3 := Lib.hid (Q3.out.on b)
  replace Q4 := Lib.hid (Q4.out.on b)
  clear b
  have x0 : w6.cell? ⟨w.heap.size, 0, none⟩ = some (.string ⟨#[]⟩) := X.out.cell 0
  have x1 : w6.cell? ⟨w.heap.size, 1, none⟩ = some (.bool false) := X.out.cell 1
  have x2 : w6.cell? ⟨w.heap.size, 2, none⟩ = some (.slice none 0 0) := X.out.cell 2
  have x3 : w6.cell? ⟨w.heap.size, 3, none⟩ = some (.int .u64 0) := X.out.cell 3
  have x4 : w6.cell? ⟨w.heap.size, 4, none⟩ = some (.int .i64 0) := X.out.cell 4
  have x5 : w6.cell? ⟨w.heap.size, 5, none⟩ = some (.int .i64 2) := X.out.cell 5
  have x6 : w6.cell? ⟨w.heap.size, 6, none⟩ = some (.int .i64 10) := X.out.cell 6
  go_wp2_with fail
  (with_reducible refine (L2.out A1 c1 _ Q1.out).mono ?_)
  rintro e w7 ⟨rfl, b⟩
  clear x0 x1 x2 x3 x4 x5 x6
  have B7 := Lib.hid (below_on B6.out b)
  replace X := Lib.hid (X.out.below b X.out.lt)
  replace Q1 := Lib.hid (Q1.out.on b)
  replace Q2 := Lib.hid (Q2.out.on b)
  replace Q3 := Lib.hid (Q3.out.on b)
  replace Q4 := Lib.hid (Q4.out.on b)
  clear b
  have x0 : w7.cell? ⟨w.heap.size, 0, none⟩ = some (.string ⟨#[]⟩) := X.out.cell 0
  have x1 : w7.cell? ⟨w.heap.size, 1, none⟩ = some (.bool false) := X.out.cell 1
  have x2 : w7.cell? ⟨w.heap.size, 2, none⟩ = some (.slice none 0 0) := X.out.cell 2
  have x3 : w7.cell? ⟨w.heap.size, 3, none⟩ = some (.int .u64 0) := X.out.cell 3
  have x4 : w7.cell? ⟨w.heap.size, 4, none⟩ = some (.int .i64 0) := X.out.cell 4
  have x5 : w7.cell? ⟨w.heap.size, 5, none⟩ = some (.int .i64 2) := X.out.cell 5
  have x6 : w7.cell? ⟨w.heap.size, 6, none⟩ = some (.int .i64 10) := X.out.cell 6
  go_wp2_with fail
  (with_reducible refine (L3.out A2 c2 _ Q2.out).mono ?_)
  rintro e w8 ⟨rfl, b⟩
  clear x0 x1 x2 x3 x4 x5 x6
  have B8 := Lib.hid (below_on B7.out b)
  replace X := Lib.hid (X.out.below b X.out.lt)
  replace Q1 := Lib.hid (Q1.out.on b)
  replace Q2 := Lib.hid (Q2.out.on b)
  replace Q3 := Lib.hid (Q3.out.on b)
  replace Q4 := Lib.hid (Q4.out.on b)
  clear b
  have x0 : w8.cell? ⟨w.heap.size, 0, none⟩ = some (.string ⟨#[]⟩) := X.out.cell 0
  have x1 : w8.cell? ⟨w.heap.size, 1, none⟩ = some (.bool false) := X.out.cell 1
  have x2 : w8.cell? ⟨w.heap.size, 2, none⟩ = some (.slice none 0 0) := X.out.cell 2
  have x3 : w8.cell? ⟨w.heap.size, 3, none⟩ = some (.int .u64 0) := X.out.cell 3
  have x4 : w8.cell? ⟨w.heap.size, 4, none⟩ = some (.int .i64 0) := X.out.cell 4
  have x5 : w8.cell? ⟨w.heap.size, 5, none⟩ = some (.int .i64 2) := X.out.cell 5
  have x6 : w8.cell? ⟨w.heap.size, 6, none⟩ = some (.int .i64 10) := X.out.cell 6
  go_wp2_with fail
  (with_reducible refine (L4.out A2 c2 _ Q2.out).mono ?_)
  rintro e w9 ⟨rfl, b⟩
  clear x0 x1 x2 x3 x4 x5 x6
  have B9 := Lib.hid (below_on B8.out b)
  replace X := Lib.hid (X.out.below b X.out.lt)
  replace Q1 := Lib.hid (Q1.out.on b)
  replace Q2 := Lib.hid (Q2.out.on b)
  replace Q3 := Lib.hid (Q3.out.on b)
  replace Q4 := Lib.hid (Q4.out.on b)
  clear b
  obtain ⟨ad2, rfl, hb2, p0, p1, p2, p3⟩ := Q2.out 0 (by simp)
  simp only [Nat.zero_mul, List.getElem_cons_zero] at p0 p1 p2 p3
  have a02 := add_zero ad2
  rw [a02] at p0 p1 p2 p3
  clear a02
  obtain ⟨ad4, rfl, hb4, r0, r1, r2, r3⟩ := Q4.out 0 (by simp)
  simp only [Nat.zero_mul, List.getElem_cons_zero] at r0 r1 r2 r3
  have a04 := add_zero ad4
  rw [a04] at r0 r1 r2 r3
  clear a04
  go_wp2_with fail
  clear p0 p1 p2 p3 r0 r1 r2 r3
  (with_reducible refine (K1.out _ c4 _ Q4.out).mono ?_)
  rintro e w10 ⟨rfl, b⟩
  have B10 := Lib.hid (below_on B9.out b)
  replace X := Lib.hid (X.out.below b X.out.lt)
  replace Q1 := Lib.hid (Q1.out.on b)
  replace Q2 := Lib.hid (Q2.out.on b)
  replace Q3 := Lib.hid (Q3.out.on b)
  replace Q4 := Lib.hid (Q4.out.on b)
  clear b
  have na := (Below.refl w10.heap.size w10).alloc (Nat.le_refl _) (.cells #[.int .i64 0, .int .i64 0, .int .i64 0, .int .i64 0] 45)
  replace X := Lib.hid (X.out.alloc (.cells #[.int .i64 0, .int .i64 0, .int .i64 0, .int .i64 0] 45))
  replace Q1 := Lib.hid (Q1.out.on na)
  replace Q2 := Lib.hid (Q2.out.on na)
  replace Q3 := Lib.hid (Q3.out.on na)
  replace Q4 := Lib.hid (Q4.out.on na)
  have B11 := Lib.hid (below_on B10.out na)
  have V := Lib.hid (Blk.new w10 45 #[.int .i64 0, .int .i64 0, .int .i64 0, .int .i64 0])
  clear na
  go_wp2_with fail
  generalize w10.alloc (.cells #[.int .i64 0, .int .i64 0, .int .i64 0, .int .i64 0] 45) = w11 at B11 X V Q1 Q2 Q3 Q4 ⊢
  (with_reducible refine (K2.out _ 1 _ (qs_new V.out)).mono ?_)
  rintro e w12 ⟨rfl, b⟩
  have B12 := Lib.hid (below_on B11.out b)
  replace X := Lib.hid (X.out.below b X.out.lt)
  replace V := Lib.hid (V.out.below b V.out.lt)
  replace Q1 := Lib.hid (Q1.out.on b)
  replace Q2 := Lib.hid (Q2.out.on b)
  replace Q3 := Lib.hid (Q3.out.on b)
  replace Q4 := Lib.hid (Q4.out.on b)
  clear b
  go_wp2_with fail
  go_ret
  exact ⟨rfl, B12.out⟩
end Go.Proofs.Ytnjmhijfaijopaa
