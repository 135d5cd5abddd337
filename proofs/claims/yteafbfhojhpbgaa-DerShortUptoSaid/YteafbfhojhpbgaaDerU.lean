/- Bytes read as an item from a place on: the program's own Get. -/
import Derived.Test.YteafbfhojhpbgaaDerGetMath2
namespace Go.Proofs.Yteafbfhojhpbgaa
open Go.ChangeShapes Go.WideShapes Go.ChangeAt Go.RowKit Gs
set_option linter.unusedVariables false

/-- What stands in bytes from a place on, and where it ends. -/
def getK (k : Nat) : GR → GR
  | .bad e => .bad e
  | .ok x n => if mayI 8 x = true then .ok x (k + n) else .bad 71
def getP (b : List Int) (a : Int) : GR := if a < 0 ∨ (b.length : Int) < a then .bad 1 else getK a.toNat (rawG (b.drop a.toNat))
theorem getK_yes {k n : Nat} {x : It} (h : mayI 8 x = true) : getK k (.ok x n) = .ok x (k + n) := if_pos h
theorem getK_no {k n : Nat} {x : It} (h : mayI 8 x = false) : getK k (.ok x n) = .bad 71 := if_neg (by rw [h]; simp)

set_option maxRecDepth 100000 in
set_option maxHeartbeats 8000000 in
theorem Get_arg (A : Option Addr) (m c : Nat) (a : Int) (ha : a < 0 ∨ (m : Int) < a) (w : World) :
    Calls Try.prog 16 #[.slice A m c, .int .i64 a] w fun e w' => GetRes (.bad 1) w.heap.size e w' ∧ Below w.heap.size w w' := by
  have D0 := Lib.hid ((Below.refl w.heap.size w).alloc (Nat.le_refl _) (.cells #[.int .i64 0, .slice none 0 0, .slice none 0 0] 25))
  have K0 := Lib.hid (Blk.new w 25 #[.int .i64 0, .slice none 0 0, .slice none 0 0])
  have j0 := K0.out.cell 0
  have j1 := K0.out.cell 1
  have j2 := K0.out.cell 2
  have f0 := K0.out.free 0
  have f1 := K0.out.free 1
  have f2 := K0.out.free 2
  by_cases h : a < 0
  · have q : decide (a < 0) = true := decide_eq_true h
    clear ha h
    go_enter Try.func16, Try.ntmps16
    go_wp2_with fail
    have hk := K0.out
    have x0 := hk.cell 0
    have x1 := hk.cell 1
    have x2 := hk.cell 2
    refine bodyPost_ret (v := .tuple #[.agg #[.int .i64 0, .slice none 0 0, .slice none 0 0], .int .i64 0, .int .i64 1]) (by simp [results, Try.results16, go_sem, x0, x1, x2]) rfl ⟨rfl, ?_⟩
    exact D0.out
  · have q : decide (a < 0) = false := decide_eq_false h
    have q2 : decide ((m : Int) < a) = true := decide_eq_true (by omega)
    clear ha h
    go_enter Try.func16, Try.ntmps16
    go_wp2_with fail
    have hk := K0.out
    have x0 := hk.cell 0
    have x1 := hk.cell 1
    have x2 := hk.cell 2
    refine bodyPost_ret (v := .tuple #[.agg #[.int .i64 0, .slice none 0 0, .slice none 0 0], .int .i64 0, .int .i64 1]) (by simp [results, Try.results16, go_sem, x0, x1, x2]) rfl ⟨rfl, ?_⟩
    exact D0.out

set_option maxRecDepth 100000 in
set_option maxHeartbeats 8000000 in
theorem Get_at (b : List Int) (hb : ∀ x ∈ b, 0 ≤ x ∧ x < 256) (hl : b.length ≤ 100000) (k : Nat) (hk : k ≤ b.length) (A : Option Addr) (c : Nat) (w : World) (hbc : b.length ≤ c) (hc : c ≤ maxLen) (hs : SI w w.heap.size .u8 A b) :
    Calls Try.prog 16 #[.slice A b.length c, .int .i64 k] w fun e w' => GetRes (getK k (rawG (b.drop k))) w.heap.size e w' ∧ Below w.heap.size w w' := by
  have hdl : (b.drop k).length = b.length - k := List.length_drop
  have hbd : ∀ x ∈ b.drop k, 0 ≤ x ∧ x < 256 := fun x hx => hb x (List.mem_of_mem_drop hx)
  have PGb := Lib.hid (fun W (h : SI W W.heap.size .u8 A b) (hck : ¬ c = k) => get_any 100000 (b.drop k) (by omega) (by omega) hbd (A.map (·.add k)) (c - k) W (by omega) (by omega) (by have := h.cut k hbc; rwa [if_neg hck] at this))
  have PGa := Lib.hid (fun W (hck : c = k) => get_any 100000 (b.drop k) (by omega) (by omega) hbd A 0 W (by omega) (by omega) (fun j hj => by omega))
  rw [hdl] at PGa PGb
  have HS := Lib.hid hs
  have HBk := Lib.hid (fun x n (h : rawG (b.drop k) = .ok x n) => (raw_back (b.drop k).length (b.drop k) (Nat.le_refl _) hbd).1 x n h)
  have HOk := Lib.hid (fun x n (h : rawG (b.drop k) = .ok x n) => rawG_ok h)
  have HEr := Lib.hid (fun e (h : rawG (b.drop k) = .bad e) => rawG_err h)
  obtain ⟨m, hm⟩ : ∃ m, b.length = m := ⟨_, rfl⟩
  rw [hm] at PGa PGb hk hbc hl ⊢
  have HDl := Lib.hid (show (b.drop k).length = m - k by omega)
  have q0 : decide ((k : Int) < 0) = false := decide_eq_false (by omega)
  have q1 : decide ((m : Int) < (k : Int)) = false := decide_eq_false (by omega)
  have q1' : decide (m < k) = false := decide_eq_false (by omega)
  have g0 : (0 : Int) ≤ (k : Int) := by omega
  have g1 : (k : Int) ≤ (m : Int) := by omega
  have g1' : k ≤ m := hk
  have g2 : k ≤ c := by omega
  have D0 := Lib.hid ((Below.refl w.heap.size w).alloc (Nat.le_refl _) (.cells #[.int .i64 0, .slice none 0 0, .slice none 0 0] 25))
  have K0 := Lib.hid (Blk.new w 25 #[.int .i64 0, .slice none 0 0, .slice none 0 0])
  have HL := Lib.hid hl
  generalize rawG (b.drop k) = r at *
  clear hs hb hbd hdl hm hk hl hbc hc
  cases r with
  | bad e =>
    rw [show getK k (.bad e) = .bad e from rfl]
    have he : (e == 0) = false := beq_eq_false_iff_ne.2 (by have := HEr.out e rfl; omega)
    clear HBk HOk HEr
    by_cases hcn : c = k
    · go_enter Try.func16, Try.ntmps16
      go_wp2_with fail
      refine (PGa.out _ hcn).mono ?_; rintro _ w2 ⟨h, bb⟩
      obtain rfl : _ = _ := h
      have B2 := Lib.hid (below_on D0.out bb)
      have K2 := Lib.hid (K0.out.below bb K0.out.lt)
      clear bb
      have j0 := K2.out.cell 0
      have j1 := K2.out.cell 1
      have j2 := K2.out.cell 2
      have f0 := K2.out.free 0
      have f1 := K2.out.free 1
      have f2 := K2.out.free 2
      go_wp2_with fail
      have hk := ((((((K2.out.set 0 (.int .i64 0)).set 1 (.slice none 0 0)).set 2 (.slice none 0 0)).set 0 (.int .i64 0)).set 1 (.slice none 0 0)).set 2 (.slice none 0 0))
      have x0 := hk.cell 0
      have x1 := hk.cell 1
      have x2 := hk.cell 2
      refine bodyPost_ret (v := .tuple #[.agg #[.int .i64 0, .slice none 0 0, .slice none 0 0], .int .i64 0, .int .i64 e]) (by simp [results, Try.results16, go_sem, x0, x1, x2]) rfl ⟨rfl, ?_⟩
      exact (below_setR (below_setR (below_setR (below_setR (below_setR (below_setR B2.out (Nat.le_refl _) _) (Nat.le_refl _) _) (Nat.le_refl _) _) (Nat.le_refl _) _) (Nat.le_refl _) _) (Nat.le_refl _) _)
    · go_enter Try.func16, Try.ntmps16
      go_wp2_with fail
      refine (PGb.out _ (HS.out.on D0.out) hcn).mono ?_; rintro _ w2 ⟨h, bb⟩
      obtain rfl : _ = _ := h
      have B2 := Lib.hid (below_on D0.out bb)
      have K2 := Lib.hid (K0.out.below bb K0.out.lt)
      clear bb
      have j0 := K2.out.cell 0
      have j1 := K2.out.cell 1
      have j2 := K2.out.cell 2
      have f0 := K2.out.free 0
      have f1 := K2.out.free 1
      have f2 := K2.out.free 2
      go_wp2_with fail
      have hk := ((((((K2.out.set 0 (.int .i64 0)).set 1 (.slice none 0 0)).set 2 (.slice none 0 0)).set 0 (.int .i64 0)).set 1 (.slice none 0 0)).set 2 (.slice none 0 0))
      have x0 := hk.cell 0
      have x1 := hk.cell 1
      have x2 := hk.cell 2
      refine bodyPost_ret (v := .tuple #[.agg #[.int .i64 0, .slice none 0 0, .slice none 0 0], .int .i64 0, .int .i64 e]) (by simp [results, Try.results16, go_sem, x0, x1, x2]) rfl ⟨rfl, ?_⟩
      exact (below_setR (below_setR (below_setR (below_setR (below_setR (below_setR B2.out (Nat.le_refl _) _) (Nat.le_refl _) _) (Nat.le_refl _) _) (Nat.le_refl _) _) (Nat.le_refl _) _) (Nat.le_refl _) _)
  | ok x n =>
    have HW := Lib.hid (show x.wt ≤ n ∧ x.wf from (HBk.out x n rfl).2)
    have hn8 := (HOk.out x n rfl).2.2.1
    have hn9 := HDl.out
    have hl9 := HL.out
    have hwn : IntKind.i64.wrap ((k : Int) + (n : Int)) = ((k + n : Nat) : Int) := by rw [show (k : Int) + (n : Int) = ((k + n : Nat) : Int) by omega]; exact IntWalk.i64_in _ (by omega)
    clear HBk HOk HEr hn8 hn9 hl9
    cases hmay : mayI 8 x with
    | true =>
      rw [getK_yes hmay]
      by_cases hcn : c = k
      · go_enter Try.func16, Try.ntmps16
        go_wp2_with fail
        refine (PGa.out _ hcn).mono ?_; rintro _ w2 ⟨⟨A1, c1, A2, c2, rfl, hit⟩, bb⟩
        have B2 := Lib.hid (below_on D0.out bb)
        have K2 := Lib.hid (K0.out.below bb K0.out.lt)
        have hsz : (w.alloc (.cells #[.int .i64 0, .slice none 0 0, .slice none 0 0] 25)).heap.size = w.heap.size + 1 := by simp
        rw [hsz] at hit
        have HIt := Lib.hid hit
        clear hit hsz
        clear bb
        have j0 := K2.out.cell 0
        have j1 := K2.out.cell 1
        have j2 := K2.out.cell 2
        have f0 := K2.out.free 0
        have f1 := K2.out.free 1
        have f2 := K2.out.free 2
        have hIR : ItR (((w2.setCell ⟨w.heap.size, 0, none⟩ (.int .i64 x.tag)).setCell ⟨w.heap.size, 1, none⟩ (.slice A1 x.b.length c1)).setCell ⟨w.heap.size, 2, none⟩ (.slice A2 x.l.length c2)) (fun g => w.heap.size + 1 ≤ g ∧ g < w2.heap.size) x (.slice A1 x.b.length c1) (.slice A2 x.l.length c2) := HIt.out.keep (fun q hq => (World.cell?_setCell_other _ _ _ _ (fun e => by have e2 := congrArg Addr.block e; have := hq.1; simp only at e2; omega)).trans ((World.cell?_setCell_other _ _ _ _ (fun e => by have e2 := congrArg Addr.block e; have := hq.1; simp only at e2; omega)).trans (World.cell?_setCell_other _ _ _ _ (fun e => by have e2 := congrArg Addr.block e; have := hq.1; simp only at e2; omega))))
        have HIR := Lib.hid hIR
        obtain ⟨Ab, cb, Al, cl, e1, e2, hi⟩ := IR.of (hIR.more (S' := (· < w2.heap.size)) (fun g hg => hg.2))
        injection e1 with e11 e12 e13
        injection e2 with e21 e22 e23
        subst e11 e13 e21 e23
        have HI := Lib.hid hi
        clear hIR hi e12 e22
        have PM := Lib.hid (mayBe_any 8 (Nat.le_refl _) x HW.out.2 A1 c1 A2 c2 _ (by have h := HI.out; exact ⟨h.bl, h.bm, h.bi.more (by simp), h.ll, h.lm, h.li.more (by simp)⟩))
        rw [hmay] at PM
        go_wp2_with fail
        refine PM.out.mono ?_; rintro _ w3 ⟨rfl, bb⟩
        have B3 := Lib.hid (below_on (below_setR (below_setR (below_setR B2.out (Nat.le_refl _) _) (Nat.le_refl _) _) (Nat.le_refl _) _) bb)
        have K3 := Lib.hid ((((K2.out.set 0 (.int .i64 x.tag)).set 1 (.slice A1 x.b.length c1)).set 2 (.slice A2 x.l.length c2)).below bb (by have := K2.out.lt; simpa using this))
        have HIR3 := Lib.hid (HIR.out.keep (w' := w3) (fun q hq => bb.cell (by simpa using hq.2)))
        have hz3 : w2.heap.size ≤ w3.heap.size := by have := bb.size; simpa using this
        clear bb j0 j1 j2 f0 f1 f2
        have j0 := K3.out.cell 0
        have j1 := K3.out.cell 1
        have j2 := K3.out.cell 2
        have f0 := K3.out.free 0
        have f1 := K3.out.free 1
        have f2 := K3.out.free 2
        go_wp2_with fail
        have hIR : ItR (((w3.setCell ⟨w.heap.size, 0, none⟩ (.int .i64 x.tag)).setCell ⟨w.heap.size, 1, none⟩ (.slice A1 x.b.length c1)).setCell ⟨w.heap.size, 2, none⟩ (.slice A2 x.l.length c2)) (fun g => w.heap.size + 1 ≤ g ∧ g < w2.heap.size) x (.slice A1 x.b.length c1) (.slice A2 x.l.length c2) := HIR3.out.keep (fun q hq => (World.cell?_setCell_other _ _ _ _ (fun e => by have e2 := congrArg Addr.block e; have := hq.1; simp only at e2; omega)).trans ((World.cell?_setCell_other _ _ _ _ (fun e => by have e2 := congrArg Addr.block e; have := hq.1; simp only at e2; omega)).trans (World.cell?_setCell_other _ _ _ _ (fun e => by have e2 := congrArg Addr.block e; have := hq.1; simp only at e2; omega))))
        have hk := (((K3.out.set 0 (.int .i64 x.tag)).set 1 (.slice A1 x.b.length c1)).set 2 (.slice A2 x.l.length c2))
        have x0 := hk.cell 0
        have x1 := hk.cell 1
        have x2 := hk.cell 2
        refine bodyPost_ret (v := .tuple #[.agg #[.int .i64 x.tag, .slice A1 x.b.length c1, .slice A2 x.l.length c2], .int .i64 ((k + n : Nat) : Int), .int .i64 0]) (by simp [results, Try.results16, go_sem, x0, x1, x2]) rfl ⟨⟨A1, c1, A2, c2, rfl, hIR.more (fun g hg => ⟨by omega, by have := hg.2; simp; omega⟩)⟩, ?_⟩
        exact (below_setR (below_setR (below_setR B3.out (Nat.le_refl _) _) (Nat.le_refl _) _) (Nat.le_refl _) _)
      · go_enter Try.func16, Try.ntmps16
        go_wp2_with fail
        refine (PGb.out _ (HS.out.on D0.out) hcn).mono ?_; rintro _ w2 ⟨⟨A1, c1, A2, c2, rfl, hit⟩, bb⟩
        have B2 := Lib.hid (below_on D0.out bb)
        have K2 := Lib.hid (K0.out.below bb K0.out.lt)
        have hsz : (w.alloc (.cells #[.int .i64 0, .slice none 0 0, .slice none 0 0] 25)).heap.size = w.heap.size + 1 := by simp
        rw [hsz] at hit
        have HIt := Lib.hid hit
        clear hit hsz
        clear bb
        have j0 := K2.out.cell 0
        have j1 := K2.out.cell 1
        have j2 := K2.out.cell 2
        have f0 := K2.out.free 0
        have f1 := K2.out.free 1
        have f2 := K2.out.free 2
        have hIR : ItR (((w2.setCell ⟨w.heap.size, 0, none⟩ (.int .i64 x.tag)).setCell ⟨w.heap.size, 1, none⟩ (.slice A1 x.b.length c1)).setCell ⟨w.heap.size, 2, none⟩ (.slice A2 x.l.length c2)) (fun g => w.heap.size + 1 ≤ g ∧ g < w2.heap.size) x (.slice A1 x.b.length c1) (.slice A2 x.l.length c2) := HIt.out.keep (fun q hq => (World.cell?_setCell_other _ _ _ _ (fun e => by have e2 := congrArg Addr.block e; have := hq.1; simp only at e2; omega)).trans ((World.cell?_setCell_other _ _ _ _ (fun e => by have e2 := congrArg Addr.block e; have := hq.1; simp only at e2; omega)).trans (World.cell?_setCell_other _ _ _ _ (fun e => by have e2 := congrArg Addr.block e; have := hq.1; simp only at e2; omega))))
        have HIR := Lib.hid hIR
        obtain ⟨Ab, cb, Al, cl, e1, e2, hi⟩ := IR.of (hIR.more (S' := (· < w2.heap.size)) (fun g hg => hg.2))
        injection e1 with e11 e12 e13
        injection e2 with e21 e22 e23
        subst e11 e13 e21 e23
        have HI := Lib.hid hi
        clear hIR hi e12 e22
        have PM := Lib.hid (mayBe_any 8 (Nat.le_refl _) x HW.out.2 A1 c1 A2 c2 _ (by have h := HI.out; exact ⟨h.bl, h.bm, h.bi.more (by simp), h.ll, h.lm, h.li.more (by simp)⟩))
        rw [hmay] at PM
        go_wp2_with fail
        refine PM.out.mono ?_; rintro _ w3 ⟨rfl, bb⟩
        have B3 := Lib.hid (below_on (below_setR (below_setR (below_setR B2.out (Nat.le_refl _) _) (Nat.le_refl _) _) (Nat.le_refl _) _) bb)
        have K3 := Lib.hid ((((K2.out.set 0 (.int .i64 x.tag)).set 1 (.slice A1 x.b.length c1)).set 2 (.slice A2 x.l.length c2)).below bb (by have := K2.out.lt; simpa using this))
        have HIR3 := Lib.hid (HIR.out.keep (w' := w3) (fun q hq => bb.cell (by simpa using hq.2)))
        have hz3 : w2.heap.size ≤ w3.heap.size := by have := bb.size; simpa using this
        clear bb j0 j1 j2 f0 f1 f2
        have j0 := K3.out.cell 0
        have j1 := K3.out.cell 1
        have j2 := K3.out.cell 2
        have f0 := K3.out.free 0
        have f1 := K3.out.free 1
        have f2 := K3.out.free 2
        go_wp2_with fail
        have hIR : ItR (((w3.setCell ⟨w.heap.size, 0, none⟩ (.int .i64 x.tag)).setCell ⟨w.heap.size, 1, none⟩ (.slice A1 x.b.length c1)).setCell ⟨w.heap.size, 2, none⟩ (.slice A2 x.l.length c2)) (fun g => w.heap.size + 1 ≤ g ∧ g < w2.heap.size) x (.slice A1 x.b.length c1) (.slice A2 x.l.length c2) := HIR3.out.keep (fun q hq => (World.cell?_setCell_other _ _ _ _ (fun e => by have e2 := congrArg Addr.block e; have := hq.1; simp only at e2; omega)).trans ((World.cell?_setCell_other _ _ _ _ (fun e => by have e2 := congrArg Addr.block e; have := hq.1; simp only at e2; omega)).trans (World.cell?_setCell_other _ _ _ _ (fun e => by have e2 := congrArg Addr.block e; have := hq.1; simp only at e2; omega))))
        have hk := (((K3.out.set 0 (.int .i64 x.tag)).set 1 (.slice A1 x.b.length c1)).set 2 (.slice A2 x.l.length c2))
        have x0 := hk.cell 0
        have x1 := hk.cell 1
        have x2 := hk.cell 2
        refine bodyPost_ret (v := .tuple #[.agg #[.int .i64 x.tag, .slice A1 x.b.length c1, .slice A2 x.l.length c2], .int .i64 ((k + n : Nat) : Int), .int .i64 0]) (by simp [results, Try.results16, go_sem, x0, x1, x2]) rfl ⟨⟨A1, c1, A2, c2, rfl, hIR.more (fun g hg => ⟨by omega, by have := hg.2; simp; omega⟩)⟩, ?_⟩
        exact (below_setR (below_setR (below_setR B3.out (Nat.le_refl _) _) (Nat.le_refl _) _) (Nat.le_refl _) _)
    | false =>
      rw [getK_no hmay]
      by_cases hcn : c = k
      · go_enter Try.func16, Try.ntmps16
        go_wp2_with fail
        refine (PGa.out _ hcn).mono ?_; rintro _ w2 ⟨⟨A1, c1, A2, c2, rfl, hit⟩, bb⟩
        have B2 := Lib.hid (below_on D0.out bb)
        have K2 := Lib.hid (K0.out.below bb K0.out.lt)
        have hsz : (w.alloc (.cells #[.int .i64 0, .slice none 0 0, .slice none 0 0] 25)).heap.size = w.heap.size + 1 := by simp
        rw [hsz] at hit
        have HIt := Lib.hid hit
        clear hit hsz
        clear bb
        have j0 := K2.out.cell 0
        have j1 := K2.out.cell 1
        have j2 := K2.out.cell 2
        have f0 := K2.out.free 0
        have f1 := K2.out.free 1
        have f2 := K2.out.free 2
        have hIR : ItR (((w2.setCell ⟨w.heap.size, 0, none⟩ (.int .i64 x.tag)).setCell ⟨w.heap.size, 1, none⟩ (.slice A1 x.b.length c1)).setCell ⟨w.heap.size, 2, none⟩ (.slice A2 x.l.length c2)) (fun g => w.heap.size + 1 ≤ g ∧ g < w2.heap.size) x (.slice A1 x.b.length c1) (.slice A2 x.l.length c2) := HIt.out.keep (fun q hq => (World.cell?_setCell_other _ _ _ _ (fun e => by have e2 := congrArg Addr.block e; have := hq.1; simp only at e2; omega)).trans ((World.cell?_setCell_other _ _ _ _ (fun e => by have e2 := congrArg Addr.block e; have := hq.1; simp only at e2; omega)).trans (World.cell?_setCell_other _ _ _ _ (fun e => by have e2 := congrArg Addr.block e; have := hq.1; simp only at e2; omega))))
        have HIR := Lib.hid hIR
        obtain ⟨Ab, cb, Al, cl, e1, e2, hi⟩ := IR.of (hIR.more (S' := (· < w2.heap.size)) (fun g hg => hg.2))
        injection e1 with e11 e12 e13
        injection e2 with e21 e22 e23
        subst e11 e13 e21 e23
        have HI := Lib.hid hi
        clear hIR hi e12 e22
        have PM := Lib.hid (mayBe_any 8 (Nat.le_refl _) x HW.out.2 A1 c1 A2 c2 _ (by have h := HI.out; exact ⟨h.bl, h.bm, h.bi.more (by simp), h.ll, h.lm, h.li.more (by simp)⟩))
        rw [hmay] at PM
        go_wp2_with fail
        refine PM.out.mono ?_; rintro _ w3 ⟨rfl, bb⟩
        have B3 := Lib.hid (below_on (below_setR (below_setR (below_setR B2.out (Nat.le_refl _) _) (Nat.le_refl _) _) (Nat.le_refl _) _) bb)
        have K3 := Lib.hid ((((K2.out.set 0 (.int .i64 x.tag)).set 1 (.slice A1 x.b.length c1)).set 2 (.slice A2 x.l.length c2)).below bb (by have := K2.out.lt; simpa using this))
        have HIR3 := Lib.hid (HIR.out.keep (w' := w3) (fun q hq => bb.cell (by simpa using hq.2)))
        have hz3 : w2.heap.size ≤ w3.heap.size := by have := bb.size; simpa using this
        clear bb j0 j1 j2 f0 f1 f2
        have j0 := K3.out.cell 0
        have j1 := K3.out.cell 1
        have j2 := K3.out.cell 2
        have f0 := K3.out.free 0
        have f1 := K3.out.free 1
        have f2 := K3.out.free 2
        go_wp2_with fail
        have hk := (((K3.out.set 0 (.int .i64 0)).set 1 (.slice none 0 0)).set 2 (.slice none 0 0))
        have x0 := hk.cell 0
        have x1 := hk.cell 1
        have x2 := hk.cell 2
        refine bodyPost_ret (v := .tuple #[.agg #[.int .i64 0, .slice none 0 0, .slice none 0 0], .int .i64 0, .int .i64 71]) (by simp [results, Try.results16, go_sem, x0, x1, x2]) rfl ⟨rfl, ?_⟩
        exact (below_setR (below_setR (below_setR B3.out (Nat.le_refl _) _) (Nat.le_refl _) _) (Nat.le_refl _) _)
      · go_enter Try.func16, Try.ntmps16
        go_wp2_with fail
        refine (PGb.out _ (HS.out.on D0.out) hcn).mono ?_; rintro _ w2 ⟨⟨A1, c1, A2, c2, rfl, hit⟩, bb⟩
        have B2 := Lib.hid (below_on D0.out bb)
        have K2 := Lib.hid (K0.out.below bb K0.out.lt)
        have hsz : (w.alloc (.cells #[.int .i64 0, .slice none 0 0, .slice none 0 0] 25)).heap.size = w.heap.size + 1 := by simp
        rw [hsz] at hit
        have HIt := Lib.hid hit
        clear hit hsz
        clear bb
        have j0 := K2.out.cell 0
        have j1 := K2.out.cell 1
        have j2 := K2.out.cell 2
        have f0 := K2.out.free 0
        have f1 := K2.out.free 1
        have f2 := K2.out.free 2
        have hIR : ItR (((w2.setCell ⟨w.heap.size, 0, none⟩ (.int .i64 x.tag)).setCell ⟨w.heap.size, 1, none⟩ (.slice A1 x.b.length c1)).setCell ⟨w.heap.size, 2, none⟩ (.slice A2 x.l.length c2)) (fun g => w.heap.size + 1 ≤ g ∧ g < w2.heap.size) x (.slice A1 x.b.length c1) (.slice A2 x.l.length c2) := HIt.out.keep (fun q hq => (World.cell?_setCell_other _ _ _ _ (fun e => by have e2 := congrArg Addr.block e; have := hq.1; simp only at e2; omega)).trans ((World.cell?_setCell_other _ _ _ _ (fun e => by have e2 := congrArg Addr.block e; have := hq.1; simp only at e2; omega)).trans (World.cell?_setCell_other _ _ _ _ (fun e => by have e2 := congrArg Addr.block e; have := hq.1; simp only at e2; omega))))
        have HIR := Lib.hid hIR
        obtain ⟨Ab, cb, Al, cl, e1, e2, hi⟩ := IR.of (hIR.more (S' := (· < w2.heap.size)) (fun g hg => hg.2))
        injection e1 with e11 e12 e13
        injection e2 with e21 e22 e23
        subst e11 e13 e21 e23
        have HI := Lib.hid hi
        clear hIR hi e12 e22
        have PM := Lib.hid (mayBe_any 8 (Nat.le_refl _) x HW.out.2 A1 c1 A2 c2 _ (by have h := HI.out; exact ⟨h.bl, h.bm, h.bi.more (by simp), h.ll, h.lm, h.li.more (by simp)⟩))
        rw [hmay] at PM
        go_wp2_with fail
        refine PM.out.mono ?_; rintro _ w3 ⟨rfl, bb⟩
        have B3 := Lib.hid (below_on (below_setR (below_setR (below_setR B2.out (Nat.le_refl _) _) (Nat.le_refl _) _) (Nat.le_refl _) _) bb)
        have K3 := Lib.hid ((((K2.out.set 0 (.int .i64 x.tag)).set 1 (.slice A1 x.b.length c1)).set 2 (.slice A2 x.l.length c2)).below bb (by have := K2.out.lt; simpa using this))
        have HIR3 := Lib.hid (HIR.out.keep (w' := w3) (fun q hq => bb.cell (by simpa using hq.2)))
        have hz3 : w2.heap.size ≤ w3.heap.size := by have := bb.size; simpa using this
        clear bb j0 j1 j2 f0 f1 f2
        have j0 := K3.out.cell 0
        have j1 := K3.out.cell 1
        have j2 := K3.out.cell 2
        have f0 := K3.out.free 0
        have f1 := K3.out.free 1
        have f2 := K3.out.free 2
        go_wp2_with fail
        have hk := (((K3.out.set 0 (.int .i64 0)).set 1 (.slice none 0 0)).set 2 (.slice none 0 0))
        have x0 := hk.cell 0
        have x1 := hk.cell 1
        have x2 := hk.cell 2
        refine bodyPost_ret (v := .tuple #[.agg #[.int .i64 0, .slice none 0 0, .slice none 0 0], .int .i64 0, .int .i64 71]) (by simp [results, Try.results16, go_sem, x0, x1, x2]) rfl ⟨rfl, ?_⟩
        exact (below_setR (below_setR (below_setR B3.out (Nat.le_refl _) _) (Nat.le_refl _) _) (Nat.le_refl _) _)

theorem Get_any (b : List Int) (hb : ∀ x ∈ b, 0 ≤ x ∧ x < 256) (hl : b.length ≤ 100000) (a : Int) (A : Option Addr) (c : Nat) (w : World) (hbc : b.length ≤ c) (hc : c ≤ maxLen) (hs : SI w w.heap.size .u8 A b) :
    Calls Try.prog 16 #[.slice A b.length c, .int .i64 a] w fun e w' => GetRes (getP b a) w.heap.size e w' ∧ Below w.heap.size w w' := by
  by_cases ha : a < 0 ∨ (b.length : Int) < a
  · rw [show getP b a = .bad 1 from if_pos ha]
    exact Get_arg A b.length c a ha w
  · have e : getP b a = getK a.toNat (rawG (b.drop a.toNat)) := if_neg ha
    rw [e]
    have h := Get_at b hb hl a.toNat (by omega) A c w hbc hc hs
    rw [show ((a.toNat : Nat) : Int) = a by omega] at h
    exact h
end Go.Proofs.Yteafbfhojhpbgaa
