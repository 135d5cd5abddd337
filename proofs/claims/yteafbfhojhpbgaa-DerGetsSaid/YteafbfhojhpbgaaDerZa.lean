/- Bytes read as an item: the document's own. -/
import Derived.Test.YteafbfhojhpbgaaDerZ
namespace Go.Proofs.Yteafbfhojhpbgaa
open Go.ChangeShapes Go.WideShapes Go.ChangeAt Go.RowKit Gs
set_option linter.unusedVariables false

/-- What the document's read tells at place o. -/
def ReadRes (r : GR) (o : Nat) (base : Nat) (e : Ending) (w : World) : Prop := match r with
  | .bad k => e = .returned (.tuple #[.agg #[.int .i64 0, .slice none 0 0, .slice none 0 0], .int .i64 0, .int .i64 k])
  | .ok x n => ∃ A c A' c', e = .returned (.tuple #[.agg #[.int .i64 x.tag, .slice A x.b.length c, .slice A' x.l.length c'], .int .i64 ((o + n : Nat) : Int), .int .i64 0]) ∧ ItR w (fun g => base ≤ g ∧ g < w.heap.size) x (.slice A x.b.length c) (.slice A' x.l.length c')
/-- An item that may stand so deep, or why it is none. -/
def rdG (d : Nat) (b : List Int) : GR := match rawG b with
  | .ok x n => if mayI d x = true then .ok x n else .bad 71
  | .bad e => .bad e

theorem blk_drew {W : World} {g : Nat} {t : TypeId} {cs : Array Value} (h : Blk W g t cs) : Blk W.drew g t cs := h

set_option maxRecDepth 100000 in
set_option maxHeartbeats 8000000 in
theorem read_bad (xs : List Int) (hx : ∀ x ∈ xs, 0 ≤ x ∧ x < 256) (o : Nat) (b : List Int) (hb : xs.drop o = b) (k cc : Nat) (e0 e : Int) (h0 : hdS b = (k, cc, e0)) (he : e0 ≠ 0 ∧ e = e0 ∨ e0 = 0 ∧ 8192 < k + cc ∧ e = 71 ∨ e0 = 0 ∧ ¬ 8192 < k + cc ∧ b.length < k + cc ∧ e = 70)
    (hcc : k + cc ≤ 1000000) (d : Nat) (hd : d ≤ 8) (A : Option Addr) (m c : Nat) (hm : xs.length = m) (h9 : m ≤ 1000000) (ho : o ≤ m) (w : World) (hs : SI w w.heap.size .u8 A xs) :
    Calls Try.prog 49 #[.slice A m c, .int .i64 o, .int .i64 d] w fun e' w' => ReadRes (.bad e) o w.heap.size e' w' ∧ Below w.heap.size w w' := by
  have PH := Lib.hid (fun W (h : SI W W.heap.size .u8 A xs) => head_any xs hx o b hb A m c hm h9 ho W h)
  have HS := Lib.hid hs
  have hlen : b.length = m - o := by rw [← hb, List.length_drop, hm]
  have D0 := Lib.hid ((Below.refl w.heap.size w).alloc (Nat.le_refl _) (.cells #[.int .i64 0, .slice none 0 0, .slice none 0 0] 25))
  have K0 := Lib.hid (Blk.new w 25 #[.int .i64 0, .slice none 0 0, .slice none 0 0])
  rw [hlen] at he
  clear hs hx hb hlen hm
  rcases he with ⟨hne, rfl⟩ | ⟨rfl, h8, rfl⟩ | ⟨rfl, h8, hlt, rfl⟩
  · have hz : hdS b = (0, 0, e) := by
      have := (hdS_bad (b := b) (by rw [h0]; exact hne)).1
      rw [h0] at this ⊢
      exact this
    have hv := hv_bad (o := o) hz hne
    rw [hv] at PH
    have q : (e == 0) = false := by simpa using hne
    have q' : (e != 0) = true := by simpa using hne
    have q2 := decide_eq_false hne
    clear hne hcc h0 hz hv
    go_enter Try.func49, Try.ntmps49
    go_wp2_with fail
    refine (PH.out _ (HS.out.on D0.out)).mono ?_; rintro _ w2 ⟨rfl, bb⟩
    have B2 := Lib.hid (below_on D0.out bb)
    have K2 := Lib.hid (K0.out.below bb K0.out.lt)
    have B3 := Lib.hid (B2.out.alloc B2.out.size (.cells #[.int .i64 0, .int .i64 0, .int .i64 0, .int .i64 e] 84))
    have K3 := Lib.hid (K2.out.alloc (.cells #[.int .i64 0, .int .i64 0, .int .i64 0, .int .i64 e] 84))
    clear bb
    have j0 := K3.out.cell 0
    have j1 := K3.out.cell 1
    have j2 := K3.out.cell 2
    have f0 := K3.out.free 0
    have f1 := K3.out.free 1
    have f2 := K3.out.free 2
    go_wp2_with fail
    go_region
    go_wp2_with fail
    have hk := Lib.hid (((K3.out.set 0 (.int .i64 0)).set 1 (.slice none 0 0)).set 2 (.slice none 0 0))
    have hk2 := blk_drew hk.out
    have x0 := hk2.cell 0
    have x1 := hk2.cell 1
    have x2 := hk2.cell 2
    refine bodyPost_ret (v := .tuple #[.agg #[.int .i64 0, .slice none 0 0, .slice none 0 0], .int .i64 0, .int .i64 e]) (by simp [results, Try.results49, go_sem, x0, x1, x2]) rfl ⟨rfl, ?_⟩
    exact Below.drew (below_setR (below_setR (below_setR B3.out (Nat.le_refl _) _) (Nat.le_refl _) _) (Nat.le_refl _) _)
  · have hv := hv_ok (o := o) h0
    rw [hv] at PH
    generalize b[0]?.getD 0 = t at *
    obtain ⟨s, hs⟩ : ∃ s, o + k = s := ⟨_, rfl⟩
    rw [hs] at PH
    have hw1 : IntKind.i64.wrap ((s : Int) - (o : Int)) = (k : Int) := by rw [show (s : Int) - (o : Int) = (k : Int) by omega]; exact IntWalk.i64_in _ (by omega)
    have hw2 : IntKind.i64.wrap ((k : Int) + (cc : Int)) = ((k + cc : Nat) : Int) := by rw [show (k : Int) + (cc : Int) = ((k + cc : Nat) : Int) by omega]; exact IntWalk.i64_in _ (by omega)
    have hs0 : (0 : Int) ≤ (s : Int) := by omega
    have hsb : (s : Int) ≤ 3000000 := by omega
    have q1 : decide ((8192 : Int) < (s : Int) - (o : Int) + (cc : Int)) = true := decide_eq_true (by omega)
    have q1' : decide ((8192 : Int) < (k : Int) + (cc : Int)) = true := decide_eq_true (by omega)
    clear hw1 hw2 h0 hv hs
    go_enter Try.func49, Try.ntmps49
    go_wp2_with fail
    refine (PH.out _ (HS.out.on D0.out)).mono ?_; rintro _ w2 ⟨rfl, bb⟩
    have B2 := Lib.hid (below_on D0.out bb)
    have K2 := Lib.hid (K0.out.below bb K0.out.lt)
    have B3 := Lib.hid (B2.out.alloc B2.out.size (.cells #[.int .i64 t, .int .i64 cc, .int .i64 s, .int .i64 0] 84))
    have K3 := Lib.hid (K2.out.alloc (.cells #[.int .i64 t, .int .i64 cc, .int .i64 s, .int .i64 0] 84))
    clear bb
    have j0 := K3.out.cell 0
    have j1 := K3.out.cell 1
    have j2 := K3.out.cell 2
    have f0 := K3.out.free 0
    have f1 := K3.out.free 1
    have f2 := K3.out.free 2
    go_wp2_with fail
    have hk := Lib.hid (((K3.out.set 0 (.int .i64 0)).set 1 (.slice none 0 0)).set 2 (.slice none 0 0))
    have hk2 := hk.out
    have x0 := hk2.cell 0
    have x1 := hk2.cell 1
    have x2 := hk2.cell 2
    refine bodyPost_ret (v := .tuple #[.agg #[.int .i64 0, .slice none 0 0, .slice none 0 0], .int .i64 0, .int .i64 71]) (by simp [results, Try.results49, go_sem, x0, x1, x2]) rfl ⟨rfl, ?_⟩
    exact below_setR (below_setR (below_setR B3.out (Nat.le_refl _) _) (Nat.le_refl _) _) (Nat.le_refl _) _
  · have hv := hv_ok (o := o) h0
    rw [hv] at PH
    generalize b[0]?.getD 0 = t at *
    obtain ⟨s, hs⟩ : ∃ s, o + k = s := ⟨_, rfl⟩
    rw [hs] at PH
    have hw1 : IntKind.i64.wrap ((s : Int) - (o : Int)) = (k : Int) := by rw [show (s : Int) - (o : Int) = (k : Int) by omega]; exact IntWalk.i64_in _ (by omega)
    have hw2 : IntKind.i64.wrap ((k : Int) + (cc : Int)) = ((k + cc : Nat) : Int) := by rw [show (k : Int) + (cc : Int) = ((k + cc : Nat) : Int) by omega]; exact IntWalk.i64_in _ (by omega)
    have hs0 : (0 : Int) ≤ (s : Int) := by omega
    have hsb : (s : Int) ≤ 3000000 := by omega
    have q1 : decide ((8192 : Int) < (s : Int) - (o : Int) + (cc : Int)) = false := decide_eq_false (by omega)
    have q1' : decide ((8192 : Int) < (k : Int) + (cc : Int)) = false := decide_eq_false (by omega)
    have q2 : decide ((m : Int) - (s : Int) < (cc : Int)) = true := decide_eq_true (by omega)
    clear hw1 hw2 h0 hv hs
    go_enter Try.func49, Try.ntmps49
    go_wp2_with fail
    refine (PH.out _ (HS.out.on D0.out)).mono ?_; rintro _ w2 ⟨rfl, bb⟩
    have B2 := Lib.hid (below_on D0.out bb)
    have K2 := Lib.hid (K0.out.below bb K0.out.lt)
    have B3 := Lib.hid (B2.out.alloc B2.out.size (.cells #[.int .i64 t, .int .i64 cc, .int .i64 s, .int .i64 0] 84))
    have K3 := Lib.hid (K2.out.alloc (.cells #[.int .i64 t, .int .i64 cc, .int .i64 s, .int .i64 0] 84))
    clear bb
    have j0 := K3.out.cell 0
    have j1 := K3.out.cell 1
    have j2 := K3.out.cell 2
    have f0 := K3.out.free 0
    have f1 := K3.out.free 1
    have f2 := K3.out.free 2
    go_wp2_with fail
    have hk := Lib.hid (((K3.out.set 0 (.int .i64 0)).set 1 (.slice none 0 0)).set 2 (.slice none 0 0))
    have hk2 := hk.out
    have x0 := hk2.cell 0
    have x1 := hk2.cell 1
    have x2 := hk2.cell 2
    refine bodyPost_ret (v := .tuple #[.agg #[.int .i64 0, .slice none 0 0, .slice none 0 0], .int .i64 0, .int .i64 70]) (by simp [results, Try.results49, go_sem, x0, x1, x2]) rfl ⟨rfl, ?_⟩
    exact below_setR (below_setR (below_setR B3.out (Nat.le_refl _) _) (Nat.le_refl _) _) (Nat.le_refl _) _
end Go.Proofs.Yteafbfhojhpbgaa
