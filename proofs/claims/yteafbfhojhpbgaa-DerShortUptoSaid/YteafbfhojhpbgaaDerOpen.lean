/- An item, and items, that came in: opened. -/
import Derived.Test.YteafbfhojhpbgaaRows
import Derived.Test.YteafbfhojhpbgaaOpen
import Derived.Test.YteafbfhojhpbgaaDerD
import Derived.ChangeSame
import Derived.Deep.Strs
import Derived.Deep.Slices
namespace Go.Proofs.Yteafbfhojhpbgaa
open Go.ChangeShapes Go.WideShapes Go.ChangeAt Go.RowKit Go.Deep Gs
set_option linter.unusedVariables false

instance : Inhabited It := ⟨.mk 0 [] []⟩
theorem bulk_part {H : Type} {d : DataW H} {l : List (DataW H)} (h : d ∈ l) : Rows.uptoBulk d ≤ Rows.uptoBulkAll l := by
  induction l with
  | nil => cases h
  | cons x r ih =>
    simp only [Rows.uptoBulkAll]
    cases List.mem_cons.1 h with
    | inl e => subst e; omega
    | inr e => have := ih e; omega
theorem bulk_one {H : Type} (d : DataW H) : 1 ≤ Rows.uptoBulk d := by
  cases d with
  | lit l => cases l <;> simp [Rows.uptoBulk]
  | nil => simp [Rows.uptoBulk]
  | ptr d => simp [Rows.uptoBulk]
  | slice elems spare => simp [Rows.uptoBulk]
  | agg parts => simp [Rows.uptoBulk]
  | iface t d => simp [Rows.uptoBulk]
  | map entries => simp [Rows.uptoBulk]
  | held h => simp [Rows.uptoBulk]
theorem bulk_len {H : Type} (l : List (DataW H)) : l.length ≤ Rows.uptoBulkAll l := by
  induction l with
  | nil => simp [Rows.uptoBulkAll]
  | cons x r ih => have := bulk_one x; simp only [Rows.uptoBulkAll, List.length_cons]; omega
theorem bulk_wts {H : Type} (D : Nat → DataW H) (f : Nat → It) : ∀ (l : List Nat), (∀ i ∈ l, (f i).wt ≤ Rows.uptoBulk (D i)) → wts (l.map f) ≤ Rows.uptoBulkAll (l.map D)
  | [], _ => by simp [wts]
  | i :: r, h => by
    have h1 := h i (List.mem_cons_self ..)
    have h2 := bulk_wts D f r (fun j hj => h j (List.mem_cons_of_mem _ hj))
    simp only [List.map_cons, wts, Rows.uptoBulkAll]
    omega

section
variable {H : Type} {enc : TypeId × Value → H} {w : World} {base b0 : Nat} {sp : Nat → Bool} {hd : Bool} {r : Reach} {v : Value} {d : DataW H} {p : List MemPlace}
set_option maxRecDepth 100000 in
theorem open_bytes_in {fuel : Nat} {cs : List Value} {x : DataW H × List MemPlace} (hf : DataW.trod enc Try.prog w base sp hd fuel 22 cs = some x) :
    ∃ A n c xs, cs = [.slice A n c] ∧ xs.length = n ∧ n ≤ c ∧ c ≤ maxLen ∧ BI w (· < w.heap.size) A xs ∧ (∀ z ∈ xs, 0 ≤ z ∧ z < 256) ∧ n + 1 ≤ Rows.uptoBulk x.1 := by
  rcases open_slice1 Try.underlying22 (by kernel_rfl) hf with ⟨rfl, rfl⟩ | ⟨a, len, cap, m, n', V, D, Pl, rfl, _, hl, hm, hmm, rfl, he⟩
  · exact ⟨none, 0, 0, [], rfl, rfl, Nat.le_refl _, by unfold maxLen; omega, fun j hj => absurd hj (Nat.not_lt_zero j), fun z hz => by simp at hz, by simp [Rows.uptoBulk]⟩
  · have hnm : len ≤ m := by rw [hmm]; split <;> omega
    obtain ⟨q, hq⟩ := choose_lt (n := len) (p := fun i (z : Int) => w.cell? (a.add i) = some (.int .u8 z) ∧ 0 ≤ z ∧ z < 256) (fun i hi => by
      obtain ⟨h0, t0⟩ := he i (by omega)
      obtain ⟨z, e0, _, wz⟩ := DataW.trod_int Try.underlying5 t0
      simp at e0
      have hz : 0 ≤ z ∧ z ≤ 255 := by simpa [Lit.wf, IntKind.min, IntKind.max, IntKind.signed, IntKind.bits] using wz
      exact ⟨z, by rw [h0, e0], hz.1, by omega⟩)
    refine ⟨some a, len, cap, (List.range len).map q, rfl, by simp, hl, hm, fun j hj => ?_, fun z hz => ?_, ?_⟩
    · have hj' : j < len := by simpa using hj
      obtain ⟨h0, _⟩ := hq j hj'
      have hb := cell_lt h0
      rw [block_of_add] at hb
      exact ⟨a, rfl, hb, by rw [h0]; simp [hj']⟩
    · obtain ⟨j, hj, rfl⟩ := List.mem_map.1 hz
      exact (hq j (List.mem_range.1 hj)).2
    · have h1 := bulk_len ((List.range len).map D)
      simp only [Rows.uptoBulk]
      rw [List.length_map, List.length_range] at h1
      omega
set_option maxRecDepth 100000 in
theorem open_item_in : ∀ (N : Nat) {fuel : Nat} {cs : List Value} {x : DataW H × List MemPlace}, Rows.uptoBulk x.1 ≤ N → DataW.trod enc Try.prog w base sp hd fuel 25 cs = some x →
    ∃ (it : It) (vb vl : Value), cs = [.int .i64 it.tag, vb, vl] ∧ ItR w (· < w.heap.size) it vb vl ∧ it.wf ∧ it.wt ≤ Rows.uptoBulk x.1
  | N, fuel, cs, x, hN, hf => by
    have hi : Try.prog.cellsOf 3 = 1 := by kernel_rfl
    have hb : Try.prog.cellsOf 22 = 1 := by kernel_rfl
    have hs : Try.prog.cellsOf 23 = 1 := by kernel_rfl
    have h3 : Try.prog.cellsOf 25 = 3 := by kernel_rfl
    obtain ⟨y0, y1, y2, n, rfl, hl, e0, e1, e2⟩ := trod_struct3 Try.underlying25 hf
    rw [h3] at hl
    match cs, hl with
    | [c0, c1, c2], _ =>
      obtain ⟨t, et, ey, wt⟩ := DataW.trod_int Try.underlying3 (by simpa [hi] using e0)
      simp at et
      subst et
      obtain ⟨A, nb, c, xs, ec1, hxl, hxc, hxm, hbi, hxb, hbb⟩ := open_bytes_in (by simpa [hb] using e1)
      simp at ec1
      subst ec1
      have ht : -9223372036854775808 ≤ t ∧ t < 9223372036854775808 := by
        have : -9223372036854775808 ≤ t ∧ t ≤ 9223372036854775807 := by simpa [Lit.wf, IntKind.min, IntKind.max, IntKind.signed, IntKind.bits] using wt
        omega
      have hbk : Rows.uptoBulk y0.1 + (Rows.uptoBulk y1.1 + (Rows.uptoBulk y2.1 + 0)) + 1 ≤ N := by
        have := hN
        simp only [Rows.uptoBulk, Rows.uptoBulkAll] at this
        omega
      have h0 := bulk_one y0.1
      rcases open_slice Try.underlying23 (by simpa [hs] using e2) with ⟨ec2, ey2⟩ | ⟨a, len, cap, m, n', D, Pl, ec2, _, hll, hlm, hmm, ey2, he⟩
      · simp at ec2
        subst ec2
        refine ⟨.mk t xs [], _, _, rfl, itR_is.2 ⟨⟨A, c, by rw [← hxl]; rfl, by show xs.length ≤ c; omega, hxm, hbi⟩, none, 0, rfl, Nat.le_refl _, by unfold maxLen; omega, its_of (fun j hj => absurd hj (Nat.not_lt_zero j))⟩, by rw [It.wf]; exact ⟨ht, hxb, by rw [wfs]; trivial⟩, ?_⟩
        rw [It.wt, wts]
        have := bulk_one y2.1
        simp only [Rows.uptoBulk, Rows.uptoBulkAll]
        omega
      · simp at ec2
        subst ec2
        have hnm : len ≤ m := by rw [hmm]; split <;> omega
        have hD : ∀ i, i < len → Rows.uptoBulk (D i) + 1 ≤ Rows.uptoBulk y2.1 := fun i hi => by
          have h1 := bulk_part (d := D i) (l := (List.range len).map D) (List.mem_map.2 ⟨i, List.mem_range.2 hi, rfl⟩)
          rw [ey2]
          simp only [Rows.uptoBulk]
          omega
        obtain ⟨q, hq⟩ := choose_lt (n := len) (p := fun i (it : It) => (∃ vb vl, w.cell? (a.add (i * 3)) = some (.int .i64 it.tag) ∧ w.cell? ⟨(a.add (i * 3)).block, (a.add (i * 3)).off + 1, none⟩ = some vb ∧ w.cell? ⟨(a.add (i * 3)).block, (a.add (i * 3)).off + 2, none⟩ = some vl ∧ ItR w (· < w.heap.size) it vb vl) ∧ it.wf ∧ it.wt ≤ Rows.uptoBulk (D i)) (fun i hi => by
          obtain ⟨cs', hc', ht'⟩ := he i (by omega)
          rw [h3] at hc'
          have hDi := hD i hi
          obtain ⟨it, vb, vl, rfl, hr, hw, hwt⟩ := open_item_in (N - 1) (by show Rows.uptoBulk (D i) ≤ N - 1; omega) ht'
          obtain ⟨_, _, hcell⟩ := World.cells?_some hc'
          refine ⟨it, ⟨vb, vl, ?_, ?_, ?_, hr⟩, hw, hwt⟩
          · have := hcell 0 (by omega); simpa [Addr.add] using this
          · have := hcell 1 (by omega); simpa [Addr.add] using this
          · have := hcell 2 (by omega); simpa [Addr.add] using this)
        refine ⟨.mk t xs ((List.range len).map q), _, _, rfl, itR_is.2 ⟨⟨A, c, by rw [← hxl]; rfl, by show xs.length ≤ c; omega, hxm, hbi⟩, some a, cap, ?_, ?_, hlm, its_of fun j hj => ?_⟩, ?_, ?_⟩
        · show _ = Value.slice (some a) ((List.range len).map q).length cap
          simp
        · show ((List.range len).map q).length ≤ cap
          simpa using hll
        · have hj2 : j < ((List.range len).map q).length := hj
          have hj' : j < len := by simpa using hj2
          show ItAt w (· < w.heap.size) (some a) j (((List.range len).map q)[j]'hj2)
          have el : ((List.range len).map q)[j]'hj2 = q j := by simp
          rw [el]
          obtain ⟨⟨vb, vl, g0, g1, g2, hr⟩, _, _⟩ := hq j hj'
          have hblk := cell_lt g0
          rw [block_of_add] at hblk
          exact ⟨a, rfl, hblk, vb, vl, g0, g1, g2, hr⟩
        · rw [It.wf]
          refine ⟨ht, hxb, wfs_all.2 fun y hy => ?_⟩
          obtain ⟨j, hj, rfl⟩ := List.mem_map.1 hy
          exact (hq j (List.mem_range.1 hj)).2.1
        · have h1 := bulk_wts D q (List.range len) (fun i hi => (hq i (List.mem_range.1 hi)).2.2)
          rw [It.wt]
          rw [ey2] at hbk ⊢
          simp only [Rows.uptoBulk, Rows.uptoBulkAll] at hbk ⊢
          omega
  termination_by N => N
  decreasing_by omega
set_option maxRecDepth 100000 in
theorem open_item (hval : Value.okWide Try.prog w r b0 25 v) (h : DataW.Trod enc Try.prog w base sp hd 25 v d p) :
    ∃ (it : It) (Ab : Option Addr) (cb : Nat) (Al : Option Addr) (cl : Nat), v = .agg #[.int .i64 it.tag, .slice Ab it.b.length cb, .slice Al it.l.length cl] ∧ IR w w.heap.size it Ab cb Al cl ∧ it.wf ∧ it.wt ≤ Rows.uptoBulk d := by
  obtain ⟨cs, rfl, hsz⟩ := okWide_struct Try.underlying25 hval
  obtain ⟨fuel, hf⟩ := h
  obtain ⟨it, vb, vl, e, hr, hw, hwt⟩ := open_item_in (Rows.uptoBulk d) (Nat.le_refl _) hf
  obtain ⟨Ab, cb, Al, cl, rfl, rfl, hi⟩ := IR.of hr
  refine ⟨it, Ab, cb, Al, cl, ?_, hi, hw, hwt⟩
  obtain ⟨l⟩ := cs
  simp [Value.cells] at e
  rw [e]
end
end Go.Proofs.Yteafbfhojhpbgaa
