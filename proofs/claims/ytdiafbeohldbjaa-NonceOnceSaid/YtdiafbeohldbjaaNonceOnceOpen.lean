/- Steps in a slice that came in: opened. -/
import Derived.Test.YtdiafbeohldbjaaNonceOpen
namespace Go.Proofs.Ytdiafbeohldbjaa
open Go.ChangeShapes Go.WideShapes Go.ChangeAt Go.RowKit Go.Deep Gs
set_option linter.unusedVariables false

/-- The slice '.slice A l.length c' holds the triples l, below block B. -/
def TS (w : World) (B : Nat) (A : Option Addr) (l : List (Int × Int × Int)) : Prop :=
  ∀ j (h : j < l.length), ∃ ad, A = some ad ∧ ad.block < B ∧ w.cell? (ad.add (j * 3)) = some (.int .i64 l[j].1) ∧ w.cell? ⟨(ad.add (j * 3)).block, (ad.add (j * 3)).off + 1, none⟩ = some (.int .i64 l[j].2.1) ∧ w.cell? ⟨(ad.add (j * 3)).block, (ad.add (j * 3)).off + 2, none⟩ = some (.int .i64 l[j].2.2)
theorem TS.below {w w' : World} {B : Nat} {A : Option Addr} {l : List (Int × Int × Int)} (h : TS w B A l) (hb : Below B w w') : TS w' B A l := fun j hj => by
  obtain ⟨ad, e, hB, c0, c1, c2⟩ := h j hj
  have hk : (ad.add (j * 3)).block < B := by rw [block_of_add]; exact hB
  exact ⟨ad, e, hB, (hb.cell hk).trans c0, (hb.cell (p := ⟨(ad.add (j * 3)).block, (ad.add (j * 3)).off + 1, none⟩) hk).trans c1, (hb.cell (p := ⟨(ad.add (j * 3)).block, (ad.add (j * 3)).off + 2, none⟩) hk).trans c2⟩
theorem TS.more {w : World} {B B' : Nat} {A : Option Addr} {l : List (Int × Int × Int)} (h : TS w B A l) (hB : B ≤ B') : TS w B' A l := fun j hj => by
  obtain ⟨ad, e, hb, c⟩ := h j hj
  exact ⟨ad, e, by omega, c⟩
theorem TS.on {w w' : World} {A : Option Addr} {l : List (Int × Int × Int)} (h : TS w w.heap.size A l) (hb : Below w.heap.size w w') : TS w' w'.heap.size A l := (h.below hb).more hb.size
section
variable {H : Type} {enc : TypeId × Value → H} {P : Program} {w : World} {base b0 : Nat} {sp : Nat → Bool} {hd : Bool} {r : Reach} {v : Value} {d : DataW H} {p : List MemPlace}
theorem trod_three {t : TypeId} {f0 f1 f2 : Field} {fuel : Nat} {cs : List Value} {x : DataW H × List MemPlace} (ht : P.underlying t = some (.struct #[f0, f1, f2])) (h : DataW.trod enc P w base sp hd fuel t cs = some x) :
    ∃ y0 y1 y2 n, cs.length = P.cellsOf t ∧ DataW.trod enc P w base sp hd n f0.type ((cs.drop f0.offset).take (P.cellsOf f0.type)) = some y0 ∧
      DataW.trod enc P w base sp hd n f1.type ((cs.drop f1.offset).take (P.cellsOf f1.type)) = some y1 ∧ DataW.trod enc P w base sp hd n f2.type ((cs.drop f2.offset).take (P.cellsOf f2.type)) = some y2 := by
  obtain ⟨xs, n, _, rfl, hl, hlen, hf⟩ := DataW.trod_struct ht h
  match xs, hlen with
  | [y0, y1, y2], _ => exact ⟨y0, y1, y2, n, hl, by simpa using hf 0 f0 rfl, by simpa using hf 1 f1 rfl, by simpa using hf 2 f2 rfl⟩
set_option maxRecDepth 100000 in
theorem open_step {fuel : Nat} {cs : List Value} {x : DataW H × List MemPlace} (hf : DataW.trod enc Try.prog w base sp hd fuel 39 cs = some x) : ∃ a b c, cs = [.int .i64 a, .int .i64 b, .int .i64 c] := by
  have hi : Try.prog.cellsOf 3 = 1 := by kernel_rfl
  have h3 : Try.prog.cellsOf 39 = 3 := by kernel_rfl
  obtain ⟨y0, y1, y2, n, hl, e0, e1, e2⟩ := trod_three Try.underlying39 hf
  rw [h3] at hl
  match cs, hl with
  | [x, y, z], _ =>
    obtain ⟨a, rfl⟩ := open_i64_atN (x := x) (by simpa [hi] using e0)
    obtain ⟨b, rfl⟩ := open_i64_atN (x := y) (by simpa [hi] using e1)
    obtain ⟨c, rfl⟩ := open_i64_atN (x := z) (by simpa [hi] using e2)
    exact ⟨a, b, c, rfl⟩
set_option maxRecDepth 100000 in
theorem open_steps (hval : Value.okWide Try.prog w r b0 37 v) (h : DataW.Trod enc Try.prog w base sp hd 37 v d p) :
    ∃ A n c l, v = .slice A n c ∧ l.length = n ∧ n ≤ c ∧ c ≤ maxLen ∧ TS w w.heap.size A l := by
  have h3 : Try.prog.cellsOf 39 = 3 := by kernel_rfl
  obtain ⟨A, n, c, rfl⟩ := okWide_slice Try.underlying37 hval
  obtain ⟨fuel, hf⟩ := h
  rcases open_slice Try.underlying37 hf with ⟨hcs, _⟩ | ⟨a, len, cap, m, n', D, Pl, hcs, _, hl, hm, hmm, _, he⟩
  · simp [Value.cells] at hcs
    obtain ⟨rfl, rfl, rfl⟩ := hcs
    exact ⟨none, 0, 0, [], rfl, rfl, Nat.le_refl _, by unfold maxLen; omega, fun j hj => by simp at hj⟩
  · simp [Value.cells] at hcs
    obtain ⟨rfl, rfl, rfl⟩ := hcs
    have hnm : n ≤ m := by rw [hmm]; split <;> omega
    obtain ⟨q, hq⟩ := choose_lt (n := n) (p := fun i (q : Int × Int × Int) => w.cell? (a.add (i * 3)) = some (.int .i64 q.1) ∧ w.cell? ⟨(a.add (i * 3)).block, (a.add (i * 3)).off + 1, none⟩ = some (.int .i64 q.2.1) ∧ w.cell? ⟨(a.add (i * 3)).block, (a.add (i * 3)).off + 2, none⟩ = some (.int .i64 q.2.2)) (fun i hi => by
      obtain ⟨cs', hc', ht'⟩ := he i (by omega)
      rw [h3] at hc'
      obtain ⟨x, y, z, rfl⟩ := open_step ht'
      obtain ⟨_, _, hcell⟩ := World.cells?_some hc'
      refine ⟨(x, y, z), ?_, ?_, ?_⟩
      · have := hcell 0 (by omega); simpa [Addr.add] using this
      · have := hcell 1 (by omega); simpa [Addr.add] using this
      · have := hcell 2 (by omega); simpa [Addr.add] using this)
    refine ⟨some a, n, c, (List.range n).map q, rfl, by simp, hl, hm, fun j hj => ?_⟩
    have hj' : j < n := by simpa using hj
    obtain ⟨h0, h1, h2⟩ := hq j hj'
    have hb := cell_lt h0
    rw [block_of_add] at hb
    exact ⟨a, rfl, hb, by rw [h0]; simp, by rw [h1]; simp, by rw [h2]; simp⟩
end
end Go.Proofs.Ytdiafbeohldbjaa
