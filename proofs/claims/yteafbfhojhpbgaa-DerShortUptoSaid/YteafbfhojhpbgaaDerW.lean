/- The chapter's examples, plainly. -/
import Derived.Test.YteafbfhojhpbgaaDerV
namespace Go.Proofs.Yteafbfhojhpbgaa
open Go.ChangeShapes Go.WideShapes Go.ChangeAt Go.RowKit Gs
set_option linter.unusedVariables false

def xI5 : It := .mk 2 [5] []
def xIm : It := .mk 2 [128] []
def xTx : It := .mk 12 [97, 98] []
def xSq : It := .mk 48 [] [xI5, xIm, xTx]
theorem int_5 : intE 5 = [5] := by decide
theorem int_m : intE (-128) = [128] := by decide
theorem int_129 : intE (-129) = [255, 127] := by decide
theorem tx_ab : sbs ⟨#[97, 98]⟩ = [97, 98] := by decide
theorem sq_enc : xSq.enc = [48, 10, 2, 1, 5, 2, 1, 128, 12, 2, 97, 98] := by decide
theorem sq_may : mayI 8 xSq = true := by decide
theorem i5_may : mayI 8 xI5 = true := by decide
theorem sq_putE : putE xSq = 0 := by unfold putE; rw [if_pos sq_may, sq_enc]; rfl
theorem sq_putB : putB xSq = [48, 10, 2, 1, 5, 2, 1, 128, 12, 2, 97, 98] := by unfold putB; rw [if_pos sq_may, sq_enc]; rfl
theorem sq_wf : xSq.wf := by
  simp [xSq, xI5, xIm, xTx, It.wf, wfs]
theorem sq_wt : xSq.wt = 12 := by decide
theorem sq_form : xSq.form = true := by decide
theorem live_get : getP [48, 10, 2, 1, 5, 2, 1, 128, 12, 2, 97, 98] 0 = .ok xSq 12 := by
  have h := rawG_enc xSq sq_form (by rw [sq_enc]; decide) []
  rw [List.append_nil, sq_enc] at h
  show getK 0 (rawG [48, 10, 2, 1, 5, 2, 1, 128, 12, 2, 97, 98]) = _
  rw [h, getK_yes sq_may]
  rfl
theorem live_bad1 : getP [48, 129, 1, 0] 0 = .bad 71 := by
  show getK 0 (rawG [48, 129, 1, 0]) = _
  rw [rawG, dif_neg (by decide)]
  rfl
theorem live_bad2 : getP [2, 1] 0 = .bad 70 := by
  show getK 0 (rawG [2, 1]) = _
  rw [rawG, dif_pos (by decide), if_neg (by decide), dif_pos (by decide)]
  rfl
def x129 : It := .mk 2 [255, 127] []
theorem as_129 : asE 2 x129 = 0 ∧ valI [255, 127] = -129 := by decide
theorem as_5 : asE 12 xI5 = 72 := by decide
theorem as_sq : asE 48 xSq = 0 := by decide
def x3 : It := .mk 3 [] []
theorem put_3 : putE x3 = 1 ∧ putB x3 = [] := by decide

/-- An item without items. -/
theorem ir_leaf {w : World} {B : Nat} {t : Int} {b : List Int} {A : Option Addr} {c : Nat} (h : SI w B .u8 A b) (h1 : b.length ≤ c) (h2 : c ≤ maxLen) : IR w B (.mk t b []) A c none 0 :=
  ⟨h1, h2, h, Nat.le_refl _, by unfold maxLen; omega, fun j hj => absurd hj (Nat.not_lt_zero j)⟩
/-- Three items in a literal. -/
theorem is_3 {w : World} {g : Nat} {x y z : It} {Ax Ay Az Bx By Bz : Option Addr} {cx cy cz dx dy dz : Nat} (hb : Blk w g 25 #[.int .i64 x.tag, .slice Ax x.b.length cx, .slice Bx x.l.length dx, .int .i64 y.tag, .slice Ay y.b.length cy, .slice By y.l.length dy, .int .i64 z.tag, .slice Az z.b.length cz, .slice Bz z.l.length dz])
    (hx : IR w w.heap.size x Ax cx Bx dx) (hy : IR w w.heap.size y Ay cy By dy) (hz : IR w w.heap.size z Az cz Bz dz) : IS w w.heap.size (some ⟨g, 0, none⟩) [x, y, z] := by
  intro j hj
  have h3 : j = 0 ∨ j = 1 ∨ j = 2 := by simp at hj; omega
  rcases h3 with rfl | rfl | rfl
  · exact ⟨_, rfl, hb.lt, _, _, by rw [cell_at_g]; exact hb.cell 0, by rw [cell_at_g]; exact hb.cell 1, by rw [cell_at_g]; exact hb.cell 2, hx.to⟩
  · exact ⟨_, rfl, hb.lt, _, _, by rw [cell_at_g]; exact hb.cell 3, by rw [cell_at_g]; exact hb.cell 4, by rw [cell_at_g]; exact hb.cell 5, hy.to⟩
  · exact ⟨_, rfl, hb.lt, _, _, by rw [cell_at_g]; exact hb.cell 6, by rw [cell_at_g]; exact hb.cell 7, by rw [cell_at_g]; exact hb.cell 8, hz.to⟩
end Go.Proofs.Yteafbfhojhpbgaa
