/- A text as an item; items that are known; the chapter's examples, plainly. -/
import Derived.Test.YteafbfhojhpbgaaDerU
import Derived.Lib.ConvBytes
namespace Go.Proofs.Yteafbfhojhpbgaa
open Go.ChangeShapes Go.WideShapes Go.ChangeAt Go.RowKit Gs
set_option linter.unusedVariables false

theorem SI.set {w : World} {B : Nat} {k : IntKind} {A : Option Addr} {xs : List Int} (h : SI w B k A xs) {p : Addr} (hp : ∀ ad, A = some ad → ad.block ≠ p.block) (v : Value) : SI (w.setCell p v) B k A xs := fun j hj => by
  obtain ⟨ad, e, hb, hc⟩ := h j hj
  exact ⟨ad, e, hb, cell_far hc (by rw [block_of_add]; exact hp ad e)⟩
/-- A text's bytes as numbers. -/
def sbs (s : ByteArray) : List Int := s.data.toList.map fun b => (b.toNat : Int)
theorem sbs_len (s : ByteArray) : (sbs s).length = s.size := by unfold sbs; rw [List.length_map]; rfl
theorem sbs_byte (s : ByteArray) : ∀ x ∈ sbs s, 0 ≤ x ∧ x < 256 := by
  intro x hx
  obtain ⟨b, _, rfl⟩ := List.mem_map.1 hx
  have := b.toNat_lt
  omega

set_option maxRecDepth 100000 in
set_option maxHeartbeats 4000000 in
theorem Text_any (s : ByteArray) (hs : s.size ≤ 1000000) (w : World) :
    Calls Try.prog 25 #[.string s] w fun e w' => (∃ A c, e = .returned (.agg #[.int .i64 12, .slice A s.size c, .slice none 0 0]) ∧ s.size ≤ c ∧ c ≤ maxLen ∧ SI w' w'.heap.size .u8 A (sbs s)) ∧ Below w.heap.size w w' := by
  have D0 := Lib.hid ((Below.refl w.heap.size w).alloc (Nat.le_refl _) (.cells #[.int .i64 0, .slice none 0 0, .slice none 0 0] 25))
  have K0 := Lib.hid (Blk.new w 25 #[.int .i64 0, .slice none 0 0, .slice none 0 0])
  have cv := Lib.run_convert_string_bytes (P := Try.prog) (w.alloc (.cells #[.int .i64 0, .slice none 0 0, .slice none 0 0] 25)) 9 22 5 s Try.underlying9 Try.underlying22 Try.underlying5
  have hge := grownCap_ge (w.alloc (.cells #[.int .i64 0, .slice none 0 0, .slice none 0 0] 25)) s.size 0 5
  have hle := grownCap_le_maxLen (w.alloc (.cells #[.int .i64 0, .slice none 0 0, .slice none 0 0] 25)) s.size 0 5 (by unfold maxLen; omega)
  have hb : Below (w.alloc (.cells #[.int .i64 0, .slice none 0 0, .slice none 0 0] 25)).heap.size (w.alloc (.cells #[.int .i64 0, .slice none 0 0, .slice none 0 0] 25)) (Lib.bytesWorld (w.alloc (.cells #[.int .i64 0, .slice none 0 0, .slice none 0 0] 25)) 5 s) :=
    ⟨rfl, rfl, rfl, by rw [Lib.bytesWorld_size]; omega, fun k hk => Lib.bytesWorld_at_old _ _ s k hk⟩
  have hsi : SI (Lib.bytesWorld (w.alloc (.cells #[.int .i64 0, .slice none 0 0, .slice none 0 0] 25)) 5 s) (w.heap.size + 2) .u8 (some ⟨w.heap.size + 1, 0, none⟩) (sbs s) := fun j hj => by
    have hj' : j < s.size := by rw [← sbs_len]; exact hj
    refine ⟨_, rfl, (show w.heap.size + 1 < w.heap.size + 2 by omega), ?_⟩
    rw [cell_at_g]
    have := Lib.bytesWorld_cell (w.alloc (.cells #[.int .i64 0, .slice none 0 0, .slice none 0 0] 25)) 5 s j hj'
    rw [show (w.alloc (.cells #[.int .i64 0, .slice none 0 0, .slice none 0 0] 25)).heap.size = w.heap.size + 1 by simp] at this
    rw [this]
    unfold sbs
    have hj2 : j < s.data.toList.length := hj'
    rw [List.getElem?_map, List.getElem?_eq_getElem hj2, List.getD_eq_getElem?_getD, List.getElem?_eq_getElem hj2]
    rfl
  have hz1 := Lib.bytesWorld_size (w.alloc (.cells #[.int .i64 0, .slice none 0 0, .slice none 0 0] 25)) 5 s
  rw [show (w.alloc (.cells #[.int .i64 0, .slice none 0 0, .slice none 0 0] 25)).heap.size = w.heap.size + 1 by simp] at hz1 cv
  have K1 := Lib.hid (K0.out.below hb K0.out.lt)
  have B1 := Lib.hid (below_on D0.out hb)
  have HSI := Lib.hid hsi
  generalize Lib.bytesWorld (w.alloc (.cells #[.int .i64 0, .slice none 0 0, .slice none 0 0] 25)) 5 s = W1 at *
  generalize grownCap (w.alloc (.cells #[.int .i64 0, .slice none 0 0, .slice none 0 0] 25)) s.size 0 5 = cap at *
  have HG := Lib.hid (And.intro hge (And.intro hle hz1))
  clear hge hle hb hsi hs hz1
  have j0 := K1.out.cell 0
  have j1 := K1.out.cell 1
  have j2 := K1.out.cell 2
  have f0 := K1.out.free 0
  have f1 := K1.out.free 1
  have f2 := K1.out.free 2
  go_enter Try.func25, Try.ntmps25
  go_wp2_with fail
  have hk := ((K1.out.set 0 (.int .i64 12)).set 1 (.slice (some ⟨w.heap.size + 1, 0, none⟩) s.size cap)).set 2 (.slice none 0 0)
  have x0 := hk.cell 0
  have x1 := hk.cell 1
  have x2 := hk.cell 2
  refine bodyPost_ret (v := .agg #[.int .i64 12, .slice (some ⟨w.heap.size + 1, 0, none⟩) s.size cap, .slice none 0 0]) (by simp [results, Try.results25, go_sem, x0, x1, x2]) rfl ⟨⟨_, _, rfl, HG.out.1, HG.out.2.1, ?_⟩, ?_⟩
  · have hz := HG.out.2.2
    have h := ((HSI.out.set (p := ⟨w.heap.size, 0, none⟩) (fun ad e => by cases e; simp) (.int .i64 12)).set (p := ⟨w.heap.size, 1, none⟩) (fun ad e => by cases e; simp) (.slice (some ⟨w.heap.size + 1, 0, none⟩) s.size cap)).set (p := ⟨w.heap.size, 2, none⟩) (fun ad e => by cases e; simp) (.slice none 0 0)
    exact h.more (by simp; omega)
  · exact below_setR (below_setR (below_setR B1.out (Nat.le_refl _) _) (Nat.le_refl _) _) (Nat.le_refl _) _
end Go.Proofs.Yteafbfhojhpbgaa
