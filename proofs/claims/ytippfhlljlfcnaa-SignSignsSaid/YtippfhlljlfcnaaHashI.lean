/- Contracts of the hash: the hash of two hashes. -/
import Derived.Test.YtippfhlljlfcnaaHashH
import Derived.RegionTactic
import Derived.Deep.RegionHeld3
import Derived.Deep.DrawnRows
namespace Go.Proofs.Ytippfhlljlfcnaa
open Go.ChangeShapes Go.WideShapes Go.ChangeAt Go.RowKit Gs
set_option linter.unusedVariables false
attribute [local go_sem ↓] Go.wp_at_zero Go.wp_at_succ

/-- The hash of two hashes. -/
def hpair (a0 a1 b0 b1 : Int) : S3 := hst (coded [110, 111, 100, 101] [be a0 8 ++ be a1 8, be b0 8 ++ be b1 8])
theorem node_bytes : sbytes { data := #[110, 111, 100, 101] } = [110, 111, 100, 101] := by decide

theorem SP_new2 (w : World) {g B n1 n2 : Nat} {A1 A2 : Option Addr} {c1 c2 : Nat} {xs ys : List Int} {t : TypeId} (hg : g = w.heap.size) (hB : w.heap.size < B) (e1 : xs.length = n1) (e2 : ys.length = n2) (h1 : SI w w.heap.size .u8 A1 xs) (h2 : SI w w.heap.size .u8 A2 ys) (l1 : n1 ≤ c1) (m1 : c1 ≤ maxLen) (l2 : n2 ≤ c2) (m2 : c2 ≤ maxLen) :
    SP (w.alloc (.cells #[.slice A1 n1 c1, .slice A2 n2 c2] t)) B (some ⟨g, 0, none⟩) [xs, ys] := by
  subst hg e1 e2
  have hk : Below w.heap.size w (w.alloc (.cells #[.slice A1 xs.length c1, .slice A2 ys.length c2] t)) := (Below.refl _ _).alloc (Nat.le_refl _) _
  have hb := Blk.new w t #[.slice A1 xs.length c1, .slice A2 ys.length c2]
  intro j hj
  refine ⟨_, rfl, hB, ?_⟩
  rw [add_zero_off]
  match j, hj with
  | 0, _ => exact ⟨A1, c1, hb.cell 0, l1, m1, (h1.below hk).more (by omega)⟩
  | 1, _ => exact ⟨A2, c2, hb.cell 1, l2, m2, (h2.below hk).more (by omega)⟩

theorem sum_bound (a b : Int) : ∀ x ∈ be a 8 ++ be b 8, 0 ≤ x ∧ x < 256 := fun x hx => by
  rcases List.mem_append.1 hx with h | h <;> exact be_bound _ _ x h

theorem far2 {w : World} {g o h : Nat} {o1 o2 : Nat} {u1 u2 v : Value} (hc : w.cell? ⟨g, o, none⟩ = some v) (h1 : g ≠ h) (h2 : g ≠ h) : ((w.setCell ⟨h, o1, none⟩ u1).setCell ⟨h, o2, none⟩ u2).cell? ⟨g, o, none⟩ = some v := cell_far (cell_far hc h1) h2
theorem Tagged_pair (A : Option Addr) (c : Nat) (xs ys : List Int) (hx : ∀ x ∈ xs, 0 ≤ x ∧ x < 256) (hy : ∀ x ∈ ys, 0 ≤ x ∧ x < 256) (hxl : xs.length ≤ 16) (hyl : ys.length ≤ 16) (w : World) (hp : SP w w.heap.size A [xs, ys]) :
    Calls Try.prog 55 #[.string { data := #[110, 111, 100, 101] }, .slice A 2 c] w fun e w' => e = .returned (.agg #[.int .u64 (hst (coded [110, 111, 100, 101] [xs, ys])).1, .int .u64 (hst (coded [110, 111, 100, 101] [xs, ys])).2.1]) ∧ Below w.heap.size w w' := by
  have h := Tagged_any { data := #[110, 111, 100, 101] } A c [xs, ys] (by intro p hp; rcases List.mem_cons.1 hp with rfl | hp; exact hx; rcases List.mem_cons.1 hp with rfl | hp; exact hy; simp at hp) (by simp [psz, ByteArray.size]; omega) (by simp) w hp
  rw [node_bytes] at h
  exact h

theorem refTagged_pair (A : Option Addr) (c : Nat) (xs ys : List Int) (hx : ∀ x ∈ xs, 0 ≤ x ∧ x < 256) (hy : ∀ x ∈ ys, 0 ≤ x ∧ x < 256) (hxl : xs.length ≤ 16) (hyl : ys.length ≤ 16) (w : World) (hp : SP w w.heap.size A [xs, ys]) :
    Calls Try.prog 36 #[.string { data := #[110, 111, 100, 101] }, .slice A 2 c] w fun e w' => e = .returned (.agg #[.int .u64 (hst (coded [110, 111, 100, 101] [xs, ys])).1, .int .u64 (hst (coded [110, 111, 100, 101] [xs, ys])).2.1]) ∧ Below w.heap.size w w' := by
  have h := refTagged_any { data := #[110, 111, 100, 101] } A c [xs, ys] (by intro p hp; rcases List.mem_cons.1 hp with rfl | hp; exact hx; rcases List.mem_cons.1 hp with rfl | hp; exact hy; simp at hp) (by simp [psz, ByteArray.size]; omega) (by simp) w hp
  rw [node_bytes] at h
  exact h

end Go.Proofs.Ytippfhlljlfcnaa
