/- The chapter's examples of shares hold. -/
import Derived.Test.YtlannmedefjfhaaGreatShareLib3
import Derived.Test.YtlannmedefjfhaaGreatSharePlain
namespace Go.Proofs.YtlannmedefjfhaaGreat
open Go.ChangeShapes Go.WideShapes Go.ChangeAt Go.RowKit Gs
set_option linter.unusedVariables false

theorem ss_blk {w : World} {g : Nat} {t : TypeId} {l : List (Int × Int)} (h : Blk w g t (cells2 l).toArray) : SS w w.heap.size (some ⟨g, 0, none⟩) l := fun j hj => by
  refine ⟨_, rfl, h.lt, ?_, ?_⟩
  · rw [add_at, h.cell]
    simpa using (cells2_at l j hj).1
  · rw [add_at]
    show w.cell? ⟨g, j * 2 + 1, none⟩ = _
    rw [h.cell]
    simpa using (cells2_at l j hj).2
theorem live_split : csplit (cpoly 9 [] 1) 2 = [(1, 9), (2, 9)] := by decide
theorem right12 : RightI [1, 2] := by
  refine ⟨by decide, by decide, fun i h => ?_⟩
  rcases i with _ | _ | i
  · exact ⟨⟨by simp, by simp⟩, fun j g => by omega⟩
  · refine ⟨⟨by simp, by simp⟩, fun j g => ?_⟩
    obtain rfl : j = 0 := by omega
    simp
  · exact absurd h (by simp)
theorem right1 : RightI [1] := by
  refine ⟨by decide, by decide, fun i h => ?_⟩
  obtain rfl : i = 0 := by simpa using h
  exact ⟨⟨by simp, by simp⟩, fun j g => by omega⟩

theorem live_Split (w : World) : Calls Tryz.prog 35 #[.int .u64 9, .int .i64 1, .int .i64 2, .slice none 0 0] w fun e w' => ∃ v, e = .returned (.tuple #[v, .int .i64 0]) ∧ OwnS w' w.heap.size v [(1, 9), (2, 9)] ∧ Below w.heap.size w w' := by
  have h := Split_ok 9 1 2 (by omega) (by omega) (by omega) (by omega) (by omega) none 0 [] (by simp) (by simp) (by simp) (by unfold maxLen; omega) w (fun j hj => by simp at hj)
  rw [live_split] at h
  exact h
theorem live_W (i x : Int) (hi : i = 1 ∨ i = 2) (e : wat [1, 2] i 0 = x) (g : Nat) (w : World) (hs : SI w w.heap.size .i64 (some ⟨g, 0, none⟩) [1, 2]) : Calls Tryz.prog 110 #[.slice (some ⟨g, 0, none⟩) 2 2, .int .i64 i] w fun r w' => r = .returned (.tuple #[.int .u64 x, .int .i64 0]) ∧ Below w.heap.size w w' := by
  have h := Weight_any (some ⟨g, 0, none⟩) 2 [1, 2] (by simp) (by simp) (by unfold maxLen; omega) i w hs
  exact h.mono fun r w' ⟨h1, h2⟩ => ⟨by rw [h1.1 ⟨right12, by rcases hi with rfl | rfl <;> simp⟩, e], h2⟩
theorem live_J (g : Nat) (w : World) (hs : SS w w.heap.size (some ⟨g, 0, none⟩) [(1, 5), (2, 7)]) : Calls Tryz.prog 31 #[.slice (some ⟨g, 0, none⟩) 2 2] w fun r w' => r = .returned (.tuple #[.int .u64 3, .int .i64 0]) ∧ Below w.heap.size w w' := by
  have h := Join_any (some ⟨g, 0, none⟩) 2 [(1, 5), (2, 7)] [1, 2] rfl (by simp) (by simp) (by unfold maxLen; omega) (by decide) w hs
  exact h.mono fun r w' ⟨h1, h2⟩ => ⟨by rw [h1.2.1 (by simp) ⟨right12, by decide⟩, live_join], h2⟩
theorem live_J0 (w : World) : Calls Tryz.prog 31 #[.slice none 0 0] w fun r w' => r = .returned (.tuple #[.int .u64 0, .int .i64 50]) ∧ Below w.heap.size w w' := by
  have h := Join_any none 0 [] [] rfl (by simp) (by simp) (by unfold maxLen; omega) (by simp) w (fun j hj => by simp at hj)
  exact h.mono fun r w' ⟨h1, h2⟩ => ⟨h1.1 rfl, h2⟩
theorem live_P (g : Nat) (w : World) (hs : SS w w.heap.size (some ⟨g, 0, none⟩) [(1, 3)]) : Calls Tryz.prog 32 #[.slice (some ⟨g, 0, none⟩) 1 1] w fun r w' => ∃ v, r = .returned (.tuple #[v, .int .i64 0]) ∧ OwnS w' w.heap.size v [(1, 64)] ∧ Below w.heap.size w w' := by
  have h := Public_any (some ⟨g, 0, none⟩) 1 [(1, 3)] [1] rfl (by simp) (by simp) (by unfold maxLen; omega) (by decide) w hs
  refine h.mono fun r w' ⟨h1, h2⟩ => ?_
  obtain ⟨v, e, ho⟩ := h1.1 ⟨right1, by decide⟩
  rw [show spubs [(1, 3)] = [(1, 64)] by show [((1 : Int), qpow 4 3)] = _; rw [live_pub]] at ho
  exact ⟨v, e, ho, h2⟩
theorem not_bad (t : Int) (h1 : 1 ≤ t) (h7 : t ≤ 7) : ¬ BadArg t [1] := by
  rintro (h | h | ⟨_, h⟩)
  · omega
  · omega
  · exact h right1
theorem live_grp : Grp [(1, 64)] := fun i h => by
  obtain rfl : i = 0 := by simpa using h
  show qin 64 = true
  rw [← live_pub]
  exact qin_base (by omega)
theorem live_C1 (A : Option Addr) (c : Nat) (hc : 1 ≤ c) (hm : c ≤ maxLen) (w : World) (hs : SS w w.heap.size A [(1, 64)]) : Calls Tryz.prog 95 #[.int .i64 1, .slice A 1 c] w fun r w' => r = .returned (.int .i64 0) ∧ Below w.heap.size w w' := by
  have h := Check_any5 1 A c [(1, 64)] [1] rfl (by simp) hc hm (by decide) w hs
  exact h.mono fun r w' ⟨h1, h2⟩ => ⟨h1.ok (not_bad 1 (by omega) (by omega)) live_grp (by simp) (fun i h g => by simp at h g; omega), h2⟩
theorem live_C2 (A : Option Addr) (c : Nat) (hc : 1 ≤ c) (hm : c ≤ maxLen) (w : World) (hs : SS w w.heap.size A [(1, 64)]) : Calls Tryz.prog 95 #[.int .i64 2, .slice A 1 c] w fun r w' => r = .returned (.int .i64 50) ∧ Below w.heap.size w w' := by
  have h := Check_any5 2 A c [(1, 64)] [1] rfl (by simp) hc hm (by decide) w hs
  exact h.mono fun r w' ⟨h1, h2⟩ => ⟨h1.few (not_bad 2 (by omega) (by omega)) live_grp (by simp), h2⟩

end Go.Proofs.YtlannmedefjfhaaGreat
