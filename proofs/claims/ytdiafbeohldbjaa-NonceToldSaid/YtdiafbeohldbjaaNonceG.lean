/- Contracts of nonce: Grow and Concat at nonces, the search by halves. -/
import Derived.Test.YtdiafbeohldbjaaNonceE
import Derived.Lib.AppendZerosOnto
import Derived.Shelf.Spec.SlicesGrow
namespace Go.Proofs.Ytdiafbeohldbjaa
open Go.ChangeShapes Go.WideShapes Go.ChangeAt Go.RowKit Gs
set_option linter.unusedVariables false
set_option linter.unusedSimpArgs false

theorem Grow_zero (w : World) : Calls Try.prog 33 #[.slice none 0 0, .int .i64 0] w fun e w' => e = .returned (.slice none 0 0) ∧ w = w' := by
  go_enter Try.func33, Try.ntmps33
  go_wp2_with fail
  go_ret
  exact ⟨rfl, rfl⟩
set_option maxHeartbeats 2000000 in
theorem Grow_more (n : Nat) (h0 : 0 < n) (hn : n ≤ 1048576) (w : World) : Calls Try.prog 33 #[.slice none 0 0, .int .i64 n] w fun e w' => ∃ v, e = .returned v ∧ OwnN w' w.heap.size v [] ∧ Below w.heap.size w w' := by
  obtain ⟨i0, hi, hz0, hz1, hz2⟩ := info_parts Try.info41
  have hold : (Builtin.firstCells i0.size 0 (.slice none 0 0)).run Try.prog w.drew = .ok ([] : List Value).toArray w.drew := run_firstCells_none w.drew i0.size 0 0 0
  have h := Lib.run_append_grow_zeros (P := Try.prog) w 22 3 22 41 i0 (.agg #[.int .i64 0, .int .i64 0]) .i64 .i64 Try.underlying22 Try.underlying3 hi hz0 none 0 0 [] hold n h0 (by rw [hz1]; omega) (by omega) (by omega) (by rw [hz2]; omega) (growslice_fits (by omega) (by rw [hz2]; omega))
  have hge := grownCap_ge w (0 + n) 0 41
  have hle := grownCap_le_maxLen w (0 + n) 0 41 (by unfold maxLen; omega)
  generalize grownCap w (0 + n) 0 41 = G at h hge hle
  obtain ⟨cs, hcs⟩ : ∃ cs, ([] : List Value).toArray ++ Builtin.zeroCells (Value.agg #[.int .i64 0, .int .i64 0]).cells n ++ Builtin.zeroCells (Value.agg #[.int .i64 0, .int .i64 0]).cells (G - (0 + n)) = cs := ⟨_, rfl⟩
  have hsz : cs.size = G * 2 := by rw [← hcs]; simp [Builtin.zeroCells, Value.cells]; omega
  rw [hcs, Nat.zero_add] at h
  have HR := Lib.hid (World.ownsRow_made (base := w.heap.size) (e := 41) (size := 2) w.drew cs G (Nat.le_refl _) hle hsz)
  have hG63 : G ≤ 9223372036854775807 := by unfold maxLen at hle; omega
  have hGn : n ≤ G := by omega
  clear hcs hsz hold hi hz0 hz1 hz2 hge hle
  go_enter Try.func33, Try.ntmps33
  go_wp2_with (at_builtin; refine Lib.wpList_append_run _ rfl _ _ _ _ rfl _ _ rfl rfl _ _ h ?_)
  go_ret
  exact ⟨_, rfl, HR.out, (Below.refl _ w).drew.alloc (Nat.le_refl _) _⟩

theorem Grow_any (n : Nat) (hn : n ≤ 1048576) (w : World) : Calls Try.prog 33 #[.slice none 0 0, .int .i64 n] w fun e w' => ∃ v, e = .returned v ∧ OwnN w' w.heap.size v [] ∧ Below w.heap.size w w' := by
  rcases Nat.eq_zero_or_pos n with rfl | h
  · exact (Grow_zero w).mono fun e w' ⟨he, hw⟩ => by subst hw; exact ⟨_, he, own_nilN _ _, Below.refl _ _⟩
  · exact Grow_more n h hn w
/-- Cells are read as they were. -/
theorem reads_on {w w' : World} {A : Option Addr} {size n : Nat} {xs : List Value} (h : Reads w w.heap.size size A n xs) (hb : Below w.heap.size w w') : Reads w' w'.heap.size size A n xs := (h.below hb).more hb.size

set_option maxHeartbeats 4000000 in
theorem Concat_two (g : Nat) (A1 A2 : Option Addr) (c1 c2 n1 n2 : Nat) (L1 L2 : List (Int × Int)) (h1 : L1.length = n1) (h2 : L2.length = n2) (hl : n1 + n2 ≤ 1048576) (w : World) (hg : g < w.heap.size)
    (e0 : w.cell? ⟨g, 0, none⟩ = some (.slice A1 n1 c1)) (e1 : w.cell? ⟨g, 1, none⟩ = some (.slice A2 n2 c2)) (r1 : Reads w w.heap.size 2 A1 n1 (cellsN L1)) (r2 : Reads w w.heap.size 2 A2 n2 (cellsN L2)) :
    Calls Try.prog 31 #[.slice (some ⟨g, 0, none⟩) 2 2] w fun e w' => ∃ v, e = .returned v ∧ OwnN w' w.heap.size v (L1 ++ L2) ∧ Below w.heap.size w w' := by
  have R1 := Lib.hid r1
  have R2 := Lib.hid r2
  have H1 := Lib.hid h1
  have H2 := Lib.hid h2
  have E0 := Lib.hid e0
  have E1 := Lib.hid e1
  obtain ⟨i0, hi, hz0, hz1, hz2⟩ := info_parts Try.info41
  have HI := Lib.hid (And.intro hi (And.intro hz0 (And.intro hz1 hz2)))
  have PG := Lib.hid (Grow_any (n1 + n2) hl)
  rw [Int.natCast_add] at PG
  clear r1 r2 h1 h2 hi hz0 hz1 hz2
  go_enter Try.func31, Try.ntmps31
  go_wp2_with fail
  go_loop [3, 5, 11] (fun s _ i => (i = .int .i64 0 ∧ s = .int .i64 0) ∨ (i = .int .i64 1 ∧ s = .int .i64 n1) ∨ (i = .int .i64 2 ∧ s = .int .i64 (n1 + n2 : Nat))) (fun _ _ i => 2 - (intOf i).toNat)
  case atStart => exact .inl ⟨rfl, rfl⟩
  case round =>
    rcases hrel with ⟨rfl, rfl⟩ | ⟨rfl, rfl⟩ | ⟨rfl, rfl⟩
    · go_wp2_with fail
      go_round
      case rel => exact .inr (.inl ⟨rfl, by first | rfl | go_num⟩)
      case measure => simp [intOf]
    · go_wp2_with fail
      go_round
      case rel => exact .inr (.inr ⟨rfl, by first | rfl | go_num⟩)
      case measure => simp [intOf]
    · go_wp2_with fail
      refine (PG.out _).mono ?_; rintro e wg ⟨v, rfl, ho, kb⟩
      have HO0 := Lib.hid ho
      have HB0 := Lib.hid kb
      clear ho kb
      go_wp2_with fail
      go_loopw [6, 8, 27] (fun v _ i wr => ((i = .int .i64 0 ∧ OwnN wr w.heap.size v []) ∨ (i = .int .i64 1 ∧ OwnN wr w.heap.size v L1) ∨ (i = .int .i64 2 ∧ OwnN wr w.heap.size v (L1 ++ L2))) ∧ Below w.heap.size w wr) (fun _ _ i _ => 2 - (intOf i).toNat)
      case atStart => exact ⟨.inl ⟨rfl, HO0.out⟩, HB0.out⟩
      case round =>
        obtain ⟨hc, hb⟩ := hrel
        have HB := Lib.hid hb
        have f0 := (hb.cell (p := ⟨g, 0, none⟩) hg).trans E0.out
        have f1 := (hb.cell (p := ⟨g, 1, none⟩) hg).trans E1.out
        clear hb
        rcases hc with ⟨rfl, ho⟩ | ⟨rfl, ho⟩ | ⟨rfl, ho⟩
        · have HO := Lib.hid (show wr.ownsRow w.heap.size 41 2 u6 0 (cellsN []) from ho)
          clear ho
          go_wp2_with (at_builtin; first | (refine wpList_append_any _ (by rfl) _ _ 22 (by rfl) w.heap.size 41 i0 (.agg #[.int .i64 0, .int .i64 0]) 2 16 Try.underlying22 HI.out.1 HI.out.2.1 HI.out.2.2.1 HI.out.2.2.2 (by rfl) (by decide) _ 0 (cellsN []) (by rfl) HO.out _ _ n1 _ _ (by rfl) (R1.out.below HB.out) (cellsN_one _) (by unfold maxLen; omega) (by omega) (by have := HB.out.size; omega) ?_; intro v4 w4 ho4 hg4 hw4; have HO4 := Lib.hid ho4; have HG4 := Lib.hid hg4; clear ho4 hg4 hw4) | fail)
          go_roundw
          case rel => exact ⟨.inr (.inl ⟨rfl, own_n HO4.out (by rw [H1.out]; simp) (by simp [cellsN_nil])⟩), HB.out.grown HG4.out HB.out.size (fun g e => own_ge HO.out _ e)⟩
          case measure => simp [intOf]
        · have HO := Lib.hid (show wr.ownsRow w.heap.size 41 2 u6 n1 (cellsN L1) by unfold OwnN at ho; rwa [H1.out] at ho)
          clear ho
          go_wp2_with (at_builtin; first | (refine wpList_append_any _ (by rfl) _ _ 22 (by rfl) w.heap.size 41 i0 (.agg #[.int .i64 0, .int .i64 0]) 2 16 Try.underlying22 HI.out.1 HI.out.2.1 HI.out.2.2.1 HI.out.2.2.2 (by rfl) (by decide) _ n1 (cellsN L1) (by rfl) HO.out _ _ n2 _ _ (by rfl) (R2.out.below HB.out) (cellsN_one _) (by unfold maxLen; omega) (by omega) (by have := HB.out.size; omega) ?_; intro v4 w4 ho4 hg4 hw4; have HO4 := Lib.hid ho4; have HG4 := Lib.hid hg4; clear ho4 hg4 hw4) | fail)
          go_roundw
          case rel => exact ⟨.inr (.inr ⟨rfl, own_n HO4.out (by simp [H1.out, H2.out]) (by rw [cellsN_append])⟩), HB.out.grown HG4.out HB.out.size (fun g e => own_ge HO.out _ e)⟩
          case measure => simp [intOf]
        · have HO := Lib.hid ho
          clear ho
          go_wp2_with fail
          go_ret
          exact ⟨_, rfl, HO.out, HB.out⟩
end Go.Proofs.Ytdiafbeohldbjaa
