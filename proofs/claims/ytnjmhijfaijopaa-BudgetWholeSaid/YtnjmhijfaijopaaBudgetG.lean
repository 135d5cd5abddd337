/- Contracts of budget: the closure of find, IndexFunc over it. -/
import Derived.Test.YtnjmhijfaijopaaBudgetF
namespace Go.Proofs.Ytnjmhijfaijopaa
open Go.ChangeShapes Go.WideShapes Go.ChangeAt Go.RowKit Gs
set_option linter.unusedVariables false
/-- The closure that find hands on, the owner in the block b. -/
abbrev whoV (b : Nat) : Value := .func (.func 47) #[] #[.pointer (some ⟨b, 0, none⟩)]
set_option maxHeartbeats 4000000 in
theorem find1_any (a r s m acc rule : Int) (b : Nat) (w : World) (hb : b < w.heap.size) (h0 : w.cell? ⟨b, 0, none⟩ = some (.int .i64 acc)) (h1 : w.cell? ⟨b, 1, none⟩ = some (.int .i64 rule)) :
    Calls Try.prog 47 #[.agg #[.int .i64 a, .int .i64 r, .int .i64 s, .int .i64 m], .pointer (some ⟨b, 0, none⟩)] w fun e w' => e = .returned (.bool (!ltO a r acc rule)) ∧ Below w.heap.size w w' := by
  have P1 := Lib.hid (ownerOf_any a r s m)
  have P2 := Lib.hid (compare_any a r acc rule)
  have B1 := Lib.hid ((Below.refl w.heap.size w).alloc (Nat.le_refl _) (.cells #[.int .i64 a, .int .i64 r, .int .i64 s, .int .i64 m] 45))
  have X := Lib.hid (Blk.new w 45 #[.int .i64 a, .int .i64 r, .int .i64 s, .int .i64 m])
  obtain ⟨u, hu⟩ : ∃ u, decide (0 ≤ cmpO a r acc rule) = u := ⟨_, rfl⟩
  rw [show (!ltO a r acc rule) = u from by
    rw [← hu]
    have h := @cmpO_ge a r acc rule
    cases hq : ltO a r acc rule with
    | true => rw [hq] at h; exact (decide_eq_false (fun k => absurd (h.1 k) (by decide))).symm
    | false => rw [hq] at h; exact (decide_eq_true (h.2 rfl)).symm]
  generalize cmpO a r acc rule = o at P2 hu
  go_enter Try.func47, Try.ntmps47
  go_wp2_with fail
  generalize w.alloc (.cells #[.int .i64 a, .int .i64 r, .int .i64 s, .int .i64 m] 45) = wX at B1 X ⊢
  obtain ⟨⟨x0, x1, x2, x3⟩, x4, x5, x6, x7⟩ := X.out.facts4
  have lx := X.out.lt
  have hbX : b < wX.heap.size := by omega
  have y0 := (B1.out.cell (p := ⟨b, 0, none⟩) hb).trans h0
  have y1 := (B1.out.cell (p := ⟨b, 1, none⟩) hb).trans h1
  clear h0 h1
  have hW := (Below.refl wX.heap.size wX).drew
  first | (go_loud (go_region_held_law (fun w' => w'.cell? ⟨w.heap.size, 0, none⟩ = some (.int .i64 a) ∧ w'.cell? ⟨w.heap.size, 1, none⟩ = some (.int .i64 r) ∧ w'.cell? ⟨w.heap.size, 2, none⟩ = some (.int .i64 s) ∧ w'.cell? ⟨w.heap.size, 3, none⟩ = some (.int .i64 m) ∧ w'.cell? ⟨b, 0, none⟩ = some (.int .i64 acc) ∧ w'.cell? ⟨b, 1, none⟩ = some (.int .i64 rule)) (first | exact ⟨by assumption, by assumption, by assumption, by assumption, by assumption, by assumption⟩ | go_keep)
    (first
      | (go_at_call 25; with_reducible refine (P1.out _).mono ?_; rintro _ wx ⟨rfl, b⟩; have hW := below_on hW b; have x0x := (hW.cell (p := ⟨w.heap.size, 0, none⟩) lx).trans x0; have x1x := (hW.cell (p := ⟨w.heap.size, 1, none⟩) lx).trans x1; have x2x := (hW.cell (p := ⟨w.heap.size, 2, none⟩) lx).trans x2; have x3x := (hW.cell (p := ⟨w.heap.size, 3, none⟩) lx).trans x3; have y0x := (hW.cell hbX).trans y0; have y1x := (hW.cell (p := ⟨_, 1, none⟩) hbX).trans y1)
      | (go_at_call 24; with_reducible refine (P2.out _).mono ?_; rintro _ wx ⟨rfl, b⟩; have hW := below_on hW b; have x0x := (hW.cell (p := ⟨w.heap.size, 0, none⟩) lx).trans x0; have x1x := (hW.cell (p := ⟨w.heap.size, 1, none⟩) lx).trans x1; have x2x := (hW.cell (p := ⟨w.heap.size, 2, none⟩) lx).trans x2; have x3x := (hW.cell (p := ⟨w.heap.size, 3, none⟩) lx).trans x3; have y0x := (hW.cell hbX).trans y0; have y1x := (hW.cell (p := ⟨_, 1, none⟩) hbX).trans y1)))) | fail "x"
  all_goals (try go_wp2_with fail)
  all_goals go_ret
  all_goals exact ⟨by simp_all, below_on B1.out hW⟩
/-- The place of the first one that does not stand ahead of the owner, or -1. -/
def FirstGe (acc rule : Int) (L : List Sp) (r : Int) : Prop := (r = -1 ∧ ∀ j (h : j < L.length), ltO L[j].1 L[j].2.1 acc rule = true) ∨ ∃ k, ∃ (h : k < L.length), r = (k : Int) ∧ ltO L[k].1 L[k].2.1 acc rule = false ∧ ∀ j (g : j < k), ltO L[j].1 L[j].2.1 acc rule = true
def FirstGeE (acc rule : Int) (L : List Sp) (e : Ending) : Prop := ∃ r, e = .returned (.int .i64 r) ∧ FirstGe acc rule L r
set_option maxHeartbeats 2000000 in
theorem index17_any (acc rule : Int) (b : Nat) (A : Option Addr) (c : Nat) (L : List Sp) (hl : L.length ≤ 70368744177664) (w : World) (hs : QS w w.heap.size A L) (hb : b < w.heap.size) (h0 : w.cell? ⟨b, 0, none⟩ = some (.int .i64 acc)) (h1 : w.cell? ⟨b, 1, none⟩ = some (.int .i64 rule)) :
    Calls Try.prog 46 #[.slice A L.length c, whoV b] w fun e w' => FirstGeE acc rule L e ∧ Below w.heap.size w w' := by
  have HS := Lib.hid hs
  have H0 := Lib.hid h0
  have H1 := Lib.hid h1
  clear hs h0 h1
  go_enter Try.func46, Try.ntmps46
  go_wp2_with fail
  go_loopw [5, 8] (fun _ i wr => ∃ (k : Nat), k ≤ L.length ∧ i = .int .i64 k ∧ Below w.heap.size w wr ∧ ∀ j (h : j < L.length), j < k → ltO L[j].1 L[j].2.1 acc rule = true) (fun _ i _ => L.length - (intOf i).toNat)
  case atStart => exact ⟨0, by omega, rfl, Below.refl _ _, fun j h g => by omega⟩
  case round =>
    obtain ⟨k, hk, rfl, hbel, hall⟩ := hrel
    have HB := Lib.hid hbel
    have HA := Lib.hid hall
    clear hbel hall
    by_cases hlt : k < L.length
    · obtain ⟨ad, rfl, had, c0, c1, c2, c3⟩ := (HS.out.below HB.out) k hlt
      have P := Lib.hid (find1_any L[k].1 L[k].2.1 L[k].2.2.1 L[k].2.2.2 acc rule b wr (by have := HB.out.size; omega) ((HB.out.cell (p := ⟨b, 0, none⟩) hb).trans H0.out) ((HB.out.cell (p := ⟨b, 1, none⟩) hb).trans H1.out))
      cases hq : ltO L[k].1 L[k].2.1 acc rule with
      | true =>
        have HQ := Lib.hid hq
        rw [hq] at P
        clear hq
        generalize L[k].1 = n, L[k].2.1 = u, L[k].2.2.1 = s, L[k].2.2.2 = m at c0 c1 c2 c3 P
        go_wp2_with fail
        refine P.out.mono ?_; rintro e w1 ⟨rfl, kb⟩
        go_wp2_with fail
        go_roundw
        case rel =>
          refine ⟨k + 1, by omega, by go_num, below_on HB.out kb, fun j h g => ?_⟩
          by_cases e : j = k
          · subst e; exact HQ.out
          · exact HA.out j h (by omega)
        case measure => simp [intOf]; omega
      | false =>
        have HQ := Lib.hid hq
        rw [hq] at P
        clear hq
        generalize L[k].1 = n, L[k].2.1 = u, L[k].2.2.1 = s, L[k].2.2.2 = m at c0 c1 c2 c3 P
        go_wp2_with fail
        refine P.out.mono ?_; rintro e w1 ⟨rfl, kb⟩
        go_wp2_with fail
        go_ret
        exact ⟨⟨_, rfl, .inr ⟨k, hlt, rfl, HQ.out, fun j g => HA.out j (by omega) g⟩⟩, below_on HB.out kb⟩
    · obtain rfl : k = L.length := by omega
      go_wp2_with fail
      go_ret
      exact ⟨⟨_, rfl, .inl ⟨rfl, fun j h => HA.out j h h⟩⟩, HB.out⟩
end Go.Proofs.Ytnjmhijfaijopaa
