/- Contracts of nonce: two fences that are the same; what is too old goes. -/
import Derived.Test.YtdiafbeohldbjaaNonceB
import Derived.Lib.SliceRun
namespace Go.Proofs.Ytdiafbeohldbjaa
open Go.ChangeShapes Go.WideShapes Go.ChangeAt Go.RowKit Gs
set_option linter.unusedVariables false

theorem ret_bool {a b : Bool} (h : a = b) : Ending.returned (.bool a) = .returned (.bool b) := by rw [h]
theorem ret_i64 {a b : Int} (h : a = b) : Ending.returned (.int .i64 a) = .returned (.int .i64 b) := by rw [h]
set_option maxHeartbeats 2000000 in
theorem Same_yes (nx : Int) (A A' : Option Addr) (c c' : Nat) (L : List (Int × Int)) (hl : L.length ≤ 70368744177664) (w : World) (hs : NS w w.heap.size A L) (hs' : NS w w.heap.size A' L) :
    Calls Try.prog 15 #[fv nx A L.length c, fv nx A' L.length c'] w fun e w' => e = .returned (.bool true) ∧ Below w.heap.size w w' := by
  have HS := Lib.hid hs
  have HS' := Lib.hid hs'
  clear hs hs'
  have d2 : (nx != nx) = false := by simp
  have d3 : ((L.length : Int) != (L.length : Int)) = false := by simp
  go_enter Try.func15, Try.ntmps15
  go_wp2_with fail
  go_loopw [5] (fun i wr => ∃ (k : Nat), k ≤ L.length ∧ i = .int .i64 k ∧ Below w.heap.size w wr ∧ wr.cell? ⟨w.heap.size, 1, none⟩ = some (.slice A L.length c) ∧ wr.cell? ⟨w.heap.size + 1, 1, none⟩ = some (.slice A' L.length c')) (fun i _ => L.length - (intOf i).toNat)
  case atStart => exact ⟨0, by omega, rfl, ((Below.refl _ _).alloc (Nat.le_refl _) _).alloc (by simp) _, by simp, by simp⟩
  case round =>
    obtain ⟨k, hk, rfl, hb, e0, e1⟩ := hrel
    have HB := Lib.hid hb
    clear hb
    by_cases hlt : k < L.length
    · obtain ⟨ad, rfl, had, c0, c1⟩ := (HS.out.below HB.out) k hlt
      obtain ⟨ad', rfl, had', c2, c3⟩ := (HS'.out.below HB.out) k hlt
      generalize L[k].1 = n, L[k].2 = u at c0 c1 c2 c3
      go_wp2_with fail
      go_quiet (fail)
      go_wp2_with fail
      go_roundw
      case rel => exact ⟨k + 1, by omega, by go_num, below_drewN HB.out _, e0, e1⟩
      case measure => simp [intOf]; omega
    · obtain rfl : k = L.length := by omega
      go_wp2_with fail
      go_ret
      exact ⟨rfl, HB.out⟩

theorem isOld_any (n u now : Int) (w : World) : Calls Try.prog 28 #[.agg #[.int .i64 n, .int .i64 u], .int .i64 now] w fun e w' => e = .returned (.bool (!freshF now (n, u))) ∧ Below w.heap.size w w' := by
  have h : (!freshF now (n, u)) = decide (u < now) := by unfold freshF; by_cases h : u < now <;> simp [h] <;> omega
  rw [h]
  go_enter Try.func28, Try.ntmps28
  go_wp2_with fail
  go_ret
  exact ⟨rfl, (Below.refl _ _).alloc (Nat.le_refl _) _⟩
/-- The closure that Trim hands on, its 'now' in the block b. -/
abbrev oldV (b : Nat) : Value := .func (.func 27) #[] #[.pointer (some ⟨b, 0, none⟩)]
theorem trim1_any (n u now : Int) (b : Nat) (w : World) (hb : b < w.heap.size) (hc : w.cell? ⟨b, 0, none⟩ = some (.int .i64 now)) :
    Calls Try.prog 27 #[.agg #[.int .i64 n, .int .i64 u], .pointer (some ⟨b, 0, none⟩)] w fun e w' => e = .returned (.bool (!freshF now (n, u))) ∧ Below w.heap.size w w' := by
  have P := Lib.hid (isOld_any n u now)
  generalize (!freshF now (n, u)) = r at P
  have e0 := (World.cell?_alloc_lt w (.cells #[.int .i64 n, .int .i64 u] 41) _ hb).trans hc
  go_enter Try.func27, Try.ntmps27
  go_wp2_with fail
  refine (P.out _).mono ?_; rintro e w1 ⟨rfl, k⟩
  go_wp2_with fail
  go_ret
  exact ⟨rfl, below_on ((Below.refl _ _).alloc (Nat.le_refl _) _) k⟩
/-- The place of the first one that is too old, or -1. -/
def FirstOld (now : Int) (L : List (Int × Int)) (r : Int) : Prop := (r = -1 ∧ ∀ j (h : j < L.length), freshF now L[j] = true) ∨ ∃ k, ∃ (h : k < L.length), r = (k : Int) ∧ freshF now L[k] = false ∧ ∀ j (g : j < k), freshF now L[j] = true
def FirstOldE (now : Int) (L : List (Int × Int)) (e : Ending) : Prop := ∃ r, e = .returned (.int .i64 r) ∧ FirstOld now L r

set_option maxHeartbeats 2000000 in
theorem index_any (now : Int) (b : Nat) (A : Option Addr) (c : Nat) (L : List (Int × Int)) (hl : L.length ≤ 70368744177664) (w : World) (hs : NS w w.heap.size A L) (hb : b < w.heap.size) (hc : w.cell? ⟨b, 0, none⟩ = some (.int .i64 now)) :
    Calls Try.prog 32 #[.slice A L.length c, oldV b] w fun e w' => FirstOldE now L e ∧ Below w.heap.size w w' := by
  have HS := Lib.hid hs
  have HC := Lib.hid hc
  clear hs hc
  go_enter Try.func32, Try.ntmps32
  go_wp2_with fail
  go_loopw [5, 8] (fun _ i wr => ∃ (k : Nat), k ≤ L.length ∧ i = .int .i64 k ∧ Below w.heap.size w wr ∧ ∀ j (h : j < L.length), j < k → freshF now L[j] = true) (fun _ i _ => L.length - (intOf i).toNat)
  case atStart => exact ⟨0, by omega, rfl, Below.refl _ _, fun j h g => by omega⟩
  case round =>
    obtain ⟨k, hk, rfl, hbel, hall⟩ := hrel
    have HB := Lib.hid hbel
    have HA := Lib.hid hall
    clear hbel hall
    by_cases hlt : k < L.length
    · obtain ⟨ad, rfl, had, c0, c1⟩ := (HS.out.below HB.out) k hlt
      have P := Lib.hid (trim1_any L[k].1 L[k].2 now b wr (by have := HB.out.size; omega) ((HB.out.cell (p := ⟨b, 0, none⟩) hb).trans HC.out))
      cases hq : freshF now L[k] with
      | true =>
        have HQ := Lib.hid hq
        rw [show freshF now (L[k].1, L[k].2) = true from hq] at P
        generalize L[k].1 = n, L[k].2 = u at c0 c1 P
        clear hq
        go_wp2_with fail
        refine P.out.mono ?_; rintro e w1 ⟨rfl, kb⟩
        go_wp2_with fail
        go_roundw
        case rel =>
          refine ⟨k + 1, by omega, by go_num, below_on HB.out kb, fun j h g => ?_⟩
          by_cases e : j = k
          · subst e; exact HQ.out
          · exact HA.out j h (by omega)
        case measure => simp [intOf]; omega
      | false =>
        have HQ := Lib.hid hq
        rw [show freshF now (L[k].1, L[k].2) = false from hq] at P
        generalize L[k].1 = n, L[k].2 = u at c0 c1 P
        clear hq
        go_wp2_with fail
        refine P.out.mono ?_; rintro e w1 ⟨rfl, kb⟩
        go_wp2_with fail
        go_ret
        exact ⟨⟨_, rfl, .inr ⟨k, hlt, rfl, HQ.out, fun j g => HA.out j (by omega) g⟩⟩, below_on HB.out kb⟩
    · obtain rfl : k = L.length := by omega
      go_wp2_with fail
      go_ret
      exact ⟨⟨_, rfl, .inl ⟨rfl, fun j h => HA.out j h h⟩⟩, HB.out⟩
end Go.Proofs.Ytdiafbeohldbjaa
