/- Contracts of names with answers that are known; the law's few. (Printed by tools/gen_names_walks.py.) -/
import Derived.Test.YtcmkfomfmjgmpaaNamesLawMath
import Derived.Test.YtcmkfomfmjgmpaaNamesLive
namespace Go.Proofs.Ytcmkfomfmjgmpaa
open Go.ChangeShapes Go.WideShapes Go.ChangeAt Go.RowKit Go.Shelf Gs
set_option linter.unusedVariables false
theorem Under11_is (p q : ByteArray) (b : Bool) (h : underB (bl p) (bl q) = b) (w : World) : Calls Try.prog 24 #[.string p, .string q] w fun e w' => e = .returned (.bool b) ∧ Below w.heap.size w w' := by
  have := Under11_any p q w; rwa [h] at this
theorem Match11_is (p q : ByteArray) (b : Bool) (h : matchB (bl p) (bl q) = b) (w : World) : Calls Try.prog 26 #[.string p, .string q] w fun e w' => e = .returned (.bool b) ∧ Below w.heap.size w w' := by
  have := Match11_any p q w; rwa [h] at this
theorem Within11_is (p q : ByteArray) (b : Bool) (h : withinB (bl p) (bl q) = b) (w : World) : Calls Try.prog 28 #[.string p, .string q] w fun e w' => e = .returned (.bool b) ∧ Below w.heap.size w w' := by
  have := Within11_any p q w; rwa [h] at this
theorem Meets11_is (p q : ByteArray) (b : Bool) (h : meetsB (bl p) (bl q) = b) (w : World) : Calls Try.prog 30 #[.string p, .string q] w fun e w' => e = .returned (.bool b) ∧ Below w.heap.size w w' := by
  have := Meets11_any p q w; rwa [h] at this
theorem Check_is (p : ByteArray) (b : Bool) (h : nameB (bl p) = b) (w : World) : Calls Try.prog 13 #[.string p] w fun e w' => e = .returned (.int .i64 (cond b 0 110)) ∧ Below w.heap.size w w' := by
  have := Check_any p w
  cases b
  · rwa [if_neg (by rw [h]; simp)] at this
  · rwa [if_pos h] at this
theorem Check11_is (p : ByteArray) (b : Bool) (h : nameB (bl p) = b) (w : World) : Calls Try.prog 14 #[.string p] w fun e w' => e = .returned (.int .i64 (cond b 0 110)) ∧ Below w.heap.size w w' := by
  have := Check11_any p w
  cases b
  · rwa [if_neg (by rw [h]; simp)] at this
  · rwa [if_pos h] at this
theorem Pattern_is (p : ByteArray) (b : Bool) (h : patB (bl p) = b) (w : World) : Calls Try.prog 15 #[.string p] w fun e w' => e = .returned (.int .i64 (cond b 0 110)) ∧ Below w.heap.size w w' := by
  have := Pattern_any p w
  cases b
  · rwa [if_neg (by rw [h]; simp)] at this
  · rwa [if_pos h] at this
theorem Pattern11_is (p : ByteArray) (b : Bool) (h : patB (bl p) = b) (w : World) : Calls Try.prog 16 #[.string p] w fun e w' => e = .returned (.int .i64 (cond b 0 110)) ∧ Below w.heap.size w w' := by
  have := Pattern11_any p w
  cases b
  · rwa [if_neg (by rw [h]; simp)] at this
  · rwa [if_pos h] at this
theorem Up11_is (s t : ByteArray) (h : upB (bl s) = bl t) (w : World) : Calls Try.prog 21 #[.string s] w fun e w' => e = .returned (.string t) ∧ Below w.heap.size w w' :=
  (Up11_any s w).mono (by rintro e w' ⟨⟨t', rfl, ht⟩, b⟩; exact ⟨by rw [bl_inj (ht.trans h)], b⟩)
theorem short_yes (a b c : ByteArray) (h : a.size ≤ 300 ∧ b.size ≤ 300 ∧ c.size ≤ 300) (w : World) : Calls Try.prog 22 #[.string a, .string b, .string c] w fun e w' => e = .returned (.bool true) ∧ Below w.heap.size w w' := by
  obtain ⟨h1, h2, h3⟩ := h
  have d1 : decide ((a.size : Int) ≤ 300) = true := decide_eq_true (by omega)
  have d2 : decide ((b.size : Int) ≤ 300) = true := decide_eq_true (by omega)
  have d3 : decide ((c.size : Int) ≤ 300) = true := decide_eq_true (by omega)
  clear h1 h2 h3
  go_enter Try.func22, Try.ntmps22
  go_wp2_with fail
  go_ret
  exact ⟨rfl, Below.refl _ _⟩
theorem short_no (a b c : ByteArray) (h : ¬ (a.size ≤ 300 ∧ b.size ≤ 300 ∧ c.size ≤ 300)) (w : World) : Calls Try.prog 22 #[.string a, .string b, .string c] w fun e w' => e = .returned (.bool false) ∧ Below w.heap.size w w' := by
  by_cases h1 : a.size ≤ 300
  · have d1 : decide ((a.size : Int) ≤ 300) = true := decide_eq_true (by omega)
    by_cases h2 : b.size ≤ 300
    · have d2 : decide ((b.size : Int) ≤ 300) = true := decide_eq_true (by omega)
      have d3 : decide ((c.size : Int) ≤ 300) = false := decide_eq_false (by omega)
      clear h h1 h2
      go_enter Try.func22, Try.ntmps22
      go_wp2_with fail
      go_ret
      exact ⟨rfl, Below.refl _ _⟩
    · have d2 : decide ((b.size : Int) ≤ 300) = false := decide_eq_false (by omega)
      clear h h1 h2
      go_enter Try.func22, Try.ntmps22
      go_wp2_with fail
      go_ret
      exact ⟨rfl, Below.refl _ _⟩
  · have d1 : decide ((a.size : Int) ≤ 300) = false := decide_eq_false (by omega)
    clear h h1
    go_enter Try.func22, Try.ntmps22
    go_wp2_with fail
    go_ret
    exact ⟨rfl, Below.refl _ _⟩
theorem Same11_yes (A A' : Option Addr) (c c' : Nat) (xs : List (List UInt8)) (B B' : Nat) (w : World) (hl : xs.length ≤ 1000000) (hs : ST w B A xs) (hs' : ST w B' A' xs) :
    Calls Try.prog 17 #[.slice A xs.length c, .slice A' xs.length c'] w fun e w' => e = .returned (.bool true) ∧ Dr w w' := by
  have h := Same11_any A A' c c' xs xs B B' w hl hl hs hs'
  rwa [decide_eq_true rfl] at h
theorem of_if {b : Bool} {x : Int} (h : b = true) : (cond b 0 x) = 0 := by rw [h]; rfl
end Go.Proofs.Ytcmkfomfmjgmpaa
