/- The walk of NamesOrder. (Printed by tools/gen_names_walks.py.) -/
import Derived.Test.YtcmkfomfmjgmpaaNamesM
namespace Go.Proofs.Ytcmkfomfmjgmpaa
open Go.ChangeShapes Go.WideShapes Go.ChangeAt Go.RowKit Go.Shelf Gs
set_option linter.unusedVariables false
set_option maxRecDepth 100000 in
set_option maxHeartbeats 8000000 in
theorem order_walk11 (p q o : ByteArray) (W : World) : Calls Try.prog 7 #[.string p, .string q, .string o] W fun e w' => e = .returned (.bool true) ∧ Below W.heap.size W w' := by
  have A0 := Lib.hid live11
  by_cases hz : p.size ≤ 300 ∧ q.size ≤ 300 ∧ o.size ≤ 300
  rotate_left 1
  · have A1 := Lib.hid (short_no p q o hz)
    clear hz
    have B := Lib.hid (Below.refl W.heap.size W)
    go_enter Try.func7, Try.ntmps7
    repeat (go_wp2_with fail; first
      | (with_reducible refine (A0.out _).mono ?_; rintro e w_ ⟨rfl, b⟩; replace B := Lib.hid (bon B.out b); clear b)
      | (with_reducible refine (A1.out _).mono ?_; rintro e w_ ⟨rfl, b⟩; replace B := Lib.hid (bon B.out b); clear b))
    go_wp2_with fail
    go_ret
    exact ⟨rfl, B.out⟩
  have A1 := Lib.hid (short_yes p q o hz)
  have HZ := Lib.hid hz
  clear hz
  have A2 := Lib.hid (Within_is p p _ (within_refl (bl p)))
  have A3 := Lib.hid (Pattern_any p)
  cases hp : patB (bl p)
  · rw [hp] at A2
    have A3 := Lib.hid (Pattern_no p hp)
    have A4 := Lib.hid (Within_is p q false (within_nop hp))
    clear hp
    have B := Lib.hid (Below.refl W.heap.size W)
    go_enter Try.func7, Try.ntmps7
    repeat (go_wp2_with fail; first
      | (with_reducible refine (A0.out _).mono ?_; rintro e w_ ⟨rfl, b⟩; replace B := Lib.hid (bon B.out b); clear b)
      | (with_reducible refine (A1.out _).mono ?_; rintro e w_ ⟨rfl, b⟩; replace B := Lib.hid (bon B.out b); clear b)
      | (with_reducible refine (A2.out _).mono ?_; rintro e w_ ⟨rfl, b⟩; replace B := Lib.hid (bon B.out b); clear b)
      | (with_reducible refine (A3.out _).mono ?_; rintro e w_ ⟨rfl, b⟩; replace B := Lib.hid (bon B.out b); clear b)
      | (with_reducible refine (A4.out _).mono ?_; rintro e w_ ⟨rfl, b⟩; replace B := Lib.hid (bon B.out b); clear b))
    go_wp2_with fail
    go_ret
    exact ⟨rfl, B.out⟩
  rw [hp] at A2
  have A3 := Lib.hid (Pattern_yes p hp)
  clear hp
  cases hpq : withinB (bl p) (bl q)
  · have A4 := Lib.hid (Within_is p q false hpq)
    clear hpq
    have B := Lib.hid (Below.refl W.heap.size W)
    go_enter Try.func7, Try.ntmps7
    repeat (go_wp2_with fail; first
      | (with_reducible refine (A0.out _).mono ?_; rintro e w_ ⟨rfl, b⟩; replace B := Lib.hid (bon B.out b); clear b)
      | (with_reducible refine (A1.out _).mono ?_; rintro e w_ ⟨rfl, b⟩; replace B := Lib.hid (bon B.out b); clear b)
      | (with_reducible refine (A2.out _).mono ?_; rintro e w_ ⟨rfl, b⟩; replace B := Lib.hid (bon B.out b); clear b)
      | (with_reducible refine (A3.out _).mono ?_; rintro e w_ ⟨rfl, b⟩; replace B := Lib.hid (bon B.out b); clear b)
      | (with_reducible refine (A4.out _).mono ?_; rintro e w_ ⟨rfl, b⟩; replace B := Lib.hid (bon B.out b); clear b))
    go_wp2_with fail
    go_ret
    exact ⟨rfl, B.out⟩
  have A4 := Lib.hid (Within_is p q true hpq)
  have A6 := Lib.hid (Within_any p o)
  have HT := Lib.hid (fun h => within_trans (o := bl o) hpq h)
  have HA := Lib.hid (fun h => within_anti hpq h)
  clear hpq
  cases hqp : withinB (bl q) (bl p)
  · have A7 := Lib.hid (Within_is q p false hqp)
    clear hqp HA
    cases hqo : withinB (bl q) (bl o)
    · have A5 := Lib.hid (Within_is q o false hqo)
      clear hqo HT
      have B := Lib.hid (Below.refl W.heap.size W)
      go_enter Try.func7, Try.ntmps7
      repeat (go_wp2_with fail; first
        | (with_reducible refine (A0.out _).mono ?_; rintro e w_ ⟨rfl, b⟩; replace B := Lib.hid (bon B.out b); clear b)
        | (with_reducible refine (A1.out _).mono ?_; rintro e w_ ⟨rfl, b⟩; replace B := Lib.hid (bon B.out b); clear b)
        | (with_reducible refine (A2.out _).mono ?_; rintro e w_ ⟨rfl, b⟩; replace B := Lib.hid (bon B.out b); clear b)
        | (with_reducible refine (A3.out _).mono ?_; rintro e w_ ⟨rfl, b⟩; replace B := Lib.hid (bon B.out b); clear b)
        | (with_reducible refine (A4.out _).mono ?_; rintro e w_ ⟨rfl, b⟩; replace B := Lib.hid (bon B.out b); clear b)
        | (with_reducible refine (A5.out _).mono ?_; rintro e w_ ⟨rfl, b⟩; replace B := Lib.hid (bon B.out b); clear b)
        | (with_reducible refine (A6.out _).mono ?_; rintro e w_ ⟨rfl, b⟩; replace B := Lib.hid (bon B.out b); clear b)
        | (with_reducible refine (A7.out _).mono ?_; rintro e w_ ⟨rfl, b⟩; replace B := Lib.hid (bon B.out b); clear b))
      go_wp2_with fail
      go_ret
      exact ⟨rfl, B.out⟩
    · have A5 := Lib.hid (Within_is q o true hqo)
      have A6 := Lib.hid (Within_is p o true (HT.out hqo))
      clear hqo HT
      have B := Lib.hid (Below.refl W.heap.size W)
      go_enter Try.func7, Try.ntmps7
      repeat (go_wp2_with fail; first
        | (with_reducible refine (A0.out _).mono ?_; rintro e w_ ⟨rfl, b⟩; replace B := Lib.hid (bon B.out b); clear b)
        | (with_reducible refine (A1.out _).mono ?_; rintro e w_ ⟨rfl, b⟩; replace B := Lib.hid (bon B.out b); clear b)
        | (with_reducible refine (A2.out _).mono ?_; rintro e w_ ⟨rfl, b⟩; replace B := Lib.hid (bon B.out b); clear b)
        | (with_reducible refine (A3.out _).mono ?_; rintro e w_ ⟨rfl, b⟩; replace B := Lib.hid (bon B.out b); clear b)
        | (with_reducible refine (A4.out _).mono ?_; rintro e w_ ⟨rfl, b⟩; replace B := Lib.hid (bon B.out b); clear b)
        | (with_reducible refine (A5.out _).mono ?_; rintro e w_ ⟨rfl, b⟩; replace B := Lib.hid (bon B.out b); clear b)
        | (with_reducible refine (A6.out _).mono ?_; rintro e w_ ⟨rfl, b⟩; replace B := Lib.hid (bon B.out b); clear b)
        | (with_reducible refine (A7.out _).mono ?_; rintro e w_ ⟨rfl, b⟩; replace B := Lib.hid (bon B.out b); clear b))
      go_wp2_with fail
      go_ret
      exact ⟨rfl, B.out⟩
  · have A7 := Lib.hid (Within_is q p true hqp)
    have hq1 : (p.toList == q.toList) = true := by rw [beq_bl]; exact decide_eq_true (HA.out hqp)
    have hq2 : p.toList = q.toList := by rw [tl, tl]; exact HA.out hqp
    clear hqp HA
    cases hqo : withinB (bl q) (bl o)
    · have A5 := Lib.hid (Within_is q o false hqo)
      clear hqo HT
      have B := Lib.hid (Below.refl W.heap.size W)
      go_enter Try.func7, Try.ntmps7
      repeat (go_wp2_with fail; first
        | (with_reducible refine (A0.out _).mono ?_; rintro e w_ ⟨rfl, b⟩; replace B := Lib.hid (bon B.out b); clear b)
        | (with_reducible refine (A1.out _).mono ?_; rintro e w_ ⟨rfl, b⟩; replace B := Lib.hid (bon B.out b); clear b)
        | (with_reducible refine (A2.out _).mono ?_; rintro e w_ ⟨rfl, b⟩; replace B := Lib.hid (bon B.out b); clear b)
        | (with_reducible refine (A3.out _).mono ?_; rintro e w_ ⟨rfl, b⟩; replace B := Lib.hid (bon B.out b); clear b)
        | (with_reducible refine (A4.out _).mono ?_; rintro e w_ ⟨rfl, b⟩; replace B := Lib.hid (bon B.out b); clear b)
        | (with_reducible refine (A5.out _).mono ?_; rintro e w_ ⟨rfl, b⟩; replace B := Lib.hid (bon B.out b); clear b)
        | (with_reducible refine (A6.out _).mono ?_; rintro e w_ ⟨rfl, b⟩; replace B := Lib.hid (bon B.out b); clear b)
        | (with_reducible refine (A7.out _).mono ?_; rintro e w_ ⟨rfl, b⟩; replace B := Lib.hid (bon B.out b); clear b))
      go_wp2_with fail
      go_ret
      exact ⟨rfl, B.out⟩
    · have A5 := Lib.hid (Within_is q o true hqo)
      have A6 := Lib.hid (Within_is p o true (HT.out hqo))
      clear hqo HT
      have B := Lib.hid (Below.refl W.heap.size W)
      go_enter Try.func7, Try.ntmps7
      repeat (go_wp2_with fail; first
        | (with_reducible refine (A0.out _).mono ?_; rintro e w_ ⟨rfl, b⟩; replace B := Lib.hid (bon B.out b); clear b)
        | (with_reducible refine (A1.out _).mono ?_; rintro e w_ ⟨rfl, b⟩; replace B := Lib.hid (bon B.out b); clear b)
        | (with_reducible refine (A2.out _).mono ?_; rintro e w_ ⟨rfl, b⟩; replace B := Lib.hid (bon B.out b); clear b)
        | (with_reducible refine (A3.out _).mono ?_; rintro e w_ ⟨rfl, b⟩; replace B := Lib.hid (bon B.out b); clear b)
        | (with_reducible refine (A4.out _).mono ?_; rintro e w_ ⟨rfl, b⟩; replace B := Lib.hid (bon B.out b); clear b)
        | (with_reducible refine (A5.out _).mono ?_; rintro e w_ ⟨rfl, b⟩; replace B := Lib.hid (bon B.out b); clear b)
        | (with_reducible refine (A6.out _).mono ?_; rintro e w_ ⟨rfl, b⟩; replace B := Lib.hid (bon B.out b); clear b)
        | (with_reducible refine (A7.out _).mono ?_; rintro e w_ ⟨rfl, b⟩; replace B := Lib.hid (bon B.out b); clear b))
      go_wp2_with fail
      go_ret
      exact ⟨rfl, B.out⟩
end Go.Proofs.Ytcmkfomfmjgmpaa
