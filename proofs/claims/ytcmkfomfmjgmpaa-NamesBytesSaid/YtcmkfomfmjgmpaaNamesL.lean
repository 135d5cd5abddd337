/- Whether two rows of texts are the same; answers that are known. -/
import Derived.Test.YtcmkfomfmjgmpaaNamesK
namespace Go.Proofs.Ytcmkfomfmjgmpaa
open Go.ChangeShapes Go.WideShapes Go.ChangeAt Go.RowKit Go.Shelf Gs
set_option linter.unusedVariables false

theorem Same11_any (A A' : Option Addr) (c c' : Nat) (xs ys : List (List UInt8)) (B B' : Nat) (w : World) (hl : xs.length ≤ 1000000) (hl' : ys.length ≤ 1000000) (hs : ST w B A xs) (hs' : ST w B' A' ys) :
    Calls Try.prog 17 #[.slice A xs.length c, .slice A' ys.length c'] w fun e w' => e = .returned (.bool (decide (xs = ys))) ∧ Dr w w' := by
  have HS := Lib.hid hs
  have HS' := Lib.hid hs'
  clear hs hs'
  by_cases hne : xs.length = ys.length
  rotate_left 1
  · have he : decide (xs = ys) = false := decide_eq_false (fun e => hne (by rw [e]))
    rw [he]
    obtain ⟨n, hn⟩ : ∃ n, xs.length = n := ⟨_, rfl⟩
    obtain ⟨n', hn'⟩ : ∃ n, ys.length = n := ⟨_, rfl⟩
    rw [hn, hn'] at hne ⊢
    clear hn hn' he
    have d1 : ((n : Int) != (n' : Int)) = true := by simp; omega
    go_enter Try.func17, Try.ntmps17
    go_wp2_with fail
    go_ret
    exact ⟨rfl, 0, rfl⟩
  rw [← hne]
  obtain ⟨n, hn⟩ : ∃ n, xs.length = n := ⟨_, rfl⟩
  have HN := Lib.hid hn
  have HN' := Lib.hid (hne.symm.trans hn)
  rw [hn] at hl ⊢
  clear hn hne hl'
  go_enter Try.func17, Try.ntmps17
  go_wp2_with fail
  go_loopw [5] (fun i wr => ∃ k m : Nat, k ≤ n ∧ i = .int .i64 (k : Int) ∧ wr = w.drewN m ∧ Hid (xs.take k = ys.take k)) (fun i _ => n - (intOf i).toNat)
  case atStart => exact ⟨0, 0, by omega, rfl, rfl, Lib.hid rfl⟩
  case round =>
    obtain ⟨k, m, hk, rfl, rfl, HH⟩ := hrel
    by_cases hlt : k < n
    · have hx : k < xs.length := by rw [HN.out]; exact hlt
      have hy : k < ys.length := by rw [HN'.out]; exact hlt
      obtain ⟨ad, rfl, hb, hc⟩ := HS.out k hx
      obtain ⟨ad', rfl, hb', hc'⟩ := HS'.out k hy
      have HT := Lib.hid (And.intro (List.take_succ_eq_append_getElem hx) (List.take_succ_eq_append_getElem hy))
      have HQ := Lib.hid (beq_bl ⟨(xs[k]).toArray⟩ ⟨(ys[k]).toArray⟩)
      rw [bl_mk, bl_mk] at HQ
      by_cases he : xs[k] = ys[k]
      · have HE := Lib.hid (show xs.take (k + 1) = ys.take (k + 1) by rw [HT.out.1, HT.out.2, HH.out, he])
        have q0 : ((⟨(xs[k]).toArray⟩ : ByteArray).toList == (⟨(ys[k]).toArray⟩ : ByteArray).toList) = true := by rw [HQ.out]; exact decide_eq_true he
        clear he HQ HT
        generalize (⟨(xs[k]).toArray⟩ : ByteArray) = tx at hc q0
        generalize (⟨(ys[k]).toArray⟩ : ByteArray) = ty at hc' q0
        have q1 : (tx.toList != ty.toList) = false := by rw [bne, q0]; rfl
        go_wp2_with fail
        go_quiet (fail)
        go_wp2_with fail
        go_roundw
        case rel => exact ⟨k + 1, m + nq, by omega, by go_num, by first | rfl | rw [World.drewN_drewN], HE⟩
        case measure => simp [intOf]; omega
      · have HE := Lib.hid (show decide (xs = ys) = false from decide_eq_false (fun e => he (by subst e; rfl)))
        have q0 : ((⟨(xs[k]).toArray⟩ : ByteArray).toList == (⟨(ys[k]).toArray⟩ : ByteArray).toList) = false := by rw [HQ.out]; exact decide_eq_false he
        clear he HQ HT
        generalize (⟨(xs[k]).toArray⟩ : ByteArray) = tx at hc q0
        generalize (⟨(ys[k]).toArray⟩ : ByteArray) = ty at hc' q0
        have q1 : (tx.toList != ty.toList) = true := by rw [bne, q0]; rfl
        go_wp2_with fail
        go_quiet (fail)
        go_wp2_with fail
        go_ret
        exact ⟨by rw [HE.out]; rfl, m + nq, by first | rfl | rw [World.drewN_drewN]⟩
    · obtain rfl : k = n := by omega
      have HE := Lib.hid (show decide (xs = ys) = true from decide_eq_true (by
        have := HH.out
        rwa [List.take_of_length_le (by rw [HN.out]; exact Nat.le_refl _), List.take_of_length_le (by rw [HN'.out]; exact Nat.le_refl _)] at this))
      go_wp2_with fail
      go_ret
      exact ⟨by rw [HE.out]; rfl, m, rfl⟩

theorem Up_is (s t : ByteArray) (h : upB (bl s) = bl t) (w : World) : Calls Try.prog 20 #[.string s] w fun e w' => e = .returned (.string t) ∧ Below w.heap.size w w' :=
  (Up_any s w).mono (by rintro e w' ⟨⟨t', rfl, ht⟩, b⟩; exact ⟨by rw [bl_inj (ht.trans h)], b⟩)
theorem Under_is (s a : ByteArray) (b : Bool) (hs : s.size ≤ 1000000) (h : underB (bl s) (bl a) = b) (w : World) : Calls Try.prog 23 #[.string s, .string a] w fun e w' => e = .returned (.bool b) ∧ Below w.heap.size w w' := by
  have := Under_any s a (by omega) w; rwa [h] at this
theorem Match_is (p s : ByteArray) (b : Bool) (h : matchB (bl p) (bl s) = b) (w : World) : Calls Try.prog 25 #[.string p, .string s] w fun e w' => e = .returned (.bool b) ∧ Below w.heap.size w w' := by
  have := Match_any p s w; rwa [h] at this
theorem Within_is (p q : ByteArray) (b : Bool) (h : withinB (bl p) (bl q) = b) (w : World) : Calls Try.prog 27 #[.string p, .string q] w fun e w' => e = .returned (.bool b) ∧ Below w.heap.size w w' := by
  have := Within_any p q w; rwa [h] at this
theorem Meets_is (p q : ByteArray) (b : Bool) (h : meetsB (bl p) (bl q) = b) (w : World) : Calls Try.prog 29 #[.string p, .string q] w fun e w' => e = .returned (.bool b) ∧ Below w.heap.size w w' := by
  have := Meets_any p q w; rwa [h] at this
theorem st_blk3 {w : World} {g : Nat} {x y z : ByteArray} (h : Blk w g 9 #[.string x, .string y, .string z]) : ST w w.heap.size (some ⟨g, 0, none⟩) [bl x, bl y, bl z] := fun j hj => by
  refine ⟨_, rfl, h.lt, ?_⟩
  have : j = 0 ∨ j = 1 ∨ j = 2 := by simp at hj; omega
  rcases this with rfl | rfl | rfl
  · exact h.cell 0
  · exact h.cell 1
  · exact h.cell 2
end Go.Proofs.Ytcmkfomfmjgmpaa
