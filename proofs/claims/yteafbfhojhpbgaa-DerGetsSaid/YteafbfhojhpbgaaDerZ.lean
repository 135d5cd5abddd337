/- What a leaf may be: the document's own. -/
import Derived.Test.YteafbfhojhpbgaaDerY
namespace Go.Proofs.Yteafbfhojhpbgaa
open Go.ChangeShapes Go.WideShapes Go.ChangeAt Go.RowKit Gs
set_option linter.unusedVariables false

set_option maxHeartbeats 2000000 in
theorem least_any (A : Option Addr) (n c : Nat) (b : List Int) (hn : b.length = n) (hx : ∀ x ∈ b, 0 ≤ x ∧ x < 256) (w : World) (hs : SI w w.heap.size .u8 A b) :
    Calls Try.prog 78 #[.slice A n c] w fun e w' => e = .returned (.bool (intB b)) ∧ Below w.heap.size w w' := by
  have D0 := Lib.hid (Below.refl w.heap.size w)
  rcases b with _ | ⟨x, _ | ⟨y, r⟩⟩
  · subst hn
    rw [show intB [] = false from rfl]
    clear hs hx
    go_enter Try.func78, Try.ntmps78
    go_wp2_with fail
    go_ret
    exact ⟨rfl, D0.out⟩
  · subst hn
    rw [show intB [x] = true by unfold intB; simp]
    clear hs hx
    go_enter Try.func78, Try.ntmps78
    go_wp2_with fail
    go_ret
    exact ⟨rfl, D0.out⟩
  · have hn2 : 2 ≤ n := by rw [← hn]; simp
    have q2 : ((n : Int) == 1) = false := beq_eq_false_iff_ne.2 (by omega)
    by_cases h8 : n ≤ 8
    · obtain ⟨ad, rfl, hb, c0, c1⟩ := si_one hs
      have hy := hx y (by simp)
      obtain ⟨v, hv⟩ : ∃ v, intB (x :: y :: r) = v := ⟨_, rfl⟩
      have e : intB (x :: y :: r) = !(decide (x = 0) && decide (y < 128) || decide (x = 255) && decide (128 ≤ y)) := by
        unfold intB
        simp only [List.length_cons] at hn
        simp [show r.length + 1 + 1 ≤ 8 by omega]
      rw [hv]
      rw [e] at hv
      have q8 : decide (8 < (n : Int)) = false := decide_eq_false (by omega)
      have q1 : decide ((n : Int) < 1) = false := decide_eq_false (by omega)
      have hnn : (1 : Int) < (n : Int) := by omega
      have hn0 : (0 : Int) < (n : Int) := by omega
      by_cases hy1 : y < 128
      · have s : y / 128 = 0 := by omega
        have qy : decide (128 ≤ y) = false := decide_eq_false (by omega)
        have qy' : decide (y < 128) = true := decide_eq_true (by omega)
        by_cases hx0 : x = 0
        · subst hx0
          have : v = false := by rw [← hv]; simp [hy1]
          subst this
          clear hs hx hn hn2 hv e h8 hy hy1
          go_enter Try.func78, Try.ntmps78
          go_wp2_with fail
          go_ret
          exact ⟨rfl, D0.out⟩
        · have : v = true := by rw [← hv]; simp [hx0, show ¬ 128 ≤ y by omega]
          subst this
          have q0 : (x == 0) = false := by simpa using hx0
          clear hs hx hn hn2 hv e h8 hy hy1 hx0
          go_enter Try.func78, Try.ntmps78
          go_wp2_with fail
          all_goals
            go_ret
            exact ⟨rfl, D0.out⟩
      · have s : y / 128 = 1 := by omega
        have qy : decide (128 ≤ y) = true := decide_eq_true (by omega)
        have qy' : decide (y < 128) = false := decide_eq_false (by omega)
        by_cases hx0 : x = 255
        · subst hx0
          have : v = false := by rw [← hv]; simp [show 128 ≤ y by omega]
          subst this
          clear hs hx hn hn2 hv e h8 hy hy1
          go_enter Try.func78, Try.ntmps78
          go_wp2_with fail
          go_ret
          exact ⟨rfl, D0.out⟩
        · have : v = true := by rw [← hv]; simp [hx0, hy1]
          subst this
          have q0 : (x == 255) = false := by simpa using hx0
          clear hs hx hn hn2 hv e h8 hy hy1 hx0
          go_enter Try.func78, Try.ntmps78
          go_wp2_with fail
          all_goals
            go_ret
            exact ⟨rfl, D0.out⟩
    · have e : intB (x :: y :: r) = false := by
        unfold intB
        rw [hn]
        simp [h8]
      rw [e]
      have q8 : decide (8 < (n : Int)) = true := decide_eq_true (by omega)
      have q1 : decide ((n : Int) < 1) = false := decide_eq_false (by omega)
      clear hs hx hn hn2 e h8
      go_enter Try.func78, Try.ntmps78
      go_wp2_with fail
      go_ret
      exact ⟨rfl, D0.out⟩

set_option maxRecDepth 100000 in
set_option maxHeartbeats 4000000 in
theorem text_any7 (A : Option Addr) (n c : Nat) (b : List Int) (hn : b.length = n) (h9 : n ≤ 1000000) (hx : ∀ x ∈ b, 0 ≤ x ∧ x < 256) (w : World) (hs : SI w w.heap.size .u8 A b) :
    Calls Try.prog 79 #[.slice A n c] w fun e w' => e = .returned (.bool (textB b)) ∧ Below w.heap.size w w' := by
  have D0 := Lib.hid (Below.refl w.heap.size w)
  have HS := Lib.hid hs
  have HX := Lib.hid hx
  have HN := Lib.hid hn
  obtain ⟨v, hv⟩ : ∃ v, textB b = v := ⟨_, rfl⟩
  have HV := Lib.hid hv
  rw [hv]
  clear hs hx hn hv
  go_enter Try.func79, Try.ntmps79
  go_wp2_with fail
  go_loopw [3] (fun i wr => ∃ k : Nat, k ≤ n ∧ i = .int .i64 k ∧ textB (b.take k) = true ∧ Below w.heap.size w wr) (fun i _ => n - (intOf i).toNat)
  case atStart => exact ⟨0, by omega, rfl, rfl, D0.out⟩
  case round =>
    obtain ⟨k, hk, rfl, ht, hb⟩ := hrel
    have HB := Lib.hid hb
    have HTK := Lib.hid ht
    clear hb ht
    by_cases hlt : k < n
    · have hkl : k < b.length := by rw [HN.out]; exact hlt
      obtain ⟨ad, rfl, had, c0⟩ := si_at HS.out k hkl
      have c0 := (HB.out.cell (p := ad.add k) (by rw [add_block]; exact had)).trans c0
      have hxk := HX.out b[k] (List.getElem_mem _)
      have HK := Lib.hid (show textB (b.take (k + 1)) = (textB (b.take k) && decide (32 ≤ b[k] ∧ b[k] ≤ 126)) by unfold textB; rw [List.take_succ_eq_append_getElem hkl, List.all_append]; simp)
      have HF := Lib.hid (fun (h : decide (32 ≤ b[k] ∧ b[k] ≤ 126) = false) => show textB b = false by
        unfold textB
        rw [List.all_eq_false]
        exact ⟨b[k], List.getElem_mem _, by rw [h]; simp⟩)
      generalize b[k] = x at *
      have hx0 := hxk.1
      have hx1 := hxk.2
      clear hxk
      by_cases ha : x < 32
      · have q := decide_eq_true ha
        obtain rfl : v = false := HV.out.symm.trans (HF.out (decide_eq_false (by omega)))
        go_wp2_with fail
        go_ret
        exact ⟨rfl, HB.out⟩
      by_cases hc : 126 < x
      · have q := decide_eq_false ha
        have q' := decide_eq_true hc
        obtain rfl : v = false := HV.out.symm.trans (HF.out (decide_eq_false (by omega)))
        go_wp2_with fail
        go_ret
        exact ⟨rfl, HB.out⟩
      have q := decide_eq_false ha
      have q' := decide_eq_false hc
      have HR := Lib.hid (show textB (b.take (k + 1)) = true by rw [HK.out, HTK.out, decide_eq_true (by omega)]; rfl)
      go_wp2_with fail
      go_roundw
      case rel => exact ⟨k + 1, by omega, by go_num, HR.out, HB.out⟩
      case measure => simp [intOf]; omega
    · obtain rfl : n = k := by omega
      have HA : textB b = true := by have := HTK.out; rwa [List.take_of_length_le (by rw [HN.out]; omega)] at this
      obtain rfl : v = true := HV.out.symm.trans HA
      clear HA
      go_wp2_with fail
      go_ret
      exact ⟨rfl, HB.out⟩
set_option maxRecDepth 100000 in
set_option maxHeartbeats 4000000 in
theorem form_leaf7 (t : Int) (ht : isTag t = true) (h48 : t ≠ 48) (A : Option Addr) (n c : Nat) (b : List Int) (hn : b.length = n) (h9 : n ≤ 1000000) (hx : ∀ x ∈ b, 0 ≤ x ∧ x < 256) (w : World) (hs : SI w w.heap.size .u8 A b) :
    Calls Try.prog 71 #[.agg #[.int .i64 t, .slice A n c, .slice none 0 0]] w fun e w' => e = .returned (.bool (okB t b)) ∧ Below w.heap.size w w' := by
  have D0 := Lib.hid (Below.refl w.heap.size w)
  have D1 := Lib.hid ((Below.refl w.heap.size w).alloc (Nat.le_refl _) (.cells #[.int .i64 t, .slice A n c, .slice none 0 0] 25))
  have PL := Lib.hid (fun W (h : SI W W.heap.size .u8 A b) => least_any A n c b hn hx W h)
  have PT := Lib.hid (fun W (h : SI W W.heap.size .u8 A b) => text_any7 A n c b hn h9 hx W h)
  have HS := Lib.hid hs
  have hT : t = 1 ∨ t = 2 ∨ t = 4 ∨ t = 12 ∨ t = 48 := of_decide_eq_true ht
  rcases hT with rfl | rfl | rfl | rfl | rfl
  · rw [show okB 1 b = boolB b from rfl]
    clear PL PT ht h48 hx
    subst hn
    rcases b with _ | ⟨x, _ | ⟨y, r⟩⟩
    · rw [show boolB [] = false from rfl]
      clear hs
      go_enter Try.func71, Try.ntmps71
      go_wp2_with fail
      go_ret
      exact ⟨rfl, D1.out⟩
    · obtain ⟨ad, rfl, hb, c0⟩ := si_zero hs
      have c0 := (D1.out.cell (p := ad) hb).trans c0
      by_cases h0 : x = 0
      · subst h0
        rw [show boolB [0] = true from rfl]
        clear hs
        go_enter Try.func71, Try.ntmps71
        go_wp2_with fail
        go_ret
        exact ⟨rfl, D1.out⟩
      have q0 : (x == 0) = false := by simpa using h0
      by_cases h1 : x = 255
      · subst h1
        rw [show boolB [255] = true from rfl]
        clear hs
        go_enter Try.func71, Try.ntmps71
        go_wp2_with fail
        go_ret
        exact ⟨rfl, D1.out⟩
      have q1 : (x == 255) = false := by simpa using h1
      rw [show boolB [x] = false by unfold boolB; simp [h0, h1]]
      clear hs h0 h1
      go_enter Try.func71, Try.ntmps71
      go_wp2_with fail
      go_ret
      exact ⟨rfl, D1.out⟩
    · rw [show boolB (x :: y :: r) = false by unfold boolB; simp]
      obtain ⟨m, hm⟩ : ∃ m : Nat, (x :: y :: r).length = m + 2 := ⟨r.length, by simp⟩
      rw [hm] at D1 ⊢
      have q : (((m + 2 : Nat) : Int) == 1) = false := beq_eq_false_iff_ne.2 (by omega)
      clear hs HS hm h9
      go_enter Try.func71, Try.ntmps71
      go_wp2_with fail
      go_ret
      exact ⟨rfl, D1.out⟩
  · rw [show okB 2 b = intB b from rfl]
    generalize intB b = v at *
    clear hs hx hn ht h48
    go_enter Try.func71, Try.ntmps71
    go_wp2_with fail
    refine (PL.out _ (HS.out.on D1.out)).mono ?_; rintro _ w2 ⟨rfl, b2⟩
    have B2 := Lib.hid (below_on D1.out b2)
    clear b2
    go_wp2_with fail
    go_ret
    exact ⟨rfl, B2.out⟩
  · rw [show okB 4 b = true from rfl]
    clear hs hx hn ht h48
    go_enter Try.func71, Try.ntmps71
    go_wp2_with fail
    go_ret
    exact ⟨rfl, D1.out⟩
  · rw [show okB 12 b = textB b from rfl]
    generalize textB b = v at *
    clear hs hx hn ht h48
    go_enter Try.func71, Try.ntmps71
    go_wp2_with fail
    refine (PT.out _ (HS.out.on D1.out)).mono ?_; rintro _ w2 ⟨rfl, b2⟩
    have B2 := Lib.hid (below_on D1.out b2)
    clear b2
    go_wp2_with fail
    go_ret
    exact ⟨rfl, B2.out⟩
  · exact absurd rfl h48
end Go.Proofs.Yteafbfhojhpbgaa
