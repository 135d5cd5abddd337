/- What each tag asks of its bytes. -/
import Derived.Test.YteafbfhojhpbgaaDerB
namespace Go.Proofs.Yteafbfhojhpbgaa
open Go.ChangeShapes Go.WideShapes Go.ChangeAt Go.RowKit Gs
set_option linter.unusedVariables false

theorem si_zero {w : World} {B : Nat} {k : IntKind} {A : Option Addr} {x : Int} {xs : List Int} (h : SI w B k A (x :: xs)) : ∃ ad, A = some ad ∧ ad.block < B ∧ w.cell? ad = some (.int k x) := by
  obtain ⟨ad, e, hb, hc⟩ := si_at h 0 (by simp)
  exact ⟨ad, e, hb, by simpa [Addr.add] using hc⟩
theorem si_one {w : World} {B : Nat} {k : IntKind} {A : Option Addr} {x y : Int} {xs : List Int} (h : SI w B k A (x :: y :: xs)) : ∃ ad, A = some ad ∧ ad.block < B ∧ w.cell? ad = some (.int k x) ∧ w.cell? ⟨ad.block, ad.off + 1, none⟩ = some (.int k y) := by
  obtain ⟨ad, rfl, hb, hc⟩ := si_at h 0 (by simp)
  obtain ⟨ad', e, hb', hc'⟩ := si_at h 1 (by simp)
  cases e
  exact ⟨ad, rfl, hb, by simpa [Addr.add] using hc, by simpa [Addr.add] using hc'⟩

set_option maxHeartbeats 1000000 in
theorem areBool_any (A : Option Addr) (n c : Nat) (b : List Int) (hn : b.length = n) (w : World) (hs : SI w w.heap.size .u8 A b) :
    Calls Try.prog 81 #[.slice A n c] w fun e w' => e = .returned (.bool (boolB b)) ∧ Below w.heap.size w w' := by
  subst hn
  have D0 := Lib.hid (Below.refl w.heap.size w)
  rcases b with _ | ⟨x, _ | ⟨y, r⟩⟩
  · rw [show boolB [] = false from rfl]
    clear hs
    go_enter Try.func81, Try.ntmps81
    go_wp2_with fail
    go_ret
    exact ⟨rfl, D0.out⟩
  · obtain ⟨ad, rfl, hb, c0⟩ := si_zero hs
    by_cases h0 : x = 0
    · subst h0
      rw [show boolB [0] = true from rfl]
      clear hs
      go_enter Try.func81, Try.ntmps81
      go_wp2_with fail
      go_ret
      exact ⟨rfl, D0.out⟩
    have q0 : (x == 0) = false := by simpa using h0
    by_cases h1 : x = 255
    · subst h1
      rw [show boolB [255] = true from rfl]
      clear hs
      go_enter Try.func81, Try.ntmps81
      go_wp2_with fail
      go_ret
      exact ⟨rfl, D0.out⟩
    have q1 : (x == 255) = false := by simpa using h1
    rw [show boolB [x] = false by unfold boolB; simp [h0, h1]]
    clear hs h0 h1
    go_enter Try.func81, Try.ntmps81
    go_wp2_with fail
    go_ret
    exact ⟨rfl, D0.out⟩
  · rw [show boolB (x :: y :: r) = false by unfold boolB; simp]
    obtain ⟨m, hm⟩ : ∃ m : Nat, (x :: y :: r).length = m + 2 := ⟨r.length, by simp⟩
    rw [hm]
    have q : (((m + 2 : Nat) : Int) == 1) = false := beq_eq_false_iff_ne.2 (by omega)
    clear hs hm
    go_enter Try.func81, Try.ntmps81
    go_wp2_with fail
    go_ret
    exact ⟨rfl, D0.out⟩

set_option maxHeartbeats 2000000 in
theorem areInt_any (A : Option Addr) (n c : Nat) (b : List Int) (hn : b.length = n) (hx : ∀ x ∈ b, 0 ≤ x ∧ x < 256) (w : World) (hs : SI w w.heap.size .u8 A b) :
    Calls Try.prog 82 #[.slice A n c] w fun e w' => e = .returned (.bool (intB b)) ∧ Below w.heap.size w w' := by
  have D0 := Lib.hid (Below.refl w.heap.size w)
  rcases b with _ | ⟨x, _ | ⟨y, r⟩⟩
  · subst hn
    rw [show intB [] = false from rfl]
    clear hs hx
    go_enter Try.func82, Try.ntmps82
    go_wp2_with fail
    go_ret
    exact ⟨rfl, D0.out⟩
  · subst hn
    rw [show intB [x] = true by unfold intB; simp]
    clear hs hx
    go_enter Try.func82, Try.ntmps82
    go_wp2_with fail
    go_ret
    exact ⟨rfl, D0.out⟩
  · have hn2 : 2 ≤ n := by rw [← hn]; simp
    have q2 : ((n : Int) == 1) = false := beq_eq_false_iff_ne.2 (by omega)
    by_cases h8 : n ≤ 8
    · obtain ⟨ad, rfl, hb, c0, c1⟩ := si_one hs
      have hy := hx y (by simp)
      obtain ⟨v, hv⟩ : ∃ v, intB (x :: y :: r) = v := ⟨_, rfl⟩
      have e : intB (x :: y :: r) = !(decide (x = 0) && decide (y < 128) || decide (x = 255) && decide (128 ≤ y)) := by
        unfold intB
        simp only [List.length_cons] at hn
        simp [show r.length + 1 + 1 ≤ 8 by omega]
      rw [hv]
      rw [e] at hv
      have q8 : decide (8 < (n : Int)) = false := decide_eq_false (by omega)
      have q1 : decide ((n : Int) < 1) = false := decide_eq_false (by omega)
      have hnn : (1 : Int) < (n : Int) := by omega
      have hn0 : (0 : Int) < (n : Int) := by omega
      by_cases hy1 : y < 128
      · have s : y / 128 = 0 := by omega
        by_cases hx0 : x = 0
        · subst hx0
          have : v = false := by rw [← hv]; simp [hy1]
          subst this
          clear hs hx hn hn2 hv e h8 hy hy1
          go_enter Try.func82, Try.ntmps82
          go_wp2_with fail
          go_quiet (fail)
          go_wp2_with fail
          go_ret
          exact ⟨rfl, below_drewN D0.out _⟩
        · have : v = true := by rw [← hv]; simp [hx0, show ¬ 128 ≤ y by omega]
          subst this
          have q0 : (x == 0) = false := by simpa using hx0
          clear hs hx hn hn2 hv e h8 hy hy1 hx0
          go_enter Try.func82, Try.ntmps82
          go_wp2_with fail
          go_quiet (fail)
          go_wp2_with fail
          all_goals
            go_ret
            exact ⟨rfl, below_drewN D0.out _⟩
      · have s : y / 128 = 1 := by omega
        by_cases hx0 : x = 255
        · subst hx0
          have : v = false := by rw [← hv]; simp [show 128 ≤ y by omega]
          subst this
          clear hs hx hn hn2 hv e h8 hy hy1
          go_enter Try.func82, Try.ntmps82
          go_wp2_with fail
          go_quiet (fail)
          go_wp2_with fail
          go_ret
          exact ⟨rfl, below_drewN D0.out _⟩
        · have : v = true := by rw [← hv]; simp [hx0, hy1]
          subst this
          have q0 : (x == 255) = false := by simpa using hx0
          clear hs hx hn hn2 hv e h8 hy hy1 hx0
          go_enter Try.func82, Try.ntmps82
          go_wp2_with fail
          go_quiet (fail)
          go_wp2_with fail
          all_goals
            go_ret
            exact ⟨rfl, below_drewN D0.out _⟩
    · have e : intB (x :: y :: r) = false := by
        unfold intB
        rw [hn]
        simp [h8]
      rw [e]
      have q8 : decide (8 < (n : Int)) = true := decide_eq_true (by omega)
      have q1 : decide ((n : Int) < 1) = false := decide_eq_false (by omega)
      clear hs hx hn hn2 e h8
      go_enter Try.func82, Try.ntmps82
      go_wp2_with fail
      go_ret
      exact ⟨rfl, D0.out⟩

theorem oct_any (v : Value) (w : World) : Calls Try.prog 83 #[v] w fun e w' => e = .returned (.bool true) ∧ Below w.heap.size w w' := by
  have D0 := Lib.hid (Below.refl w.heap.size w)
  go_enter Try.func83, Try.ntmps83
  go_wp2_with fail
  go_ret
  exact ⟨rfl, D0.out⟩
theorem none_any (A : Option Addr) (n c : Nat) (w : World) : Calls Try.prog 85 #[.slice A n c] w fun e w' => e = .returned (.bool (decide (n = 0))) ∧ Below w.heap.size w w' := by
  have D0 := Lib.hid (Below.refl w.heap.size w)
  by_cases h : n = 0
  · subst h
    go_enter Try.func85, Try.ntmps85
    go_wp2_with fail
    go_ret
    exact ⟨rfl, D0.out⟩
  · have q : ((n : Int) == 0) = false := beq_eq_false_iff_ne.2 (by omega)
    rw [decide_eq_false h]
    go_enter Try.func85, Try.ntmps85
    go_wp2_with fail
    go_ret
    exact ⟨rfl, D0.out⟩

theorem letter_any (x : Int) (w : World) : Calls Try.prog 87 #[.int .u8 x] w fun e w' => e = .returned (.bool (!decide (32 ≤ x ∧ x ≤ 126))) ∧ Below w.heap.size w w' := by
  have D0 := Lib.hid (Below.refl w.heap.size w)
  by_cases h1 : x < 32
  · have q : decide (x < 32) = true := decide_eq_true h1
    rw [decide_eq_false (show ¬ (32 ≤ x ∧ x ≤ 126) by omega)]
    clear h1
    go_enter Try.func87, Try.ntmps87
    go_wp2_with fail
    go_ret
    exact ⟨rfl, D0.out⟩
  · have q : decide (x < 32) = false := decide_eq_false h1
    by_cases h2 : 126 < x
    · have q2 : decide (126 < x) = true := decide_eq_true h2
      rw [decide_eq_false (show ¬ (32 ≤ x ∧ x ≤ 126) by omega)]
      clear h1 h2
      go_enter Try.func87, Try.ntmps87
      go_wp2_with fail
      go_ret
      exact ⟨rfl, D0.out⟩
    · have q2 : decide (126 < x) = false := decide_eq_false h2
      rw [decide_eq_true (show 32 ≤ x ∧ x ≤ 126 by omega)]
      clear h1 h2
      go_enter Try.func87, Try.ntmps87
      go_wp2_with fail
      go_ret
      exact ⟨rfl, D0.out⟩

/-- Where the first stands that is no letter; -1: nowhere. -/
def IdxP {α : Type} (p : α → Bool) (l : List α) (r : Int) : Prop := (l.any p = true → 0 ≤ r) ∧ (l.any p = false → r = -1)

set_option maxHeartbeats 2000000 in
theorem indexB_any (A : Option Addr) (n c : Nat) (b : List Int) (hn : b.length = n) (hc : n ≤ maxLen) (w : World) (hs : SI w w.heap.size .u8 A b) :
    Calls Try.prog 88 #[.slice A n c, .func (.func 87) #[] #[]] w fun e w' => (∃ r, e = .returned (.int .i64 r) ∧ IdxP (fun x => !decide (32 ≤ x ∧ x ≤ 126)) b r) ∧ Below w.heap.size w w' := by
  have hnm : n ≤ 9223372036854775807 := by unfold maxLen at hc; omega
  have HS := Lib.hid hs
  clear hs hc
  go_enter Try.func88, Try.ntmps88
  go_wp2_with fail
  go_loopw [5, 8] (fun _ j wr => ∃ k : Nat, k ≤ n ∧ j = .int .i64 k ∧ (b.take k).any (fun x => !decide (32 ≤ x ∧ x ≤ 126)) = false ∧ Below w.heap.size w wr) (fun _ j _ => n - (intOf j).toNat)
  case atStart => exact ⟨0, by omega, rfl, by simp, Below.refl _ _⟩
  case round =>
    obtain ⟨k, hk, rfl, h0, hb⟩ := hrel
    have HB := Lib.hid hb
    have H0 := Lib.hid h0
    have hz := hb.size
    clear hb h0
    by_cases hlt : k < n
    · obtain ⟨ad, rfl, had, c0⟩ := si_at (HS.out.below HB.out) k (by rw [hn]; exact hlt)
      have hkb : k < b.length := by rw [hn]; exact hlt
      have P := Lib.hid (letter_any b[k])
      have HY := Lib.hid (fun (e : (!decide (32 ≤ b[k] ∧ b[k] ≤ 126)) = true) => (show IdxP (fun x => !decide (32 ≤ x ∧ x ≤ 126)) b k from ⟨fun _ => (show (0 : Int) ≤ (k : Int) from Int.natCast_nonneg k), fun h => by
        rw [List.any_eq_false] at h
        exact absurd e (h b[k] (List.getElem_mem hkb))⟩))
      have HN := Lib.hid (fun (e : (!decide (32 ≤ b[k] ∧ b[k] ≤ 126)) = false) => (show (b.take (k + 1)).any (fun x => !decide (32 ≤ x ∧ x ≤ 126)) = false by
        rw [List.take_succ_eq_append_getElem hkb, List.any_append, H0.out]
        simpa using e))
      generalize (!decide (32 ≤ b[k] ∧ b[k] ≤ 126)) = v at *
      generalize b[k] = y at *
      go_wp2_with fail
      refine (P.out _).mono ?_; rintro _ w2 ⟨rfl, b2⟩
      have B2 := Lib.hid (HB.out.trans (b2.mono hz))
      clear b2 c0
      cases v with
      | true =>
        have HY2 := Lib.hid (HY.out rfl)
        clear HY HN
        go_wp2_with fail
        go_ret
        exact ⟨⟨_, rfl, HY2.out⟩, B2.out⟩
      | false =>
        have HN2 := Lib.hid (HN.out rfl)
        clear HY HN
        go_wp2_with fail
        go_roundw
        case rel => exact ⟨k + 1, by omega, by go_num, HN2.out, B2.out⟩
        case measure => simp [intOf]; omega
    · obtain rfl : k = n := by omega
      have HA := Lib.hid (show IdxP (fun x => !decide (32 ≤ x ∧ x ≤ 126)) b (-1) from ⟨fun h => (by
        have := H0.out
        rw [← hn, List.take_length] at this
        rw [this] at h; cases h), fun _ => rfl⟩)
      go_wp2_with fail
      go_ret
      exact ⟨⟨_, rfl, HA.out⟩, HB.out⟩

theorem areText_any (A : Option Addr) (n c : Nat) (b : List Int) (hn : b.length = n) (hc : n ≤ maxLen) (w : World) (hs : SI w w.heap.size .u8 A b) :
    Calls Try.prog 84 #[.slice A n c] w fun e w' => e = .returned (.bool (textB b)) ∧ Below w.heap.size w w' := by
  have P := Lib.hid (fun W h => indexB_any A n c b hn hc W h)
  have HS := Lib.hid hs
  have PC : Calls Try.prog 86 #[.slice A n c, .func (.func 87) #[] #[]] w fun e w' => e = .returned (.bool (!textB b)) ∧ Below w.heap.size w w' := by
    have ht : (!textB b) = b.any (fun x => !decide (32 ≤ x ∧ x ≤ 126)) := by
      unfold textB
      rw [← List.not_all_eq_any_not]
    rw [ht]
    unfold IdxP at P
    generalize b.any (fun x => !decide (32 ≤ x ∧ x ≤ 126)) = v at *
    clear hs ht
    go_enter Try.func86, Try.ntmps86
    go_wp2_with fail
    refine (P.out _ HS.out).mono ?_; rintro _ w2 ⟨⟨r, rfl, hr⟩, b2⟩
    have B2 := Lib.hid b2
    clear b2
    cases v with
    | true =>
      have q : decide (0 ≤ r) = true := decide_eq_true (hr.1 rfl)
      clear hr
      go_wp2_with fail
      go_ret
      exact ⟨rfl, B2.out⟩
    | false =>
      obtain rfl : r = -1 := hr.2 rfl
      clear hr
      go_wp2_with fail
      go_ret
      exact ⟨rfl, B2.out⟩
  have PC' := Lib.hid PC
  clear PC hs
  generalize textB b = v at *
  go_enter Try.func84, Try.ntmps84
  go_wp2_with fail
  refine PC'.out.mono ?_; rintro _ w2 ⟨rfl, b2⟩
  have B2 := Lib.hid b2
  clear b2
  go_wp2_with fail
  go_ret
  exact ⟨by simp, B2.out⟩
end Go.Proofs.Yteafbfhojhpbgaa
