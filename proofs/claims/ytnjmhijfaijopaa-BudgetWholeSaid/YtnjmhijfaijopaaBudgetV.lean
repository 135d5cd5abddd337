/- Contracts of budget: whether a number stands in a list; rules in a slice. -/
import Derived.Test.YtnjmhijfaijopaaBudgetU
namespace Go.Proofs.Ytnjmhijfaijopaa
open Go.ChangeShapes Go.WideShapes Go.ChangeAt Go.RowKit Gs
set_option linter.unusedVariables false
set_option linter.unusedSimpArgs false

theorem contains_at {p : Int} {xs : List Int} (k : Nat) (hk : k < xs.length) (h : xs[k] = p) : xs.contains p = true := by
  rw [List.contains_iff_mem]; exact h ▸ List.getElem_mem hk
theorem contains_no {p : Int} {xs : List Int} (h : ∀ j (g : j < xs.length), ¬ xs[j] = p) : xs.contains p = false := by
  rw [← Bool.not_eq_true, List.contains_iff_mem]
  intro hm
  obtain ⟨j, hj, e⟩ := List.getElem_of_mem hm
  exact h j hj e
section
variable (A : Option Addr) (n c : Nat) (xs : List Int) (hn : xs.length = n) (hl : n ≤ 70368744177664)
include hn hl
theorem stands17_any (p : Int) (w : World) (hs : SI w w.heap.size .i64 A xs) : Calls Try.prog 41 #[.slice A n c, .int .i64 p] w fun e w' => e = .returned (.bool (xs.contains p)) ∧ w = w' := by
  have HS := Lib.hid hs
  have HN := Lib.hid hn
  clear hs hn
  obtain ⟨r, hr⟩ : ∃ r, xs.contains p = r := ⟨_, rfl⟩
  have HR := Lib.hid hr
  rw [hr]
  clear hr
  go_enter Try.func41, Try.ntmps41
  go_wp2_with fail
  go_loop [5] (fun i => ∃ (k : Nat), k ≤ n ∧ i = .int .i64 k ∧ Hid (∀ j (g : j < xs.length), j < k → ¬ xs[j] = p)) (fun i => n - (intOf i).toNat)
  case atStart => exact ⟨0, Nat.zero_le _, rfl, Lib.hid fun j g h => absurd h (Nat.not_lt_zero _)⟩
  case round =>
    obtain ⟨k, hk, rfl, hprev⟩ := hrel
    by_cases hlt : k < n
    · have hkx : k < xs.length := by have := HN.out; omega
      obtain ⟨ad, rfl, hadb, ct⟩ := HS.out k hkx
      rw [List.getElem?_eq_getElem hkx, Option.getD_some] at ct
      have hk0 : (0 : Int) ≤ (k : Int) := by omega
      have HP := Lib.hid (fun (h : xs[k] = p) => contains_at k hkx h)
      have HNX := Lib.hid (fun (h : ¬ xs[k] = p) => (show ∀ j (g : j < xs.length), j < k + 1 → ¬ xs[j] = p from fun j g hj => by
        rcases Nat.lt_succ_iff_lt_or_eq.1 hj with h1 | h1
        · exact hprev.out j g h1
        · subst h1; exact h))
      generalize xs[k] = x at ct HP HNX
      by_cases hx : x = p
      · have gx : (x == p) = true := by simpa using hx
        have HR2 := Lib.hid (show r = true by rw [← HR.out]; exact HP.out hx)
        clear hx
        go_wp2_with fail
        go_ret
        exact ⟨by rw [HR2.out]; rfl, rfl⟩
      · have gx : (x == p) = false := by simpa using hx
        have HD := Lib.hid hx
        clear hx
        go_wp2_with fail
        go_round
        case rel => exact ⟨k + 1, by omega, by go_num, Lib.hid (HNX.out HD.out)⟩
        case measure => simp [intOf]; omega
    · obtain rfl : k = n := by omega
      have HR2 := Lib.hid (show r = false by rw [← HR.out]; exact contains_no fun j g => hprev.out j g (by have := HN.out; omega))
      go_wp2_with fail
      go_ret
      exact ⟨by rw [HR2.out]; rfl, rfl⟩
/-- The place of the first one that is p; -1: there is none. -/
def IndexE (xs : List Int) (p : Int) (e : Ending) : Prop := ∃ r, e = .returned (.int .i64 r) ∧ ((r = -1 ∧ xs.contains p = false) ∨ (0 ≤ r ∧ xs.contains p = true))
theorem indexI_any (p : Int) (w : World) (hs : SI w w.heap.size .i64 A xs) : Calls Try.prog 52 #[.slice A n c, .int .i64 p] w fun e w' => IndexE xs p e ∧ w = w' := by
  have HS := Lib.hid hs
  have HN := Lib.hid hn
  clear hs hn
  go_enter Try.func52, Try.ntmps52
  go_wp2_with fail
  go_loop [5, 8] (fun _ i => ∃ (k : Nat), k ≤ n ∧ i = .int .i64 k ∧ Hid (∀ j (g : j < xs.length), j < k → ¬ xs[j] = p)) (fun _ i => n - (intOf i).toNat)
  case atStart => exact ⟨0, Nat.zero_le _, rfl, Lib.hid fun j g h => absurd h (Nat.not_lt_zero _)⟩
  case round =>
    obtain ⟨k, hk, rfl, hprev⟩ := hrel
    by_cases hlt : k < n
    · have hkx : k < xs.length := by have := HN.out; omega
      obtain ⟨ad, rfl, hadb, ct⟩ := HS.out k hkx
      rw [List.getElem?_eq_getElem hkx, Option.getD_some] at ct
      have hk0 : (0 : Int) ≤ (k : Int) := by omega
      have HP := Lib.hid (fun (h : xs[k] = p) => contains_at k hkx h)
      have HNX := Lib.hid (fun (h : ¬ xs[k] = p) => (show ∀ j (g : j < xs.length), j < k + 1 → ¬ xs[j] = p from fun j g hj => by
        rcases Nat.lt_succ_iff_lt_or_eq.1 hj with h1 | h1
        · exact hprev.out j g h1
        · subst h1; exact h))
      generalize xs[k] = x at ct HP HNX
      by_cases hx : x = p
      · have gx : (p == x) = true := by simpa using hx.symm
        have HR2 := Lib.hid (HP.out hx)
        clear hx
        go_wp2_with fail
        go_ret
        exact ⟨⟨(k : Nat), rfl, .inr ⟨by omega, HR2.out⟩⟩, rfl⟩
      · have gx : (p == x) = false := by simpa using (fun h : p = x => hx h.symm)
        have HD := Lib.hid hx
        clear hx
        go_wp2_with fail
        go_round
        case rel => exact ⟨k + 1, by omega, by go_num, Lib.hid (HNX.out HD.out)⟩
        case measure => simp [intOf]; omega
    · obtain rfl : k = n := by omega
      have HR2 := Lib.hid (show xs.contains p = false from contains_no fun j g => hprev.out j g (by have := HN.out; omega))
      go_wp2_with fail
      go_ret
      exact ⟨⟨-1, rfl, .inl ⟨rfl, HR2.out⟩⟩, rfl⟩
theorem containsI_any (p : Int) (w : World) (hs : SI w w.heap.size .i64 A xs) : Calls Try.prog 40 #[.slice A n c, .int .i64 p] w fun e w' => e = .returned (.bool (xs.contains p)) ∧ w = w' := by
  have P := Lib.hid (indexI_any A n c xs hn hl p w hs)
  clear hs hn
  go_enter Try.func40, Try.ntmps40
  go_wp2_with fail
  refine P.out.mono ?_; rintro e w1 ⟨⟨r, rfl, hr⟩, rfl⟩
  rcases hr with ⟨rfl, h⟩ | ⟨h0, h⟩
  · have H := Lib.hid h
    clear h
    go_wp2_with fail
    go_ret
    exact ⟨by rw [H.out]; rfl, rfl⟩
  · have H := Lib.hid h
    clear h
    have g0 : decide (0 ≤ r) = true := decide_eq_true h0
    go_wp2_with fail
    go_ret
    exact ⟨by rw [H.out]; rfl, rfl⟩
end
/-- The closure that All hands on, the rules' slice in the block b. -/
abbrev noneV (b : Nat) : Value := .func (.func 37) #[] #[.pointer (some ⟨b, 0, none⟩)]
theorem none1_any (p : Int) (b : Nat) (AR : Option Addr) (nr cr : Nat) (hnr : nr ≤ 70368744177664) (w : World) (h0 : w.cell? ⟨b, 0, none⟩ = some (.slice AR nr cr)) :
    Calls Try.prog 37 #[.int .i64 p, .pointer (some ⟨b, 0, none⟩)] w fun e w' => e = .returned (.bool (noneB nr p)) ∧ w = w' := by
  have HN := Lib.hid (show noneB nr p = (decide (p < -1) || decide ((nr : Int) ≤ p)) from rfl)
  obtain ⟨r, hr⟩ : ∃ r, noneB nr p = r := ⟨_, rfl⟩
  rw [hr] at HN ⊢
  clear hr
  by_cases h1 : p < -1
  · have g1 : decide (p < -1) = true := decide_eq_true h1
    rw [g1] at HN
    go_enter Try.func37, Try.ntmps37
    go_wp2_with fail
    go_ret
    exact ⟨by rw [HN.out]; rfl, rfl⟩
  · have g1 : decide (p < -1) = false := decide_eq_false h1
    rw [g1] at HN
    by_cases h2 : (nr : Int) ≤ p
    · have g2 : decide ((nr : Int) ≤ p) = true := decide_eq_true h2
      rw [g2] at HN
      go_enter Try.func37, Try.ntmps37
      go_wp2_with fail
      go_ret
      exact ⟨by rw [HN.out]; rfl, rfl⟩
    · have g2 : decide ((nr : Int) ≤ p) = false := decide_eq_false h2
      rw [g2] at HN
      go_enter Try.func37, Try.ntmps37
      go_wp2_with fail
      go_ret
      exact ⟨by rw [HN.out]; rfl, rfl⟩
def IndexF (nr : Nat) (xs : List Int) (e : Ending) : Prop := ∃ r, e = .returned (.int .i64 r) ∧ ((r = -1 ∧ xs.any (noneB nr) = false) ∨ (0 ≤ r ∧ xs.any (noneB nr) = true))
theorem any_at {q : Int → Bool} {xs : List Int} (k : Nat) (hk : k < xs.length) (h : q xs[k] = true) : xs.any q = true := List.any_eq_true.2 ⟨_, List.getElem_mem hk, h⟩
theorem any_no {q : Int → Bool} {xs : List Int} (h : ∀ j (g : j < xs.length), q xs[j] = false) : xs.any q = false := by
  rw [List.any_eq_false]
  intro x hx
  obtain ⟨j, hj, e⟩ := List.getElem_of_mem hx
  rw [← e, h j hj]; decide
section
variable (A : Option Addr) (n c : Nat) (xs : List Int) (hn : xs.length = n) (hl : n ≤ 70368744177664)
include hn hl
theorem indexF_any (b : Nat) (AR : Option Addr) (nr cr : Nat) (hnr : nr ≤ 70368744177664) (w : World) (hs : SI w w.heap.size .i64 A xs) (h0 : w.cell? ⟨b, 0, none⟩ = some (.slice AR nr cr)) :
    Calls Try.prog 51 #[.slice A n c, noneV b] w fun e w' => IndexF nr xs e ∧ w = w' := by
  have HS := Lib.hid hs
  have HN := Lib.hid hn
  have PN := Lib.hid (fun p => none1_any p b AR nr cr hnr w h0)
  clear hs hn h0
  go_enter Try.func51, Try.ntmps51
  go_wp2_with fail
  go_loop [5, 8] (fun _ i => ∃ (k : Nat), k ≤ n ∧ i = .int .i64 k ∧ Hid (∀ j (g : j < xs.length), j < k → noneB nr xs[j] = false)) (fun _ i => n - (intOf i).toNat)
  case atStart => exact ⟨0, Nat.zero_le _, rfl, Lib.hid fun j g h => absurd h (Nat.not_lt_zero _)⟩
  case round =>
    obtain ⟨k, hk, rfl, hprev⟩ := hrel
    by_cases hlt : k < n
    · have hkx : k < xs.length := by have := HN.out; omega
      obtain ⟨ad, rfl, hadb, ct⟩ := HS.out k hkx
      rw [List.getElem?_eq_getElem hkx, Option.getD_some] at ct
      have hk0 : (0 : Int) ≤ (k : Int) := by omega
      have HP := Lib.hid (fun (h : noneB nr xs[k] = true) => any_at (q := noneB nr) k hkx h)
      have HNX := Lib.hid (fun (h : noneB nr xs[k] = false) => (show ∀ j (g : j < xs.length), j < k + 1 → noneB nr xs[j] = false from fun j g hj => by
        rcases Nat.lt_succ_iff_lt_or_eq.1 hj with h1 | h1
        · exact hprev.out j g h1
        · subst h1; exact h))
      have P1 := Lib.hid (PN.out xs[k])
      generalize xs[k] = x at ct HP HNX P1
      cases hx : noneB nr x with
      | true =>
        rw [hx] at P1
        have HR2 := Lib.hid (HP.out hx)
        clear hx
        go_wp2_with fail
        refine P1.out.mono ?_; rintro e w1 ⟨rfl, rfl⟩
        go_wp2_with fail
        go_ret
        exact ⟨⟨(k : Nat), rfl, .inr ⟨by omega, HR2.out⟩⟩, rfl⟩
      | false =>
        rw [hx] at P1
        have HD := Lib.hid hx
        clear hx
        go_wp2_with fail
        refine P1.out.mono ?_; rintro e w1 ⟨rfl, rfl⟩
        go_wp2_with fail
        go_round
        case rel => exact ⟨k + 1, by omega, by go_num, Lib.hid (HNX.out HD.out)⟩
        case measure => simp [intOf]; omega
    · obtain rfl : k = n := by omega
      have HR2 := Lib.hid (show xs.any (noneB nr) = false from any_no fun j g => hprev.out j g (by have := HN.out; omega))
      go_wp2_with fail
      go_ret
      exact ⟨⟨-1, rfl, .inl ⟨rfl, HR2.out⟩⟩, rfl⟩
theorem containsF_any (b : Nat) (AR : Option Addr) (nr cr : Nat) (hnr : nr ≤ 70368744177664) (w : World) (hs : SI w w.heap.size .i64 A xs) (h0 : w.cell? ⟨b, 0, none⟩ = some (.slice AR nr cr)) :
    Calls Try.prog 38 #[.slice A n c, noneV b] w fun e w' => e = .returned (.bool (xs.any (noneB nr))) ∧ w = w' := by
  have P := Lib.hid (indexF_any A n c xs hn hl b AR nr cr hnr w hs h0)
  clear hs hn h0
  go_enter Try.func38, Try.ntmps38
  go_wp2_with fail
  refine P.out.mono ?_; rintro e w1 ⟨⟨r, rfl, hr⟩, rfl⟩
  rcases hr with ⟨rfl, h⟩ | ⟨h0, h⟩
  · have H := Lib.hid h
    clear h
    go_wp2_with fail
    go_ret
    exact ⟨by rw [H.out]; rfl, rfl⟩
  · have H := Lib.hid h
    clear h
    have g0 : decide (0 ≤ r) = true := decide_eq_true h0
    go_wp2_with fail
    go_ret
    exact ⟨by rw [H.out]; rfl, rfl⟩
end
/-- A rule, as it stands in memory. -/
structure Ru where
  (N : ByteArray) (al : Bool) (PA : Option Addr) (pn pc : Nat) (km lm mo wi : Int)
/-- The slice '.slice A l.length c' holds the rules l, and lies below block B. -/
def RS (w : World) (B : Nat) (A : Option Addr) (l : List Ru) : Prop :=
  ∀ j (h : j < l.length), ∃ ad, A = some ad ∧ ad.block < B ∧ w.cell? (ad.add (j * 7)) = some (.string l[j].N) ∧ w.cell? ⟨(ad.add (j * 7)).block, (ad.add (j * 7)).off + 1, none⟩ = some (.bool l[j].al) ∧ w.cell? ⟨(ad.add (j * 7)).block, (ad.add (j * 7)).off + 2, none⟩ = some (.slice l[j].PA l[j].pn l[j].pc) ∧ w.cell? ⟨(ad.add (j * 7)).block, (ad.add (j * 7)).off + 3, none⟩ = some (.int .u64 l[j].km) ∧ w.cell? ⟨(ad.add (j * 7)).block, (ad.add (j * 7)).off + 4, none⟩ = some (.int .i64 l[j].lm) ∧ w.cell? ⟨(ad.add (j * 7)).block, (ad.add (j * 7)).off + 5, none⟩ = some (.int .i64 l[j].mo) ∧ w.cell? ⟨(ad.add (j * 7)).block, (ad.add (j * 7)).off + 6, none⟩ = some (.int .i64 l[j].wi)
theorem RS.below {w w' : World} {B : Nat} {A : Option Addr} {l : List Ru} (h : RS w B A l) (hb : Below B w w') : RS w' B A l := fun j hj => by
  obtain ⟨ad, e, hB, c0, c1, c2, c3, c4, c5, c6⟩ := h j hj
  have hk : (ad.add (j * 7)).block < B := by rw [block_of_add]; exact hB
  exact ⟨ad, e, hB, (hb.cell hk).trans c0, (hb.cell (p := ⟨(ad.add (j * 7)).block, (ad.add (j * 7)).off + 1, none⟩) hk).trans c1, (hb.cell (p := ⟨(ad.add (j * 7)).block, (ad.add (j * 7)).off + 2, none⟩) hk).trans c2, (hb.cell (p := ⟨(ad.add (j * 7)).block, (ad.add (j * 7)).off + 3, none⟩) hk).trans c3, (hb.cell (p := ⟨(ad.add (j * 7)).block, (ad.add (j * 7)).off + 4, none⟩) hk).trans c4, (hb.cell (p := ⟨(ad.add (j * 7)).block, (ad.add (j * 7)).off + 5, none⟩) hk).trans c5, (hb.cell (p := ⟨(ad.add (j * 7)).block, (ad.add (j * 7)).off + 6, none⟩) hk).trans c6⟩
theorem RS.more {w : World} {B B' : Nat} {A : Option Addr} {l : List Ru} (h : RS w B A l) (hB : B ≤ B') : RS w B' A l := fun j hj => by
  obtain ⟨ad, e, hb, c⟩ := h j hj
  exact ⟨ad, e, by omega, c⟩
theorem RS.on {w w' : World} {A : Option Addr} {l : List Ru} (h : RS w w.heap.size A l) (hb : Below w.heap.size w w') : RS w' w'.heap.size A l := (h.below hb).more hb.size
/-- What budget asks of rules. -/
def mw (l : List Ru) : List (Int × Int) := l.map fun r => (r.mo, r.wi)
theorem mw_len (l : List Ru) : (mw l).length = l.length := by simp [mw]
theorem mw_drop {l : List Ru} (k : Nat) (h : k < l.length) : (mw l).drop k = (l[k].mo, l[k].wi) :: (mw l).drop (k + 1) := by
  rw [List.drop_eq_getElem_cons (by rw [mw_len]; exact h)]; simp [mw]
theorem SI.on17 {w w' : World} {k : IntKind} {A : Option Addr} {xs : List Int} (h : SI w w.heap.size k A xs) (hb : Below w.heap.size w w') : SI w' w'.heap.size k A xs := fun j hj => by
  obtain ⟨ad, e, h1, h2⟩ := h j hj
  exact ⟨ad, e, Nat.lt_of_lt_of_le h1 hb.size, (hb.cell (by rw [block_of_add]; exact h1)).trans h2⟩
end Go.Proofs.Ytnjmhijfaijopaa
