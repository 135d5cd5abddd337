/- The document's Check, find, had, Left. (Printed by tools/gen_budget_r.py.) -/
import Derived.Test.YtnjmhijfaijopaaBudgetM
namespace Go.Proofs.Ytnjmhijfaijopaa
open Go.ChangeShapes Go.WideShapes Go.ChangeAt Go.RowKit Gs
set_option linter.unusedVariables false
set_option linter.unusedSimpArgs false

/-- The owner's place; -1: there is none. -/
def placeS (acc rule : Int) (L : List Sp) : Int := match L.findIdx? (isO acc rule) with | some k => (k : Int) | none => -1
theorem place_at {acc rule : Int} {L : List Sp} (k : Nat) (hk : k < L.length) (hit : isO acc rule L[k] = true) (hb : ∀ j (g : j < L.length), j < k → isO acc rule L[j] = false) : placeS acc rule L = k := by
  unfold placeS
  have : L.findIdx? (isO acc rule) = some k := List.findIdx?_eq_some_iff_getElem.2 ⟨hk, hit, fun j hj => by rw [hb j (by omega) hj]; decide⟩
  rw [this]
theorem place_no {acc rule : Int} {L : List Sp} (hb : ∀ j (g : j < L.length), isO acc rule L[j] = false) : placeS acc rule L = -1 := by
  unfold placeS
  have : L.findIdx? (isO acc rule) = none := by
    rw [List.findIdx?_eq_none_iff]
    intro s hs
    obtain ⟨j, hj, rfl⟩ := List.getElem_of_mem hs
    exact hb j hj
  rw [this]
/-- What the place tells. -/
theorem place_cases (acc rule : Int) (L : List Sp) : (placeS acc rule L = -1 ∧ L.find? (isO acc rule) = none) ∨ ∃ k, ∃ h : k < L.length, placeS acc rule L = (k : Int) ∧ L.find? (isO acc rule) = some L[k] := by
  cases hf : L.findIdx? (isO acc rule) with
  | none =>
    left
    rw [List.findIdx?_eq_none_iff] at hf
    exact ⟨by unfold placeS; rw [List.findIdx?_eq_none_iff.2 hf], List.find?_eq_none.2 fun s hs h => by rw [hf s hs] at h; cases h⟩
  | some k =>
    right
    obtain ⟨hk, hit, hb⟩ := List.findIdx?_eq_some_iff_getElem.1 hf
    exact ⟨k, hk, by unfold placeS; rw [hf], List.find?_eq_some_iff_getElem.2 ⟨hit, k, hk, rfl, fun j hj => by simpa using hb j hj⟩⟩
section
variable (A : Option Addr) (n c : Nat) (L : List Sp) (hn : L.length = n) (hl : n ≤ 70368744177664)
include hn hl
set_option maxHeartbeats 4000000 in
theorem find17_any (rule acc : Int) (w : World) (hs : QS w w.heap.size A L) : Calls Try.prog 36 #[.slice A n c, .int .i64 rule, .int .i64 acc] w fun e w' => e = .returned (.int .i64 (placeS acc rule L)) ∧ w = w' := by
  have HS := Lib.hid hs
  have HN := Lib.hid hn
  clear hs hn
  obtain ⟨r, hr⟩ : ∃ r, placeS acc rule L = r := ⟨_, rfl⟩
  have HR := Lib.hid hr
  rw [hr]
  clear hr
  go_enter Try.func36, Try.ntmps36
  go_wp2_with fail
  go_loop [7] (fun i => ∃ (k : Nat), k ≤ n ∧ i = .int .i64 k ∧ Hid (∀ j (g : j < L.length), j < k → isO acc rule L[j] = false)) (fun i => n - (intOf i).toNat)
  case atStart => exact ⟨0, Nat.zero_le _, rfl, Lib.hid fun j g h => absurd h (Nat.not_lt_zero _)⟩
  case round =>
    obtain ⟨k, hk, rfl, hprev⟩ := hrel
    by_cases hlt : k < n
    · have hltX : k < L.length := by have := HN.out; omega
      obtain ⟨ad, rfl, hB, c0, c1, c2, c3⟩ := HS.out k hltX
      have hk0 : (0 : Int) ≤ (k : Int) := by omega
      have HISO := Lib.hid (@isO_iff acc rule L[k])
      have HNX := Lib.hid (fun (h : isO acc rule L[k] = false) => (show ∀ j (g : j < L.length), j < k + 1 → isO acc rule L[j] = false from fun j g hj => by
        rcases Nat.lt_succ_iff_lt_or_eq.1 hj with h1 | h1
        · exact hprev.out j g h1
        · subst h1; exact h))
      have HP := Lib.hid (fun (h : isO acc rule L[k] = true) => (show r = k by rw [← HR.out]; exact place_at k hltX h hprev.out))
      generalize L[k].1 = a, L[k].2.1 = b at c0 c1 HISO
      by_cases h0 : a = acc
      · have g0 : (a == acc) = true := by simpa using h0
        by_cases h1 : b = rule
        · have g1 : (b == rule) = true := by simpa using h1
          have HR2 := Lib.hid (HP.out (HISO.out.2 ⟨h0, h1⟩))
          clear h0 h1
          go_wp2_with fail
          go_ret
          exact ⟨by rw [HR2.out]; rfl, rfl⟩
        · have g1 : (b == rule) = false := by simpa using h1
          have HD := Lib.hid (show isO acc rule L[k] = false by rw [← Bool.not_eq_true, HISO.out]; exact fun h => h1 h.2)
          clear h0 h1
          go_wp2_with fail
          go_round
          case rel => exact ⟨k + 1, by omega, by go_num, Lib.hid (HNX.out HD.out)⟩
          case measure => simp [intOf]; omega
      · have g0 : (a == acc) = false := by simpa using h0
        have HD := Lib.hid (show isO acc rule L[k] = false by rw [← Bool.not_eq_true, HISO.out]; exact fun h => h0 h.1)
        clear h0
        go_wp2_with fail
        go_round
        case rel => exact ⟨k + 1, by omega, by go_num, Lib.hid (HNX.out HD.out)⟩
        case measure => simp [intOf]; omega
    · obtain rfl : k = n := by omega
      have HR2 := Lib.hid (show r = -1 by rw [← HR.out]; exact place_no fun j g => hprev.out j g (by have := HN.out; omega))
      go_wp2_with fail
      go_ret
      exact ⟨by rw [HR2.out]; rfl, rfl⟩
section
variable (N : ByteArray) (al : Bool) (PA : Option Addr) (pn pc : Nat) (km lm mo wi : Int)
set_option maxHeartbeats 4000000 in
theorem had17_any (hok : okS none L = true) (rule acc now : Int) (hnow : nmB now = true) (w : World) (hs : QS w w.heap.size A L) : Calls Try.prog 33 #[.slice A n c, .agg (rcs N al PA pn pc km lm mo wi), .int .i64 rule, .int .i64 acc, .int .i64 now] w fun e w' => e = .returned (.int .i64 (hadS acc rule wi now L)) ∧ Below w.heap.size w w' := by
  have HS := Lib.hid (hs)
  have PF := Lib.hid (find17_any A n c L hn hl rule acc)
  have HOK := Lib.hid hok
  obtain ⟨hw0, hw1⟩ := nmB_iff.1 hnow
  have HN := Lib.hid hn
  clear hs hok hnow hn
  obtain ⟨r, hr⟩ : ∃ r, hadS acc rule wi now L = r := ⟨_, rfl⟩
  have HR := Lib.hid hr
  rw [hr]
  clear hr
  have X := Lib.hid (Blk.new w 28 #[.string N, .bool al, .slice PA pn pc, .int .u64 km, .int .i64 lm, .int .i64 mo, .int .i64 wi])
  have hb0 := (Below.refl w.heap.size w).alloc (Nat.le_refl _) (.cells #[.string N, .bool al, .slice PA pn pc, .int .u64 km, .int .i64 lm, .int .i64 mo, .int .i64 wi] 28)
  have B0 := Lib.hid (hb0)
  clear hb0
  rcases place_cases acc rule L with ⟨hp, hf⟩ | ⟨k, hk, hp, hf⟩
  · rw [hp] at PF
    have HR2 := Lib.hid (show r = 0 by rw [← HR.out]; unfold hadS; rw [hf])
    clear hp hf
    go_enter Try.func33, Try.ntmps33
    go_wp2_with fail
    generalize (w.alloc (.cells #[.string N, .bool al, .slice PA pn pc, .int .u64 km, .int .i64 lm, .int .i64 mo, .int .i64 wi] 28)) = w0 at B0 X ⊢
    have x0 : w0.cell? ⟨w.heap.size, 0, none⟩ = some (.string N) := X.out.cell 0
    have x1 : w0.cell? ⟨w.heap.size, 1, none⟩ = some (.bool al) := X.out.cell 1
    have x2 : w0.cell? ⟨w.heap.size, 2, none⟩ = some (.slice PA pn pc) := X.out.cell 2
    have x3 : w0.cell? ⟨w.heap.size, 3, none⟩ = some (.int .u64 km) := X.out.cell 3
    have x4 : w0.cell? ⟨w.heap.size, 4, none⟩ = some (.int .i64 lm) := X.out.cell 4
    have x5 : w0.cell? ⟨w.heap.size, 5, none⟩ = some (.int .i64 mo) := X.out.cell 5
    have x6 : w0.cell? ⟨w.heap.size, 6, none⟩ = some (.int .i64 wi) := X.out.cell 6
    (with_reducible refine (PF.out _ (HS.out.on B0.out)).mono ?_)
    rintro e _ ⟨rfl, rfl⟩
    go_wp2_with fail
    go_quiet (fail)
    have b := below_drewN (Below.refl w0.heap.size w0) nq
    generalize w0.drewN nq = w1 at b ⊢
    clear x0 x1 x2 x3 x4 x5 x6
    have B1 := Lib.hid (below_on B0.out b)
    replace X := Lib.hid (X.out.below b X.out.lt)
    clear b
    go_wp2_with fail
    go_ret
    exact ⟨by rw [HR2.out]; rfl, B1.out⟩
  · rw [hp] at PF
    have hmay := find_may HOK.out hf
    have hk0 : (0 : Int) ≤ (k : Int) := by omega
    have hkn : k < n := by have := HN.out; omega
    have g0 : decide ((k : Int) < 0) = false := decide_eq_false (by omega)
    have HR2 := Lib.hid (show r = if now - L[k].2.2.1 < wi then L[k].2.2.2 else 0 by rw [← HR.out]; unfold hadS; rw [hf])
    clear hp hf
    have HE := Lib.hid (HS.out k hk)
    obtain ⟨ad, hA, _⟩ := HE.out
    subst hA
    go_enter Try.func33, Try.ntmps33
    go_wp2_with fail
    generalize (w.alloc (.cells #[.string N, .bool al, .slice PA pn pc, .int .u64 km, .int .i64 lm, .int .i64 mo, .int .i64 wi] 28)) = w0 at B0 X ⊢
    have x0 : w0.cell? ⟨w.heap.size, 0, none⟩ = some (.string N) := X.out.cell 0
    have x1 : w0.cell? ⟨w.heap.size, 1, none⟩ = some (.bool al) := X.out.cell 1
    have x2 : w0.cell? ⟨w.heap.size, 2, none⟩ = some (.slice PA pn pc) := X.out.cell 2
    have x3 : w0.cell? ⟨w.heap.size, 3, none⟩ = some (.int .u64 km) := X.out.cell 3
    have x4 : w0.cell? ⟨w.heap.size, 4, none⟩ = some (.int .i64 lm) := X.out.cell 4
    have x5 : w0.cell? ⟨w.heap.size, 5, none⟩ = some (.int .i64 mo) := X.out.cell 5
    have x6 : w0.cell? ⟨w.heap.size, 6, none⟩ = some (.int .i64 wi) := X.out.cell 6
    obtain ⟨ad', e', hB, c0, c1, c2, c3⟩ := (HS.out.on B0.out) k hk
    cases e'
    generalize L[k].1 = a, L[k].2.1 = b, L[k].2.2.1 = s, L[k].2.2.2 = m at c0 c1 c2 c3 HR2 hmay
    obtain ⟨⟨hs0, hs1⟩, hm0, hm1, -, -⟩ := hmay
    have hww : IntKind.i64.wrap (now - s) = now - s := IntWalk.i64_in _ (by omega)
    (with_reducible refine (PF.out _ (HS.out.on B0.out)).mono ?_)
    rintro e _ ⟨rfl, rfl⟩
    go_wp2_with fail
    by_cases hon : now - s < wi
    · have gon : decide (wi ≤ now - s) = false := decide_eq_false (by omega)
      have HR3 := Lib.hid (show r = m from by rw [HR2.out, if_pos hon])
      clear hon
      go_quiet (fail)
      go_wp2_with fail
      go_ret
      exact ⟨by rw [HR3.out]; rfl, below_drewN B0.out _⟩
    · have gon : decide (wi ≤ now - s) = true := decide_eq_true (by omega)
      have HR3 := Lib.hid (show r = 0 from by rw [HR2.out, if_neg hon])
      clear hon
      go_quiet (fail)
      go_wp2_with fail
      go_ret
      exact ⟨by rw [HR3.out]; rfl, below_drewN B0.out _⟩
end
end
end Go.Proofs.Ytnjmhijfaijopaa
