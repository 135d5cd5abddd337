/- Functions of Go's own slices at this program's types; what is challenged; what is told of commitments. -/
import Derived.Test.YtlannmedefjfhaaGreatQuorumD
import Derived.Test.YtlannmedefjfhaaGreatQuorumPlains
namespace Go.Proofs.YtlannmedefjfhaaGreat
open Go.ChangeShapes Go.WideShapes Go.ChangeAt Go.RowKit Gs
set_option linter.unusedVariables false

/-- Where something stands among others, first; -1: nowhere. -/
def idxF {α : Type} [DecidableEq α] (l : List α) (x : α) : Int := match l.findIdx? (fun y => decide (x = y)) with | some k => (k : Int) | none => -1
theorem idxF_at {α : Type} [DecidableEq α] {l : List α} {x : α} (k : Nat) (h : k < l.length) (hx : x = l[k]) (h0 : ∀ j (g : j < k), x ≠ l[j]) : idxF l x = k := by
  unfold idxF
  rw [List.findIdx?_eq_some_iff_getElem.2 ⟨h, by simp [hx], fun j g => by simpa using h0 j g⟩]
theorem idxF_none {α : Type} [DecidableEq α] {l : List α} {x : α} (h : x ∉ l) : idxF l x = -1 := by
  unfold idxF
  rw [List.findIdx?_eq_none_iff.2 (fun y hy => by
    have : x ≠ y := fun e => h (e ▸ hy)
    simpa using this)]
theorem idxF_in {α : Type} [DecidableEq α] {l : List α} {x : α} (h : x ∈ l) : ∃ (k : Nat) (g : k < l.length), l[k] = x ∧ idxF l x = k := by
  unfold idxF
  cases e : l.findIdx? (fun y => decide (x = y)) with
  | none =>
    have := List.findIdx?_eq_none_iff.1 e x h
    simp at this
  | some k =>
    obtain ⟨g, h1, _⟩ := List.findIdx?_eq_some_iff_getElem.1 e
    exact ⟨k, g, by simpa using (of_decide_eq_true h1).symm, rfl⟩

theorem not_mem_all {α : Type} {l : List α} {x : α} (h : ∀ j (g : j < l.length), x ≠ l[j]) : x ∉ l := fun hm => by
  obtain ⟨k, hk, e⟩ := List.getElem_of_mem hm
  exact h k hk e.symm

set_option maxHeartbeats 2000000 in
theorem index_int (A : Option Addr) (n c : Nat) (xs : List Int) (hn : xs.length = n) (hl : n ≤ 1048576) (i : Int) (w : World) (hs : SI w w.heap.size .i64 A xs) :
    Calls Tryz.prog 141 #[.slice A n c, .int .i64 i] w fun e w' => e = .returned (.int .i64 (idxF xs i)) ∧ Below w.heap.size w w' := by
  subst hn
  have HS := Lib.hid hs
  clear hs
  go_enter Tryz.func141, Tryz.ntmps141
  go_wp2_with fail
  go_loopw [5, 8] (fun _ j wr => ∃ k : Nat, k ≤ xs.length ∧ j = .int .i64 k ∧ (∀ j (g : j < xs.length), j < k → i ≠ xs[j]) ∧ Below w.heap.size w wr) (fun _ j _ => xs.length - (intOf j).toNat)
  case atStart => exact ⟨0, by omega, rfl, fun j g h => by omega, Below.refl _ _⟩
  case round =>
    obtain ⟨k, hk, rfl, h0, hb⟩ := hrel
    have HB := Lib.hid hb
    have H0 := Lib.hid h0
    have hz := hb.size
    clear hb h0
    by_cases hlt : k < xs.length
    · obtain ⟨ad, rfl, had, c0⟩ := si_at (HS.out.below HB.out) k hlt
      have HY := Lib.hid (fun (e : i = xs[k]) => idxF_at k hlt e (fun j g => H0.out j (by omega) g))
      have HN := Lib.hid (fun (e : i ≠ xs[k]) => (show ∀ j (g : j < xs.length), j < k + 1 → i ≠ xs[j] from fun j g h => by
        by_cases ej : j = k
        · subst ej; exact e
        · exact H0.out j g (by omega)))
      by_cases he : i = xs[k]
      · have hq : (i == xs[k]) = true := by simpa using he
        have HY2 := Lib.hid (HY.out he)
        clear HY HN he
        generalize xs[k] = y at *
        go_wp2_with fail
        go_ret
        exact ⟨by rw [HY2.out]; rfl, HB.out⟩
      · have hq : (i == xs[k]) = false := by simpa using he
        have HN2 := Lib.hid (HN.out he)
        clear HY HN he
        generalize xs[k] = y at *
        go_wp2_with fail
        go_roundw
        case rel => exact ⟨k + 1, by omega, by go_num, HN2.out, HB.out⟩
        case measure => simp [intOf]; omega
    · obtain rfl : k = xs.length := by omega
      have HA := Lib.hid (idxF_none (not_mem_all (fun j g => H0.out j g g)))
      go_wp2_with fail
      go_ret
      exact ⟨by rw [HA.out]; rfl, HB.out⟩

theorem contains_int (A : Option Addr) (n c : Nat) (xs : List Int) (hn : xs.length = n) (hl : n ≤ 1048576) (i : Int) (w : World) (hs : SI w w.heap.size .i64 A xs) :
    Calls Tryz.prog 121 #[.slice A n c, .int .i64 i] w fun e w' => e = .returned (.bool (decide (i ∈ xs))) ∧ Below w.heap.size w w' := by
  have P := Lib.hid (index_int A n c xs hn hl i w hs)
  obtain ⟨r, hr, h0⟩ : ∃ r : Int, idxF xs i = r ∧ decide (0 ≤ r) = decide (i ∈ xs) := by
    by_cases h : i ∈ xs
    · obtain ⟨k, _, _, e⟩ := idxF_in h
      exact ⟨k, e, by simp [h] <;> omega⟩
    · exact ⟨-1, idxF_none h, by simp [h]⟩
  have H0 := Lib.hid h0
  rw [hr] at P
  clear hs hr h0
  go_enter Tryz.func121, Tryz.ntmps121
  go_wp2_with fail
  refine P.out.mono ?_; rintro e w1 ⟨rfl, b⟩
  have B := Lib.hid b
  clear b
  go_wp2_with fail
  go_ret
  exact ⟨by rw [← H0.out]; rfl, B.out⟩

set_option maxHeartbeats 4000000 in
theorem index_share (A : Option Addr) (n c : Nat) (l : List (Int × Int)) (hn : l.length = n) (hl : n ≤ 1048576) (p : Int × Int) (w : World) (hs : SS w w.heap.size A l) :
    Calls Tryz.prog 107 #[.slice A n c, .agg #[.int .i64 p.1, .int .u64 p.2]] w fun e w' => e = .returned (.int .i64 (idxF l p)) ∧ Below w.heap.size w w' := by
  subst hn
  have HS := Lib.hid hs
  clear hs
  have D0 := Lib.hid ((Below.refl w.heap.size w).alloc (Nat.le_refl _) (.cells #[.int .i64 p.1, .int .u64 p.2] 37))
  have KB := Blk.new w 37 #[.int .i64 p.1, .int .u64 p.2]
  have c0 := KB.cell 0
  have c1 := KB.cell 1
  have HKB := Lib.hid KB
  clear KB
  go_enter Tryz.func107, Tryz.ntmps107
  go_wp2_with fail
  refine wp_named (fun W => W.cell? ⟨w.heap.size, 0, none⟩ = some (.int .i64 p.1) ∧ W.cell? ⟨w.heap.size, 1, none⟩ = some (.int .u64 p.2) ∧ Below w.heap.size w W ∧ w.heap.size < W.heap.size) ⟨c0, c1, D0.out, by simp⟩ ?_
  clear c0 c1 D0 HKB
  rintro W0 ⟨c0, c1, hD, hw0⟩
  have D0 := Lib.hid hD
  clear hD
  go_loopw [5, 8] (fun _ j wr => ∃ k : Nat, k ≤ l.length ∧ j = .int .i64 k ∧ (∀ j (g : j < l.length), j < k → p ≠ l[j]) ∧ Below W0.heap.size W0 wr) (fun _ j _ => l.length - (intOf j).toNat)
  case atStart => exact ⟨0, by omega, rfl, fun j g h => by omega, Below.refl _ _⟩
  case round =>
    obtain ⟨k, hk, rfl, h0, hb⟩ := hrel
    have HB := Lib.hid hb
    have H0 := Lib.hid h0
    have hz := hb.size
    have d0 := (hb.cell (p := ⟨w.heap.size, 0, none⟩) hw0).trans c0
    have d1 := (hb.cell (p := ⟨w.heap.size, 1, none⟩) hw0).trans c1
    clear hb h0
    by_cases hlt : k < l.length
    · obtain ⟨ad, rfl, had, e0, e1⟩ := ((HS.out.on D0.out).below HB.out) k hlt
      have HY := Lib.hid (fun (e : p = l[k]) => idxF_at k hlt e (fun j g => H0.out j (by omega) g))
      have HN := Lib.hid (fun (e : p ≠ l[k]) => (show ∀ j (g : j < l.length), j < k + 1 → p ≠ l[j] from fun j g h => by
        by_cases ej : j = k
        · subst ej; exact e
        · exact H0.out j g (by omega)))
      have HPE := Lib.hid (fun (h1 : p.1 = l[k].1) (h2 : p.2 = l[k].2) => (Prod.ext h1 h2 : p = l[k]))
      have HPN := Lib.hid (fun (h : p = l[k]) => (⟨by rw [h], by rw [h]⟩ : p.1 = l[k].1 ∧ p.2 = l[k].2))
      generalize l[k].1 = y1 at *
      generalize l[k].2 = y2 at *
      by_cases he1 : p.1 = y1
      · by_cases he2 : p.2 = y2
        · have hq1 : (p.1 == y1) = true := by simpa using he1
          have hq2 : (p.2 == y2) = true := by simpa using he2
          have HY2 := Lib.hid (HY.out (HPE.out he1 he2))
          clear HY HN HPE HPN he1 he2
          go_wp2_with fail
          go_quiet (fail)
          go_wp2_with fail
          go_ret
          exact ⟨by rw [HY2.out]; rfl, D0.out.trans ((below_drewN HB.out _).mono (by omega))⟩
        · have hq1 : (p.1 == y1) = true := by simpa using he1
          have hq2 : (p.2 == y2) = false := by simpa using he2
          have HN2 := Lib.hid (HN.out (fun e => he2 (HPN.out e).2))
          clear HY HN HPE HPN he1 he2
          go_wp2_with fail
          go_quiet (fail)
          go_wp2_with fail
          go_roundw
          case rel => exact ⟨k + 1, by omega, by go_num, HN2.out, below_drewN HB.out _⟩
          case measure => simp [intOf]; omega
      · have hq1 : (p.1 == y1) = false := by simpa using he1
        have HN2 := Lib.hid (HN.out (fun e => he1 (HPN.out e).1))
        clear HY HN HPE HPN he1
        go_wp2_with fail
        go_quiet (fail)
        go_wp2_with fail
        go_roundw
        case rel => exact ⟨k + 1, by omega, by go_num, HN2.out, below_drewN HB.out _⟩
        case measure => simp [intOf]; omega
    · obtain rfl : k = l.length := by omega
      have HA := Lib.hid (idxF_none (not_mem_all (fun j g => H0.out j g g)))
      go_wp2_with fail
      go_ret
      exact ⟨by rw [HA.out]; rfl, D0.out.trans (HB.out.mono (by omega))⟩

theorem contains_share (A : Option Addr) (n c : Nat) (l : List (Int × Int)) (hn : l.length = n) (hl : n ≤ 1048576) (p : Int × Int) (w : World) (hs : SS w w.heap.size A l) :
    Calls Tryz.prog 55 #[.slice A n c, .agg #[.int .i64 p.1, .int .u64 p.2]] w fun e w' => e = .returned (.bool (decide (p ∈ l))) ∧ Below w.heap.size w w' := by
  have D0 := Lib.hid ((Below.refl w.heap.size w).alloc (Nat.le_refl _) (.cells #[.int .i64 p.1, .int .u64 p.2] 37))
  have P := Lib.hid (fun W (h : SS W W.heap.size A l) => index_share A n c l hn hl p W h)
  have HS := Lib.hid hs
  obtain ⟨r, hr, h0⟩ : ∃ r : Int, idxF l p = r ∧ decide (0 ≤ r) = decide (p ∈ l) := by
    by_cases h : p ∈ l
    · obtain ⟨k, _, _, e⟩ := idxF_in h
      exact ⟨k, e, by simp [h] <;> omega⟩
    · exact ⟨-1, idxF_none h, by simp [h]⟩
  have H0 := Lib.hid h0
  rw [hr] at P
  clear hs hr h0
  go_enter Tryz.func55, Tryz.ntmps55
  go_wp2_with fail
  refine (P.out _ (HS.out.on D0.out)).mono ?_; rintro e w1 ⟨rfl, b⟩
  have B := Lib.hid (below_on D0.out b)
  clear b
  go_wp2_with fail
  go_ret
  exact ⟨by rw [← H0.out]; rfl, B.out⟩

set_option maxHeartbeats 4000000 in
theorem equal_int (A A' : Option Addr) (n n' c c' : Nat) (xs ys : List Int) (hn : xs.length = n) (hn' : ys.length = n') (hl : n ≤ 1048576) (w : World) (hs : SI w w.heap.size .i64 A xs) (hs' : SI w w.heap.size .i64 A' ys) :
    Calls Tryz.prog 67 #[.slice A n c, .slice A' n' c'] w fun e w' => e = .returned (.bool (decide (xs = ys))) ∧ Below w.heap.size w w' := by
  subst hn
  subst hn'
  have HS := Lib.hid hs
  have HS' := Lib.hid hs'
  clear hs hs'
  by_cases hlen : xs.length = ys.length
  · have hq : ((xs.length : Int) != (ys.length : Int)) = false := by simp [hlen]
    have HL := Lib.hid hlen
    rw [← hlen] at hq
    rw [← hlen]
    clear hlen
    go_enter Tryz.func67, Tryz.ntmps67
    go_wp2_with fail
    go_loopw [5, 13] (fun _ j wr => ∃ k : Nat, k ≤ xs.length ∧ j = .int .i64 k ∧ (∀ j (g : j < xs.length) (g' : j < ys.length), j < k → xs[j] = ys[j]) ∧ Below w.heap.size w wr) (fun _ j _ => xs.length - (intOf j).toNat)
    case atStart => exact ⟨0, by omega, rfl, fun j g g' h => by omega, Below.refl _ _⟩
    case round =>
      obtain ⟨k, hk, rfl, h0, hb⟩ := hrel
      have HB := Lib.hid hb
      have H0 := Lib.hid h0
      have hz := hb.size
      clear hb h0
      by_cases hlt : k < xs.length
      · have hlt' : k < ys.length := by rw [← HL.out]; exact hlt
        obtain ⟨ad, rfl, had, c0⟩ := si_at (HS.out.below HB.out) k hlt
        obtain ⟨ad', rfl, had', c0'⟩ := si_at (HS'.out.below HB.out) k hlt'
        have HY := Lib.hid (fun (e : xs[k] = ys[k]) => (show ∀ j (g : j < xs.length) (g' : j < ys.length), j < k + 1 → xs[j] = ys[j] from fun j g g' h => by
          by_cases ej : j = k
          · subst ej; exact e
          · exact H0.out j g g' (by omega)))
        have HN := Lib.hid (fun (e : xs[k] ≠ ys[k]) => (show decide (xs = ys) = false from decide_eq_false fun h => by subst h; exact e rfl))
        by_cases he : xs[k] = ys[k]
        · have hq : (xs[k] != ys[k]) = false := by simpa using he
          have HY2 := Lib.hid (HY.out he)
          clear HY HN he
          generalize xs[k] = y at *
          generalize ys[k] = y' at *
          go_wp2_with fail
          go_quiet (fail)
          go_wp2_with fail
          go_roundw
          case rel => exact ⟨k + 1, by omega, by go_num, HY2.out, below_drewN HB.out _⟩
          case measure => simp [intOf]; omega
        · have hq : (xs[k] != ys[k]) = true := by simpa using he
          have HN2 := Lib.hid (HN.out he)
          clear HY HN he
          generalize xs[k] = y at *
          generalize ys[k] = y' at *
          go_wp2_with fail
          go_quiet (fail)
          go_wp2_with fail
          go_ret
          exact ⟨by rw [HN2.out]; rfl, below_drewN HB.out _⟩
      · obtain rfl : k = xs.length := by omega
        have HA := Lib.hid (show decide (xs = ys) = true from decide_eq_true (List.ext_getElem HL.out fun j g g' => H0.out j g g' g))
        go_wp2_with fail
        go_ret
        exact ⟨by rw [HA.out]; rfl, HB.out⟩
  · have hq : ((xs.length : Int) != (ys.length : Int)) = true := by simp; omega
    have HA := Lib.hid (show decide (xs = ys) = false from decide_eq_false fun h => hlen (by rw [h]))
    clear hlen
    go_enter Tryz.func67, Tryz.ntmps67
    go_wp2_with fail
    go_ret
    exact ⟨by rw [HA.out]; rfl, Below.refl _ _⟩
end Go.Proofs.YtlannmedefjfhaaGreat
