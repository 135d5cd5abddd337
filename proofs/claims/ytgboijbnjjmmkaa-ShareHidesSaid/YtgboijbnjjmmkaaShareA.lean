/- Shares in a slice: what it holds, which X are below R, Ids, whether these are right. -/
import Derived.Test.YtgboijbnjjmmkaaCycLib
import Derived.Test.YtgboijbnjjmmkaaShareMath
import Derived.RegionTactic
import Derived.Deep.DrawnRows
namespace Go.Proofs.Ytgboijbnjjmmkaa
open Go.ChangeShapes Go.WideShapes Go.ChangeAt Go.RowKit Gs
set_option linter.unusedVariables false

/-- The slice '.slice A l.length c' holds the shares l, and lies below block B. -/
def SS (w : World) (B : Nat) (A : Option Addr) (l : List (Int × Int)) : Prop :=
  ∀ j (h : j < l.length), ∃ ad, A = some ad ∧ ad.block < B ∧ w.cell? (ad.add (j * 2)) = some (.int .i64 l[j].1) ∧ w.cell? ⟨(ad.add (j * 2)).block, (ad.add (j * 2)).off + 1, none⟩ = some (.int .u64 l[j].2)
theorem SS.below {w w' : World} {B : Nat} {A : Option Addr} {l : List (Int × Int)} (h : SS w B A l) (hb : Below B w w') : SS w' B A l := fun j hj => by
  obtain ⟨ad, e, hB, c0, c1⟩ := h j hj
  exact ⟨ad, e, hB, (hb.cell (by rw [block_of_add]; exact hB)).trans c0, (hb.cell (p := ⟨(ad.add (j * 2)).block, (ad.add (j * 2)).off + 1, none⟩) (by show (ad.add (j * 2)).block < B; rw [block_of_add]; exact hB)).trans c1⟩
theorem SS.more {w : World} {B B' : Nat} {A : Option Addr} {l : List (Int × Int)} (h : SS w B A l) (hB : B ≤ B') : SS w B' A l := fun j hj => by
  obtain ⟨ad, e, hb, c⟩ := h j hj
  exact ⟨ad, e, by omega, c⟩
theorem SS.on {w w' : World} {A : Option Addr} {l : List (Int × Int)} (h : SS w w.heap.size A l) (hb : Below w.heap.size w w') : SS w' w'.heap.size A l := (h.below hb).more hb.size

theorem all_take_succ {α : Type} {l : List α} {f : α → Bool} (k : Nat) (hk : k < l.length) (h : (l.take k).all f = true) (hf : f l[k] = true) : (l.take (k + 1)).all f = true := by
  rw [List.take_succ_eq_append_getElem hk, List.all_append, h]; simp [hf]
theorem all_not {α : Type} {l : List α} {f : α → Bool} (k : Nat) (hk : k < l.length) (hf : f l[k] = false) : l.all f = false := by
  rw [List.all_eq_false]
  exact ⟨l[k], List.getElem_mem hk, by simp [hf]⟩

theorem below_any (A : Option Addr) (c : Nat) (l : List (Int × Int)) (hl : l.length ≤ 70368744177664) (w : World) (hs : SS w w.heap.size A l) :
    Calls Try.prog 45 #[.slice A l.length c] w fun e w' => e = .returned (.bool (l.all fun p => decide (p.2 < 1152921504606845789))) ∧ w = w' := by
  have HS := Lib.hid hs
  clear hs
  go_enter Try.func45, Try.ntmps45
  go_wp2_with fail
  go_loop [3] (fun i => ∃ k : Nat, k ≤ l.length ∧ i = .int .i64 k ∧ (l.take k).all (fun p => decide (p.2 < 1152921504606845789)) = true) (fun i => l.length - (intOf i).toNat)
  case atStart => exact ⟨0, by omega, rfl, by simp⟩
  case round =>
    obtain ⟨k, hk, rfl, ha⟩ := hrel
    have HA := Lib.hid ha
    clear ha
    by_cases hlt : k < l.length
    · obtain ⟨ad, rfl, had, c0, c1⟩ := HS.out k hlt
      by_cases hx : l[k].2 < 1152921504606845789
      · have ht := all_take_succ (f := fun p : Int × Int => decide (p.2 < 1152921504606845789)) k hlt HA.out (decide_eq_true hx)
        have HT := Lib.hid ht
        clear ht
        go_wp2_with fail
        go_round
        case rel => exact ⟨k + 1, by omega, by go_num, HT.out⟩
        case measure => simp [intOf]; omega
      · have hF := Lib.hid (all_not (f := fun p : Int × Int => decide (p.2 < 1152921504606845789)) k hlt (decide_eq_false hx))
        go_wp2_with fail
        go_ret
        exact ⟨by rw [hF.out]; rfl, rfl⟩
    · obtain rfl : k = l.length := by omega
      have HT := Lib.hid (show l.all (fun p => decide (p.2 < 1152921504606845789)) = true by rw [← HA.out, List.take_length])
      go_wp2_with fail
      go_ret
      exact ⟨by rw [HT.out]; rfl, rfl⟩

/-- Ids are right. -/
def RightI (ids : List Int) : Prop := 1 ≤ ids.length ∧ ids.length ≤ 7 ∧ ∀ i (h : i < ids.length), (1 ≤ ids[i] ∧ ids[i] < 1152921504606845789) ∧ ∀ j (g : j < i), ids[j] ≠ ids[i]
theorem si_at {w : World} {B : Nat} {k : IntKind} {A : Option Addr} {xs : List Int} (h : SI w B k A xs) (j : Nat) (hj : j < xs.length) : ∃ ad, A = some ad ∧ ad.block < B ∧ w.cell? (ad.add j) = some (.int k xs[j]) := by
  obtain ⟨ad, e, hb, hc⟩ := h j hj
  rw [List.getElem?_eq_getElem hj] at hc
  exact ⟨ad, e, hb, hc⟩

/-- What is told of whether ids are right. -/
def RightE (xs : List Int) (e : Ending) : Prop := ∃ b, e = .returned (.bool b) ∧ (b = true ↔ RightI xs)
theorem Dr.ss {w w' : World} (h : Dr w w') {B : Nat} {A : Option Addr} {l : List (Int × Int)} (hs : SS w B A l) : SS w' B A l := by obtain ⟨m, rfl⟩ := h; exact hs

set_option maxHeartbeats 2000000 in
theorem Right_any (A : Option Addr) (c : Nat) (xs : List Int) (hl : xs.length ≤ 70368744177664) (B : Nat) (w : World) (hs : SI w B .i64 A xs) :
    Calls Try.prog 44 #[.slice A xs.length c] w fun e w' => RightE xs e ∧ Dr w w' := by
  have HS := Lib.hid hs
  clear hs
  by_cases h1 : 1 ≤ xs.length
  · by_cases h7 : xs.length ≤ 7
    · go_enter Try.func44, Try.ntmps44
      go_wp2_with fail
      go_loopw [3] (fun i wr => ∃ k : Nat, k ≤ xs.length ∧ i = .int .i64 k ∧ (∀ i (h : i < xs.length), i < k → (1 ≤ xs[i] ∧ xs[i] < 1152921504606845789) ∧ ∀ j (g : j < i), xs[j] ≠ xs[i]) ∧ Dr w wr) (fun i _ => xs.length - (intOf i).toNat)
      case atStart => exact ⟨0, by omega, rfl, fun i h g => by omega, Dr.refl _⟩
      case round =>
        obtain ⟨k, hk, rfl, ha, hd⟩ := hrel
        have HA := Lib.hid ha
        have HD := Lib.hid hd
        clear ha hd
        by_cases hlt : k < xs.length
        · obtain ⟨ad, rfl, had, c0⟩ := si_at (HD.out.si HS.out) k hlt
          by_cases hx1 : 1 ≤ xs[k]
          · by_cases hx2 : xs[k] < 1152921504606845789
            · go_wp2_with fail
              go_loopw [4] (fun i wi => ∃ m : Nat, m ≤ k ∧ i = .int .i64 m ∧ (∀ j (g : j < xs.length), j < m → xs[j] ≠ xs[k]) ∧ Dr w wi) (fun i _ => k - (intOf i).toNat)
              case atStart => exact ⟨0, by omega, rfl, fun j g g' => by omega, HD.out⟩
              case round =>
                obtain ⟨m, hm, rfl, hn, hd⟩ := hrel
                have HN := Lib.hid hn
                have HE := Lib.hid hd
                clear hn hd
                by_cases hmk : m < k
                · obtain ⟨ad', e', had', c1⟩ := si_at (HE.out.si HS.out) m (by omega)
                  cases e'
                  obtain ⟨ad'', e'', _, c2⟩ := si_at (HE.out.si HS.out) k hlt
                  cases e''
                  by_cases hq : xs[m] = xs[k]
                  · have hb : (xs[m] == xs[k]) = true := beq_iff_eq.2 hq
                    have HQ := Lib.hid hq
                    clear hq
                    go_wp2_with fail
                    go_quiet (fail)
                    go_wp2_with fail
                    go_ret
                    exact ⟨⟨false, rfl, by simp; exact fun h => (h.2.2 k hlt).2 m hmk HQ.out⟩, HE.out.drewN _⟩
                  · have hb : (xs[m] == xs[k]) = false := beq_eq_false_iff_ne.2 hq
                    have HQ := Lib.hid hq
                    clear hq
                    go_wp2_with fail
                    go_quiet (fail)
                    go_wp2_with fail
                    go_roundw
                    case rel =>
                      refine ⟨m + 1, by omega, by go_num, fun j g g' => ?_, HE.out.drewN _⟩
                      by_cases hj : j = m
                      · subst hj; exact HQ.out
                      · exact HN.out j g (by omega)
                    case measure => simp [intOf]; omega
                · obtain rfl : m = k := by omega
                  go_wp2_with fail
                  go_roundw
                  case rel =>
                    refine ⟨m + 1, by omega, by go_num, fun i h g => ?_, HE.out⟩
                    by_cases hi : i = m
                    · subst hi; exact ⟨⟨hx1, hx2⟩, fun j g => HN.out j (by omega) g⟩
                    · exact HA.out i h (by omega)
                  case measure => simp [intOf]; omega
            · go_wp2_with fail
              go_ret
              exact ⟨⟨false, rfl, by simp; exact fun h => absurd (h.2.2 k hlt).1.2 (by omega)⟩, HD.out⟩
          · go_wp2_with fail
            go_ret
            exact ⟨⟨false, rfl, by simp; exact fun h => absurd (h.2.2 k hlt).1.1 (by omega)⟩, HD.out⟩
        · go_wp2_with fail
          go_ret
          exact ⟨⟨true, rfl, by simp; exact ⟨h1, h7, fun i h => HA.out i h (by omega)⟩⟩, HD.out⟩
    · go_enter Try.func44, Try.ntmps44
      go_wp2_with fail
      go_ret
      exact ⟨⟨false, rfl, by simp; exact fun h => h7 h.2.1⟩, Dr.refl _⟩
  · go_enter Try.func44, Try.ntmps44
    go_wp2_with fail
    go_ret
    exact ⟨⟨false, rfl, by simp; exact fun h => h1 h.1⟩, Dr.refl _⟩
theorem Right_yes (A : Option Addr) (c : Nat) (xs : List Int) (h : RightI xs) (B : Nat) (w : World) (hs : SI w B .i64 A xs) :
    Calls Try.prog 44 #[.slice A xs.length c] w fun e w' => e = .returned (.bool true) ∧ Dr w w' :=
  (Right_any A c xs (by have := h.2.1; omega) B w hs).mono fun e w' ⟨⟨b, he, hb⟩, hd⟩ => ⟨by rw [he, hb.2 h], hd⟩
theorem Right_no (A : Option Addr) (c : Nat) (xs : List Int) (h : ¬ RightI xs) (hl : xs.length ≤ 70368744177664) (B : Nat) (w : World) (hs : SI w B .i64 A xs) :
    Calls Try.prog 44 #[.slice A xs.length c] w fun e w' => e = .returned (.bool false) ∧ Dr w w' :=
  (Right_any A c xs hl B w hs).mono fun e w' ⟨⟨b, he, hb⟩, hd⟩ => ⟨by
    cases b
    · exact he
    · exact absurd (hb.1 rfl) h, hd⟩

/-- What a call has made: the slice value v owns the ints xs, in blocks from B on. -/
def OwnI (w : World) (B : Nat) (v : Value) (xs : List Int) : Prop := w.ownsRow B 3 1 v xs.length (xs.map (Value.int .i64))
theorem own_i {w : World} {B n : Nat} {v : Value} {xs : List Int} {vs : List Value} (h : w.ownsRow B 3 1 v n vs) (hn : n = xs.length) (hv : vs = xs.map (Value.int .i64)) : OwnI w B v xs := by
  subst hn hv; exact h
theorem own_sliceI {w : World} {B : Nat} {v : Value} {xs : List Int} (h : OwnI w B v xs) : ∃ A c, v = .slice A xs.length c ∧ xs.length ≤ c ∧ c ≤ maxLen ∧ SI w w.heap.size .i64 A xs ∧ ∀ ad, A = some ad → B ≤ ad.block := by
  have hge := own_ge h
  rcases h.2 with ⟨rfl, h0⟩ | ⟨g, cap, cur, rfl, hb, hg, hn, hc, _, _⟩
  · rw [h0]
    exact ⟨none, 0, rfl, Nat.le_refl _, by unfold maxLen; omega, fun j hj => by omega, fun ad e => by cases e⟩
  · refine ⟨some ⟨g, 0, none⟩, cap, rfl, hn, hc, fun j hj => ⟨_, rfl, (Array.getElem?_eq_some_iff.1 hg).1, ?_⟩, fun ad e => by cases e; exact hge _ rfl⟩
    refine h.cells (g := g) rfl j _ ?_
    rw [List.getElem?_map, List.getElem?_eq_getElem hj]; rfl
theorem own_noneI (w : World) {B : Nat} (hB : B ≤ w.heap.size) : OwnI (w.alloc (.cells #[] 3)) B (.slice (some ⟨w.heap.size, 0, none⟩) 0 0) [] :=
  ⟨rfl, .inr ⟨_, 0, #[], rfl, hB, World.alloc_heap_new w _, Nat.le_refl _, by unfold maxLen; omega, rfl, rfl⟩⟩
theorem Try.info3 : (Try.prog.info? 3).map (fun i => (i.zero, i.size, i.bytes)) = some (some (.int .i64 0), 1, 8) := by kernel_rfl

set_option maxHeartbeats 2000000 in
theorem Ids_any (A : Option Addr) (c : Nat) (l : List (Int × Int)) (hl : l.length ≤ 1048576) (w : World) (hs : SS w w.heap.size A l) :
    Calls Try.prog 25 #[.slice A l.length c] w fun e w' => ∃ v', e = .returned v' ∧ OwnI w' w.heap.size v' (l.map Prod.fst) ∧ Below w.heap.size w w' := by
  have HS := Lib.hid hs
  obtain ⟨i0, hi, hz0, hz1, hz2⟩ := info_parts Try.info3
  have HI := Lib.hid (And.intro hi (And.intro hz0 (And.intro hz1 hz2)))
  clear hi hz0 hz1 hz2 hs
  go_enter Try.func25, Try.ntmps25
  go_wp2_with fail
  go_loopw [3, 4] (fun b i wr => ∃ k : Nat, k ≤ l.length ∧ i = .int .i64 k ∧ OwnI wr w.heap.size b ((l.map Prod.fst).take k) ∧ Below w.heap.size w wr) (fun _ i _ => l.length - (intOf i).toNat)
  case atStart => exact ⟨0, by omega, rfl, own_noneI w (Nat.le_refl _), (Below.refl _ _).alloc (Nat.le_refl _) _⟩
  case round =>
    obtain ⟨k, hk, rfl, ho, hb⟩ := hrel
    have HO' := Lib.hid ho
    have HB := Lib.hid hb
    clear ho hb
    by_cases hlt : k < l.length
    · obtain ⟨ad, rfl, had, c0, c1⟩ := (HS.out.below HB.out) k hlt
      have HLen := Lib.hid (show ((l.map Prod.fst).take k).length = k by rw [List.length_take, List.length_map, Nat.min_eq_left hk])
      have HT := Lib.hid (show (l.map Prod.fst).take (k + 1) = (l.map Prod.fst).take k ++ [l[k].1] by rw [List.take_succ_eq_append_getElem (by simpa using hlt)]; simp)
      have hz := HB.out.size
      go_wp2_with (at_builtin; refine wpList_append_own _ rfl _ _ 32 rfl w.heap.size 3 i0 (.int .i64 0) 1 8 Try.underlying32 HI.out.1 HI.out.2.1 HI.out.2.2.1 HI.out.2.2.2 rfl (by decide) _ _ _ rfl (HO'.out.alloc _) ⟨wr.heap.size, 0, none⟩ 1 1 [.int .i64 l[k].1] rfl rfl (cell_one_new _ _ _) (by simp [Value.oneCell']) (by rw [HLen.out]; unfold maxLen; omega) (by rw [HLen.out]; omega) (by simp; omega) ?_; intro v' w1 hown' hgrow _; have HO2 := Lib.hid hown'; have HG := Lib.hid hgrow; clear hown' hgrow)
      go_roundw
      case rel =>
        refine ⟨k + 1, by omega, by go_num, ?_, ?_⟩
        · rw [HT.out]
          exact own_i HO2.out (by simp) (by simp)
        · refine (HB.out.alloc HB.out.size _).grown HG.out (by simp; omega) (fun g e => ?_)
          exact own_ge HO'.out g e
      case measure => simp [intOf]; omega
    · obtain rfl : k = l.length := by omega
      have HA := Lib.hid (show (l.map Prod.fst).take l.length = l.map Prod.fst by rw [List.take_of_length_le (by simp)])
      go_wp2_with fail
      go_ret
      exact ⟨_, rfl, by have h := HO'.out; rwa [HA.out] at h, HB.out⟩
end Go.Proofs.Ytgboijbnjjmmkaa
