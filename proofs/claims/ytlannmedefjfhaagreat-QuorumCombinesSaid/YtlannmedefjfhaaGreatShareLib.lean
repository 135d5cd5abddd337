/- Several texts of one kind, one behind the other: ShareA, ShareB, ShareC, ShareD, ShareE. -/
import Derived.Test.YtlannmedefjfhaaGreatCycLib
import Derived.Test.YtlannmedefjfhaaGreatSharePlain
import Derived.RegionTactic
import Derived.Deep.DrawnRows
import Derived.Test.YtlannmedefjfhaaGreatHashLib2
import Derived.Deep.RegionHeldLaw
import Derived.Deep.Cut
import Derived.Test.YtlannmedefjfhaaGreatSignLib
/- Shares in a slice: what it holds, which X are below R, Ids, whether these are right. -/
namespace Go.Proofs.YtlannmedefjfhaaGreat
open Go.ChangeShapes Go.WideShapes Go.ChangeAt Go.RowKit Gs
set_option linter.unusedVariables false

/-- The slice '.slice A l.length c' holds the shares l, and lies below block B. -/
def SS (w : World) (B : Nat) (A : Option Addr) (l : List (Int × Int)) : Prop :=
  ∀ j (h : j < l.length), ∃ ad, A = some ad ∧ ad.block < B ∧ w.cell? (ad.add (j * 2)) = some (.int .i64 l[j].1) ∧ w.cell? ⟨(ad.add (j * 2)).block, (ad.add (j * 2)).off + 1, none⟩ = some (.int .u64 l[j].2)
theorem SS.below {w w' : World} {B : Nat} {A : Option Addr} {l : List (Int × Int)} (h : SS w B A l) (hb : Below B w w') : SS w' B A l := fun j hj => by
  obtain ⟨ad, e, hB, c0, c1⟩ := h j hj
  exact ⟨ad, e, hB, (hb.cell (by rw [block_of_add]; exact hB)).trans c0, (hb.cell (p := ⟨(ad.add (j * 2)).block, (ad.add (j * 2)).off + 1, none⟩) (by show (ad.add (j * 2)).block < B; rw [block_of_add]; exact hB)).trans c1⟩
theorem SS.more {w : World} {B B' : Nat} {A : Option Addr} {l : List (Int × Int)} (h : SS w B A l) (hB : B ≤ B') : SS w B' A l := fun j hj => by
  obtain ⟨ad, e, hb, c⟩ := h j hj
  exact ⟨ad, e, by omega, c⟩
theorem SS.on {w w' : World} {A : Option Addr} {l : List (Int × Int)} (h : SS w w.heap.size A l) (hb : Below w.heap.size w w') : SS w' w'.heap.size A l := (h.below hb).more hb.size

theorem all_take_succ {α : Type} {l : List α} {f : α → Bool} (k : Nat) (hk : k < l.length) (h : (l.take k).all f = true) (hf : f l[k] = true) : (l.take (k + 1)).all f = true := by
  rw [List.take_succ_eq_append_getElem hk, List.all_append, h]; simp [hf]
theorem all_not {α : Type} {l : List α} {f : α → Bool} (k : Nat) (hk : k < l.length) (hf : f l[k] = false) : l.all f = false := by
  rw [List.all_eq_false]
  exact ⟨l[k], List.getElem_mem hk, by simp [hf]⟩

theorem below_any (A : Option Addr) (c : Nat) (l : List (Int × Int)) (hl : l.length ≤ 70368744177664) (w : World) (hs : SS w w.heap.size A l) :
    Calls Tryz.prog 93 #[.slice A l.length c] w fun e w' => e = .returned (.bool (l.all fun p => decide (p.2 < 1152921504606845789))) ∧ w = w' := by
  have HS := Lib.hid hs
  clear hs
  go_enter Tryz.func93, Tryz.ntmps93
  go_wp2_with fail
  go_loop [3] (fun i => ∃ k : Nat, k ≤ l.length ∧ i = .int .i64 k ∧ (l.take k).all (fun p => decide (p.2 < 1152921504606845789)) = true) (fun i => l.length - (intOf i).toNat)
  case atStart => exact ⟨0, by omega, rfl, by simp⟩
  case round =>
    obtain ⟨k, hk, rfl, ha⟩ := hrel
    have HA := Lib.hid ha
    clear ha
    by_cases hlt : k < l.length
    · obtain ⟨ad, rfl, had, c0, c1⟩ := HS.out k hlt
      by_cases hx : l[k].2 < 1152921504606845789
      · have ht := all_take_succ (f := fun p : Int × Int => decide (p.2 < 1152921504606845789)) k hlt HA.out (decide_eq_true hx)
        have HT := Lib.hid ht
        clear ht
        go_wp2_with fail
        go_round
        case rel => exact ⟨k + 1, by omega, by go_num, HT.out⟩
        case measure => simp [intOf]; omega
      · have hF := Lib.hid (all_not (f := fun p : Int × Int => decide (p.2 < 1152921504606845789)) k hlt (decide_eq_false hx))
        go_wp2_with fail
        go_ret
        exact ⟨by rw [hF.out]; rfl, rfl⟩
    · obtain rfl : k = l.length := by omega
      have HT := Lib.hid (show l.all (fun p => decide (p.2 < 1152921504606845789)) = true by rw [← HA.out, List.take_length])
      go_wp2_with fail
      go_ret
      exact ⟨by rw [HT.out]; rfl, rfl⟩

/-- Ids are right. -/
def RightI (ids : List Int) : Prop := 1 ≤ ids.length ∧ ids.length ≤ 7 ∧ ∀ i (h : i < ids.length), (1 ≤ ids[i] ∧ ids[i] < 1152921504606845789) ∧ ∀ j (g : j < i), ids[j] ≠ ids[i]
theorem si_at {w : World} {B : Nat} {k : IntKind} {A : Option Addr} {xs : List Int} (h : SI w B k A xs) (j : Nat) (hj : j < xs.length) : ∃ ad, A = some ad ∧ ad.block < B ∧ w.cell? (ad.add j) = some (.int k xs[j]) := by
  obtain ⟨ad, e, hb, hc⟩ := h j hj
  rw [List.getElem?_eq_getElem hj] at hc
  exact ⟨ad, e, hb, hc⟩

/-- What is told of whether ids are right. -/
def RightE (xs : List Int) (e : Ending) : Prop := ∃ b, e = .returned (.bool b) ∧ (b = true ↔ RightI xs)
theorem Dr.ss {w w' : World} (h : Dr w w') {B : Nat} {A : Option Addr} {l : List (Int × Int)} (hs : SS w B A l) : SS w' B A l := by obtain ⟨m, rfl⟩ := h; exact hs

set_option maxHeartbeats 2000000 in
theorem Right_any (A : Option Addr) (c : Nat) (xs : List Int) (hl : xs.length ≤ 70368744177664) (B : Nat) (w : World) (hs : SI w B .i64 A xs) :
    Calls Tryz.prog 91 #[.slice A xs.length c] w fun e w' => RightE xs e ∧ Dr w w' := by
  have HS := Lib.hid hs
  clear hs
  by_cases h1 : 1 ≤ xs.length
  · by_cases h7 : xs.length ≤ 7
    · go_enter Tryz.func91, Tryz.ntmps91
      go_wp2_with fail
      go_loopw [3] (fun i wr => ∃ k : Nat, k ≤ xs.length ∧ i = .int .i64 k ∧ (∀ i (h : i < xs.length), i < k → (1 ≤ xs[i] ∧ xs[i] < 1152921504606845789) ∧ ∀ j (g : j < i), xs[j] ≠ xs[i]) ∧ Dr w wr) (fun i _ => xs.length - (intOf i).toNat)
      case atStart => exact ⟨0, by omega, rfl, fun i h g => by omega, Dr.refl _⟩
      case round =>
        obtain ⟨k, hk, rfl, ha, hd⟩ := hrel
        have HA := Lib.hid ha
        have HD := Lib.hid hd
        clear ha hd
        by_cases hlt : k < xs.length
        · obtain ⟨ad, rfl, had, c0⟩ := si_at (HD.out.si HS.out) k hlt
          by_cases hx1 : 1 ≤ xs[k]
          · by_cases hx2 : xs[k] < 1152921504606845789
            · go_wp2_with fail
              go_loopw [4] (fun i wi => ∃ m : Nat, m ≤ k ∧ i = .int .i64 m ∧ (∀ j (g : j < xs.length), j < m → xs[j] ≠ xs[k]) ∧ Dr w wi) (fun i _ => k - (intOf i).toNat)
              case atStart => exact ⟨0, by omega, rfl, fun j g g' => by omega, HD.out⟩
              case round =>
                obtain ⟨m, hm, rfl, hn, hd⟩ := hrel
                have HN := Lib.hid hn
                have HE := Lib.hid hd
                clear hn hd
                by_cases hmk : m < k
                · obtain ⟨ad', e', had', c1⟩ := si_at (HE.out.si HS.out) m (by omega)
                  cases e'
                  obtain ⟨ad'', e'', _, c2⟩ := si_at (HE.out.si HS.out) k hlt
                  cases e''
                  by_cases hq : xs[m] = xs[k]
                  · have hb : (xs[m] == xs[k]) = true := beq_iff_eq.2 hq
                    have HQ := Lib.hid hq
                    clear hq
                    go_wp2_with fail
                    go_quiet (fail)
                    go_wp2_with fail
                    go_ret
                    exact ⟨⟨false, rfl, by simp; exact fun h => (h.2.2 k hlt).2 m hmk HQ.out⟩, HE.out.drewN _⟩
                  · have hb : (xs[m] == xs[k]) = false := beq_eq_false_iff_ne.2 hq
                    have HQ := Lib.hid hq
                    clear hq
                    go_wp2_with fail
                    go_quiet (fail)
                    go_wp2_with fail
                    go_roundw
                    case rel =>
                      refine ⟨m + 1, by omega, by go_num, fun j g g' => ?_, HE.out.drewN _⟩
                      by_cases hj : j = m
                      · subst hj; exact HQ.out
                      · exact HN.out j g (by omega)
                    case measure => simp [intOf]; omega
                · obtain rfl : m = k := by omega
                  go_wp2_with fail
                  go_roundw
                  case rel =>
                    refine ⟨m + 1, by omega, by go_num, fun i h g => ?_, HE.out⟩
                    by_cases hi : i = m
                    · subst hi; exact ⟨⟨hx1, hx2⟩, fun j g => HN.out j (by omega) g⟩
                    · exact HA.out i h (by omega)
                  case measure => simp [intOf]; omega
            · go_wp2_with fail
              go_ret
              exact ⟨⟨false, rfl, by simp; exact fun h => absurd (h.2.2 k hlt).1.2 (by omega)⟩, HD.out⟩
          · go_wp2_with fail
            go_ret
            exact ⟨⟨false, rfl, by simp; exact fun h => absurd (h.2.2 k hlt).1.1 (by omega)⟩, HD.out⟩
        · go_wp2_with fail
          go_ret
          exact ⟨⟨true, rfl, by simp; exact ⟨h1, h7, fun i h => HA.out i h (by omega)⟩⟩, HD.out⟩
    · go_enter Tryz.func91, Tryz.ntmps91
      go_wp2_with fail
      go_ret
      exact ⟨⟨false, rfl, by simp; exact fun h => h7 h.2.1⟩, Dr.refl _⟩
  · go_enter Tryz.func91, Tryz.ntmps91
    go_wp2_with fail
    go_ret
    exact ⟨⟨false, rfl, by simp; exact fun h => h1 h.1⟩, Dr.refl _⟩
theorem Right_yes (A : Option Addr) (c : Nat) (xs : List Int) (h : RightI xs) (B : Nat) (w : World) (hs : SI w B .i64 A xs) :
    Calls Tryz.prog 91 #[.slice A xs.length c] w fun e w' => e = .returned (.bool true) ∧ Dr w w' :=
  (Right_any A c xs (by have := h.2.1; omega) B w hs).mono fun e w' ⟨⟨b, he, hb⟩, hd⟩ => ⟨by rw [he, hb.2 h], hd⟩
theorem Right_no (A : Option Addr) (c : Nat) (xs : List Int) (h : ¬ RightI xs) (hl : xs.length ≤ 70368744177664) (B : Nat) (w : World) (hs : SI w B .i64 A xs) :
    Calls Tryz.prog 91 #[.slice A xs.length c] w fun e w' => e = .returned (.bool false) ∧ Dr w w' :=
  (Right_any A c xs hl B w hs).mono fun e w' ⟨⟨b, he, hb⟩, hd⟩ => ⟨by
    cases b
    · exact he
    · exact absurd (hb.1 rfl) h, hd⟩

/-- What a call has made: the slice value v owns the ints xs, in blocks from B on. -/
def OwnI (w : World) (B : Nat) (v : Value) (xs : List Int) : Prop := w.ownsRow B 3 1 v xs.length (xs.map (Value.int .i64))
theorem own_i {w : World} {B n : Nat} {v : Value} {xs : List Int} {vs : List Value} (h : w.ownsRow B 3 1 v n vs) (hn : n = xs.length) (hv : vs = xs.map (Value.int .i64)) : OwnI w B v xs := by
  subst hn hv; exact h
theorem own_sliceI {w : World} {B : Nat} {v : Value} {xs : List Int} (h : OwnI w B v xs) : ∃ A c, v = .slice A xs.length c ∧ xs.length ≤ c ∧ c ≤ maxLen ∧ SI w w.heap.size .i64 A xs ∧ ∀ ad, A = some ad → B ≤ ad.block := by
  have hge := own_ge h
  rcases h.2 with ⟨rfl, h0⟩ | ⟨g, cap, cur, rfl, hb, hg, hn, hc, _, _⟩
  · rw [h0]
    exact ⟨none, 0, rfl, Nat.le_refl _, by unfold maxLen; omega, fun j hj => by omega, fun ad e => by cases e⟩
  · refine ⟨some ⟨g, 0, none⟩, cap, rfl, hn, hc, fun j hj => ⟨_, rfl, (Array.getElem?_eq_some_iff.1 hg).1, ?_⟩, fun ad e => by cases e; exact hge _ rfl⟩
    refine h.cells (g := g) rfl j _ ?_
    rw [List.getElem?_map, List.getElem?_eq_getElem hj]; rfl
theorem own_noneI (w : World) {B : Nat} (hB : B ≤ w.heap.size) : OwnI (w.alloc (.cells #[] 3)) B (.slice (some ⟨w.heap.size, 0, none⟩) 0 0) [] :=
  ⟨rfl, .inr ⟨_, 0, #[], rfl, hB, World.alloc_heap_new w _, Nat.le_refl _, by unfold maxLen; omega, rfl, rfl⟩⟩
theorem Tryz.info3 : (Tryz.prog.info? 3).map (fun i => (i.zero, i.size, i.bytes)) = some (some (.int .i64 0), 1, 8) := by kernel_rfl

set_option maxHeartbeats 2000000 in
theorem Ids_any (A : Option Addr) (c : Nat) (l : List (Int × Int)) (hl : l.length ≤ 1048576) (w : World) (hs : SS w w.heap.size A l) :
    Calls Tryz.prog 92 #[.slice A l.length c] w fun e w' => ∃ v', e = .returned v' ∧ OwnI w' w.heap.size v' (l.map Prod.fst) ∧ Below w.heap.size w w' := by
  have HS := Lib.hid hs
  obtain ⟨i0, hi, hz0, hz1, hz2⟩ := info_parts Tryz.info3
  have HI := Lib.hid (And.intro hi (And.intro hz0 (And.intro hz1 hz2)))
  clear hi hz0 hz1 hz2 hs
  go_enter Tryz.func92, Tryz.ntmps92
  go_wp2_with fail
  go_loopw [3, 4] (fun b i wr => ∃ k : Nat, k ≤ l.length ∧ i = .int .i64 k ∧ OwnI wr w.heap.size b ((l.map Prod.fst).take k) ∧ Below w.heap.size w wr) (fun _ i _ => l.length - (intOf i).toNat)
  case atStart => exact ⟨0, by omega, rfl, own_noneI w (Nat.le_refl _), (Below.refl _ _).alloc (Nat.le_refl _) _⟩
  case round =>
    obtain ⟨k, hk, rfl, ho, hb⟩ := hrel
    have HO' := Lib.hid ho
    have HB := Lib.hid hb
    clear ho hb
    by_cases hlt : k < l.length
    · obtain ⟨ad, rfl, had, c0, c1⟩ := (HS.out.below HB.out) k hlt
      have HLen := Lib.hid (show ((l.map Prod.fst).take k).length = k by rw [List.length_take, List.length_map, Nat.min_eq_left hk])
      have HT := Lib.hid (show (l.map Prod.fst).take (k + 1) = (l.map Prod.fst).take k ++ [l[k].1] by rw [List.take_succ_eq_append_getElem (by simpa using hlt)]; simp)
      have hz := HB.out.size
      go_wp2_with (at_builtin; refine wpList_append_own _ rfl _ _ 85 rfl w.heap.size 3 i0 (.int .i64 0) 1 8 Tryz.underlying85 HI.out.1 HI.out.2.1 HI.out.2.2.1 HI.out.2.2.2 rfl (by decide) _ _ _ rfl (HO'.out.alloc _) ⟨wr.heap.size, 0, none⟩ 1 1 [.int .i64 l[k].1] rfl rfl (cell_one_new _ _ _) (by simp [Value.oneCell']) (by rw [HLen.out]; unfold maxLen; omega) (by rw [HLen.out]; omega) (by simp; omega) ?_; intro v' w1 hown' hgrow _; have HO2 := Lib.hid hown'; have HG := Lib.hid hgrow; clear hown' hgrow)
      go_roundw
      case rel =>
        refine ⟨k + 1, by omega, by go_num, ?_, ?_⟩
        · rw [HT.out]
          exact own_i HO2.out (by simp) (by simp)
        · refine (HB.out.alloc HB.out.size _).grown HG.out (by simp; omega) (fun g e => ?_)
          exact own_ge HO'.out g e
      case measure => simp [intOf]; omega
    · obtain rfl : k = l.length := by omega
      have HA := Lib.hid (show (l.map Prod.fst).take l.length = l.map Prod.fst by rw [List.take_of_length_le (by simp)])
      go_wp2_with fail
      go_ret
      exact ⟨_, rfl, by have h := HO'.out; rwa [HA.out] at h, HB.out⟩
end Go.Proofs.YtlannmedefjfhaaGreat

/- The document's own answers on shares: weights, values, what shares make. -/
namespace Go.Proofs.YtlannmedefjfhaaGreat
open Go.ChangeShapes Go.WideShapes Go.ChangeAt Go.RowKit Gs
set_option linter.unusedVariables false

theorem rb_u {a : Int} (h : Rb a) : IsU a := ⟨h.1, by have := h.2; omega⟩
instance (ids : List Int) (i x : Int) : IsU (wat ids i x) := rb_u (wat_rb ids i x)
instance (ids : List Int) (x : Int) (l : List (Int × Int)) : IsU (jat ids x l) := rb_u (jat_rb ids x l)
instance (x : Int) (c : List Int) : IsU (pval x c) := rb_u (pval_rb x c)

set_option maxHeartbeats 2000000 in
theorem at_any (A : Option Addr) (c : Nat) (xs : List Int) (hl : xs.length ≤ 1048576) (hx : ∀ x ∈ xs, 0 ≤ x ∧ x < 9223372036854775808) (i x : Int) (i0 : 0 ≤ i) (i1 : i < 9223372036854775808) [hu : IsU x] (B : Nat) (w : World) (hs : SI w B .i64 A xs) :
    Calls Tryz.prog 100 #[.slice A xs.length c, .int .i64 i, .int .u64 x] w fun e w' => e = .returned (.int .u64 (wat xs i x)) ∧ w = w' := by
  have HS := Lib.hid hs
  have HX := Lib.hid hx
  haveI : IsU i := ⟨by omega, by omega⟩
  have hui : IntKind.u64.wrap i = i := by rw [IntKind.wrap_u64]; omega
  clear hs hx
  go_enter Tryz.func100, Tryz.ntmps100
  go_wp2_with fail
  go_loop [7, 8] (fun o j => ∃ k : Nat, k ≤ xs.length ∧ j = .int .i64 k ∧ o = .int .u64 (wat (xs.take k) i x)) (fun _ j => xs.length - (intOf j).toNat)
  case atStart => exact ⟨0, by omega, rfl, rfl⟩
  case round =>
    obtain ⟨k, hk, rfl, rfl⟩ := hrel
    by_cases hlt : k < xs.length
    · obtain ⟨ad, rfl, had, c0⟩ := si_at HS.out k hlt
      have HT := Lib.hid (wat_take xs i x k hlt)
      have hb := HX.out xs[k] (List.getElem_mem hlt)
      have b0 := hb.1
      have b1 := hb.2
      clear hb
      by_cases he : xs[k] = i
      · have hq : (xs[k] == i) = true := beq_iff_eq.2 he
        have HE := Lib.hid (show wat (xs.take (k + 1)) i x = wat (xs.take k) i x by rw [HT.out]; unfold wstep; rw [if_pos he])
        clear he
        go_wp2_with fail
        go_round
        case rel => exact ⟨k + 1, by omega, by go_num, by rw [HE.out]⟩
        case measure => simp [intOf]; omega
      · have hq : (xs[k] == i) = false := beq_eq_false_iff_ne.2 he
        haveI : IsU xs[k] := ⟨by omega, by omega⟩
        have hwk : IntKind.u64.wrap xs[k] = xs[k] := by rw [IntKind.wrap_u64]; omega
        have P1 := Lib.hid (ref_SubR i xs[k])
        have P2 := Lib.hid (ref_InvR (rsub i xs[k]))
        have P3 := Lib.hid (ref_SubR x xs[k])
        have P4 := Lib.hid (ref_MulR (rsub x xs[k]) (rinv (rsub i xs[k])))
        have P5 := Lib.hid (ref_MulR (wat (xs.take k) i x) (rmul (rsub x xs[k]) (rinv (rsub i xs[k]))))
        have HE := Lib.hid (show wat (xs.take (k + 1)) i x = rmul (wat (xs.take k) i x) (rmul (rsub x xs[k]) (rinv (rsub i xs[k]))) by rw [HT.out]; unfold wstep; rw [if_neg he])
        clear he
        go_wp2_with fail
        refine (P1.out _).mono ?_; rintro e w' ⟨rfl, rfl⟩
        go_wp2_with fail
        refine (P2.out _).mono ?_; rintro e w' ⟨rfl, rfl⟩
        go_wp2_with fail
        refine (P3.out _).mono ?_; rintro e w' ⟨rfl, rfl⟩
        go_wp2_with fail
        refine (P4.out _).mono ?_; rintro e w' ⟨rfl, rfl⟩
        go_wp2_with fail
        refine (P5.out _).mono ?_; rintro e w' ⟨rfl, rfl⟩
        go_wp2_with fail
        go_round
        case rel => exact ⟨k + 1, by omega, by go_num, by rw [HE.out]⟩
        case measure => simp [intOf]; omega
    · obtain rfl : k = xs.length := by omega
      have HA := Lib.hid (List.take_length (l := xs))
      rw [HA.out]
      go_wp2_with fail
      go_ret
      exact ⟨rfl, rfl⟩

theorem value_any (A : Option Addr) (c : Nat) (xs : List Int) (hl : xs.length ≤ 1048576) (hx : ∀ x ∈ xs, 0 ≤ x ∧ x < 18446744073709551616) (x : Int) [hu : IsU x] (B : Nat) (w : World) (hs : SI w B .u64 A xs) :
    Calls Tryz.prog 90 #[.slice A xs.length c, .int .u64 x] w fun e w' => e = .returned (.int .u64 (pval x xs)) ∧ Dr w w' := by
  have HX := Lib.hid hx
  have HS := Lib.hid hs
  clear hx hs
  go_enter Tryz.func90, Tryz.ntmps90
  go_wp2_with fail
  go_loopw [5, 6] (fun v i wr => ∃ k : Nat, k ≤ xs.length ∧ i = .int .i64 ((k : Int) - 1) ∧ v = .int .u64 (pval x (xs.drop k)) ∧ Dr w wr) (fun _ i _ => (intOf i + 1).toNat)
  case atStart => exact ⟨xs.length, by omega, rfl, by simp [pval], Dr.refl _⟩
  case round =>
    obtain ⟨k, hk, rfl, rfl, hdr⟩ := hrel
    have HD := Lib.hid hdr
    clear hdr
    by_cases hlt : 0 < k
    · obtain ⟨k, rfl⟩ : ∃ j, k = j + 1 := ⟨k - 1, by omega⟩
      obtain ⟨ad, rfl, hb, hc⟩ := si_at (HD.out.si HS.out) k (by omega)
      have hxk := HX.out xs[k] (List.getElem_mem _)
      haveI : IsU xs[k] := ⟨hxk.1, hxk.2⟩
      have HE := Lib.hid (pval_drop x xs k (by omega))
      have P1 := Lib.hid (ref_MulR (pval x (xs.drop (k + 1))) x)
      have P2 := Lib.hid (ref_AddR (rmul (pval x (xs.drop (k + 1))) x) xs[k])
      have ee : ((k + 1 : Nat) : Int) - 1 = k := by omega
      rw [ee]
      clear ee hxk
      go_wp2_with fail
      go_quiet ((first | (go_at_call 61; exact quiet_eq (P1.out _)) | (go_at_call 63; exact quiet_eq (P2.out _))))
      go_wp2_with fail
      go_roundw
      case rel => exact ⟨k, by omega, by go_num, by rw [HE.out], HD.out.drewN _⟩
      case measure => simp [intOf]
    · obtain rfl : k = 0 := by omega
      go_wp2_with fail
      go_ret
      exact ⟨rfl, HD.out⟩

theorem mem_take_succ {i : Int} {xs : List Int} {k : Nat} (h : k < xs.length) : i ∈ xs.take (k + 1) ↔ i ∈ xs.take k ∨ xs[k] = i := by
  rw [List.take_succ_eq_append_getElem h, List.mem_append, List.mem_singleton]
  exact or_congr Iff.rfl ⟨fun e => e.symm, fun e => e.symm⟩
/-- Whether the weight of one of ids is told. -/
def WeightI (xs : List Int) (i : Int) : Prop := RightI xs ∧ i ∈ xs
theorem right_all {xs : List Int} (h : RightI xs) : ∀ x ∈ xs, 1 ≤ x ∧ x < 1152921504606845789 := fun x hx => by
  obtain ⟨j, hj, rfl⟩ := List.getElem_of_mem hx
  exact (h.2.2 j hj).1
theorem right_pair {xs : List Int} (h : RightI xs) : xs.Pairwise (fun a b => a ≠ b) := by
  rw [List.pairwise_iff_getElem]
  intro i j hi hj hij
  exact (h.2.2 j hj).2 i hij
theorem right_apart {xs : List Int} (h : RightI xs) : Apart xs := apart_right (right_all h) (right_pair h)
/-- What Weight tells. -/
def WeightE (xs : List Int) (i : Int) (e : Ending) : Prop := (WeightI xs i → e = .returned (.tuple #[.int .u64 (wat xs i 0), .int .i64 0])) ∧ (¬ WeightI xs i → e = .returned (.tuple #[.int .u64 0, .int .i64 1]))

set_option maxHeartbeats 2000000 in
theorem refWeight_any (A : Option Addr) (c : Nat) (xs : List Int) (hl : xs.length ≤ 1048576) (i : Int) (B : Nat) (w : World) (hs : SI w B .i64 A xs) :
    Calls Tryz.prog 101 #[.slice A xs.length c, .int .i64 i] w fun e w' => WeightE xs i e ∧ Dr w w' := by
  have HS := Lib.hid hs
  haveI : IsU 0 := ⟨by omega, by omega⟩
  clear hs
  go_enter Tryz.func101, Tryz.ntmps101
  go_wp2_with fail
  go_loop [6, 7] (fun o j => ∃ (k : Nat) (b : Bool), k ≤ xs.length ∧ j = .int .i64 k ∧ o = .bool b ∧ (b = true ↔ i ∈ xs.take k)) (fun _ j => xs.length - (intOf j).toNat)
  case atStart => exact ⟨0, false, by omega, rfl, rfl, by simp⟩
  case round =>
    obtain ⟨k, b, hk, rfl, rfl, hb⟩ := hrel
    have HB := Lib.hid hb
    clear hb
    by_cases hlt : k < xs.length
    · obtain ⟨ad, rfl, had, c0⟩ := si_at HS.out k hlt
      have HM := Lib.hid (mem_take_succ (i := i) hlt)
      cases b
      · by_cases he : xs[k] = i
        · have hq : (xs[k] == i) = true := beq_iff_eq.2 he
          have HE := Lib.hid he
          clear he
          go_wp2_with fail
          go_round
          case rel => exact ⟨k + 1, true, by omega, by go_num, rfl, by rw [HM.out]; simp [HE.out]⟩
          case measure => simp [intOf]; omega
        · have hq : (xs[k] == i) = false := beq_eq_false_iff_ne.2 he
          have HE := Lib.hid he
          clear he
          go_wp2_with fail
          go_round
          case rel => exact ⟨k + 1, false, by omega, by go_num, rfl, by rw [HM.out, ← HB.out]; simp [HE.out]⟩
          case measure => simp [intOf]; omega
      · go_wp2_with fail
        go_round
        case rel => exact ⟨k + 1, true, by omega, by go_num, rfl, by rw [HM.out, ← HB.out]; simp⟩
        case measure => simp [intOf]; omega
    · obtain rfl : k = xs.length := by omega
      have HA := Lib.hid (show b = true ↔ i ∈ xs by rw [HB.out, List.take_length])
      by_cases hr : RightI xs
      · have P1 := Lib.hid (fun w hs => Right_yes A c xs hr B w hs)
        have HR := Lib.hid hr
        clear hr
        cases b
        · go_wp2_with fail
          refine (P1.out _ HS.out).mono ?_; rintro e w1 ⟨rfl, hd⟩; have HD := Lib.hid hd; clear hd
          go_wp2_with fail
          go_ret2
          exact ⟨⟨fun h => absurd (HA.out.2 h.2) (by simp), fun _ => rfl⟩, HD.out⟩
        · have hi := right_all HR.out i (HA.out.1 (by first | rfl | trivial))
          have P2 := Lib.hid (fun w hs => at_any A c xs hl (fun x hx => by have := right_all HR.out x hx; omega) i 0 (by omega) (by omega) B w hs)
          clear hi
          go_wp2_with fail
          refine (P1.out _ HS.out).mono ?_; rintro e w1 ⟨rfl, hd⟩; have HD := Lib.hid hd; clear hd
          go_wp2_with fail
          refine (P2.out _ (HD.out.si HS.out)).mono ?_; rintro e w' ⟨rfl, rfl⟩
          go_wp2_with fail
          go_ret2
          exact ⟨⟨fun _ => rfl, fun h => absurd ⟨HR.out, HA.out.1 (by first | rfl | trivial)⟩ h⟩, HD.out⟩
      · have P1 := Lib.hid (fun w hs => Right_no A c xs hr (by omega) B w hs)
        have HR := Lib.hid hr
        clear hr
        go_wp2_with fail
        refine (P1.out _ HS.out).mono ?_; rintro e w1 ⟨rfl, hd⟩; have HD := Lib.hid hd; clear hd
        go_wp2_with fail
        go_ret2
        exact ⟨⟨fun h => absurd h.1 HR.out, fun _ => rfl⟩, HD.out⟩

/-- Shares that may be joined. -/
def JoinI (ids : List Int) (l : List (Int × Int)) : Prop := RightI ids ∧ l.all (fun p => decide (p.2 < 1152921504606845789)) = true
/-- What Join tells. -/
def JoinE (ids : List Int) (l : List (Int × Int)) (e : Ending) : Prop := (l = [] → e = .returned (.tuple #[.int .u64 0, .int .i64 50])) ∧ (l ≠ [] → JoinI ids l → e = .returned (.tuple #[.int .u64 (jat ids 0 l), .int .i64 0])) ∧ (l ≠ [] → ¬ JoinI ids l → e = .returned (.tuple #[.int .u64 0, .int .i64 1]))

end Go.Proofs.YtlannmedefjfhaaGreat

/- Shares that a call has made: a row of them that is owned; the document's Public. -/
namespace Go.Proofs.YtlannmedefjfhaaGreat
open Go.ChangeShapes Go.WideShapes Go.ChangeAt Go.RowKit Gs
set_option linter.unusedVariables false

/-- The cells of shares. -/
def cells2 (l : List (Int × Int)) : List Value := l.flatMap fun p => [.int .i64 p.1, .int .u64 p.2]
theorem cells2_nil : cells2 [] = [] := rfl
theorem cells2_cons (p : Int × Int) (l : List (Int × Int)) : cells2 (p :: l) = .int .i64 p.1 :: .int .u64 p.2 :: cells2 l := rfl
theorem cells2_append (a b : List (Int × Int)) : cells2 (a ++ b) = cells2 a ++ cells2 b := by simp [cells2]
theorem cells2_length : ∀ l : List (Int × Int), (cells2 l).length = l.length * 2
  | [] => rfl
  | p :: l => by rw [cells2_cons]; simp [cells2_length l]; omega
theorem cells2_at : ∀ (l : List (Int × Int)) (j : Nat) (h : j < l.length), (cells2 l)[j * 2]? = some (.int .i64 l[j].1) ∧ (cells2 l)[j * 2 + 1]? = some (.int .u64 l[j].2)
  | p :: l, 0, _ => by simp [cells2_cons]
  | p :: l, j + 1, h => by
    have ih := cells2_at l j (by simpa using h)
    rw [cells2_cons, show (j + 1) * 2 = j * 2 + 1 + 1 by omega]
    simpa using ih
theorem cells2_one (l : List (Int × Int)) : ∀ u ∈ cells2 l, u.oneCell' = true := by
  intro u hu
  obtain ⟨p, _, hp⟩ := List.mem_flatMap.1 hu
  simp at hp
  rcases hp with rfl | rfl <;> rfl
/-- What a call has made: the slice value v owns the shares l, in blocks from B on. -/
def OwnS (w : World) (B : Nat) (v : Value) (l : List (Int × Int)) : Prop := w.ownsRow B 37 2 v l.length (cells2 l)
theorem own_s {w : World} {B n : Nat} {v : Value} {l : List (Int × Int)} {vs : List Value} (h : w.ownsRow B 37 2 v n vs) (hn : n = l.length) (hv : vs = cells2 l) : OwnS w B v l := by
  subst hn hv; exact h
theorem add_at (g j : Nat) : (Addr.mk g 0 none).add j = ⟨g, j, none⟩ := by
  unfold Addr.add
  split
  · rename_i hj; subst hj; rfl
  · simp
theorem own_sliceS {w : World} {B : Nat} {v : Value} {l : List (Int × Int)} (h : OwnS w B v l) : ∃ A c, v = .slice A l.length c ∧ l.length ≤ c ∧ c ≤ maxLen ∧ SS w w.heap.size A l ∧ ∀ ad, A = some ad → B ≤ ad.block := by
  have hge := own_ge h
  rcases h.2 with ⟨rfl, h0⟩ | ⟨g, cap, cur, rfl, hb, hg, hn, hc, _, _⟩
  · rw [h0]
    exact ⟨none, 0, rfl, Nat.le_refl _, by unfold maxLen; omega, fun j hj => by omega, fun ad e => by cases e⟩
  · refine ⟨some ⟨g, 0, none⟩, cap, rfl, hn, hc, fun j hj => ⟨_, rfl, (Array.getElem?_eq_some_iff.1 hg).1, ?_, ?_⟩, fun ad e => by cases e; exact hge _ rfl⟩
    · exact h.cells (g := g) rfl _ _ (cells2_at l j hj).1
    · have := h.cells (g := g) rfl _ _ (cells2_at l j hj).2
      rw [add_at] at this ⊢
      exact this
theorem Tryz.info37 : (Tryz.prog.info? 37).map (fun i => (i.zero, i.size, i.bytes)) = some (some (.agg #[.int .i64 0, .int .u64 0]), 2, 16) := by kernel_rfl
theorem own_noneS (w : World) {B : Nat} (hB : B ≤ w.heap.size) : OwnS (w.alloc (.cells #[] 37)) B (.slice (some ⟨w.heap.size, 0, none⟩) 0 0) [] :=
  ⟨rfl, .inr ⟨_, 0, #[], rfl, hB, World.alloc_heap_new w _, Nat.le_refl _, by unfold maxLen; omega, rfl, rfl⟩⟩
/-- A new block of shares is read. -/
theorem reads_new {w : World} {g : Nat} {t : TypeId} {l : List (Int × Int)} (h : Blk w g t (cells2 l).toArray) (n : Nat) (hn : l.length = n) : Reads w w.heap.size 2 (some ⟨g, 0, none⟩) n (cells2 l) := by
  subst hn
  refine ⟨cells2_length l, fun _ => ⟨_, rfl, h.lt, fun j u hu => ?_⟩⟩
  rw [add_at, h.cell j]
  simpa using hu
theorem pub_take (l : List (Int × Int)) (k : Nat) (h : k < l.length) : (l.map fun p => (p.1, qpow 4 p.2)).take (k + 1) = (l.map fun p => (p.1, qpow 4 p.2)).take k ++ [(l[k].1, qpow 4 l[k].2)] := by
  rw [List.take_succ_eq_append_getElem (by simpa using h)]; simp

/-- What Public tells. -/
def spubs (l : List (Int × Int)) : List (Int × Int) := l.map fun p => (p.1, qpow 4 p.2)
def PublicE (w0 : World) (ids : List Int) (l : List (Int × Int)) (e : Ending) (w : World) : Prop := (JoinI ids l → ∃ v, e = .returned (.tuple #[v, .int .i64 0]) ∧ OwnS w w0.heap.size v (spubs l)) ∧ (¬ JoinI ids l → e = .returned (.tuple #[.slice none 0 0, .int .i64 1]))

set_option maxRecDepth 100000 in
set_option maxHeartbeats 4000000 in
theorem refPublic_any (A : Option Addr) (c : Nat) (l : List (Int × Int)) (ids : List Int) (hids : l.map Prod.fst = ids) (hl : l.length ≤ 1048576) (hu : ∀ p ∈ l, 0 ≤ p.2 ∧ p.2 < 18446744073709551616) (w : World) (hs : SS w w.heap.size A l) :
    Calls Tryz.prog 39 #[.slice A l.length c] w fun e w' => PublicE w ids l e w' ∧ Below w.heap.size w w' := by
  have HS := Lib.hid hs
  have HU := Lib.hid hu
  have HN := Lib.hid (show ids.length = l.length by rw [← hids]; simp)
  have B0 := Lib.hid (Below.refl w.heap.size w)
  obtain ⟨i0, hi, hz0, hz1, hz2⟩ := info_parts Tryz.info37
  have HI := Lib.hid (And.intro hi (And.intro hz0 (And.intro hz1 hz2)))
  clear hi hz0 hz1 hz2 hs hu
  have P1 := Lib.hid (Ids_any A c l hl)
  rw [hids] at P1
  clear hids
  go_enter Tryz.func39, Tryz.ntmps39
  go_wp2_with fail
  refine (P1.out _ HS.out).mono ?_; rintro e w1 ⟨v, rfl, ho, b⟩
  obtain ⟨A', c', rfl, hc1, hc2, hs1, _⟩ := own_sliceI ho
  have HI1 := Lib.hid hs1
  have B1 := Lib.hid (below_on B0.out b)
  have HS1 := Lib.hid (HS.out.on B1.out)
  clear ho b hs1 P1
  by_cases hr : RightI ids
  · have P2 := Lib.hid (fun w hs => Right_yes A' c' ids hr w1.heap.size w hs)
    have HR := Lib.hid hr
    clear hr
    by_cases hb : l.all (fun p => decide (p.2 < 1152921504606845789)) = true
    · have HB := Lib.hid hb
      have P3 := Lib.hid (fun w hs => below_any A c l (by omega) w hs)
      rw [hb] at P3
      clear hb
      go_wp2_with fail
      refine (P2.out _ HI1.out).mono ?_; rintro e w2 ⟨rfl, hd⟩; have HD := Lib.hid hd; clear hd
      go_wp2_with fail
      refine (P3.out _ (HS1.out.on (HD.out.below _))).mono ?_; rintro e w' ⟨rfl, rfl⟩
      have B2 := Lib.hid (B1.out.trans (HD.out.below _))
      go_wp2_with fail
      go_loopw [4, 5] (fun o j wr => ∃ k : Nat, k ≤ l.length ∧ j = .int .i64 k ∧ OwnS wr w.heap.size o ((spubs l).take k) ∧ Below w.heap.size w wr) (fun _ j _ => l.length - (intOf j).toNat)
      case atStart => exact ⟨0, by omega, rfl, own_noneS _ B2.out.size, B2.out.alloc B2.out.size _⟩
      case round =>
        obtain ⟨k, hk, rfl, ho, hd⟩ := hrel
        have HE := Lib.hid hd
        have HO := Lib.hid ho
        have hz := hd.size
        clear hd ho
        by_cases hlt : k < l.length
        · obtain ⟨ad, rfl, had, c0, c1⟩ := (HS.out.below HE.out) k hlt
          have hx := HU.out l[k] (List.getElem_mem hlt)
          haveI : IsU l[k].2 := ⟨hx.1, hx.2⟩
          have HT := Lib.hid (pub_take l k hlt)
          have HLen := Lib.hid (show ((spubs l).take k).length = k by unfold spubs; rw [List.length_take, List.length_map, Nat.min_eq_left hk])
          have P4 := Lib.hid (ref_Base l[k].2)
          clear hx
          have HO2 := Lib.hid (show wr.ownsRow w.heap.size 37 2 _ k (cells2 ((spubs l).take k)) by have h := HO.out; unfold OwnS at h; rw [HLen.out] at h; exact h)
          have hbk : (ad.add (k * 2)).block < w.heap.size := by rw [block_of_add]; exact had
          go_wp2_with fail
          have hd : wr.heap.size ≤ wr.drew.heap.size := Nat.le_refl _
          go_region_held_law (fun w' => w'.cell? (ad.add (k * 2)) = some (.int .i64 l[k].1) ∧ w'.cell? ⟨(ad.add (k * 2)).block, (ad.add (k * 2)).off + 1, none⟩ = some (.int .u64 l[k].2)) (first | exact ⟨by assumption, by assumption⟩ | go_keep)
            (first
              | (go_at_call 50; refine (P4.out _).mono ?_; rintro e w' ⟨rfl, rfl⟩)
              | (refine step_append_any (by rfl) _ _ _ (by rfl) w.heap.size 37 i0 (.agg #[.int .i64 0, .int .u64 0]) 2 16 Tryz.underlying24 HI.out.1 HI.out.2.1 HI.out.2.2.1 HI.out.2.2.2 (by rfl) (by decide) _ k (cells2 ((spubs l).take k)) (by rfl) (own_below HO2.out ((Below.refl _ _).drew.alloc (Nat.le_refl _) _)) _ _ 1 _ (cells2 [(l[k].1, qpow 4 l[k].2)]) (by rfl) (reads_new (Blk.new_at _ _ _ (by rfl)) 1 rfl) (cells2_one _) (by unfold maxLen; omega) (by omega) (by simp; omega) ?_; intro v4 w4 ho4 hb4; have hX := ((Below.refl w.heap.size wr).drew.alloc hz _).trans hb4; have k0 := (hX.cell (p := ad.add (k * 2)) hbk).trans c0; have k1 := (hX.cell (p := ⟨(ad.add (k * 2)).block, (ad.add (k * 2)).off + 1, none⟩) hbk).trans c1))
          clear k0 k1
          have HX := Lib.hid hX
          have HO4 := Lib.hid ho4
          clear hX ho4 hb4
          go_wp2_with fail
          go_roundw
          case rel =>
            refine ⟨k + 1, by omega, by go_num, ?_, HE.out.trans HX.out⟩
            have h := HO4.out
            rw [← cells2_append] at h
            rw [show (spubs l).take (k + 1) = (spubs l).take k ++ [(l[k].1, qpow 4 l[k].2)] from HT.out]
            exact own_s h (by rw [List.length_append, HLen.out]; rfl) rfl
          case measure => simp [intOf]; omega
        · obtain rfl : k = l.length := by omega
          have HT := Lib.hid (show (spubs l).take l.length = spubs l by rw [List.take_of_length_le (by unfold spubs; simp)])
          go_wp2_with fail
          go_ret2
          refine ⟨⟨fun _ => ⟨_, rfl, by rw [← HT.out]; exact HO.out⟩, fun h => absurd ⟨HR.out, HB.out⟩ h⟩, HE.out⟩
    · have HB := Lib.hid hb
      have P3 := Lib.hid (fun w hs => below_any A c l (by omega) w hs)
      rw [Bool.eq_false_iff.2 hb] at P3
      clear hb
      go_wp2_with fail
      refine (P2.out _ HI1.out).mono ?_; rintro e w2 ⟨rfl, hd⟩; have HD := Lib.hid hd; clear hd
      go_wp2_with fail
      refine (P3.out _ (HS1.out.on (HD.out.below _))).mono ?_; rintro e w' ⟨rfl, rfl⟩
      go_wp2_with fail
      go_ret2
      exact ⟨⟨fun h => absurd h.2 HB.out, fun _ => rfl⟩, B1.out.trans (HD.out.below _)⟩
  · have P2 := Lib.hid (fun w hs => Right_no A' c' ids hr (by rw [HN.out]; omega) w1.heap.size w hs)
    have HR := Lib.hid hr
    clear hr
    go_wp2_with fail
    refine (P2.out _ HI1.out).mono ?_; rintro e w2 ⟨rfl, hd⟩; have HD := Lib.hid hd; clear hd
    go_wp2_with fail
    go_ret2
    exact ⟨⟨fun h => absurd h.1 HR.out, fun _ => rfl⟩, B1.out.trans (HD.out.below _)⟩
end Go.Proofs.YtlannmedefjfhaaGreat

/- The document's own answer: whether public shares fit. -/
namespace Go.Proofs.YtlannmedefjfhaaGreat
open Go.ChangeShapes Go.WideShapes Go.ChangeAt Go.RowKit Gs
set_option linter.unusedVariables false

instance (ids : List Int) (x : Int) (l : List (Int × Int)) : IsU (qat ids x l) := ⟨(qat_b ids x l).1, by have := (qat_b ids x l).2; omega⟩
theorem SS.take {w : World} {B : Nat} {A : Option Addr} {l : List (Int × Int)} (h : SS w B A l) (n : Nat) : SS w B A (l.take n) := fun j hj => by
  have hj' : j < l.length := by rw [List.length_take] at hj; omega
  have := h j hj'
  rwa [List.getElem_take]
theorem Ids_n (A : Option Addr) (n c : Nat) (l : List (Int × Int)) (hn : l.length = n) (hl : n ≤ 1048576) (w : World) (hs : SS w w.heap.size A l) :
    Calls Tryz.prog 92 #[.slice A n c] w fun e w' => ∃ v', e = .returned v' ∧ OwnI w' w.heap.size v' (l.map Prod.fst) ∧ Below w.heap.size w w' := by
  subst hn
  exact Ids_any A c l hl w hs

/-- What was asked of Check may not be. -/
def BadArg (t : Int) (ids : List Int) : Prop := t < 1 ∨ 7 < t ∨ (1 ≤ ids.length ∧ ¬ RightI ids)
def Grp (l : List (Int × Int)) : Prop := ∀ i (h : i < l.length), qin l[i].2 = true
def Fits (t : Nat) (ids : List Int) (l : List (Int × Int)) : Prop := ∀ i (h : i < l.length), t ≤ i → qat (ids.take t) l[i].1 (l.take t) = l[i].2
/-- What Check tells. -/
structure CheckE (t : Int) (ids : List Int) (l : List (Int × Int)) (e : Ending) : Prop where
  bad : BadArg t ids → e = .returned (.int .i64 1)
  out : ¬ BadArg t ids → ¬ Grp l → e = .returned (.int .i64 1)
  few : ¬ BadArg t ids → Grp l → (l.length : Int) < t → e = .returned (.int .i64 50)
  part : ¬ BadArg t ids → Grp l → ¬ (l.length : Int) < t → ¬ Fits t.toNat ids l → e = .returned (.int .i64 60)
  ok : ¬ BadArg t ids → Grp l → ¬ (l.length : Int) < t → Fits t.toNat ids l → e = .returned (.int .i64 0)

theorem check_is {t : Int} {ids : List Int} {l : List (Int × Int)} {n : Int} (h : (n = 1 ∧ (BadArg t ids ∨ (¬ BadArg t ids ∧ ¬ Grp l))) ∨ (¬ BadArg t ids ∧ Grp l ∧ ((n = 50 ∧ (l.length : Int) < t) ∨ (¬ (l.length : Int) < t ∧ ((n = 60 ∧ ¬ Fits t.toNat ids l) ∨ (n = 0 ∧ Fits t.toNat ids l)))))) : CheckE t ids l (.returned (.int .i64 n)) := by
  rcases h with ⟨rfl, h | ⟨h1, h2⟩⟩ | ⟨h1, h2, ⟨rfl, h3⟩ | ⟨h3, ⟨rfl, h4⟩ | ⟨rfl, h4⟩⟩⟩
  · exact ⟨fun _ => rfl, fun g => absurd h g, fun g => absurd h g, fun g => absurd h g, fun g => absurd h g⟩
  · exact ⟨fun _ => rfl, fun _ _ => rfl, fun _ g => absurd g h2, fun _ g => absurd g h2, fun _ g => absurd g h2⟩
  · exact ⟨fun g => absurd g h1, fun _ g => absurd h2 g, fun _ _ _ => rfl, fun _ _ g => absurd h3 g, fun _ _ g => absurd h3 g⟩
  · exact ⟨fun g => absurd g h1, fun _ g => absurd h2 g, fun _ _ g => absurd g h3, fun _ _ _ _ => rfl, fun _ _ _ g => absurd g h4⟩
  · exact ⟨fun g => absurd g h1, fun _ g => absurd h2 g, fun _ _ g => absurd g h3, fun _ _ _ g => absurd h4 g, fun _ _ _ _ => rfl⟩

set_option maxHeartbeats 4000000 in
theorem refCheck_bad (t : Int) (A : Option Addr) (c : Nat) (l : List (Int × Int)) (ids : List Int) (hids : l.map Prod.fst = ids) (hl : l.length ≤ 1048576) (w : World) (hs : SS w w.heap.size A l) (hb : BadArg t ids) :
    Calls Tryz.prog 46 #[.int .i64 t, .slice A l.length c] w fun e w' => CheckE t ids l e ∧ Below w.heap.size w w' := by
  have HS := Lib.hid hs
  have HB := Lib.hid hb
  have B0 := Lib.hid (Below.refl w.heap.size w)
  have HN := Lib.hid (show ids.length = l.length by rw [← hids]; simp)
  clear hs
  by_cases h1 : t < 1
  · clear hb
    go_enter Tryz.func46, Tryz.ntmps46
    go_wp2_with fail
    go_ret
    exact ⟨check_is (.inl ⟨rfl, .inl HB.out⟩), B0.out⟩
  · by_cases h2 : 7 < t
    · clear hb
      go_enter Tryz.func46, Tryz.ntmps46
      go_wp2_with fail
      go_ret
      exact ⟨check_is (.inl ⟨rfl, .inl HB.out⟩), B0.out⟩
    · obtain ⟨h3, h4⟩ := (hb.resolve_left h1).resolve_left h2
      rw [HN.out] at h3
      have P1 := Lib.hid (Ids_any A c l hl)
      rw [hids] at P1
      have P2 := Lib.hid (fun A c B w hs => Right_no A c ids h4 (by rw [HN.out]; omega) B w hs)
      clear hb hids h4
      go_enter Tryz.func46, Tryz.ntmps46
      go_wp2_with fail
      refine (P1.out _ HS.out).mono ?_; rintro e w1 ⟨v, rfl, ho, b⟩
      obtain ⟨A', c', rfl, hc1, hc2, hs1, _⟩ := own_sliceI ho
      have HI1 := Lib.hid hs1
      have B1 := Lib.hid (below_on B0.out b)
      clear ho b hs1 P1
      go_wp2_with fail
      refine (P2.out A' c' _ _ HI1.out).mono ?_; rintro e w2 ⟨rfl, hd⟩; have HD := Lib.hid hd; clear hd
      go_wp2_with fail
      go_ret
      exact ⟨check_is (.inl ⟨rfl, .inl HB.out⟩), B1.out.trans (HD.out.below _)⟩

set_option maxHeartbeats 8000000 in
theorem refCheck_right (T : Nat) (A : Option Addr) (c : Nat) (l : List (Int × Int)) (ids : List Int) (hids : l.map Prod.fst = ids) (hl : l.length ≤ 7) (hlc : l.length ≤ c) (hu : ∀ p ∈ l, 0 ≤ p.2 ∧ p.2 < 18446744073709551616) (w : World) (hs : SS w w.heap.size A l) (hb : ¬ BadArg (T : Int) ids) :
    Calls Tryz.prog 46 #[.int .i64 (T : Int), .slice A l.length c] w fun e w' => CheckE (T : Int) ids l e ∧ Below w.heap.size w w' := by
  have HS := Lib.hid hs
  have HB := Lib.hid hb
  have HU := Lib.hid hu
  have B0 := Lib.hid (Below.refl w.heap.size w)
  have HN := Lib.hid (show ids.length = l.length by rw [← hids]; simp)
  have HG := Lib.hid (show ∀ i (h : i < l.length), ids[i]? = some l[i].1 by rw [← hids]; intro i h; simp [h])
  have t1 : 1 ≤ T := by unfold BadArg at hb; omega
  have t7 : T ≤ 7 := by unfold BadArg at hb; omega
  have P1 := Lib.hid (Ids_any A c l (by omega))
  rw [hids] at P1
  have HR := Lib.hid (show 1 ≤ l.length → RightI ids from fun h => Classical.byContradiction fun g => hb (.inr (.inr ⟨by rw [HN.out]; exact h, g⟩)))
  have P5 := Lib.hid (Ids_n A T c (l.take T))
  rw [List.map_take, hids] at P5
  clear hs hu hb hids
  have hinv : ∀ w1, Below w.heap.size w w1 → (∀ i (h : i < l.length), True) → True := fun _ _ _ => trivial
  by_cases h0 : 1 ≤ l.length
  · have hr := HR.out h0
    have P2 := Lib.hid (fun A c B w hs => Right_yes A c ids hr B w hs)
    have HR' := Lib.hid hr
    clear hr hinv
    go_enter Tryz.func46, Tryz.ntmps46
    go_wp2_with fail
    refine (P1.out _ HS.out).mono ?_; rintro e w1 ⟨v, rfl, ho, b⟩
    obtain ⟨A', c', rfl, hc1, hc2, hs1, _⟩ := own_sliceI ho
    have HI1 := Lib.hid hs1
    have B1 := Lib.hid (below_on B0.out b)
    clear ho b hs1 P1
    go_wp2_with fail
    refine (P2.out A' c' _ _ HI1.out).mono ?_; rintro e w2 ⟨rfl, hd⟩; have B2 := Lib.hid (B1.out.trans (hd.below _)); clear hd
    go_wp2_with fail
    go_loop [5] (fun j => ∃ k : Nat, k ≤ l.length ∧ j = .int .i64 k ∧ ∀ i (h : i < l.length), i < k → qin l[i].2 = true) (fun j => l.length - (intOf j).toNat)
    case atStart => exact ⟨0, by omega, rfl, fun i h g => by omega⟩
    case round =>
      obtain ⟨k, hk, rfl, hq⟩ := hrel
      have HQ := Lib.hid hq
      clear hq
      by_cases hlt : k < l.length
      · obtain ⟨ad, rfl, had, c0, c1⟩ := (HS.out.on B2.out) k hlt
        have hx := HU.out l[k] (List.getElem_mem hlt)
        haveI : IsU l[k].2 := ⟨hx.1, hx.2⟩
        have P3 := Lib.hid (ref_In l[k].2)
        clear hx
        by_cases hi : qin l[k].2 = true
        · rw [hi] at P3
          have HI := Lib.hid hi
          clear hi
          go_wp2_with fail
          refine (P3.out _).mono ?_; rintro e w' ⟨rfl, rfl⟩
          go_wp2_with fail
          go_round
          case rel =>
            refine ⟨k + 1, by omega, by go_num, fun i h g => ?_⟩
            by_cases e : i = k
            · subst e; exact HI.out
            · exact HQ.out i h (by omega)
          case measure => simp [intOf]; omega
        · rw [Bool.eq_false_iff.2 hi] at P3
          have HI := Lib.hid hi
          clear hi
          go_wp2_with fail
          refine (P3.out _).mono ?_; rintro e w' ⟨rfl, rfl⟩
          go_wp2_with fail
          go_ret
          exact ⟨check_is (.inl ⟨rfl, .inr ⟨HB.out, fun h => HI.out (h k hlt)⟩⟩), B2.out⟩
      · obtain rfl : k = l.length := by omega
        have HQ' := Lib.hid (show Grp l from fun i h => HQ.out i h h)
        clear HQ
        by_cases ht : (l.length : Int) < T
        · go_wp2_with fail
          go_ret
          exact ⟨check_is (.inr ⟨HB.out, HQ'.out, .inl ⟨rfl, ht⟩⟩), B2.out⟩
        · go_wp2_with fail
          refine (P5.out (by rw [List.length_take]; omega) (by omega) _ ((HS.out.on B2.out).take T)).mono ?_; rintro e w3 ⟨v, rfl, ho, b⟩
          obtain ⟨A2, c2, rfl, hd1, hd2, hs3, _⟩ := own_sliceI ho
          have HI3 := Lib.hid hs3
          have B3 := Lib.hid (below_on B2.out b)
          have HL := Lib.hid (show (ids.take T).length = T by rw [List.length_take, HN.out]; omega)
          have HS3 := Lib.hid (HS.out.on B3.out)
          clear ho b hs3 P5 P2 HI1
          rw [HL.out]
          go_wp2_with fail
          go_loopw [7] (fun j wr => ∃ i : Nat, T ≤ i ∧ i ≤ l.length ∧ j = .int .i64 i ∧ (∀ i' (h : i' < l.length), T ≤ i' → i' < i → qat (ids.take T) l[i'].1 (l.take T) = l[i'].2) ∧ Dr w3 wr) (fun j _ => l.length - (intOf j).toNat)
          case atStart => exact ⟨T, by omega, by omega, rfl, fun i' h g g' => by omega, Dr.refl _⟩
          case round =>
            obtain ⟨i, hiT, hil, rfl, hq, hd⟩ := hrel
            have HQ2 := Lib.hid hq
            have HD := Lib.hid hd
            clear hq hd
            by_cases hlt : i < l.length
            · have hxi := right_all HR'.out l[i].1 (List.mem_of_getElem? (HG.out i hlt))
              haveI : IsU l[i].1 := ⟨by omega, by omega⟩
              have hwi : IntKind.u64.wrap l[i].1 = l[i].1 := by rw [IntKind.wrap_u64]; omega
              clear hxi
              go_wp2_with fail
              go_loopw [8, 9] (fun o j wi => ∃ k : Nat, k ≤ T ∧ j = .int .i64 k ∧ o = .int .u64 (qat (ids.take T) l[i].1 (l.take k)) ∧ Dr w3 wi) (fun _ j _ => T - (intOf j).toNat)
              case atStart => exact ⟨0, by omega, rfl, rfl, HD.out⟩
              case round =>
                obtain ⟨k, hk, rfl, rfl, hd⟩ := hrel
                have HE := Lib.hid hd
                clear hd
                by_cases hkT : k < T
                · obtain ⟨ad, rfl, had, c0, c1⟩ := (HE.out.ss HS3.out) k (by omega)
                  obtain ⟨ad', e', _, c3, c4⟩ := (HE.out.ss HS3.out) i hlt
                  cases e'
                  obtain ⟨ad2, rfl, had2, c5⟩ := si_at (HE.out.si HI3.out) k (by rw [HL.out]; exact hkT)
                  have HK := Lib.hid (show (ids.take T)[k]'(by rw [HL.out]; exact hkT) = l[k].1 by
                    have h := HG.out k (by omega)
                    rw [List.getElem_take]
                    exact (List.getElem?_eq_some_iff.1 h).2)
                  rw [HK.out] at c5
                  have hxk := right_all HR'.out l[k].1 (List.mem_of_getElem? (HG.out k (by omega)))
                  have hu := HU.out l[k] (List.getElem_mem (by omega))
                  haveI : IsU l[k].2 := ⟨hu.1, hu.2⟩
                  have HT := Lib.hid (qat_take (ids.take T) l[i].1 l k (by omega))
                  have P6 := Lib.hid (fun w hs => at_any (some ad2) c2 (ids.take T) (by rw [HL.out]; omega) (fun x hx => by have := right_all HR'.out x (List.mem_of_mem_take hx); omega) l[k].1 l[i].1 (by omega) (by omega) w3.heap.size w hs)
                  rw [HL.out] at P6
                  have P7 := Lib.hid (ref_Pow l[k].2 (wat (ids.take T) l[k].1 l[i].1))
                  have P8 := Lib.hid (ref_Mul (qat (ids.take T) l[i].1 (l.take k)) (qpow l[k].2 (wat (ids.take T) l[k].1 l[i].1)))
                  clear hxk hu
                  go_wp2_with fail
                  go_quiet ((first | (go_at_call 100; exact quiet_eq (P6.out _ (Dr.si (HE.out.drewN _) HI3.out))) | (go_at_call 66; exact quiet_eq (P7.out _)) | (go_at_call 65; exact quiet_eq (P8.out _))))
                  go_wp2_with fail
                  go_roundw
                  case rel => exact ⟨k + 1, by omega, by go_num, by rw [HT.out]; rfl, HE.out.drewN _⟩
                  case measure => simp [intOf]; omega
                · obtain rfl : k = T := by omega
                  obtain ⟨ad, rfl, had, c3, c4⟩ := (HE.out.ss HS3.out) i hlt
                  by_cases he : qat (ids.take k) l[i].1 (l.take k) = l[i].2
                  · have hqe : (qat (ids.take k) l[i].1 (l.take k) != l[i].2) = false := by simp [he]
                    have HE2 := Lib.hid he
                    clear he
                    go_wp2_with fail
                    go_roundw
                    case rel =>
                      refine ⟨i + 1, by omega, by omega, by go_num, fun i' h g g' => ?_, HE.out⟩
                      by_cases e : i' = i
                      · subst e; exact HE2.out
                      · exact HQ2.out i' h g (by omega)
                    case measure => simp [intOf]; omega
                  · have hqe : (qat (ids.take k) l[i].1 (l.take k) != l[i].2) = true := by simp [he]
                    have HE2 := Lib.hid he
                    clear he
                    go_wp2_with fail
                    go_ret
                    exact ⟨check_is (.inr ⟨HB.out, HQ'.out, .inr ⟨by omega, .inl ⟨rfl, fun h => HE2.out (h i hlt hiT)⟩⟩⟩), B3.out.trans (HE.out.below _)⟩
            · obtain rfl : i = l.length := by omega
              go_wp2_with fail
              go_ret
              exact ⟨check_is (.inr ⟨HB.out, HQ'.out, .inr ⟨by omega, .inr ⟨rfl, fun i' h g => HQ2.out i' h g h⟩⟩⟩), B3.out.trans (HD.out.below _)⟩
  · obtain rfl : l = [] := List.length_eq_zero_iff.1 (by omega)
    clear hinv
    go_enter Tryz.func46, Tryz.ntmps46
    go_wp2_with fail
    refine wp_loop_rounds 1 ?_
    rw [rounds_succ]
    go_wp2_with fail
    go_ret
    exact ⟨check_is (.inr ⟨HB.out, fun i h => by simp at h, .inl ⟨rfl, by simp; omega⟩⟩), B0.out⟩
theorem refCheck_any (t : Int) (A : Option Addr) (c : Nat) (l : List (Int × Int)) (ids : List Int) (hids : l.map Prod.fst = ids) (hl : l.length ≤ 1048576) (hlc : l.length ≤ c) (hu : ∀ p ∈ l, 0 ≤ p.2 ∧ p.2 < 18446744073709551616) (w : World) (hs : SS w w.heap.size A l) :
    Calls Tryz.prog 46 #[.int .i64 t, .slice A l.length c] w fun e w' => CheckE t ids l e ∧ Below w.heap.size w w' := by
  by_cases hb : BadArg t ids
  · exact refCheck_bad t A c l ids hids hl w hs hb
  · have t1 : 1 ≤ t := by unfold BadArg at hb; omega
    obtain ⟨T, rfl⟩ := Int.eq_ofNat_of_zero_le (show 0 ≤ t by omega)
    have hn : ids.length = l.length := by rw [← hids]; simp
    have h7 : l.length ≤ 7 := by
      by_cases h : 1 ≤ ids.length
      · have hr : RightI ids := Classical.byContradiction fun g => hb (.inr (.inr ⟨h, g⟩))
        have := hr.2.1
        omega
      · omega
    exact refCheck_right T A c l ids hids h7 hlc hu w hs hb
end Go.Proofs.YtlannmedefjfhaaGreat

/- The document's own answers: the same shares; a secret split. -/
namespace Go.Proofs.YtlannmedefjfhaaGreat
open Go.ChangeShapes Go.WideShapes Go.ChangeAt Go.RowKit Gs
set_option linter.unusedVariables false

/-- The i-th coefficient behind the secret. -/
def coef (seed : List Int) (i : Nat) : Int := hof ⟨#[115, 104, 97, 114, 101]⟩ [seed, [(i : Int)]] 1152921504606845789
theorem coef_rb (seed : List Int) (i : Nat) : Rb (coef seed i) := hof_bound _ _ (by omega)
/-- The polynomial: its first k coefficients. -/
def cpoly (s : Int) (seed : List Int) (k : Nat) : List Int := (List.range k).map fun j => if j = 0 then s else coef seed j
theorem cpoly_length (s : Int) (seed : List Int) (k : Nat) : (cpoly s seed k).length = k := by simp [cpoly]
theorem cpoly_one (s : Int) (seed : List Int) : cpoly s seed 1 = [s] := rfl
theorem cpoly_succ (s : Int) (seed : List Int) (k : Nat) (h : 1 ≤ k) : cpoly s seed (k + 1) = cpoly s seed k ++ [coef seed k] := by
  unfold cpoly
  rw [List.range_succ, List.map_append, List.map_singleton, if_neg (by omega)]
theorem cpoly_rb {s : Int} (seed : List Int) (k : Nat) (h : Rb s) : ∀ x ∈ cpoly s seed k, Rb x := fun x hx => by
  obtain ⟨j, _, rfl⟩ := List.mem_map.1 hx
  show Rb (if j = 0 then s else coef seed j)
  split
  · exact h
  · exact coef_rb _ _
/-- The first n shares of a polynomial. -/
def csplit (c : List Int) (n : Nat) : List (Int × Int) := (List.range n).map fun (j : Nat) => ((j : Int) + 1, pval ((j : Int) + 1) c)
theorem csplit_length (c : List Int) (n : Nat) : (csplit c n).length = n := by simp [csplit]
theorem csplit_succ (c : List Int) (n : Nat) : csplit c (n + 1) = csplit c n ++ [((n : Int) + 1, pval ((n : Int) + 1) c)] := by
  unfold csplit
  rw [List.range_succ, List.map_append, List.map_singleton]
theorem share_parts (i : Nat) {xs : List Int} (hx : ∀ x ∈ xs, 0 ≤ x ∧ x < 256) (hl : xs.length ≤ 1000) (hi : i < 256) : Parts ⟨#[115, 104, 97, 114, 101]⟩ [xs, [(i : Int)]] :=
  ⟨by
    intro q hq
    simp only [List.mem_cons, List.not_mem_nil, or_false] at hq
    rcases hq with rfl | rfl
    · exact hx
    · intro x hx; simp at hx; omega, by simp [psz, ByteArray.size]; omega, by simp⟩
/-- A secret may be split. -/
def SplitI (s t n : Int) : Prop := 1 ≤ t ∧ t ≤ n ∧ n ≤ 7 ∧ s < 1152921504606845789

theorem refSplit_bad (s t n : Int) (s0 : 0 ≤ s) (h : ¬ SplitI s t n) (v : Value) (w : World) :
    Calls Tryz.prog 38 #[.int .u64 s, .int .i64 t, .int .i64 n, v] w fun e w' => e = .returned (.tuple #[.slice none 0 0, .int .i64 1]) ∧ w = w' := by
  have h : t < 1 ∨ (1 ≤ t ∧ n < t) ∨ (1 ≤ t ∧ t ≤ n ∧ 7 < n) ∨ (1 ≤ t ∧ t ≤ n ∧ n ≤ 7 ∧ 1152921504606845789 ≤ s) := by unfold SplitI at h; omega
  rcases h with h | ⟨h1, h2⟩ | ⟨h1, h2, h3⟩ | ⟨h1, h2, h3, h4⟩
  all_goals
    go_enter Tryz.func38, Tryz.ntmps38
    go_wp2_with fail
    go_ret2
    exact ⟨rfl, rfl⟩

theorem own_oneU (w : World) (x : Int) : w.heap.size = w.heap.size → (w.alloc (.cells #[.int .u64 x] 23)).ownsRow w.heap.size 23 1 (.slice (some ⟨w.heap.size, 0, none⟩) 1 1) 1 [.int .u64 x] := fun _ =>
  ⟨rfl, .inr ⟨_, 1, #[.int .u64 x], rfl, Nat.le_refl _, World.alloc_heap_new w _, Nat.le_refl _, by unfold maxLen; omega, rfl, rfl⟩⟩
theorem sli_one (w : World) (t : TypeId) (x : Int) : Sli (w.alloc (.cells #[.int .u8 x] t)) (.slice (some ⟨w.heap.size, 0, none⟩) 1 1) [x] :=
  ⟨_, 1, rfl, Nat.le_refl _, by unfold maxLen; omega, fun j hj => by
    obtain rfl : j = 0 := by simpa using hj
    exact ⟨_, rfl, (Blk.new_at w t #[.int .u8 x] rfl).lt, (Blk.new_at w t #[.int .u8 x] rfl).cell 0⟩⟩

set_option maxHeartbeats 8000000 in
theorem refSplit_ok (s : Int) (T n : Nat) (s0 : 0 ≤ s) (t1 : 1 ≤ T) (tn : T ≤ n) (n7 : n ≤ 7) (s1 : s < 1152921504606845789) (A : Option Addr) (c : Nat) (xs : List Int) (hx : ∀ x ∈ xs, 0 ≤ x ∧ x < 256) (hl : xs.length ≤ 1000) (hc : xs.length ≤ c) (hm : c ≤ maxLen) (w : World) (hs : SI w w.heap.size .u8 A xs) :
    Calls Tryz.prog 38 #[.int .u64 s, .int .i64 (T : Int), .int .i64 (n : Int), .slice A xs.length c] w fun e w' => ∃ v, e = .returned (.tuple #[v, .int .i64 0]) ∧ OwnS w' w.heap.size v (csplit (cpoly s xs T) n) ∧ Below w.heap.size w w' := by
  have V := Lib.hid (show Sli w (.slice A xs.length c) xs from ⟨A, c, rfl, hc, hm, hs⟩)
  have HX := Lib.hid hx
  obtain ⟨i0, hi, hz0, hz1, hz2⟩ := info_parts Tryz.info23
  have HI := Lib.hid (And.intro hi (And.intro hz0 (And.intro hz1 hz2)))
  obtain ⟨j0, hj, hy0, hy1, hy2⟩ := info_parts Tryz.info37
  have HJ := Lib.hid (And.intro hj (And.intro hy0 (And.intro hy1 hy2)))
  haveI : IsU 1152921504606845789 := ⟨by omega, by omega⟩
  clear hs hx hm hi hz0 hz1 hz2 hj hy0 hy1 hy2
  have q1 : decide ((T : Int) < 1) = false := decide_eq_false (by omega)
  have q2 : decide (n < T) = false := decide_eq_false (by omega)
  have q3 : decide ((7 : Int) < (n : Int)) = false := decide_eq_false (by omega)
  have q4 : decide (1152921504606845789 ≤ s) = false := decide_eq_false (by omega)
  go_enter Tryz.func38, Tryz.ntmps38
  go_wp2_with fail
  go_loopw [10, 11] (fun o j wr => ∃ k : Nat, 1 ≤ k ∧ k ≤ T ∧ j = .int .i64 k ∧ OwnU wr w.heap.size o (cpoly s xs k) ∧ Below w.heap.size w wr) (fun _ j _ => T - (intOf j).toNat)
  case atStart => exact ⟨1, by omega, t1, rfl, own_u (own_oneU w s rfl) rfl (by rw [cpoly_one]; rfl), (Below.refl _ _).alloc (Nat.le_refl _) _⟩
  case round =>
    obtain ⟨k, k1, hk, rfl, ho, hd⟩ := hrel
    have HO := Lib.hid ho
    have HD := Lib.hid hd
    have hz := hd.size
    clear ho hd
    by_cases hlt : k < T
    · have HP := Lib.hid (cpoly_succ s xs k k1)
      have HLen := Lib.hid (cpoly_length s xs k)
      have hwk : IntKind.u8.wrap (k : Int) = k := by rw [show IntKind.u8.wrap (k : Int) = (k : Int) % 256 from rfl]; omega
      have T1 := Lib.hid (fun A c' => refTagged_any ⟨#[115, 104, 97, 114, 101]⟩ A c' [xs, [(k : Int)]] (share_parts k HX.out hl (by omega)).byte (share_parts k HX.out hl (by omega)).len (share_parts k HX.out hl (by omega)).few)
      have M1 := Lib.hid (refNum_any (hst (coded (sbytes ⟨#[115, 104, 97, 114, 101]⟩) [xs, [(k : Int)]])).1 (hst (coded (sbytes ⟨#[115, 104, 97, 114, 101]⟩) [xs, [(k : Int)]])).2.1 1152921504606845789)
      rw [show hnum (hst (coded (sbytes ⟨#[115, 104, 97, 114, 101]⟩) [xs, [(k : Int)]])).1 (hst (coded (sbytes ⟨#[115, 104, 97, 114, 101]⟩) [xs, [(k : Int)]])).2.1 1152921504606845789 = coef xs k from rfl] at M1
      have V1 := Lib.hid (V.out.on HD.out)
      go_wp2_with fail
      refine (T1.out _ _ _ (sp2 (Blk.new_at (wr.alloc (.cells #[.int .u8 (k : Int)] 5)) _ _ (by simp)) (V1.out.on (((Below.refl _ _).alloc (Nat.le_refl _) _).alloc (by simp) _)) ((sli_one wr 5 k).on ((Below.refl _ _).alloc (Nat.le_refl _) _)))).mono ?_
      rintro e w1 ⟨rfl, b⟩
      have D1 := Lib.hid (below_on (((Below.refl wr.heap.size wr).alloc (Nat.le_refl _) _).alloc (by simp) _) b)
      clear b
      go_wp2_with fail
      refine (M1.out _).mono ?_; rintro e w2 ⟨rfl, b⟩
      have D2 := Lib.hid (below_on D1.out b)
      have HO2 := Lib.hid (own_below HO.out D2.out)
      have hz2 := D2.out.size
      clear b D1
      have HE := Lib.hid (HD.out.trans (D2.out.mono hz))
      go_wp2_with (at_builtin; refine wpList_append_own _ rfl _ _ 101 rfl w.heap.size 23 i0 (.int .u64 0) 1 8 Tryz.underlying101 HI.out.1 HI.out.2.1 HI.out.2.2.1 HI.out.2.2.2 rfl (by decide) _ _ _ rfl (HO2.out.alloc _) ⟨w2.heap.size, 0, none⟩ 1 1 [.int .u64 (coef xs k)] rfl rfl (cell_one_new _ _ _) (by simp [Value.oneCell']) (by rw [HLen.out]; unfold maxLen; omega) (by rw [HLen.out]; omega) (by simp; omega) ?_; intro v' w3 hown' hgrow _; have HO3 := Lib.hid hown'; have HG := Lib.hid hgrow; clear hown' hgrow)
      go_roundw
      case rel =>
        refine ⟨k + 1, by omega, by omega, by go_num, ?_, ?_⟩
        · rw [HP.out]
          exact own_u HO3.out (by simp) (by simp)
        · refine (HE.out.alloc (by omega) _).grown HG.out (by simp; omega) (fun g e => ?_)
          exact own_ge HO.out g e
      case measure => simp [intOf]; omega
    · obtain rfl : k = T := by omega
      obtain ⟨A1, c1, rfl, l1, m1, s1'⟩ := own_slice HO.out
      have HS1 := Lib.hid s1'
      have HLen := Lib.hid (cpoly_length s xs k)
      rw [HLen.out]
      have HRB := Lib.hid (cpoly_rb (s := s) xs k ⟨s0, s1⟩)
      clear s1' l1 m1
      obtain ⟨g0, hg0⟩ : ∃ g0, g0 = wr.heap.size := ⟨_, rfl⟩
      have hzg : w.heap.size ≤ g0 := by omega
      have HDg := Lib.hid HD.out
      rw [← hg0] at HS1
      have HS2 := Lib.hid (show ∀ wi, Below g0 wr wi → SI wi wi.heap.size .u64 A1 (cpoly s xs k) from fun wi h => (HS1.out.below h).more (by have := h.size; omega))
      go_wp2_with fail
      go_loopw [12, 13] (fun o j wi => ∃ m : Nat, m ≤ n ∧ j = .int .i64 ((m : Int) + 1) ∧ OwnS wi g0 o (csplit (cpoly s xs k) m) ∧ Below g0 wr wi) (fun _ j _ => (n + 1) - (intOf j).toNat)
      case atStart => exact ⟨0, by omega, rfl, own_noneS wr (by omega), (Below.refl _ _).alloc (by omega) _⟩
      case round =>
        obtain ⟨m, hm, rfl, ho, hd⟩ := hrel
        have HO5 := Lib.hid ho
        have HD5 := Lib.hid hd
        have hz5 := hd.size
        clear ho hd
        by_cases hmn : m < n
        · have HP := Lib.hid (csplit_succ (cpoly s xs k) m)
          have HL2 := Lib.hid (csplit_length (cpoly s xs k) m)
          have hwm : IntKind.u64.wrap ((m : Int) + 1) = (m : Int) + 1 := by rw [IntKind.wrap_u64]; omega
          haveI : IsU ((m : Int) + 1) := ⟨by omega, by omega⟩
          have P1 := Lib.hid (value_any A1 c1 (cpoly s xs k) (by rw [HLen.out]; omega) (fun x hx => by have := HRB.out x hx; unfold Rb at this; omega) ((m : Int) + 1))
          rw [HLen.out] at P1
          go_wp2_with fail
          refine (P1.out _ _ (HS2.out _ HD5.out)).mono ?_; rintro e w5 ⟨rfl, hd⟩
          have D5 := Lib.hid (hd.below wr.heap.size)
          have HO6 := Lib.hid (own_below HO5.out D5.out)
          have hz6 := D5.out.size
          clear hd
          go_wp2_with (at_builtin; refine wpList_append_any _ rfl _ _ 24 rfl g0 37 j0 (.agg #[.int .i64 0, .int .u64 0]) 2 16 Tryz.underlying24 HJ.out.1 HJ.out.2.1 HJ.out.2.2.1 HJ.out.2.2.2 rfl (by decide) _ _ _ rfl (own_below HO6.out ((Below.refl _ _).alloc (Nat.le_refl _) _)) _ _ 1 _ (cells2 [((m : Int) + 1, pval ((m : Int) + 1) (cpoly s xs k))]) rfl (reads_new (Blk.new_at w5 _ _ rfl) 1 rfl) (cells2_one _) (by rw [HL2.out]; unfold maxLen; omega) (by rw [HL2.out]; omega) (by simp; omega) ?_; intro v' w6 hown' hgrow _; have HO7 := Lib.hid hown'; have HG := Lib.hid hgrow; clear hown' hgrow)
          go_roundw
          case rel =>
            refine ⟨m + 1, by omega, by go_num, ?_, ?_⟩
            · rw [HP.out]
              have h := HO7.out
              rw [← cells2_append] at h
              exact own_s h (by simp) rfl
            · refine HD5.out.trans ((((D5.out.mono (by omega)).alloc (by omega) _).grown HG.out (by simp; omega) (fun g e => ?_)))
              exact own_ge HO5.out g e
          case measure => simp [intOf]; omega
        · obtain rfl : m = n := by omega
          go_wp2_with fail
          go_ret2
          exact ⟨_, rfl, Go.Joins.ownsRow_le HO5.out hzg, HDg.out.trans (HD5.out.mono hzg)⟩

/-- What Check tells is one number. -/
theorem check_told (t : Int) (ids : List Int) (l : List (Int × Int)) : ∃ n : Int, ∀ e, CheckE t ids l e → e = .returned (.int .i64 n) := by
  by_cases h1 : BadArg t ids
  · exact ⟨1, fun e h => h.bad h1⟩
  · by_cases h2 : Grp l
    · by_cases h3 : (l.length : Int) < t
      · exact ⟨50, fun e h => h.few h1 h2 h3⟩
      · by_cases h4 : Fits t.toNat ids l
        · exact ⟨0, fun e h => h.ok h1 h2 h3 h4⟩
        · exact ⟨60, fun e h => h.part h1 h2 h3 h4⟩
    · exact ⟨1, fun e h => h.out h1 h2⟩
end Go.Proofs.YtlannmedefjfhaaGreat
