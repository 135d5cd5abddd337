/- What goes through shares: ids, public ones, sums, products, tests. -/
import Derived.Test.YtgboijbnjjmmkaaShareQ2
namespace Go.Proofs.Ytgboijbnjjmmkaa
open Go.ChangeShapes Go.WideShapes Go.ChangeAt Go.RowKit Gs
set_option linter.unusedVariables false

set_option maxRecDepth 100000 in
set_option maxHeartbeats 4000000 in
theorem throughI_any (A : Option Addr) (n c : Nat) (l : List (Int × Int)) (hn : l.length = n) (hl : n ≤ 1048576)  (w : World) (hs : SS w w.heap.size A l)  :
    Calls Try.prog 70 #[.slice A n c, .slice none 0 0, .func (.func 71) #[] #[]] w fun e w' => ∃ v', e = .returned v' ∧ OwnI w' w.heap.size v' (l.map Prod.fst) ∧ Below w.heap.size w w' := by
  subst hn
  have HS := Lib.hid hs
  clear hs

  go_enter Try.func70, Try.ntmps70
  go_wp2_with fail
  go_loopw [1, 11] (fun b i wr => ∃ k : Nat, k ≤ l.length ∧ i = .int .i64 k ∧ OwnI wr w.heap.size b ((l.map Prod.fst).take k) ∧ Below w.heap.size w wr) (fun _ i _ => l.length - (intOf i).toNat)
  case atStart => exact ⟨0, by omega, rfl, own_nilI w _, Below.refl _ _⟩
  case round =>
    obtain ⟨k, hk, rfl, ho, hb⟩ := hrel
    have HO := Lib.hid ho
    have HB := Lib.hid hb
    have hz := hb.size
    clear ho hb
    by_cases hlt : k < l.length
    · obtain ⟨ad, rfl, had, c0, c1⟩ := (HS.out.below HB.out) k hlt
      have B1 := Lib.hid (HB.out.alloc hz (.cells #[.int .i64 l[k].1, .int .u64 l[k].2] 43))
      have D1 := Lib.hid ((Below.refl wr.heap.size wr).alloc (Nat.le_refl _) (.cells #[.int .i64 l[k].1, .int .u64 l[k].2] 43))
      have HLen := Lib.hid (show ((l.map Prod.fst).take k).length = k by rw [List.length_take, List.length_map, Nat.min_eq_left hk])
      have HT := Lib.hid (show (l.map Prod.fst).take (k + 1) = (l.map Prod.fst).take k ++ [l[k].1] by rw [List.take_succ_eq_append_getElem (by simpa using hlt)]; simp)
      have P := Lib.hid (fun v => takes_id v l[k] ((l.map Prod.fst).take k) (by rw [HLen.out]; omega) w.heap.size (wr.alloc (.cells #[.int .i64 l[k].1, .int .u64 l[k].2] 43)) B1.out.size)
      go_wp2_with fail
      refine (P.out _ (own_below HO.out D1.out)).mono ?_; rintro e w2 ⟨v', rfl, ho, hb⟩
      have HO2 := Lib.hid ho
      have B2 := Lib.hid (B1.out.trans hb)
      clear ho hb
      go_wp2_with fail
      go_roundw
      case rel => exact ⟨k + 1, by omega, by go_num, by rw [HT.out]; exact HO2.out, B2.out⟩
      case measure => simp [intOf]; omega
    · obtain rfl : k = l.length := by omega
      have HA := Lib.hid (show (l.map Prod.fst).take l.length = l.map Prod.fst by rw [List.take_of_length_le (by simp)])
      go_wp2_with fail
      go_ret
      exact ⟨_, rfl, by have h := HO.out; rwa [HA.out] at h, HB.out⟩

set_option maxRecDepth 100000 in
set_option maxHeartbeats 4000000 in
theorem throughS_any (A : Option Addr) (n c : Nat) (l : List (Int × Int)) (hn : l.length = n) (hl : n ≤ 1048576) (hu : ∀ p ∈ l, 0 ≤ p.2 ∧ p.2 < 18446744073709551616) (w : World) (hs : SS w w.heap.size A l)  :
    Calls Try.prog 42 #[.slice A n c, .slice none 0 0, .func (.func 43) #[] #[]] w fun e w' => ∃ v', e = .returned v' ∧ OwnS w' w.heap.size v' (spubs l) ∧ Below w.heap.size w w' := by
  subst hn
  have HS := Lib.hid hs
  clear hs
  have HU := Lib.hid hu
  clear hu
  go_enter Try.func42, Try.ntmps42
  go_wp2_with fail
  go_loopw [1, 11] (fun b i wr => ∃ k : Nat, k ≤ l.length ∧ i = .int .i64 k ∧ OwnS wr w.heap.size b ((spubs l).take k) ∧ Below w.heap.size w wr) (fun _ i _ => l.length - (intOf i).toNat)
  case atStart => exact ⟨0, by omega, rfl, own_nilS w _, Below.refl _ _⟩
  case round =>
    obtain ⟨k, hk, rfl, ho, hb⟩ := hrel
    have HO := Lib.hid ho
    have HB := Lib.hid hb
    have hz := hb.size
    clear ho hb
    by_cases hlt : k < l.length
    · obtain ⟨ad, rfl, had, c0, c1⟩ := (HS.out.below HB.out) k hlt
      have B1 := Lib.hid (HB.out.alloc hz (.cells #[.int .i64 l[k].1, .int .u64 l[k].2] 43))
      have D1 := Lib.hid ((Below.refl wr.heap.size wr).alloc (Nat.le_refl _) (.cells #[.int .i64 l[k].1, .int .u64 l[k].2] 43))
      have HLen := Lib.hid (show ((spubs l).take k).length = k by unfold spubs; rw [List.length_take, List.length_map, Nat.min_eq_left hk])
      have HT := Lib.hid (pub_take l k hlt)
      have P := Lib.hid (fun v => takes_pub v l[k] (HU.out _ (List.getElem_mem hlt)) ((spubs l).take k) (by rw [HLen.out]; omega) w.heap.size (wr.alloc (.cells #[.int .i64 l[k].1, .int .u64 l[k].2] 43)) B1.out.size)
      go_wp2_with fail
      refine (P.out _ (own_below HO.out D1.out)).mono ?_; rintro e w2 ⟨v', rfl, ho, hb⟩
      have HO2 := Lib.hid ho
      have B2 := Lib.hid (B1.out.trans hb)
      clear ho hb
      go_wp2_with fail
      go_roundw
      case rel => exact ⟨k + 1, by omega, by go_num, by unfold spubs at HO2 ⊢; rw [HT.out]; exact HO2.out, B2.out⟩
      case measure => simp [intOf]; omega
    · obtain rfl : k = l.length := by omega
      have HA := Lib.hid (show (spubs l).take l.length = spubs l by rw [List.take_of_length_le (by unfold spubs; simp)])
      go_wp2_with fail
      go_ret
      exact ⟨_, rfl, by have h := HO.out; rwa [HA.out] at h, HB.out⟩

set_option maxRecDepth 100000 in
set_option maxHeartbeats 4000000 in
theorem throughJ_any (A : Option Addr) (n c : Nat) (l : List (Int × Int)) (hn : l.length = n) (hl : n ≤ 1048576) (hu : ∀ p ∈ l, 0 ≤ p.2 ∧ p.2 < 18446744073709551616) (Bw Bi Bp : Nat) (pl : Int) (ids : List Int) (p0 : 0 ≤ pl) (p1 : pl < 9223372036854775808) (hr : RightI ids) (hm : ∀ p ∈ l, p.1 ∈ ids) (w : World) (hs : SS w w.heap.size A l) (hw : WBox w Bw Bi Bp ids pl) :
    Calls Try.prog 48 #[.slice A n c, .int .u64 0, .func (.func 49) #[] #[.pointer (some ⟨Bw, 0, none⟩)]] w fun e w' => e = .returned (.int .u64 (jat ids pl l)) ∧ Below w.heap.size w w' := by
  subst hn
  have HS := Lib.hid hs
  clear hs
  have HU := Lib.hid hu
  have HW := Lib.hid hw
  have HR := Lib.hid hr
  have HM := Lib.hid hm
  clear hu hw hr hm
  go_enter Try.func48, Try.ntmps48
  go_wp2_with fail
  go_loopw [1, 11] (fun b i wr => ∃ k : Nat, k ≤ l.length ∧ i = .int .i64 k ∧ b = .int .u64 (jat ids pl (l.take k)) ∧ Below w.heap.size w wr) (fun _ i _ => l.length - (intOf i).toNat)
  case atStart => exact ⟨0, by omega, rfl, rfl, Below.refl _ _⟩
  case round =>
    obtain ⟨k, hk, rfl, ho, hb⟩ := hrel
    have HO := Lib.hid ho
    have HB := Lib.hid hb
    have hz := hb.size
    clear ho hb
    by_cases hlt : k < l.length
    · obtain ⟨ad, rfl, had, c0, c1⟩ := (HS.out.below HB.out) k hlt
      have B1 := Lib.hid (HB.out.alloc hz (.cells #[.int .i64 l[k].1, .int .u64 l[k].2] 43))
      have D1 := Lib.hid ((Below.refl wr.heap.size wr).alloc (Nat.le_refl _) (.cells #[.int .i64 l[k].1, .int .u64 l[k].2] 43))
      obtain rfl := HO.out
      clear HO
      have hx := HU.out l[k] (List.getElem_mem hlt)
      haveI : IsU l[k].2 := ⟨hx.1, hx.2⟩
      have HT := Lib.hid (jat_take ids pl l k hlt)
      have P := Lib.hid (weighs Bw Bi Bp ids pl p0 p1 HR.out (jat ids pl (l.take k)) l[k] (HM.out _ (List.getElem_mem hlt)))
      clear hx
      go_wp2_with fail
      refine (P.out _ (HW.out.on B1.out)).mono ?_; rintro e w2 ⟨rfl, hb⟩
      have B2 := Lib.hid (B1.out.trans (hb.mono B1.out.size))
      clear hb
      go_wp2_with fail
      go_roundw
      case rel => exact ⟨k + 1, by omega, by go_num, by rw [HT.out]; rfl, B2.out⟩
      case measure => simp [intOf]; omega
    · obtain rfl : k = l.length := by omega
      obtain rfl := HO.out
      have HA := Lib.hid (List.take_length (l := l))
      rw [HA.out]
      go_wp2_with fail
      go_ret
      exact ⟨rfl, HB.out⟩

set_option maxRecDepth 100000 in
set_option maxHeartbeats 4000000 in
theorem throughQ_any (A : Option Addr) (n c : Nat) (l : List (Int × Int)) (hn : l.length = n) (hl : n ≤ 1048576) (hu : ∀ p ∈ l, 0 ≤ p.2 ∧ p.2 < 18446744073709551616) (Bw Bi Bp : Nat) (pl : Int) (ids : List Int) (p0 : 0 ≤ pl) (p1 : pl < 9223372036854775808) (hr : RightI ids) (hm : ∀ p ∈ l, p.1 ∈ ids) (w : World) (hs : SS w w.heap.size A l) (hw : WBox w Bw Bi Bp ids pl) :
    Calls Try.prog 48 #[.slice A n c, .int .u64 1, .func (.func 82) #[] #[.pointer (some ⟨Bw, 0, none⟩)]] w fun e w' => e = .returned (.int .u64 (qat ids pl l)) ∧ Below w.heap.size w w' := by
  subst hn
  have HS := Lib.hid hs
  clear hs
  have HU := Lib.hid hu
  have HW := Lib.hid hw
  have HR := Lib.hid hr
  have HM := Lib.hid hm
  clear hu hw hr hm
  go_enter Try.func48, Try.ntmps48
  go_wp2_with fail
  go_loopw [1, 11] (fun b i wr => ∃ k : Nat, k ≤ l.length ∧ i = .int .i64 k ∧ b = .int .u64 (qat ids pl (l.take k)) ∧ Below w.heap.size w wr) (fun _ i _ => l.length - (intOf i).toNat)
  case atStart => exact ⟨0, by omega, rfl, rfl, Below.refl _ _⟩
  case round =>
    obtain ⟨k, hk, rfl, ho, hb⟩ := hrel
    have HO := Lib.hid ho
    have HB := Lib.hid hb
    have hz := hb.size
    clear ho hb
    by_cases hlt : k < l.length
    · obtain ⟨ad, rfl, had, c0, c1⟩ := (HS.out.below HB.out) k hlt
      have B1 := Lib.hid (HB.out.alloc hz (.cells #[.int .i64 l[k].1, .int .u64 l[k].2] 43))
      have D1 := Lib.hid ((Below.refl wr.heap.size wr).alloc (Nat.le_refl _) (.cells #[.int .i64 l[k].1, .int .u64 l[k].2] 43))
      obtain rfl := HO.out
      clear HO
      have hx := HU.out l[k] (List.getElem_mem hlt)
      haveI : IsU l[k].2 := ⟨hx.1, hx.2⟩
      have HT := Lib.hid (qat_take ids pl l k hlt)
      have P := Lib.hid (weighs_q Bw Bi Bp ids pl p0 p1 HR.out (qat ids pl (l.take k)) l[k] (HM.out _ (List.getElem_mem hlt)))
      clear hx
      go_wp2_with fail
      refine (P.out _ (HW.out.on B1.out)).mono ?_; rintro e w2 ⟨rfl, hb⟩
      have B2 := Lib.hid (B1.out.trans (hb.mono B1.out.size))
      clear hb
      go_wp2_with fail
      go_roundw
      case rel => exact ⟨k + 1, by omega, by go_num, by rw [HT.out]; rfl, B2.out⟩
      case measure => simp [intOf]; omega
    · obtain rfl : k = l.length := by omega
      obtain rfl := HO.out
      have HA := Lib.hid (List.take_length (l := l))
      rw [HA.out]
      go_wp2_with fail
      go_ret
      exact ⟨rfl, HB.out⟩

set_option maxRecDepth 100000 in
set_option maxHeartbeats 4000000 in
theorem throughB_any (A : Option Addr) (n c : Nat) (l : List (Int × Int)) (hn : l.length = n) (hl : n ≤ 1048576) (hu : ∀ p ∈ l, 0 ≤ p.2 ∧ p.2 < 18446744073709551616) (Bw : Nat) (w : World) (hs : SS w w.heap.size A l) (hBw : Bw < w.heap.size) (hw : w.cell? ⟨Bw, 0, none⟩ = some (.func (.func 41) #[] #[])) :
    Calls Try.prog 72 #[.slice A n c, .bool true, .func (.func 73) #[] #[.pointer (some ⟨Bw, 0, none⟩)]] w fun e w' => e = .returned (.bool (l.all fun p => decide (p.2 < 1152921504606845789))) ∧ Below w.heap.size w w' := by
  subst hn
  have HS := Lib.hid hs
  clear hs
  have HU := Lib.hid hu
  have HW := Lib.hid hw
  clear hu hw
  go_enter Try.func72, Try.ntmps72
  go_wp2_with fail
  go_loopw [1, 11] (fun b i wr => ∃ k : Nat, k ≤ l.length ∧ i = .int .i64 k ∧ b = .bool ((l.take k).all fun p => decide (p.2 < 1152921504606845789)) ∧ Below w.heap.size w wr) (fun _ i _ => l.length - (intOf i).toNat)
  case atStart => exact ⟨0, by omega, rfl, rfl, Below.refl _ _⟩
  case round =>
    obtain ⟨k, hk, rfl, ho, hb⟩ := hrel
    have HO := Lib.hid ho
    have HB := Lib.hid hb
    have hz := hb.size
    clear ho hb
    by_cases hlt : k < l.length
    · obtain ⟨ad, rfl, had, c0, c1⟩ := (HS.out.below HB.out) k hlt
      have B1 := Lib.hid (HB.out.alloc hz (.cells #[.int .i64 l[k].1, .int .u64 l[k].2] 43))
      have D1 := Lib.hid ((Below.refl wr.heap.size wr).alloc (Nat.le_refl _) (.cells #[.int .i64 l[k].1, .int .u64 l[k].2] 43))
      obtain rfl := HO.out
      clear HO
      have hx := HU.out l[k] (List.getElem_mem hlt)
      haveI : IsU l[k].2 := ⟨hx.1, hx.2⟩
      have HT := Lib.hid (show (l.take (k + 1)).all (fun p => decide (p.2 < 1152921504606845789)) = ((l.take k).all (fun p => decide (p.2 < 1152921504606845789)) && (fun p : Int × Int => decide (p.2 < 1152921504606845789)) l[k]) by rw [List.take_succ_eq_append_getElem hlt, List.all_append]; simp)
      have P := Lib.hid (all_below Bw ((l.take k).all (fun p => decide (p.2 < 1152921504606845789))) l[k])
      have hz1 := B1.out.size
      have HW1 := Lib.hid ((B1.out.cell (p := ⟨Bw, 0, none⟩) hBw).trans HW.out)
      clear hx
      go_wp2_with fail
      refine (P.out _ (by omega) HW1.out).mono ?_; rintro e w2 ⟨rfl, hb⟩
      have B2 := Lib.hid (B1.out.trans (hb.mono B1.out.size))
      clear hb
      go_wp2_with fail
      go_roundw
      case rel => exact ⟨k + 1, by omega, by go_num, by rw [HT.out], B2.out⟩
      case measure => simp [intOf]; omega
    · obtain rfl : k = l.length := by omega
      obtain rfl := HO.out
      have HA := Lib.hid (List.take_length (l := l))
      rw [HA.out]
      go_wp2_with fail
      go_ret
      exact ⟨rfl, HB.out⟩

set_option maxRecDepth 100000 in
set_option maxHeartbeats 4000000 in
theorem throughIn_any (A : Option Addr) (n c : Nat) (l : List (Int × Int)) (hn : l.length = n) (hl : n ≤ 1048576) (hu : ∀ p ∈ l, 0 ≤ p.2 ∧ p.2 < 18446744073709551616) (Bw : Nat) (w : World) (hs : SS w w.heap.size A l) (hBw : Bw < w.heap.size) (hw : w.cell? ⟨Bw, 0, none⟩ = some (.func (.func 54) #[] #[])) :
    Calls Try.prog 72 #[.slice A n c, .bool true, .func (.func 73) #[] #[.pointer (some ⟨Bw, 0, none⟩)]] w fun e w' => e = .returned (.bool (l.all fun p => qin p.2)) ∧ Below w.heap.size w w' := by
  subst hn
  have HS := Lib.hid hs
  clear hs
  have HU := Lib.hid hu
  have HW := Lib.hid hw
  clear hu hw
  go_enter Try.func72, Try.ntmps72
  go_wp2_with fail
  go_loopw [1, 11] (fun b i wr => ∃ k : Nat, k ≤ l.length ∧ i = .int .i64 k ∧ b = .bool ((l.take k).all fun p => qin p.2) ∧ Below w.heap.size w wr) (fun _ i _ => l.length - (intOf i).toNat)
  case atStart => exact ⟨0, by omega, rfl, rfl, Below.refl _ _⟩
  case round =>
    obtain ⟨k, hk, rfl, ho, hb⟩ := hrel
    have HO := Lib.hid ho
    have HB := Lib.hid hb
    have hz := hb.size
    clear ho hb
    by_cases hlt : k < l.length
    · obtain ⟨ad, rfl, had, c0, c1⟩ := (HS.out.below HB.out) k hlt
      have B1 := Lib.hid (HB.out.alloc hz (.cells #[.int .i64 l[k].1, .int .u64 l[k].2] 43))
      have D1 := Lib.hid ((Below.refl wr.heap.size wr).alloc (Nat.le_refl _) (.cells #[.int .i64 l[k].1, .int .u64 l[k].2] 43))
      obtain rfl := HO.out
      clear HO
      have hx := HU.out l[k] (List.getElem_mem hlt)
      haveI : IsU l[k].2 := ⟨hx.1, hx.2⟩
      have HT := Lib.hid (show (l.take (k + 1)).all (fun p => qin p.2) = ((l.take k).all (fun p => qin p.2) && (fun p : Int × Int => qin p.2) l[k]) by rw [List.take_succ_eq_append_getElem hlt, List.all_append]; simp)
      have P := Lib.hid (all_in Bw ((l.take k).all (fun p => qin p.2)) l[k])
      have hz1 := B1.out.size
      have HW1 := Lib.hid ((B1.out.cell (p := ⟨Bw, 0, none⟩) hBw).trans HW.out)
      clear hx
      go_wp2_with fail
      refine (P.out _ (by omega) HW1.out).mono ?_; rintro e w2 ⟨rfl, hb⟩
      have B2 := Lib.hid (B1.out.trans (hb.mono B1.out.size))
      clear hb
      go_wp2_with fail
      go_roundw
      case rel => exact ⟨k + 1, by omega, by go_num, by rw [HT.out], B2.out⟩
      case measure => simp [intOf]; omega
    · obtain rfl : k = l.length := by omega
      obtain rfl := HO.out
      have HA := Lib.hid (List.take_length (l := l))
      rw [HA.out]
      go_wp2_with fail
      go_ret
      exact ⟨rfl, HB.out⟩
end Go.Proofs.Ytgboijbnjjmmkaa
