/- The document's own answers on shares: weights, values, what shares make. -/
import Derived.Test.YtgboijbnjjmmkaaShareA
import Derived.Test.YtgboijbnjjmmkaaShareNums
namespace Go.Proofs.Ytgboijbnjjmmkaa
open Go.ChangeShapes Go.WideShapes Go.ChangeAt Go.RowKit Gs
set_option linter.unusedVariables false

theorem rb_u {a : Int} (h : Rb a) : IsU a := ⟨h.1, by have := h.2; omega⟩
instance (ids : List Int) (i x : Int) : IsU (wat ids i x) := rb_u (wat_rb ids i x)
instance (ids : List Int) (x : Int) (l : List (Int × Int)) : IsU (jat ids x l) := rb_u (jat_rb ids x l)
instance (x : Int) (c : List Int) : IsU (pval x c) := rb_u (pval_rb x c)

set_option maxHeartbeats 2000000 in
theorem at_any (A : Option Addr) (c : Nat) (xs : List Int) (hl : xs.length ≤ 1048576) (hx : ∀ x ∈ xs, 0 ≤ x ∧ x < 9223372036854775808) (i x : Int) (i0 : 0 ≤ i) (i1 : i < 9223372036854775808) [hu : IsU x] (B : Nat) (w : World) (hs : SI w B .i64 A xs) :
    Calls Try.prog 52 #[.slice A xs.length c, .int .i64 i, .int .u64 x] w fun e w' => e = .returned (.int .u64 (wat xs i x)) ∧ w = w' := by
  have HS := Lib.hid hs
  have HX := Lib.hid hx
  haveI : IsU i := ⟨by omega, by omega⟩
  have hui : IntKind.u64.wrap i = i := by rw [IntKind.wrap_u64]; omega
  clear hs hx
  go_enter Try.func52, Try.ntmps52
  go_wp2_with fail
  go_loop [7, 8] (fun o j => ∃ k : Nat, k ≤ xs.length ∧ j = .int .i64 k ∧ o = .int .u64 (wat (xs.take k) i x)) (fun _ j => xs.length - (intOf j).toNat)
  case atStart => exact ⟨0, by omega, rfl, rfl⟩
  case round =>
    obtain ⟨k, hk, rfl, rfl⟩ := hrel
    by_cases hlt : k < xs.length
    · obtain ⟨ad, rfl, had, c0⟩ := si_at HS.out k hlt
      have HT := Lib.hid (wat_take xs i x k hlt)
      have hb := HX.out xs[k] (List.getElem_mem hlt)
      have b0 := hb.1
      have b1 := hb.2
      clear hb
      by_cases he : xs[k] = i
      · have hq : (xs[k] == i) = true := beq_iff_eq.2 he
        have HE := Lib.hid (show wat (xs.take (k + 1)) i x = wat (xs.take k) i x by rw [HT.out]; unfold wstep; rw [if_pos he])
        clear he
        go_wp2_with fail
        go_round
        case rel => exact ⟨k + 1, by omega, by go_num, by rw [HE.out]⟩
        case measure => simp [intOf]; omega
      · have hq : (xs[k] == i) = false := beq_eq_false_iff_ne.2 he
        haveI : IsU xs[k] := ⟨by omega, by omega⟩
        have hwk : IntKind.u64.wrap xs[k] = xs[k] := by rw [IntKind.wrap_u64]; omega
        have P1 := Lib.hid (ref_SubR i xs[k])
        have P2 := Lib.hid (ref_InvR (rsub i xs[k]))
        have P3 := Lib.hid (ref_SubR x xs[k])
        have P4 := Lib.hid (ref_MulR (rsub x xs[k]) (rinv (rsub i xs[k])))
        have P5 := Lib.hid (ref_MulR (wat (xs.take k) i x) (rmul (rsub x xs[k]) (rinv (rsub i xs[k]))))
        have HE := Lib.hid (show wat (xs.take (k + 1)) i x = rmul (wat (xs.take k) i x) (rmul (rsub x xs[k]) (rinv (rsub i xs[k]))) by rw [HT.out]; unfold wstep; rw [if_neg he])
        clear he
        go_wp2_with fail
        refine (P1.out _).mono ?_; rintro e w' ⟨rfl, rfl⟩
        go_wp2_with fail
        refine (P2.out _).mono ?_; rintro e w' ⟨rfl, rfl⟩
        go_wp2_with fail
        refine (P3.out _).mono ?_; rintro e w' ⟨rfl, rfl⟩
        go_wp2_with fail
        refine (P4.out _).mono ?_; rintro e w' ⟨rfl, rfl⟩
        go_wp2_with fail
        refine (P5.out _).mono ?_; rintro e w' ⟨rfl, rfl⟩
        go_wp2_with fail
        go_round
        case rel => exact ⟨k + 1, by omega, by go_num, by rw [HE.out]⟩
        case measure => simp [intOf]; omega
    · obtain rfl : k = xs.length := by omega
      have HA := Lib.hid (List.take_length (l := xs))
      rw [HA.out]
      go_wp2_with fail
      go_ret
      exact ⟨rfl, rfl⟩

theorem value_any (A : Option Addr) (c : Nat) (xs : List Int) (hl : xs.length ≤ 1048576) (hx : ∀ x ∈ xs, 0 ≤ x ∧ x < 18446744073709551616) (x : Int) [hu : IsU x] (B : Nat) (w : World) (hs : SI w B .u64 A xs) :
    Calls Try.prog 37 #[.slice A xs.length c, .int .u64 x] w fun e w' => e = .returned (.int .u64 (pval x xs)) ∧ Dr w w' := by
  have HX := Lib.hid hx
  have HS := Lib.hid hs
  clear hx hs
  go_enter Try.func37, Try.ntmps37
  go_wp2_with fail
  go_loopw [5, 6] (fun v i wr => ∃ k : Nat, k ≤ xs.length ∧ i = .int .i64 ((k : Int) - 1) ∧ v = .int .u64 (pval x (xs.drop k)) ∧ Dr w wr) (fun _ i _ => (intOf i + 1).toNat)
  case atStart => exact ⟨xs.length, by omega, rfl, by simp [pval], Dr.refl _⟩
  case round =>
    obtain ⟨k, hk, rfl, rfl, hdr⟩ := hrel
    have HD := Lib.hid hdr
    clear hdr
    by_cases hlt : 0 < k
    · obtain ⟨k, rfl⟩ : ∃ j, k = j + 1 := ⟨k - 1, by omega⟩
      obtain ⟨ad, rfl, hb, hc⟩ := si_at (HD.out.si HS.out) k (by omega)
      have hxk := HX.out xs[k] (List.getElem_mem _)
      haveI : IsU xs[k] := ⟨hxk.1, hxk.2⟩
      have HE := Lib.hid (pval_drop x xs k (by omega))
      have P1 := Lib.hid (ref_MulR (pval x (xs.drop (k + 1))) x)
      have P2 := Lib.hid (ref_AddR (rmul (pval x (xs.drop (k + 1))) x) xs[k])
      have ee : ((k + 1 : Nat) : Int) - 1 = k := by omega
      rw [ee]
      clear ee hxk
      go_wp2_with fail
      go_quiet ((first | (go_at_call 51; exact quiet_eq (P1.out _)) | (go_at_call 50; exact quiet_eq (P2.out _))))
      go_wp2_with fail
      go_roundw
      case rel => exact ⟨k, by omega, by go_num, by rw [HE.out], HD.out.drewN _⟩
      case measure => simp [intOf]
    · obtain rfl : k = 0 := by omega
      go_wp2_with fail
      go_ret
      exact ⟨rfl, HD.out⟩

theorem mem_take_succ {i : Int} {xs : List Int} {k : Nat} (h : k < xs.length) : i ∈ xs.take (k + 1) ↔ i ∈ xs.take k ∨ xs[k] = i := by
  rw [List.take_succ_eq_append_getElem h, List.mem_append, List.mem_singleton]
  exact or_congr Iff.rfl ⟨fun e => e.symm, fun e => e.symm⟩
/-- Whether the weight of one of ids is told. -/
def WeightI (xs : List Int) (i : Int) : Prop := RightI xs ∧ i ∈ xs
theorem right_all {xs : List Int} (h : RightI xs) : ∀ x ∈ xs, 1 ≤ x ∧ x < 1152921504606845789 := fun x hx => by
  obtain ⟨j, hj, rfl⟩ := List.getElem_of_mem hx
  exact (h.2.2 j hj).1
theorem right_pair {xs : List Int} (h : RightI xs) : xs.Pairwise (fun a b => a ≠ b) := by
  rw [List.pairwise_iff_getElem]
  intro i j hi hj hij
  exact (h.2.2 j hj).2 i hij
theorem right_apart {xs : List Int} (h : RightI xs) : Apart xs := apart_right (right_all h) (right_pair h)
/-- What Weight tells. -/
def WeightE (xs : List Int) (i : Int) (e : Ending) : Prop := (WeightI xs i → e = .returned (.tuple #[.int .u64 (wat xs i 0), .int .i64 0])) ∧ (¬ WeightI xs i → e = .returned (.tuple #[.int .u64 0, .int .i64 1]))

set_option maxHeartbeats 2000000 in
theorem refWeight_any (A : Option Addr) (c : Nat) (xs : List Int) (hl : xs.length ≤ 1048576) (i : Int) (B : Nat) (w : World) (hs : SI w B .i64 A xs) :
    Calls Try.prog 21 #[.slice A xs.length c, .int .i64 i] w fun e w' => WeightE xs i e ∧ Dr w w' := by
  have HS := Lib.hid hs
  haveI : IsU 0 := ⟨by omega, by omega⟩
  clear hs
  go_enter Try.func21, Try.ntmps21
  go_wp2_with fail
  go_loop [6, 7] (fun o j => ∃ (k : Nat) (b : Bool), k ≤ xs.length ∧ j = .int .i64 k ∧ o = .bool b ∧ (b = true ↔ i ∈ xs.take k)) (fun _ j => xs.length - (intOf j).toNat)
  case atStart => exact ⟨0, false, by omega, rfl, rfl, by simp⟩
  case round =>
    obtain ⟨k, b, hk, rfl, rfl, hb⟩ := hrel
    have HB := Lib.hid hb
    clear hb
    by_cases hlt : k < xs.length
    · obtain ⟨ad, rfl, had, c0⟩ := si_at HS.out k hlt
      have HM := Lib.hid (mem_take_succ (i := i) hlt)
      cases b
      · by_cases he : xs[k] = i
        · have hq : (xs[k] == i) = true := beq_iff_eq.2 he
          have HE := Lib.hid he
          clear he
          go_wp2_with fail
          go_round
          case rel => exact ⟨k + 1, true, by omega, by go_num, rfl, by rw [HM.out]; simp [HE.out]⟩
          case measure => simp [intOf]; omega
        · have hq : (xs[k] == i) = false := beq_eq_false_iff_ne.2 he
          have HE := Lib.hid he
          clear he
          go_wp2_with fail
          go_round
          case rel => exact ⟨k + 1, false, by omega, by go_num, rfl, by rw [HM.out, ← HB.out]; simp [HE.out]⟩
          case measure => simp [intOf]; omega
      · go_wp2_with fail
        go_round
        case rel => exact ⟨k + 1, true, by omega, by go_num, rfl, by rw [HM.out, ← HB.out]; simp⟩
        case measure => simp [intOf]; omega
    · obtain rfl : k = xs.length := by omega
      have HA := Lib.hid (show b = true ↔ i ∈ xs by rw [HB.out, List.take_length])
      by_cases hr : RightI xs
      · have P1 := Lib.hid (fun w hs => Right_yes A c xs hr B w hs)
        have HR := Lib.hid hr
        clear hr
        cases b
        · go_wp2_with fail
          refine (P1.out _ HS.out).mono ?_; rintro e w1 ⟨rfl, hd⟩; have HD := Lib.hid hd; clear hd
          go_wp2_with fail
          go_ret2
          exact ⟨⟨fun h => absurd (HA.out.2 h.2) (by simp), fun _ => rfl⟩, HD.out⟩
        · have hi := right_all HR.out i (HA.out.1 (by first | rfl | trivial))
          have P2 := Lib.hid (fun w hs => at_any A c xs hl (fun x hx => by have := right_all HR.out x hx; omega) i 0 (by omega) (by omega) B w hs)
          clear hi
          go_wp2_with fail
          refine (P1.out _ HS.out).mono ?_; rintro e w1 ⟨rfl, hd⟩; have HD := Lib.hid hd; clear hd
          go_wp2_with fail
          refine (P2.out _ (HD.out.si HS.out)).mono ?_; rintro e w' ⟨rfl, rfl⟩
          go_wp2_with fail
          go_ret2
          exact ⟨⟨fun _ => rfl, fun h => absurd ⟨HR.out, HA.out.1 (by first | rfl | trivial)⟩ h⟩, HD.out⟩
      · have P1 := Lib.hid (fun w hs => Right_no A c xs hr (by omega) B w hs)
        have HR := Lib.hid hr
        clear hr
        go_wp2_with fail
        refine (P1.out _ HS.out).mono ?_; rintro e w1 ⟨rfl, hd⟩; have HD := Lib.hid hd; clear hd
        go_wp2_with fail
        go_ret2
        exact ⟨⟨fun h => absurd h.1 HR.out, fun _ => rfl⟩, HD.out⟩

/-- Shares that may be joined. -/
def JoinI (ids : List Int) (l : List (Int × Int)) : Prop := RightI ids ∧ l.all (fun p => decide (p.2 < 1152921504606845789)) = true
/-- What Join tells. -/
def JoinE (ids : List Int) (l : List (Int × Int)) (e : Ending) : Prop := (l = [] → e = .returned (.tuple #[.int .u64 0, .int .i64 50])) ∧ (l ≠ [] → JoinI ids l → e = .returned (.tuple #[.int .u64 (jat ids 0 l), .int .i64 0])) ∧ (l ≠ [] → ¬ JoinI ids l → e = .returned (.tuple #[.int .u64 0, .int .i64 1]))

set_option maxHeartbeats 4000000 in
theorem refJoin_any (A : Option Addr) (c : Nat) (l : List (Int × Int)) (ids : List Int) (hids : l.map Prod.fst = ids) (hl : l.length ≤ 1048576) (hu : ∀ p ∈ l, 0 ≤ p.2 ∧ p.2 < 18446744073709551616) (w : World) (hs : SS w w.heap.size A l) :
    Calls Try.prog 19 #[.slice A l.length c] w fun e w' => JoinE ids l e ∧ Below w.heap.size w w' := by
  have HS := Lib.hid hs
  have HU := Lib.hid hu
  have HN := Lib.hid (show ids.length = l.length by rw [← hids]; simp)
  have HM := Lib.hid (show ∀ p ∈ l, p.1 ∈ ids by rw [← hids]; exact fun p hp => List.mem_map_of_mem hp)
  have B0 := Lib.hid (Below.refl w.heap.size w)
  haveI : IsU 0 := ⟨by omega, by omega⟩
  clear hs hu
  by_cases h0 : l = []
  · subst h0
    go_enter Try.func19, Try.ntmps19
    go_wp2_with fail
    go_ret2
    exact ⟨⟨fun _ => rfl, fun h => absurd rfl h, fun h => absurd rfl h⟩, B0.out⟩
  · have hz : ((l.length : Int) == 0) = false := beq_eq_false_iff_ne.2 (fun e => h0 (List.length_eq_zero_iff.1 (by omega)))
    have H0 := Lib.hid h0
    clear h0
    have P1 := Lib.hid (Ids_any A c l hl)
    rw [hids] at P1
    clear hids
    go_enter Try.func19, Try.ntmps19
    go_wp2_with fail
    refine (P1.out _ HS.out).mono ?_; rintro e w1 ⟨v, rfl, ho, b⟩
    obtain ⟨A', c', rfl, hc1, hc2, hs1, _⟩ := own_sliceI ho
    have HI := Lib.hid hs1
    have B1 := Lib.hid (below_on B0.out b)
    have HS1 := Lib.hid (HS.out.on B1.out)
    clear ho b hs1 P1
    by_cases hr : RightI ids
    · have P2 := Lib.hid (fun w hs => Right_yes A' c' ids hr w1.heap.size w hs)
      have HR := Lib.hid hr
      clear hr
      by_cases hb : l.all (fun p => decide (p.2 < 1152921504606845789)) = true
      · have HB := Lib.hid hb
        have P3 := Lib.hid (fun w hs => below_any A c l (by omega) w hs)
        rw [hb] at P3
        clear hb
        go_wp2_with fail
        refine (P2.out _ HI.out).mono ?_; rintro e w2 ⟨rfl, hd⟩; have HD := Lib.hid hd; clear hd
        go_wp2_with fail
        refine (P3.out _ (HS1.out.on (HD.out.below _))).mono ?_; rintro e w' ⟨rfl, rfl⟩
        go_wp2_with fail
        go_loopw [5, 6] (fun o j wr => ∃ k : Nat, k ≤ l.length ∧ j = .int .i64 k ∧ o = .int .u64 (jat ids 0 (l.take k)) ∧ Dr w1 wr) (fun _ j _ => l.length - (intOf j).toNat)
        case atStart => exact ⟨0, by omega, rfl, rfl, HD.out⟩
        case round =>
          obtain ⟨k, hk, rfl, rfl, hd⟩ := hrel
          have HE := Lib.hid hd
          clear hd
          by_cases hlt : k < l.length
          · obtain ⟨ad, rfl, had, c0, c1⟩ := (HE.out.ss HS1.out) k hlt
            have hi := right_all HR.out l[k].1 (HM.out _ (List.getElem_mem hlt))
            have hx := HU.out l[k] (List.getElem_mem hlt)
            haveI : IsU l[k].2 := ⟨hx.1, hx.2⟩
            have HT := Lib.hid (jat_take ids 0 l k hlt)
            have P4 := Lib.hid (fun w hs => at_any A' c' ids (by rw [HN.out]; omega) (fun x hx => by have := right_all HR.out x hx; omega) l[k].1 0 (by omega) (by omega) w1.heap.size w hs)
            have P5 := Lib.hid (ref_MulR l[k].2 (wat ids l[k].1 0))
            have P6 := Lib.hid (ref_AddR (jat ids 0 (l.take k)) (rmul l[k].2 (wat ids l[k].1 0)))
            clear hi hx
            go_wp2_with fail
            go_quiet ((first | (go_at_call 52; exact quiet_eq (P4.out _ (Dr.si (HE.out.drewN _) HI.out))) | (go_at_call 51; exact quiet_eq (P5.out _)) | (go_at_call 50; exact quiet_eq (P6.out _))))
            go_wp2_with fail
            go_roundw
            case rel => exact ⟨k + 1, by omega, by go_num, by rw [HT.out]; rfl, HE.out.drewN _⟩
            case measure => simp [intOf]; omega
          · obtain rfl : k = l.length := by omega
            have HT := Lib.hid (List.take_length (l := l))
            rw [HT.out]
            go_wp2_with fail
            go_ret2
            exact ⟨⟨fun h => absurd h H0.out, fun _ _ => rfl, fun _ h => absurd ⟨HR.out, HB.out⟩ h⟩, B1.out.trans (HE.out.below _)⟩
      · have HB := Lib.hid hb
        have P3 := Lib.hid (fun w hs => below_any A c l (by omega) w hs)
        rw [Bool.eq_false_iff.2 hb] at P3
        clear hb
        go_wp2_with fail
        refine (P2.out _ HI.out).mono ?_; rintro e w2 ⟨rfl, hd⟩; have HD := Lib.hid hd; clear hd
        go_wp2_with fail
        refine (P3.out _ (HS1.out.on (HD.out.below _))).mono ?_; rintro e w' ⟨rfl, rfl⟩
        go_wp2_with fail
        go_ret2
        exact ⟨⟨fun h => absurd h H0.out, fun _ h => absurd h.2 HB.out, fun _ _ => rfl⟩, B1.out.trans (HD.out.below _)⟩
    · have P2 := Lib.hid (fun w hs => Right_no A' c' ids hr (by rw [HN.out]; omega) w1.heap.size w hs)
      have HR := Lib.hid hr
      clear hr
      go_wp2_with fail
      refine (P2.out _ HI.out).mono ?_; rintro e w2 ⟨rfl, hd⟩; have HD := Lib.hid hd; clear hd
      go_wp2_with fail
      go_ret2
      exact ⟨⟨fun h => absurd h H0.out, fun _ h => absurd h.1 HR.out, fun _ _ => rfl⟩, B1.out.trans (HD.out.below _)⟩

end Go.Proofs.Ytgboijbnjjmmkaa
