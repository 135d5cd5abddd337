/- The document's own answer: whether public shares fit. -/
import Derived.Test.YtgboijbnjjmmkaaShareC
namespace Go.Proofs.Ytgboijbnjjmmkaa
open Go.ChangeShapes Go.WideShapes Go.ChangeAt Go.RowKit Gs
set_option linter.unusedVariables false

instance (ids : List Int) (x : Int) (l : List (Int × Int)) : IsU (qat ids x l) := ⟨(qat_b ids x l).1, by have := (qat_b ids x l).2; omega⟩
theorem SS.take {w : World} {B : Nat} {A : Option Addr} {l : List (Int × Int)} (h : SS w B A l) (n : Nat) : SS w B A (l.take n) := fun j hj => by
  have hj' : j < l.length := by rw [List.length_take] at hj; omega
  have := h j hj'
  rwa [List.getElem_take]
theorem Ids_n (A : Option Addr) (n c : Nat) (l : List (Int × Int)) (hn : l.length = n) (hl : n ≤ 1048576) (w : World) (hs : SS w w.heap.size A l) :
    Calls Try.prog 25 #[.slice A n c] w fun e w' => ∃ v', e = .returned v' ∧ OwnI w' w.heap.size v' (l.map Prod.fst) ∧ Below w.heap.size w w' := by
  subst hn
  exact Ids_any A c l hl w hs

/-- What was asked of Check may not be. -/
def BadArg (t : Int) (ids : List Int) : Prop := t < 1 ∨ 7 < t ∨ (1 ≤ ids.length ∧ ¬ RightI ids)
def Grp (l : List (Int × Int)) : Prop := ∀ i (h : i < l.length), qin l[i].2 = true
def Fits (t : Nat) (ids : List Int) (l : List (Int × Int)) : Prop := ∀ i (h : i < l.length), t ≤ i → qat (ids.take t) l[i].1 (l.take t) = l[i].2
/-- What Check tells. -/
structure CheckE (t : Int) (ids : List Int) (l : List (Int × Int)) (e : Ending) : Prop where
  bad : BadArg t ids → e = .returned (.int .i64 1)
  out : ¬ BadArg t ids → ¬ Grp l → e = .returned (.int .i64 1)
  few : ¬ BadArg t ids → Grp l → (l.length : Int) < t → e = .returned (.int .i64 50)
  part : ¬ BadArg t ids → Grp l → ¬ (l.length : Int) < t → ¬ Fits t.toNat ids l → e = .returned (.int .i64 60)
  ok : ¬ BadArg t ids → Grp l → ¬ (l.length : Int) < t → Fits t.toNat ids l → e = .returned (.int .i64 0)

theorem check_is {t : Int} {ids : List Int} {l : List (Int × Int)} {n : Int} (h : (n = 1 ∧ (BadArg t ids ∨ (¬ BadArg t ids ∧ ¬ Grp l))) ∨ (¬ BadArg t ids ∧ Grp l ∧ ((n = 50 ∧ (l.length : Int) < t) ∨ (¬ (l.length : Int) < t ∧ ((n = 60 ∧ ¬ Fits t.toNat ids l) ∨ (n = 0 ∧ Fits t.toNat ids l)))))) : CheckE t ids l (.returned (.int .i64 n)) := by
  rcases h with ⟨rfl, h | ⟨h1, h2⟩⟩ | ⟨h1, h2, ⟨rfl, h3⟩ | ⟨h3, ⟨rfl, h4⟩ | ⟨rfl, h4⟩⟩⟩
  · exact ⟨fun _ => rfl, fun g => absurd h g, fun g => absurd h g, fun g => absurd h g, fun g => absurd h g⟩
  · exact ⟨fun _ => rfl, fun _ _ => rfl, fun _ g => absurd g h2, fun _ g => absurd g h2, fun _ g => absurd g h2⟩
  · exact ⟨fun g => absurd g h1, fun _ g => absurd h2 g, fun _ _ _ => rfl, fun _ _ g => absurd h3 g, fun _ _ g => absurd h3 g⟩
  · exact ⟨fun g => absurd g h1, fun _ g => absurd h2 g, fun _ _ g => absurd g h3, fun _ _ _ _ => rfl, fun _ _ _ g => absurd g h4⟩
  · exact ⟨fun g => absurd g h1, fun _ g => absurd h2 g, fun _ _ g => absurd g h3, fun _ _ _ g => absurd h4 g, fun _ _ _ _ => rfl⟩

set_option maxHeartbeats 4000000 in
theorem refCheck_bad (t : Int) (A : Option Addr) (c : Nat) (l : List (Int × Int)) (ids : List Int) (hids : l.map Prod.fst = ids) (hl : l.length ≤ 1048576) (w : World) (hs : SS w w.heap.size A l) (hb : BadArg t ids) :
    Calls Try.prog 23 #[.int .i64 t, .slice A l.length c] w fun e w' => CheckE t ids l e ∧ Below w.heap.size w w' := by
  have HS := Lib.hid hs
  have HB := Lib.hid hb
  have B0 := Lib.hid (Below.refl w.heap.size w)
  have HN := Lib.hid (show ids.length = l.length by rw [← hids]; simp)
  clear hs
  by_cases h1 : t < 1
  · clear hb
    go_enter Try.func23, Try.ntmps23
    go_wp2_with fail
    go_ret
    exact ⟨check_is (.inl ⟨rfl, .inl HB.out⟩), B0.out⟩
  · by_cases h2 : 7 < t
    · clear hb
      go_enter Try.func23, Try.ntmps23
      go_wp2_with fail
      go_ret
      exact ⟨check_is (.inl ⟨rfl, .inl HB.out⟩), B0.out⟩
    · obtain ⟨h3, h4⟩ := (hb.resolve_left h1).resolve_left h2
      rw [HN.out] at h3
      have P1 := Lib.hid (Ids_any A c l hl)
      rw [hids] at P1
      have P2 := Lib.hid (fun A c B w hs => Right_no A c ids h4 (by rw [HN.out]; omega) B w hs)
      clear hb hids h4
      go_enter Try.func23, Try.ntmps23
      go_wp2_with fail
      refine (P1.out _ HS.out).mono ?_; rintro e w1 ⟨v, rfl, ho, b⟩
      obtain ⟨A', c', rfl, hc1, hc2, hs1, _⟩ := own_sliceI ho
      have HI1 := Lib.hid hs1
      have B1 := Lib.hid (below_on B0.out b)
      clear ho b hs1 P1
      go_wp2_with fail
      refine (P2.out A' c' _ _ HI1.out).mono ?_; rintro e w2 ⟨rfl, hd⟩; have HD := Lib.hid hd; clear hd
      go_wp2_with fail
      go_ret
      exact ⟨check_is (.inl ⟨rfl, .inl HB.out⟩), B1.out.trans (HD.out.below _)⟩

set_option maxHeartbeats 8000000 in
theorem refCheck_right (T : Nat) (A : Option Addr) (c : Nat) (l : List (Int × Int)) (ids : List Int) (hids : l.map Prod.fst = ids) (hl : l.length ≤ 7) (hlc : l.length ≤ c) (hu : ∀ p ∈ l, 0 ≤ p.2 ∧ p.2 < 18446744073709551616) (w : World) (hs : SS w w.heap.size A l) (hb : ¬ BadArg (T : Int) ids) :
    Calls Try.prog 23 #[.int .i64 (T : Int), .slice A l.length c] w fun e w' => CheckE (T : Int) ids l e ∧ Below w.heap.size w w' := by
  have HS := Lib.hid hs
  have HB := Lib.hid hb
  have HU := Lib.hid hu
  have B0 := Lib.hid (Below.refl w.heap.size w)
  have HN := Lib.hid (show ids.length = l.length by rw [← hids]; simp)
  have HG := Lib.hid (show ∀ i (h : i < l.length), ids[i]? = some l[i].1 by rw [← hids]; intro i h; simp [h])
  have t1 : 1 ≤ T := by unfold BadArg at hb; omega
  have t7 : T ≤ 7 := by unfold BadArg at hb; omega
  have P1 := Lib.hid (Ids_any A c l (by omega))
  rw [hids] at P1
  have HR := Lib.hid (show 1 ≤ l.length → RightI ids from fun h => Classical.byContradiction fun g => hb (.inr (.inr ⟨by rw [HN.out]; exact h, g⟩)))
  have P5 := Lib.hid (Ids_n A T c (l.take T))
  rw [List.map_take, hids] at P5
  clear hs hu hb hids
  have hinv : ∀ w1, Below w.heap.size w w1 → (∀ i (h : i < l.length), True) → True := fun _ _ _ => trivial
  by_cases h0 : 1 ≤ l.length
  · have hr := HR.out h0
    have P2 := Lib.hid (fun A c B w hs => Right_yes A c ids hr B w hs)
    have HR' := Lib.hid hr
    clear hr hinv
    go_enter Try.func23, Try.ntmps23
    go_wp2_with fail
    refine (P1.out _ HS.out).mono ?_; rintro e w1 ⟨v, rfl, ho, b⟩
    obtain ⟨A', c', rfl, hc1, hc2, hs1, _⟩ := own_sliceI ho
    have HI1 := Lib.hid hs1
    have B1 := Lib.hid (below_on B0.out b)
    clear ho b hs1 P1
    go_wp2_with fail
    refine (P2.out A' c' _ _ HI1.out).mono ?_; rintro e w2 ⟨rfl, hd⟩; have B2 := Lib.hid (B1.out.trans (hd.below _)); clear hd
    go_wp2_with fail
    go_loop [5] (fun j => ∃ k : Nat, k ≤ l.length ∧ j = .int .i64 k ∧ ∀ i (h : i < l.length), i < k → qin l[i].2 = true) (fun j => l.length - (intOf j).toNat)
    case atStart => exact ⟨0, by omega, rfl, fun i h g => by omega⟩
    case round =>
      obtain ⟨k, hk, rfl, hq⟩ := hrel
      have HQ := Lib.hid hq
      clear hq
      by_cases hlt : k < l.length
      · obtain ⟨ad, rfl, had, c0, c1⟩ := (HS.out.on B2.out) k hlt
        have hx := HU.out l[k] (List.getElem_mem hlt)
        haveI : IsU l[k].2 := ⟨hx.1, hx.2⟩
        have P3 := Lib.hid (ref_In l[k].2)
        clear hx
        by_cases hi : qin l[k].2 = true
        · rw [hi] at P3
          have HI := Lib.hid hi
          clear hi
          go_wp2_with fail
          refine (P3.out _).mono ?_; rintro e w' ⟨rfl, rfl⟩
          go_wp2_with fail
          go_round
          case rel =>
            refine ⟨k + 1, by omega, by go_num, fun i h g => ?_⟩
            by_cases e : i = k
            · subst e; exact HI.out
            · exact HQ.out i h (by omega)
          case measure => simp [intOf]; omega
        · rw [Bool.eq_false_iff.2 hi] at P3
          have HI := Lib.hid hi
          clear hi
          go_wp2_with fail
          refine (P3.out _).mono ?_; rintro e w' ⟨rfl, rfl⟩
          go_wp2_with fail
          go_ret
          exact ⟨check_is (.inl ⟨rfl, .inr ⟨HB.out, fun h => HI.out (h k hlt)⟩⟩), B2.out⟩
      · obtain rfl : k = l.length := by omega
        have HQ' := Lib.hid (show Grp l from fun i h => HQ.out i h h)
        clear HQ
        by_cases ht : (l.length : Int) < T
        · go_wp2_with fail
          go_ret
          exact ⟨check_is (.inr ⟨HB.out, HQ'.out, .inl ⟨rfl, ht⟩⟩), B2.out⟩
        · go_wp2_with fail
          refine (P5.out (by rw [List.length_take]; omega) (by omega) _ ((HS.out.on B2.out).take T)).mono ?_; rintro e w3 ⟨v, rfl, ho, b⟩
          obtain ⟨A2, c2, rfl, hd1, hd2, hs3, _⟩ := own_sliceI ho
          have HI3 := Lib.hid hs3
          have B3 := Lib.hid (below_on B2.out b)
          have HL := Lib.hid (show (ids.take T).length = T by rw [List.length_take, HN.out]; omega)
          have HS3 := Lib.hid (HS.out.on B3.out)
          clear ho b hs3 P5 P2 HI1
          rw [HL.out]
          go_wp2_with fail
          go_loopw [7] (fun j wr => ∃ i : Nat, T ≤ i ∧ i ≤ l.length ∧ j = .int .i64 i ∧ (∀ i' (h : i' < l.length), T ≤ i' → i' < i → qat (ids.take T) l[i'].1 (l.take T) = l[i'].2) ∧ Dr w3 wr) (fun j _ => l.length - (intOf j).toNat)
          case atStart => exact ⟨T, by omega, by omega, rfl, fun i' h g g' => by omega, Dr.refl _⟩
          case round =>
            obtain ⟨i, hiT, hil, rfl, hq, hd⟩ := hrel
            have HQ2 := Lib.hid hq
            have HD := Lib.hid hd
            clear hq hd
            by_cases hlt : i < l.length
            · have hxi := right_all HR'.out l[i].1 (List.mem_of_getElem? (HG.out i hlt))
              haveI : IsU l[i].1 := ⟨by omega, by omega⟩
              have hwi : IntKind.u64.wrap l[i].1 = l[i].1 := by rw [IntKind.wrap_u64]; omega
              clear hxi
              go_wp2_with fail
              go_loopw [8, 9] (fun o j wi => ∃ k : Nat, k ≤ T ∧ j = .int .i64 k ∧ o = .int .u64 (qat (ids.take T) l[i].1 (l.take k)) ∧ Dr w3 wi) (fun _ j _ => T - (intOf j).toNat)
              case atStart => exact ⟨0, by omega, rfl, rfl, HD.out⟩
              case round =>
                obtain ⟨k, hk, rfl, rfl, hd⟩ := hrel
                have HE := Lib.hid hd
                clear hd
                by_cases hkT : k < T
                · obtain ⟨ad, rfl, had, c0, c1⟩ := (HE.out.ss HS3.out) k (by omega)
                  obtain ⟨ad', e', _, c3, c4⟩ := (HE.out.ss HS3.out) i hlt
                  cases e'
                  obtain ⟨ad2, rfl, had2, c5⟩ := si_at (HE.out.si HI3.out) k (by rw [HL.out]; exact hkT)
                  have HK := Lib.hid (show (ids.take T)[k]'(by rw [HL.out]; exact hkT) = l[k].1 by
                    have h := HG.out k (by omega)
                    rw [List.getElem_take]
                    exact (List.getElem?_eq_some_iff.1 h).2)
                  rw [HK.out] at c5
                  have hxk := right_all HR'.out l[k].1 (List.mem_of_getElem? (HG.out k (by omega)))
                  have hu := HU.out l[k] (List.getElem_mem (by omega))
                  haveI : IsU l[k].2 := ⟨hu.1, hu.2⟩
                  have HT := Lib.hid (qat_take (ids.take T) l[i].1 l k (by omega))
                  have P6 := Lib.hid (fun w hs => at_any (some ad2) c2 (ids.take T) (by rw [HL.out]; omega) (fun x hx => by have := right_all HR'.out x (List.mem_of_mem_take hx); omega) l[k].1 l[i].1 (by omega) (by omega) w3.heap.size w hs)
                  rw [HL.out] at P6
                  have P7 := Lib.hid (ref_Pow l[k].2 (wat (ids.take T) l[k].1 l[i].1))
                  have P8 := Lib.hid (ref_Mul (qat (ids.take T) l[i].1 (l.take k)) (qpow l[k].2 (wat (ids.take T) l[k].1 l[i].1)))
                  clear hxk hu
                  go_wp2_with fail
                  go_quiet ((first | (go_at_call 52; exact quiet_eq (P6.out _ (Dr.si (HE.out.drewN _) HI3.out))) | (go_at_call 58; exact quiet_eq (P7.out _)) | (go_at_call 57; exact quiet_eq (P8.out _))))
                  go_wp2_with fail
                  go_roundw
                  case rel => exact ⟨k + 1, by omega, by go_num, by rw [HT.out]; rfl, HE.out.drewN _⟩
                  case measure => simp [intOf]; omega
                · obtain rfl : k = T := by omega
                  obtain ⟨ad, rfl, had, c3, c4⟩ := (HE.out.ss HS3.out) i hlt
                  by_cases he : qat (ids.take k) l[i].1 (l.take k) = l[i].2
                  · have hqe : (qat (ids.take k) l[i].1 (l.take k) != l[i].2) = false := by simp [he]
                    have HE2 := Lib.hid he
                    clear he
                    go_wp2_with fail
                    go_roundw
                    case rel =>
                      refine ⟨i + 1, by omega, by omega, by go_num, fun i' h g g' => ?_, HE.out⟩
                      by_cases e : i' = i
                      · subst e; exact HE2.out
                      · exact HQ2.out i' h g (by omega)
                    case measure => simp [intOf]; omega
                  · have hqe : (qat (ids.take k) l[i].1 (l.take k) != l[i].2) = true := by simp [he]
                    have HE2 := Lib.hid he
                    clear he
                    go_wp2_with fail
                    go_ret
                    exact ⟨check_is (.inr ⟨HB.out, HQ'.out, .inr ⟨by omega, .inl ⟨rfl, fun h => HE2.out (h i hlt hiT)⟩⟩⟩), B3.out.trans (HE.out.below _)⟩
            · obtain rfl : i = l.length := by omega
              go_wp2_with fail
              go_ret
              exact ⟨check_is (.inr ⟨HB.out, HQ'.out, .inr ⟨by omega, .inr ⟨rfl, fun i' h g => HQ2.out i' h g h⟩⟩⟩), B3.out.trans (HD.out.below _)⟩
  · obtain rfl : l = [] := List.length_eq_zero_iff.1 (by omega)
    clear hinv
    go_enter Try.func23, Try.ntmps23
    go_wp2_with fail
    refine wp_loop_rounds 1 ?_
    rw [rounds_succ]
    go_wp2_with fail
    go_ret
    exact ⟨check_is (.inr ⟨HB.out, fun i h => by simp at h, .inl ⟨rfl, by simp; omega⟩⟩), B0.out⟩
theorem refCheck_any (t : Int) (A : Option Addr) (c : Nat) (l : List (Int × Int)) (ids : List Int) (hids : l.map Prod.fst = ids) (hl : l.length ≤ 1048576) (hlc : l.length ≤ c) (hu : ∀ p ∈ l, 0 ≤ p.2 ∧ p.2 < 18446744073709551616) (w : World) (hs : SS w w.heap.size A l) :
    Calls Try.prog 23 #[.int .i64 t, .slice A l.length c] w fun e w' => CheckE t ids l e ∧ Below w.heap.size w w' := by
  by_cases hb : BadArg t ids
  · exact refCheck_bad t A c l ids hids hl w hs hb
  · have t1 : 1 ≤ t := by unfold BadArg at hb; omega
    obtain ⟨T, rfl⟩ := Int.eq_ofNat_of_zero_le (show 0 ≤ t by omega)
    have hn : ids.length = l.length := by rw [← hids]; simp
    have h7 : l.length ≤ 7 := by
      by_cases h : 1 ≤ ids.length
      · have hr : RightI ids := Classical.byContradiction fun g => hb (.inr (.inr ⟨h, g⟩))
        have := hr.2.1
        omega
      · omega
    exact refCheck_right T A c l ids hids h7 hlc hu w hs hb
end Go.Proofs.Ytgboijbnjjmmkaa
