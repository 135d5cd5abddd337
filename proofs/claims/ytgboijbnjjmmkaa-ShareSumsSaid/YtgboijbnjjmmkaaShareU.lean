/- What package share answers: a polynomial of a seed, shares of a secret, weights, what shares make, public shares. -/
import Derived.Test.YtgboijbnjjmmkaaShareT
import Derived.Test.YtgboijbnjjmmkaaShareV
namespace Go.Proofs.Ytgboijbnjjmmkaa
open Go.ChangeShapes Go.WideShapes Go.ChangeAt Go.RowKit Gs
set_option linter.unusedVariables false

set_option maxHeartbeats 4000000 in
theorem polynomial_any (s : Int) (T : Nat) (s0 : 0 ≤ s) (t1 : 1 ≤ T) (t7 : T ≤ 7) (s1 : s < 1152921504606845789) (A : Option Addr) (c : Nat) (xs : List Int) (hx : ∀ x ∈ xs, 0 ≤ x ∧ x < 256) (hl : xs.length ≤ 1000) (hc : xs.length ≤ c) (hm : c ≤ maxLen) (w : World) (hs : SI w w.heap.size .u8 A xs) :
    Calls Try.prog 33 #[.int .u64 s, .int .i64 (T : Int), .slice A xs.length c] w fun e w' => ∃ v, e = .returned v ∧ OwnU w' w.heap.size v (cpoly s xs T) ∧ Below w.heap.size w w' := by
  have V := Lib.hid (show Sli w (.slice A xs.length c) xs from ⟨A, c, rfl, hc, hm, hs⟩)
  have HX := Lib.hid hx
  obtain ⟨i0, hi, hz0, hz1, hz2⟩ := info_parts Try.info22
  have HI := Lib.hid (And.intro hi (And.intro hz0 (And.intro hz1 hz2)))
  haveI : IsU 1152921504606845789 := ⟨by omega, by omega⟩
  clear hs hx hm hi hz0 hz1 hz2
  go_enter Try.func33, Try.ntmps33
  go_wp2_with fail
  go_loopw [7, 8] (fun o j wr => ∃ k : Nat, 1 ≤ k ∧ k ≤ T ∧ j = .int .i64 k ∧ OwnU wr w.heap.size o (cpoly s xs k) ∧ Below w.heap.size w wr) (fun _ j _ => T - (intOf j).toNat)
  case atStart => exact ⟨1, by omega, t1, rfl, own_u (own_oneU w s rfl) rfl (by rw [cpoly_one]; rfl), (Below.refl _ _).alloc (Nat.le_refl _) _⟩
  case round =>
    obtain ⟨k, k1, hk, rfl, ho, hd⟩ := hrel
    have HO := Lib.hid ho
    have HD := Lib.hid hd
    have hz := hd.size
    clear ho hd
    by_cases hlt : k < T
    · have HP := Lib.hid (cpoly_succ s xs k k1)
      have HLen := Lib.hid (cpoly_length s xs k)
      have hwk : IntKind.u8.wrap (k : Int) = k := by rw [show IntKind.u8.wrap (k : Int) = (k : Int) % 256 from rfl]; omega
      have T1 := Lib.hid (fun A c' => Tagged_any ⟨#[115, 104, 97, 114, 101]⟩ A c' [xs, [(k : Int)]] (share_parts k HX.out hl (by omega)).byte (share_parts k HX.out hl (by omega)).len (share_parts k HX.out hl (by omega)).few)
      have M1 := Lib.hid (Num_any (hst (coded (sbytes ⟨#[115, 104, 97, 114, 101]⟩) [xs, [(k : Int)]])).1 (hst (coded (sbytes ⟨#[115, 104, 97, 114, 101]⟩) [xs, [(k : Int)]])).2.1 1152921504606845789)
      rw [show hnum (hst (coded (sbytes ⟨#[115, 104, 97, 114, 101]⟩) [xs, [(k : Int)]])).1 (hst (coded (sbytes ⟨#[115, 104, 97, 114, 101]⟩) [xs, [(k : Int)]])).2.1 1152921504606845789 = coef xs k from rfl] at M1
      have V1 := Lib.hid (V.out.on HD.out)
      go_wp2_with fail
      refine (T1.out _ _ _ (sp2 (Blk.new_at (wr.alloc (.cells #[.int .u8 (k : Int)] 5)) _ _ (by simp)) (V1.out.on (((Below.refl _ _).alloc (Nat.le_refl _) _).alloc (by simp) _)) ((sli_one wr 5 k).on ((Below.refl _ _).alloc (Nat.le_refl _) _)))).mono ?_
      rintro e w1 ⟨rfl, b⟩
      have D1 := Lib.hid (below_on (((Below.refl wr.heap.size wr).alloc (Nat.le_refl _) _).alloc (by simp) _) b)
      clear b
      go_wp2_with fail
      refine (M1.out _).mono ?_; rintro e w2 ⟨rfl, b⟩
      have D2 := Lib.hid (below_on D1.out b)
      have HO2 := Lib.hid (own_below HO.out D2.out)
      have hz2 := D2.out.size
      clear b D1
      have HE := Lib.hid (HD.out.trans (D2.out.mono hz))
      go_wp2_with (at_builtin; refine wpList_append_own _ rfl _ _ 52 rfl w.heap.size 22 i0 (.int .u64 0) 1 8 Try.underlying52 HI.out.1 HI.out.2.1 HI.out.2.2.1 HI.out.2.2.2 rfl (by decide) _ _ _ rfl (HO2.out.alloc _) ⟨w2.heap.size, 0, none⟩ 1 1 [.int .u64 (coef xs k)] rfl rfl (cell_one_new _ _ _) (by simp [Value.oneCell']) (by rw [HLen.out]; unfold maxLen; omega) (by rw [HLen.out]; omega) (by simp; omega) ?_; intro v' w3 hown' hgrow _; have HO3 := Lib.hid hown'; have HG := Lib.hid hgrow; clear hown' hgrow)
      go_roundw
      case rel =>
        refine ⟨k + 1, by omega, by omega, by go_num, ?_, ?_⟩
        · rw [HP.out]
          exact own_u HO3.out (by simp) (by simp)
        · refine (HE.out.alloc (by omega) _).grown HG.out (by simp; omega) (fun g e => ?_)
          exact own_ge HO.out g e
      case measure => simp [intOf]; omega
    · obtain rfl : k = T := by omega
      go_wp2_with fail
      go_ret
      exact ⟨_, rfl, HO.out, HD.out⟩

theorem Split_bad (s t n : Int) (s0 : 0 ≤ s) (h : ¬ SplitI s t n) (v : Value) (w : World) :
    Calls Try.prog 13 #[.int .u64 s, .int .i64 t, .int .i64 n, v] w fun e w' => e = .returned (.tuple #[.slice none 0 0, .int .i64 1]) ∧ Below w.heap.size w w' := by
  have h : t < 1 ∨ (1 ≤ t ∧ n < t) ∨ (1 ≤ t ∧ t ≤ n ∧ 7 < n) ∨ (1 ≤ t ∧ t ≤ n ∧ n ≤ 7 ∧ 1152921504606845789 ≤ s) := by unfold SplitI at h; omega
  rcases h with h | ⟨h1, h2⟩ | ⟨h1, h2, h3⟩ | ⟨h1, h2, h3, h4⟩
  all_goals
    go_enter Try.func13, Try.ntmps13
    go_wp2_with fail
    go_ret2
    exact ⟨rfl, Below.refl _ _⟩

set_option maxHeartbeats 8000000 in
theorem Split_ok (s : Int) (T n : Nat) (s0 : 0 ≤ s) (t1 : 1 ≤ T) (tn : T ≤ n) (n7 : n ≤ 7) (s1 : s < 1152921504606845789) (A : Option Addr) (c : Nat) (xs : List Int) (hx : ∀ x ∈ xs, 0 ≤ x ∧ x < 256) (hl : xs.length ≤ 1000) (hc : xs.length ≤ c) (hm : c ≤ maxLen) (w : World) (hs : SI w w.heap.size .u8 A xs) :
    Calls Try.prog 13 #[.int .u64 s, .int .i64 (T : Int), .int .i64 (n : Int), .slice A xs.length c] w fun e w' => ∃ v, e = .returned (.tuple #[v, .int .i64 0]) ∧ OwnS w' w.heap.size v (csplit (cpoly s xs T) n) ∧ Below w.heap.size w w' := by
  have P := Lib.hid (polynomial_any s T s0 t1 (by omega) s1 A c xs hx hl hc hm w hs)
  obtain ⟨j0, hj, hy0, hy1, hy2⟩ := info_parts Try.info43
  have HJ := Lib.hid (And.intro hj (And.intro hy0 (And.intro hy1 hy2)))
  have HLen := Lib.hid (cpoly_length s xs T)
  have HRB := Lib.hid (cpoly_rb (s := s) xs T ⟨s0, s1⟩)
  have q1 : decide ((T : Int) < 1) = false := decide_eq_false (by omega)
  have q2 : decide (n < T) = false := decide_eq_false (by omega)
  have q3 : decide ((7 : Int) < (n : Int)) = false := decide_eq_false (by omega)
  have q4 : decide (1152921504606845789 ≤ s) = false := decide_eq_false (by omega)
  clear hs hx hm hj hy0 hy1 hy2
  generalize cpoly s xs T = cc at P HLen HRB ⊢
  go_enter Try.func13, Try.ntmps13
  go_wp2_with fail
  refine P.out.mono ?_; rintro e w1 ⟨v, rfl, ho, hb⟩
  obtain ⟨A1, c1, rfl, l1, m1, s1'⟩ := own_slice ho
  have HS1 := Lib.hid s1'
  have HB1 := Lib.hid hb
  have hz1 := hb.size
  clear ho hb s1' l1 m1 P
  rw [HLen.out]
  go_wp2_with (at_make; refine wpList_make_own _ rfl _ _ 24 rfl w1.heap.size 43 j0 (.agg #[.int .i64 0, .int .u64 0]) 2 Try.underlying24 HJ.out.1 HJ.out.2.1 HJ.out.2.2.1 _ _ _ n rfl rfl (by omega) (by rw [HJ.out.2.2.2]; omega) (by unfold maxLen; omega) (by simp) ?_; intro w2 hown2 hgrow2; have HO2 := Lib.hid (own_s (l := []) hown2 rfl rfl); have HG2 := Lib.hid ((Below.refl w1.heap.size w1).grown hgrow2 (Nat.le_refl _) (by simp)); clear hown2 hgrow2)
  have HS2 := Lib.hid (show ∀ wi, Below w1.heap.size w1 wi → SI wi wi.heap.size .u64 A1 cc from fun wi h => HS1.out.on h)
  go_loopw [11, 12] (fun o j wi => ∃ m : Nat, m ≤ n ∧ j = .int .i64 ((m : Int) + 1) ∧ OwnS wi w1.heap.size o (csplit cc m) ∧ Below w1.heap.size w1 wi) (fun _ j _ => (n + 1) - (intOf j).toNat)
  case atStart => exact ⟨0, by omega, rfl, HO2.out, HG2.out⟩
  case round =>
    obtain ⟨m, hm, rfl, ho, hd⟩ := hrel
    have HO5 := Lib.hid ho
    have HD5 := Lib.hid hd
    have hz5 := hd.size
    clear ho hd
    by_cases hmn : m < n
    · have HP := Lib.hid (csplit_succ cc m)
      have HL2 := Lib.hid (csplit_length cc m)
      have hwm : IntKind.u64.wrap ((m : Int) + 1) = (m : Int) + 1 := by rw [IntKind.wrap_u64]; omega
      haveI : IsU ((m : Int) + 1) := ⟨by omega, by omega⟩
      have P1 := Lib.hid (value_any5 A1 T c1 cc HLen.out (by omega) (fun x hx => by have := HRB.out x hx; unfold Rb at this; omega) ((m : Int) + 1))
      go_wp2_with fail
      refine (P1.out _ (HS2.out _ HD5.out)).mono ?_; rintro e w5 ⟨rfl, hd⟩
      have D5 := Lib.hid hd
      have HO6 := Lib.hid (own_below HO5.out D5.out)
      have hz6 := D5.out.size
      clear hd
      go_wp2_with (at_builtin; refine wpList_append_any _ rfl _ _ 24 rfl w1.heap.size 43 j0 (.agg #[.int .i64 0, .int .u64 0]) 2 16 Try.underlying24 HJ.out.1 HJ.out.2.1 HJ.out.2.2.1 HJ.out.2.2.2 rfl (by decide) _ _ _ rfl (own_below HO6.out ((Below.refl _ _).alloc (Nat.le_refl _) _)) _ _ 1 _ (cells2 [((m : Int) + 1, pval ((m : Int) + 1) cc)]) rfl (reads_new (Blk.new_at w5 _ _ rfl) 1 rfl) (cells2_one _) (by rw [HL2.out]; unfold maxLen; omega) (by rw [HL2.out]; omega) (by simp; omega) ?_; intro v' w6 hown' hgrow _; have HO7 := Lib.hid hown'; have HG := Lib.hid hgrow; clear hown' hgrow)
      go_roundw
      case rel =>
        refine ⟨m + 1, by omega, by go_num, ?_, ?_⟩
        · rw [HP.out]
          have h := HO7.out
          rw [← cells2_append] at h
          exact own_s h (by simp) rfl
        · refine HD5.out.trans ((((D5.out.mono (by omega)).alloc (by omega) _).grown HG.out (by simp; omega) (fun g e => ?_)))
          exact own_ge HO5.out g e
      case measure => simp [intOf]; omega
    · obtain rfl : m = n := by omega
      go_wp2_with fail
      go_ret2
      exact ⟨_, rfl, Go.Joins.ownsRow_le HO5.out hz1, HB1.out.trans (HD5.out.mono hz1)⟩

set_option maxHeartbeats 4000000 in
theorem Weight_any (A : Option Addr) (c : Nat) (xs : List Int) (hl : xs.length ≤ 1048576) (hlc : xs.length ≤ c) (hm : c ≤ maxLen) (i : Int) (w : World) (hs : SI w w.heap.size .i64 A xs) :
    Calls Try.prog 20 #[.slice A xs.length c, .int .i64 i] w fun e w' => WeightE xs i e ∧ Below w.heap.size w w' := by
  have P1 := Lib.hid (right_any A c xs hl hlc _ w hs)
  have P2 := Lib.hid (Contains_any A xs.length c xs rfl hl i _ w hs)
  have P3 := Lib.hid (weights_any A xs.length c 0)
  have B0 := Lib.hid (Below.refl w.heap.size w)
  have HS := Lib.hid hs
  clear hs
  by_cases hr : RightI xs
  · have HR := Lib.hid hr
    by_cases hi : i ∈ xs
    · have hx : ∀ x ∈ xs, 0 ≤ x ∧ x < 9223372036854775808 := fun x hx => by have := right_all hr x hx; omega
      have HI := Lib.hid hi
      have ha := hx i hi
      have W1 := Lib.hid (fun Bi Bp w2 h1 h2 h3 h4 h5 => weigh_any Bi Bp A c xs hl hx i 0 ha.1 ha.2 (by omega) (by omega) (fun k hk e => apart_of (right_apart hr) hi hk (fun g => e g.symm)) w2 h1 h2 h3 h4 h5)
      clear hr hi hx ha
      go_enter Try.func20, Try.ntmps20
      go_wp2_with fail
      refine P1.out.mono ?_; rintro e w' ⟨⟨b, rfl, hb⟩, rfl⟩
      obtain rfl : b = true := hb.2 HR.out
      clear hb
      go_wp2_with fail
      refine P2.out.mono ?_; rintro e w' ⟨⟨b, rfl, hb⟩, rfl⟩
      obtain rfl : b = true := hb.2 HI.out
      clear hb
      go_wp2_with fail
      refine (P3.out _).mono ?_; rintro e w2 ⟨rfl, rfl⟩
      have B2 := Lib.hid (fun t1 t2 => ((B0.out.alloc (Nat.le_refl _) (.cells #[.slice A xs.length c] t1)).alloc (by simp) (.cells #[.int .i64 0] t2)))
      go_wp2_with fail
      refine (W1.out _ _ _ (by simp; omega) (by simp) (((Blk.new_at _ _ _ rfl).alloc _).cell 0) ((Blk.new_at _ _ _ (by simp)).cell 0) (HS.out.on (B2.out _ _))).mono ?_
      rintro e w3 ⟨rfl, b⟩
      have B3 := Lib.hid (below_on (B2.out 32 3) b)
      clear b
      go_wp2_with fail
      go_ret2
      exact ⟨⟨fun _ => rfl, fun h => absurd ⟨HR.out, HI.out⟩ h⟩, B3.out⟩
    · have HI := Lib.hid hi
      clear hr hi
      go_enter Try.func20, Try.ntmps20
      go_wp2_with fail
      refine P1.out.mono ?_; rintro e w' ⟨⟨b, rfl, hb⟩, rfl⟩
      obtain rfl : b = true := hb.2 HR.out
      clear hb
      go_wp2_with fail
      refine P2.out.mono ?_; rintro e w' ⟨⟨b, rfl, hb⟩, rfl⟩
      obtain rfl : b = false := Bool.eq_false_iff.2 (fun h => HI.out (hb.1 h))
      clear hb
      go_wp2_with fail
      go_ret2
      exact ⟨⟨fun h => absurd h.2 HI.out, fun _ => rfl⟩, B0.out⟩
  · have HR := Lib.hid hr
    clear hr
    go_enter Try.func20, Try.ntmps20
    go_wp2_with fail
    refine P1.out.mono ?_; rintro e w' ⟨⟨b, rfl, hb⟩, rfl⟩
    obtain rfl : b = false := Bool.eq_false_iff.2 (fun h => HR.out (hb.1 h))
    clear hb
    go_wp2_with fail
    go_ret2
    exact ⟨⟨fun h => absurd h.1 HR.out, fun _ => rfl⟩, B0.out⟩

set_option maxHeartbeats 8000000 in
theorem Join_any (A : Option Addr) (c : Nat) (l : List (Int × Int)) (ids : List Int) (hids : l.map Prod.fst = ids) (hl : l.length ≤ 1048576) (hlc : l.length ≤ c) (hm : c ≤ maxLen) (hu : ∀ p ∈ l, 0 ≤ p.2 ∧ p.2 < 18446744073709551616) (w : World) (hs : SS w w.heap.size A l) :
    Calls Try.prog 18 #[.slice A l.length c] w fun e w' => JoinE ids l e ∧ Below w.heap.size w w' := by
  have B0 := Lib.hid (Below.refl w.heap.size w)
  have HS := Lib.hid hs
  have HN := Lib.hid (show ids.length = l.length by rw [← hids]; simp)
  have P1 := Lib.hid (idsOf_any A l.length c l rfl hl)
  rw [hids] at P1
  have P2 := Lib.hid (fun A c w h1 h2 => right_any A c ids (by rw [HN.out]; exact hl) h1 w.heap.size w h2)
  have P3 := Lib.hid (allBelow_any A l.length c l rfl hl hu)
  rw [HN.out] at P2
  by_cases h0 : l = []
  · subst h0
    clear hids hl hs hu
    go_enter Try.func18, Try.ntmps18
    go_wp2_with fail
    go_ret2
    exact ⟨⟨fun _ => rfl, fun h => absurd rfl h, fun h => absurd rfl h⟩, B0.out⟩
  · have h00 : 0 < l.length := List.length_pos_iff.2 h0
    have H0 := Lib.hid h0
    by_cases hr : RightI ids
    · have HR := Lib.hid hr
      by_cases hb : (l.all fun p => decide (p.2 < 1152921504606845789)) = true
      · have HB := Lib.hid hb
        rw [hb] at P3
        have hmem : ∀ p ∈ l, p.1 ∈ ids := fun p hp => by rw [← hids]; exact List.mem_map_of_mem hp
        have P4 := Lib.hid (fun Bw Bi Bp W hs hw => throughJ_any A l.length c l rfl hl hu Bw Bi Bp 0 ids (by omega) (by omega) hr hmem W hs hw)
        clear hids hs hu h0 hr hb hmem
        go_enter Try.func18, Try.ntmps18
        go_wp2_with fail
        refine (P1.out _ HS.out).mono ?_; rintro e w1 ⟨v, rfl, ho, b⟩
        obtain ⟨A', c', rfl, hc1, hc2, hs1, _⟩ := own_sliceI ho
        have HI1 := Lib.hid hs1
        have B1 := Lib.hid (below_on B0.out b)
        clear ho b hs1
        rw [HN.out] at hc1 ⊢
        go_wp2_with fail
        refine (P2.out _ _ _ hc1 HI1.out).mono ?_; rintro e w' ⟨⟨b, rfl, hb⟩, rfl⟩
        obtain rfl : b = true := hb.2 HR.out
        clear hb
        go_wp2_with fail
        refine (P3.out _ (HS.out.on B1.out)).mono ?_; rintro e w2 ⟨rfl, b⟩
        have B2 := Lib.hid (below_on B1.out b)
        clear b
        go_wp2_with fail
        refine (P1.out _ (HS.out.on B2.out)).mono ?_; rintro e w3 ⟨v, rfl, ho, b⟩
        obtain ⟨A3, c3, rfl, hc3, hc4, hs3, _⟩ := own_sliceI ho
        have HI3 := Lib.hid hs3
        have B3 := Lib.hid (below_on B2.out b)
        clear ho b hs3
        rw [HN.out] at hc3 ⊢
        go_wp2_with fail
        refine (weights_any A3 l.length c3 0 w3).mono ?_; rintro e w4 ⟨rfl, hw4⟩
        have W0 := Lib.hid (fun t3 => wbox_new (c := c3) (pl := 0) HN.out HI3.out _ _ t3 hw4)
        have B4 := Lib.hid (below_on B3.out (two_new hw4))
        clear hw4
        go_wp2_with fail
        have B5 := Lib.hid (fun o => below_on B4.out ((Below.refl w4.heap.size w4).alloc (Nat.le_refl _) o))
        refine (P4.out _ _ _ _ (HS.out.on (B5.out _)) (W0.out _)).mono ?_; rintro e w5 ⟨rfl, b⟩
        have B6 := Lib.hid (below_on (B5.out _) b)
        clear b
        go_wp2_with fail
        go_ret2
        exact ⟨⟨fun h => absurd h H0.out, fun _ _ => rfl, fun _ h => absurd ⟨HR.out, HB.out⟩ h⟩, B6.out⟩
      · have HB := Lib.hid hb
        rw [Bool.eq_false_iff.2 hb] at P3
        clear hids hs hu h0 hr hb
        go_enter Try.func18, Try.ntmps18
        go_wp2_with fail
        refine (P1.out _ HS.out).mono ?_; rintro e w1 ⟨v, rfl, ho, b⟩
        obtain ⟨A', c', rfl, hc1, hc2, hs1, _⟩ := own_sliceI ho
        have HI1 := Lib.hid hs1
        have B1 := Lib.hid (below_on B0.out b)
        clear ho b hs1
        rw [HN.out] at hc1 ⊢
        go_wp2_with fail
        refine (P2.out _ _ _ hc1 HI1.out).mono ?_; rintro e w' ⟨⟨b, rfl, hb⟩, rfl⟩
        obtain rfl : b = true := hb.2 HR.out
        clear hb
        go_wp2_with fail
        refine (P3.out _ (HS.out.on B1.out)).mono ?_; rintro e w2 ⟨rfl, b⟩
        have B2 := Lib.hid (below_on B1.out b)
        clear b
        go_wp2_with fail
        go_ret2
        exact ⟨⟨fun h => absurd h H0.out, fun _ h => absurd h.2 HB.out, fun _ _ => rfl⟩, B2.out⟩
    · have HR := Lib.hid hr
      clear hids hs hu h0 hr
      go_enter Try.func18, Try.ntmps18
      go_wp2_with fail
      refine (P1.out _ HS.out).mono ?_; rintro e w1 ⟨v, rfl, ho, b⟩
      obtain ⟨A', c', rfl, hc1, hc2, hs1, _⟩ := own_sliceI ho
      have HI1 := Lib.hid hs1
      have B1 := Lib.hid (below_on B0.out b)
      clear ho b hs1
      rw [HN.out] at hc1 ⊢
      go_wp2_with fail
      refine (P2.out _ _ _ hc1 HI1.out).mono ?_; rintro e w' ⟨⟨b, rfl, hb⟩, rfl⟩
      obtain rfl : b = false := Bool.eq_false_iff.2 (fun h => HR.out (hb.1 h))
      clear hb
      go_wp2_with fail
      go_ret2
      exact ⟨⟨fun h => absurd h H0.out, fun _ h => absurd h.1 HR.out, fun _ _ => rfl⟩, B1.out⟩

set_option maxHeartbeats 8000000 in
theorem Public_any (A : Option Addr) (c : Nat) (l : List (Int × Int)) (ids : List Int) (hids : l.map Prod.fst = ids) (hl : l.length ≤ 1048576) (hlc : l.length ≤ c) (hm : c ≤ maxLen) (hu : ∀ p ∈ l, 0 ≤ p.2 ∧ p.2 < 18446744073709551616) (w : World) (hs : SS w w.heap.size A l) :
    Calls Try.prog 15 #[.slice A l.length c] w fun e w' => PublicE w ids l e w' ∧ Below w.heap.size w w' := by
  have B0 := Lib.hid (Below.refl w.heap.size w)
  have HS := Lib.hid hs
  have HN := Lib.hid (show ids.length = l.length by rw [← hids]; simp)
  have P1 := Lib.hid (idsOf_any A l.length c l rfl hl)
  rw [hids] at P1
  have P2 := Lib.hid (fun A c w h1 h2 => right_any A c ids (by rw [HN.out]; exact hl) h1 w.heap.size w h2)
  have P3 := Lib.hid (allBelow_any A l.length c l rfl hl hu)
  have P4 := Lib.hid (throughS_any A l.length c l rfl hl hu)
  rw [HN.out] at P2
  by_cases hr : RightI ids
  · have HR := Lib.hid hr
    by_cases hb : (l.all fun p => decide (p.2 < 1152921504606845789)) = true
    · have HB := Lib.hid hb
      rw [hb] at P3
      clear hids hs hu hr hb
      go_enter Try.func15, Try.ntmps15
      go_wp2_with fail
      refine (P1.out _ HS.out).mono ?_; rintro e w1 ⟨v, rfl, ho, b⟩
      obtain ⟨A', c', rfl, hc1, hc2, hs1, _⟩ := own_sliceI ho
      have HI1 := Lib.hid hs1
      have B1 := Lib.hid (below_on B0.out b)
      clear ho b hs1
      rw [HN.out] at hc1 ⊢
      go_wp2_with fail
      refine (P2.out _ _ _ hc1 HI1.out).mono ?_; rintro e w' ⟨⟨b, rfl, hb⟩, rfl⟩
      obtain rfl : b = true := hb.2 HR.out
      clear hb
      go_wp2_with fail
      refine (P3.out _ (HS.out.on B1.out)).mono ?_; rintro e w2 ⟨rfl, b⟩
      have B2 := Lib.hid (below_on B1.out b)
      clear b
      go_wp2_with fail
      refine (P4.out _ (HS.out.on B2.out)).mono ?_; rintro e w3 ⟨v, rfl, ho, b⟩
      have HO := Lib.hid (Go.Joins.ownsRow_le ho B2.out.size)
      have B3 := Lib.hid (below_on B2.out b)
      clear ho b
      go_wp2_with fail
      go_ret2
      exact ⟨⟨fun _ => ⟨_, rfl, HO.out⟩, fun h => absurd ⟨HR.out, HB.out⟩ h⟩, B3.out⟩
    · have HB := Lib.hid hb
      rw [Bool.eq_false_iff.2 hb] at P3
      clear hids hs hu hr hb
      go_enter Try.func15, Try.ntmps15
      go_wp2_with fail
      refine (P1.out _ HS.out).mono ?_; rintro e w1 ⟨v, rfl, ho, b⟩
      obtain ⟨A', c', rfl, hc1, hc2, hs1, _⟩ := own_sliceI ho
      have HI1 := Lib.hid hs1
      have B1 := Lib.hid (below_on B0.out b)
      clear ho b hs1
      rw [HN.out] at hc1 ⊢
      go_wp2_with fail
      refine (P2.out _ _ _ hc1 HI1.out).mono ?_; rintro e w' ⟨⟨b, rfl, hb⟩, rfl⟩
      obtain rfl : b = true := hb.2 HR.out
      clear hb
      go_wp2_with fail
      refine (P3.out _ (HS.out.on B1.out)).mono ?_; rintro e w2 ⟨rfl, b⟩
      have B2 := Lib.hid (below_on B1.out b)
      clear b
      go_wp2_with fail
      go_ret2
      exact ⟨⟨fun h => absurd h.2 HB.out, fun _ => rfl⟩, B2.out⟩
  · have HR := Lib.hid hr
    clear hids hs hu hr
    go_enter Try.func15, Try.ntmps15
    go_wp2_with fail
    refine (P1.out _ HS.out).mono ?_; rintro e w1 ⟨v, rfl, ho, b⟩
    obtain ⟨A', c', rfl, hc1, hc2, hs1, _⟩ := own_sliceI ho
    have HI1 := Lib.hid hs1
    have B1 := Lib.hid (below_on B0.out b)
    clear ho b hs1
    rw [HN.out] at hc1 ⊢
    go_wp2_with fail
    refine (P2.out _ _ _ hc1 HI1.out).mono ?_; rintro e w' ⟨⟨b, rfl, hb⟩, rfl⟩
    obtain rfl : b = false := Bool.eq_false_iff.2 (fun h => HR.out (hb.1 h))
    clear hb
    go_wp2_with fail
    go_ret2
    exact ⟨⟨fun h => absurd h.1 HR.out, fun _ => rfl⟩, B1.out⟩
end Go.Proofs.Ytgboijbnjjmmkaa
