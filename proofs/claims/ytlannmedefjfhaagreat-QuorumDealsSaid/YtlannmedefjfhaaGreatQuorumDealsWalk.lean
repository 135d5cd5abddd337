/- The walk of the law QuorumDeals. -/
import Derived.Test.YtlannmedefjfhaaGreatQuorumR5
import Derived.Test.YtlannmedefjfhaaGreatQuorumX
namespace Go.Proofs.YtlannmedefjfhaaGreat
open Go.ChangeShapes Go.WideShapes Go.ChangeAt Go.RowKit Gs
set_option linter.unusedVariables false

theorem ss_nil (w : World) (B : Nat) : SS w B none [] := fun j hj => absurd hj (by simp)

/-- Both answers side by side. -/
theorem deals_both (t n : Int) (A : Option Addr) (c : Nat) (xs : List Int) (hm : ByFix c xs) : ∃ (T N K : Int) (ps l : List (Int × Int)) (e : Int), ps.length ≤ 1048576 ∧ l.length ≤ 1048576 ∧
    (∀ W, SI W W.heap.size .u8 A xs → Calls Tryz.prog 14 #[.slice A xs.length c, .int .i64 t, .int .i64 n] W fun r w' => (∃ D d E d', r = .returned (.tuple #[crewV T N K D ps.length d, .slice E l.length d', .int .i64 e]) ∧ SS w' w'.heap.size D ps ∧ SS w' w'.heap.size E l) ∧ Below W.heap.size W w') ∧
    (∀ W, SI W W.heap.size .u8 A xs → Calls Tryz.prog 15 #[.slice A xs.length c, .int .i64 t, .int .i64 n] W fun r w' => (∃ D d E d', r = .returned (.tuple #[crewV T N K D ps.length d, .slice E l.length d', .int .i64 e]) ∧ SS w' w'.heap.size D ps ∧ SS w' w'.heap.size E l) ∧ Below W.heap.size W w') := by
  by_cases h : SplitI (ssecret xs) t n
  · obtain ⟨t1, tn, n7, _⟩ := h
    obtain ⟨T, rfl⟩ := Int.eq_ofNat_of_zero_le (show 0 ≤ t by omega)
    obtain ⟨N, rfl⟩ := Int.eq_ofNat_of_zero_le (show 0 ≤ n by omega)
    have e1 : (spubs (dshares xs T N)).length = N := by rw [spubs_length, dshares_length]
    have e2 := dshares_length xs T N
    refine ⟨T, N, qpow 4 (ssecret xs), spubs (dshares xs T N), dshares xs T N, 0, by omega, by omega, fun W hs => ?_, fun W hs => ?_⟩
    · rw [e1, e2]
      exact (Deal_ok T N (by omega) (by omega) (by omega) A c xs hm W hs).mono fun r w' ⟨⟨D, d, E, d', hr, ⟨_, _, h1⟩, _, _, h2⟩, hb⟩ => ⟨⟨D, d, E, d', hr, h1, h2⟩, hb⟩
    · rw [e1, e2]
      exact (Deal6_ok T N (by omega) (by omega) (by omega) A c xs hm W hs).mono fun r w' ⟨⟨D, d, E, d', hr, ⟨_, _, h1⟩, _, _, h2⟩, hb⟩ => ⟨⟨D, d, E, d', hr, h1, h2⟩, hb⟩
  · refine ⟨0, 0, 0, [], [], 1, by simp, by simp, fun W hs => ?_, fun W hs => ?_⟩
    · exact (Deal_bad t n A c xs hm h W hs).mono fun r w' ⟨hr, hb⟩ => ⟨⟨none, 0, none, 0, hr, ss_nil _ _, ss_nil _ _⟩, hb⟩
    · exact (Deal6_bad t n A c xs hm h W hs).mono fun r w' ⟨hr, hb⟩ => ⟨⟨none, 0, none, 0, hr, ss_nil _ _, ss_nil _ _⟩, hb⟩

set_option maxRecDepth 100000 in
set_option maxHeartbeats 4000000 in
theorem deals_walk6 (A0 : Option Addr) (c0 : Nat) (xs0 : List Int) (t n : Int) (T N K : Int) [IsU K] (A : Option Addr) (m c : Nat) (ps : List (Int × Int)) (hpn : ps.length = m) (w : World) (hs0 : SI w w.heap.size .u8 A0 xs0) (hl0 : xs0.length ≤ c0) (hm0 : c0 ≤ maxLen) (hx0 : ∀ n ∈ xs0, (Lit.int .u8 n).wf = true) (hs3 : SS w w.heap.size A ps) (hl3 : m ≤ c) (hm3 : c ≤ maxLen) (hu3 : ∀ p ∈ ps, 0 ≤ p.2 ∧ p.2 < 18446744073709551616) :
    Calls Tryz.prog 3 #[.slice A0 xs0.length c0, .int .i64 t, .int .i64 n, .agg #[.int .i64 T, .int .i64 N, .int .u64 K, .slice A m c]] w fun e w' => e = .returned (.bool true) ∧ Below w.heap.size w w' := by
  have D0 := Lib.hid ((Below.refl w.heap.size w).alloc (Nat.le_refl _) (.cells #[.int .i64 T, .int .i64 N, .int .u64 K, .slice A m c] 26))
  have KC := Lib.hid (Blk.new w 26 #[.int .i64 T, .int .i64 N, .int .u64 K, .slice A m c])
  have S0 := Lib.hid hs0
  have S3 := Lib.hid hs3
  by_cases hfew : m ≤ 20 ∧ 0 ≤ 20 ∧ xs0.length ≤ 200
  · have PF := Lib.hid (fun W => few6 T N K A m c none 0 0 A0 xs0.length c0 W true (decide_eq_true hfew))
    obtain ⟨T', N', K', ps', l', e, hp', hl', h1, h2⟩ := deals_both t n A0 c0 xs0 ⟨by omega, hl0, hm0, fun n hn => u8_wf (hx0 n hn)⟩
    have hp : ShFix c ps := ⟨by omega, by omega, hm3, hu3⟩
    have P1 := Lib.hid h1
    have P2 := Lib.hid h2
    have PS := Lib.hid (fun W D D' d d' a b => Same6_yes T' N' K' D D' d d' ps' hp' W a b)
    have PL := Lib.hid (fun (W : World) E E' d d' a b => Shares6_yes E E' d d' l' hl' W.heap.size W a b)
    have PC := Lib.hid (fun W h => Check_any6 T N K A c ps hp.len hp.cap hp.max hp.u (crewF T N K ps) (crewF_is T N K ps) W h)
    have PD := Lib.hid (fun W h => Check6_any T N K A c ps hp W h)
    unfold crewV at PF P1 P2 PS PC PD
    rw [hpn] at PC PD
    generalize crewF T N K ps = z at *
    generalize ps'.length = mp at *
    generalize l'.length = ml at *
    have b1 : (e == e) = true := by simp
    have b2 : (z == z) = true := by simp
    clear hs0 hs3 hx0 hu3 hfew hpn hp hp' hl' h1 h2
    go_enter Tryz.func3, Tryz.ntmps3
    go_wp2_with fail
    refine (live6 _).mono ?_; rintro _ w1 ⟨rfl, b⟩
    have B1 := Lib.hid (below_on D0.out b)
    have kc1 := KC.out.below b KC.out.lt
    have KC1 := Lib.hid kc1
    have k0 := kc1.cell 0
    have k1 := kc1.cell 1
    have k2 := kc1.cell 2
    have k3 := kc1.cell 3
    clear b kc1 KC D0
    go_wp2_with fail
    refine (PF.out _).mono ?_; rintro _ w2 ⟨rfl, b⟩
    have B2 := Lib.hid (below_on B1.out b)
    have KC2 := Lib.hid (KC1.out.below b KC1.out.lt)
    clear b k0 k1 k2 k3 KC1 B1
    go_wp2_with fail
    refine (P1.out _ (S0.out.on B2.out)).mono ?_; rintro _ w3 ⟨⟨D, d, E, d', rfl, hd, he⟩, b⟩
    have b' := b.alloc b.size (.cells #[.int .i64 T', .int .i64 N', .int .u64 K', .slice D mp d] 26)
    have ba := (Below.refl w3.heap.size w3).alloc (Nat.le_refl _) (.cells #[.int .i64 T', .int .i64 N', .int .u64 K', .slice D mp d] 26)
    have B3 := Lib.hid (below_on B2.out b')
    have KC3 := Lib.hid (KC2.out.below b' KC2.out.lt)
    have KA := Lib.hid (Blk.new w3 26 #[.int .i64 T', .int .i64 N', .int .u64 K', .slice D mp d])
    have HD := Lib.hid (hd.on ba)
    have HE := Lib.hid (he.on ba)
    clear b b' ba hd he KC2 B2
    go_wp2_with fail
    refine (P2.out _ (S0.out.on B3.out)).mono ?_; rintro _ w4 ⟨⟨D2, d2, E2, d2', rfl, hd, he⟩, b⟩
    have b' := b.alloc b.size (.cells #[.int .i64 T', .int .i64 N', .int .u64 K', .slice D2 mp d2] 26)
    have ba := (Below.refl w4.heap.size w4).alloc (Nat.le_refl _) (.cells #[.int .i64 T', .int .i64 N', .int .u64 K', .slice D2 mp d2] 26)
    have B4 := Lib.hid (below_on B3.out b')
    have KC4 := Lib.hid (KC3.out.below b' KC3.out.lt)
    have ka := KA.out.below b' KA.out.lt
    have kb := Blk.new w4 26 #[.int .i64 T', .int .i64 N', .int .u64 K', .slice D2 mp d2]
    have HD4 := Lib.hid (HD.out.on b')
    have HE4 := Lib.hid (HE.out.on b')
    have HD2 := Lib.hid (hd.on ba)
    have HE2 := Lib.hid (he.on ba)
    have s0 := ka.cell 0
    have s1 := ka.cell 1
    have s2 := ka.cell 2
    have s3 := ka.cell 3
    have t0 := kb.cell 0
    have t1 := kb.cell 1
    have t2 := kb.cell 2
    have t3 := kb.cell 3
    have hz := b.size
    have hza := KA.out.lt
    clear b b' ba hd he KC3 B3 HD HE ka kb
    go_wp2_with fail
    refine (PS.out _ _ _ _ _ HD4.out HD2.out).mono ?_; rintro _ w5 ⟨rfl, b⟩
    have B5 := Lib.hid (below_on B4.out b)
    have KC5 := Lib.hid (KC4.out.below b KC4.out.lt)
    have HE5 := Lib.hid (HE4.out.on b)
    have HE25 := Lib.hid (HE2.out.on b)
    clear b s0 s1 s2 s3 t0 t1 t2 t3 hz hza KC4 B4 HE4 HE2 HD4 HD2
    go_wp2_with fail
    refine (PL.out _ _ _ _ _ HE5.out HE25.out).mono ?_; rintro _ w6 ⟨rfl, dr⟩
    have B6 := Lib.hid (below_on B5.out (dr.below _))
    have kc := KC5.out.below (dr.below _) KC5.out.lt
    have k0 := kc.cell 0
    have k1 := kc.cell 1
    have k2 := kc.cell 2
    have k3 := kc.cell 3
    have hz3 := kc.lt
    have S36 := Lib.hid (S3.out.on B6.out)
    clear dr kc KC5 B5 HE5 HE25
    go_upto_region 9 with (fail)
    have hW : Below w6.heap.size w6 w6.drew := (Below.refl w6.heap.size w6).drew
    go_region_held_law (fun w' => w'.cell? ⟨w.heap.size, 0, none⟩ = some (.int .i64 T) ∧ w'.cell? ⟨w.heap.size, 1, none⟩ = some (.int .i64 N) ∧ w'.cell? ⟨w.heap.size, 2, none⟩ = some (.int .u64 K) ∧ w'.cell? ⟨w.heap.size, 3, none⟩ = some (.slice A m c)) (first | exact ⟨by assumption, by assumption, by assumption, by assumption⟩ | go_keep)
      (first
        | (go_at_call 18; refine (PC.out _ (S36.out.on hW)).mono ?_; rintro _ w7 ⟨rfl, bb⟩; have hW := below_on hW bb; have c0 := (hW.cell (p := ⟨w.heap.size, 0, none⟩) hz3).trans k0; have c1 := (hW.cell (p := ⟨w.heap.size, 1, none⟩) hz3).trans k1; have c2 := (hW.cell (p := ⟨w.heap.size, 2, none⟩) hz3).trans k2; have c3 := (hW.cell (p := ⟨w.heap.size, 3, none⟩) hz3).trans k3)
        | (go_at_call 19; refine (PD.out _ (S36.out.on hW)).mono ?_; rintro _ w8 ⟨rfl, bb⟩; have hW := below_on hW bb; have c0 := (hW.cell (p := ⟨w.heap.size, 0, none⟩) hz3).trans k0; have c1 := (hW.cell (p := ⟨w.heap.size, 1, none⟩) hz3).trans k1; have c2 := (hW.cell (p := ⟨w.heap.size, 2, none⟩) hz3).trans k2; have c3 := (hW.cell (p := ⟨w.heap.size, 3, none⟩) hz3).trans k3))
    have BX := Lib.hid (below_on B6.out hW)
    clear hW k0 k1 k2 k3 c0 c1 c2 c3
    go_wp2_with fail
    go_ret
    exact ⟨by first | rfl | simp, BX.out⟩
  · have PF := Lib.hid (fun W => few6 T N K A m c none 0 0 A0 xs0.length c0 W false (decide_eq_false hfew))
    unfold crewV at PF
    clear hs0 hs3 hx0 hu3 hfew
    go_enter Tryz.func3, Tryz.ntmps3
    go_wp2_with fail
    refine (live6 _).mono ?_; rintro _ w1 ⟨rfl, b⟩
    have B1 := Lib.hid (below_on D0.out b)
    have kc1 := KC.out.below b KC.out.lt
    have k0 := kc1.cell 0
    have k1 := kc1.cell 1
    have k2 := kc1.cell 2
    have k3 := kc1.cell 3
    clear b kc1 KC D0
    go_wp2_with fail
    refine (PF.out _).mono ?_; rintro _ w2 ⟨rfl, b⟩
    have B2 := Lib.hid (below_on B1.out b)
    clear b k0 k1 k2 k3
    go_wp2_with fail
    go_ret
    exact ⟨rfl, B2.out⟩
end Go.Proofs.YtlannmedefjfhaaGreat
