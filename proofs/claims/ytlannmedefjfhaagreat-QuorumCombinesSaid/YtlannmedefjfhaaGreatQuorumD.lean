/- What package quorum tells of a crew. -/
import Derived.Test.YtlannmedefjfhaaGreatQuorumC
namespace Go.Proofs.YtlannmedefjfhaaGreat
open Go.ChangeShapes Go.WideShapes Go.ChangeAt Go.RowKit Gs
set_option linter.unusedVariables false

set_option maxRecDepth 100000 in
set_option maxHeartbeats 4000000 in
theorem keyFits1_any (Bx : Nat) (A : Option Addr) (n c : Nat) (l : List (Int × Int)) (hn : l.length = n) (J : List Int) (hJ : l.map Prod.fst = J) (hr : RightI J) (p : Int × Int) [IsU p.2] (hp : p.1 ∈ J) (w : World) (hBx : Bx < w.heap.size) (cb : w.cell? ⟨Bx, 0, none⟩ = some (.slice A n c)) (hs : SS w w.heap.size A l) :
    Calls Tryz.prog 97 #[.agg #[.int .i64 p.1, .int .u64 p.2], .pointer (some ⟨Bx, 0, none⟩)] w fun e w' => e = .returned (.int .u64 (qpow p.2 (wat J p.1 0))) ∧ Below w.heap.size w w' := by
  have P1 := Lib.hid (qweight A n c l hn J hJ hr p.1 hp)
  haveI : IsU (wat J p.1 0) := IsU.below (wat_rb J p.1 0) (by omega)
  have P2 := Lib.hid (Pow_q p.2 (wat J p.1 0))
  have HS := Lib.hid hs
  have D0 := Lib.hid ((Below.refl w.heap.size w).alloc (Nat.le_refl _) (.cells #[.int .i64 p.1, .int .u64 p.2] 37))
  have cb1 := (D0.out.cell (p := ⟨Bx, 0, none⟩) hBx).trans cb
  clear hn hJ hr hp hs cb
  generalize wat J p.1 0 = z at *
  have k0 : (w.alloc (.cells #[.int .i64 p.1, .int .u64 p.2] 37)).cell? ⟨w.heap.size, 0, none⟩ = some (.int .i64 p.1) := (Blk.new w 37 #[.int .i64 p.1, .int .u64 p.2]).cell 0
  have k1 : (w.alloc (.cells #[.int .i64 p.1, .int .u64 p.2] 37)).cell? ⟨w.heap.size, 1, none⟩ = some (.int .u64 p.2) := (Blk.new w 37 #[.int .i64 p.1, .int .u64 p.2]).cell 1
  go_enter Tryz.func97, Tryz.ntmps97
  go_wp2_with fail
  refine wp_named (fun W => W.cell? ⟨w.heap.size, 0, none⟩ = some (.int .i64 p.1) ∧ W.cell? ⟨w.heap.size, 1, none⟩ = some (.int .u64 p.2) ∧ W.cell? ⟨Bx, 0, none⟩ = some (.slice A n c) ∧ Below w.heap.size w W ∧ w.heap.size < W.heap.size) ⟨k0, k1, cb1, D0.out, by simp⟩ ?_
  clear k0 k1 D0 cb1
  rintro W ⟨c0, c1, cb, hD, hz⟩
  have D0 := Lib.hid hD
  have HS2 := Lib.hid (fun wi (h : Below W.heap.size W wi) => (HS.out.on hD).on h)
  have hBW : Bx < W.heap.size := by omega
  clear hD
  have hd : W.heap.size ≤ W.drew.heap.size := Nat.le_refl _
  go_region_held_law (fun w' => w'.cell? ⟨w.heap.size, 0, none⟩ = some (.int .i64 p.1) ∧ w'.cell? ⟨w.heap.size, 1, none⟩ = some (.int .u64 p.2) ∧ w'.cell? ⟨Bx, 0, none⟩ = some (.slice A n c)) (first | exact ⟨by assumption, by assumption, by assumption⟩ | go_keep)
    (first
      | (go_at_call 58; refine (P1.out _ (HS2.out _ (Below.refl W.heap.size W).drew)).mono ?_; rintro e w5 ⟨rfl, b5⟩; have hW := (Below.refl W.heap.size W).drew.trans (b5.mono (by omega)); have k0 := (hW.cell (p := ⟨w.heap.size, 0, none⟩) hz).trans c0; have k1 := (hW.cell (p := ⟨w.heap.size, 1, none⟩) hz).trans c1; have kb := (hW.cell (p := ⟨Bx, 0, none⟩) hBW).trans cb)
      | (go_at_call 73; refine (P2.out _).mono ?_; rintro e w5 ⟨rfl, b5⟩; have hW := hW.trans (b5.mono hW.size); have k0 := (hW.cell (p := ⟨w.heap.size, 0, none⟩) hz).trans c0; have k1 := (hW.cell (p := ⟨w.heap.size, 1, none⟩) hz).trans c1; have kb := (hW.cell (p := ⟨Bx, 0, none⟩) hBW).trans cb))
  have HX := Lib.hid (D0.out.trans (hW.mono D0.out.size))
  clear hW k0 k1 kb c0 c1 cb
  go_wp2_with fail
  go_ret
  exact ⟨by simp, HX.out⟩

theorem qat_prod (J : List Int) (l : List (Int × Int)) : qat J 0 l = qprod (l.map fun p => qpow p.2 (wat J p.1 0)) := by
  unfold qat qprod
  rw [List.foldl_map]
  rfl

set_option maxRecDepth 100000 in
set_option maxHeartbeats 4000000 in
theorem keyFits_any (T N K : Int) [IsU K] (A : Option Addr) (c : Nat) (ps : List (Int × Int)) (hlc : ps.length ≤ c) (hu : ∀ p ∈ ps, 0 ≤ p.2 ∧ p.2 < 18446744073709551616) (h : CrewOk T N K ps) (w : World) (hs : SS w w.heap.size A ps) :
    Calls Tryz.prog 44 #[crewV T N K A ps.length c] w fun e w' => (∃ b : Int, e = .returned (.int .i64 b) ∧ (qat ((ps.map Prod.fst).take T.toNat) 0 (ps.take T.toNat) = K → b = 0) ∧ (qat ((ps.map Prod.fst).take T.toNat) 0 (ps.take T.toNat) ≠ K → b = 60)) ∧ Below w.heap.size w w' := by
  have hr := crew_right h
  obtain ⟨t1, tn, n7, _, hl, _⟩ := h
  obtain ⟨t, rfl⟩ := Int.eq_ofNat_of_zero_le (show 0 ≤ T by omega)
  have htl : t ≤ ps.length := by omega
  have hl7 : ps.length ≤ 7 := by omega
  have HLT := Lib.hid (show (ps.take t).length = t by rw [List.length_take]; omega)
  have HJ := Lib.hid (show (ps.take t).map Prod.fst = (ps.map Prod.fst).take t by rw [List.map_take])
  have HRJ := Lib.hid (right_take (T := t) hr (by omega) (by simp; omega))
  have hTt : ((t : Int)).toNat = t := by omega
  rw [hTt]
  have HQ := Lib.hid (qat_prod ((ps.map Prod.fst).take t) (ps.take t))
  generalize (ps.map Prod.fst).take t = J at *
  have HU := Lib.hid (fun (p : Int × Int) (hp : p ∈ ps.take t) => hu p (List.mem_of_mem_take hp))
  have HS := Lib.hid hs
  have P1 := Lib.hid (fun W (h : SS W W.heap.size A (ps.take t)) hf => each_nums 97 (runs_in Tryz.func97 (by kernel_rfl) rfl) #[.pointer (some ⟨w.heap.size + 1, 0, none⟩)] A t c (ps.take t) HLT.out (by omega) (fun p => qpow p.2 (wat J p.1 0)) W h hf)
  have HM := Lib.hid (show ∀ p ∈ ps.take t, p.1 ∈ J from fun p hp => by rw [← HJ.out]; exact List.mem_map_of_mem hp)
  have htc : t ≤ c := by omega
  clear hr hu hs hTt
  unfold crewV
  have D0 := Lib.hid ((Below.refl w.heap.size w).alloc (Nat.le_refl _) (.cells #[.int .i64 (t : Int), .int .i64 N, .int .u64 K, .slice A ps.length c] 66))
  go_enter Tryz.func44, Tryz.ntmps44
  go_wp2_with fail
  have B2 := Lib.hid (D0.out.alloc (by simp) (.cells #[.slice A t c] 24))
  have HT2 := Lib.hid (SS.take (HS.out.on B2.out) t)
  have hbx : ((w.alloc (.cells #[.int .i64 (t : Int), .int .i64 N, .int .u64 K, .slice A ps.length c] 66)).alloc (.cells #[.slice A t c] 24)).cell? ⟨w.heap.size + 1, 0, none⟩ = some (.slice A t c) := (Blk.new_at _ _ _ (by simp)).cell 0
  have hk2 : ((w.alloc (.cells #[.int .i64 (t : Int), .int .i64 N, .int .u64 K, .slice A ps.length c] 66)).alloc (.cells #[.slice A t c] 24)).cell? ⟨w.heap.size, 2, none⟩ = some (.int .u64 K) := ((Blk.new_at _ _ _ rfl).alloc _).cell 2
  have HBX := Lib.hid hbx
  have HK2 := Lib.hid hk2
  clear hbx hk2
  refine (P1.out _ HT2.out (fun p hp W' hW' => ?_)).mono ?_
  · haveI : IsU p.2 := ⟨(HU.out p hp).1, (HU.out p hp).2⟩
    exact keyFits1_any (w.heap.size + 1) A t c (ps.take t) HLT.out J HJ.out HRJ.out p (HM.out p hp) W' (by have := hW'.size; simp at this; omega) ((hW'.cell (p := ⟨w.heap.size + 1, 0, none⟩) (by simp)).trans HBX.out) (HT2.out.on hW')
  rintro e w3 ⟨v, rfl, ho, b⟩
  obtain ⟨A3, c3, rfl, hc3, hm3, hs3⟩ := own_slice ho
  have HLM := Lib.hid (show ((ps.take t).map fun p => qpow p.2 (wat J p.1 0)).length = t by rw [List.length_map, HLT.out])
  rw [HLM.out]
  have HS3 := Lib.hid hs3
  have k2 := (b.cell (p := ⟨w.heap.size, 2, none⟩) (by simp; omega)).trans HK2.out
  have B3 := Lib.hid (below_on B2.out b)
  have hz3 : w.heap.size < w3.heap.size := by have := b.size; simp at this; omega
  have P2 := Lib.hid (fun W h => product_any6 A3 t c3 ((ps.take t).map fun p => qpow p.2 (wat J p.1 0)) HLM.out (by omega) (fun x hx => by
    obtain ⟨p, hp, rfl⟩ := List.mem_map.1 hx
    exact IsU.below (qpow_bound _ _) (by omega)) W h)
  rw [← HQ.out] at P2
  generalize (ps.take t).map (fun p => qpow p.2 (wat J p.1 0)) = zs at HS3 P2
  generalize hqz : qat J 0 (ps.take t) = z at P2 ⊢
  have HZ := Lib.hid hqz
  clear ho b hs3 hc3 hm3 hqz
  go_wp2_with fail
  have hd : w3.heap.size ≤ w3.drew.heap.size := Nat.le_refl _
  by_cases hq : z = K
  · have hqe : (K != z) = false := by simp [hq]
    have HQE := Lib.hid hq
    clear hq
    go_region_held_law (fun w' => w'.cell? ⟨w.heap.size, 2, none⟩ = some (.int .u64 K)) (first | assumption | go_keep)
      (first
        | (go_at_call 98; refine (P2.out _ (HS3.out.on ((Below.refl _ _).drew))).mono ?_; rintro e w5 ⟨rfl, b5⟩; have hW := (Below.refl w3.heap.size w3).drew.trans (b5.mono (by omega)); have k2' := (hW.cell (p := ⟨w.heap.size, 2, none⟩) hz3).trans k2))
    have HX := Lib.hid (B3.out.trans (hW.mono B3.out.size))
    clear hW k2' k2
    go_wp2_with fail
    go_ret
    exact ⟨⟨0, by simp, fun _ => rfl, fun h => absurd (HZ.out.trans HQE.out) h⟩, HX.out⟩
  · have hqe : (K != z) = true := by simp; exact fun h => hq h.symm
    have HQE := Lib.hid hq
    clear hq
    go_region_held_law (fun w' => w'.cell? ⟨w.heap.size, 2, none⟩ = some (.int .u64 K)) (first | assumption | go_keep)
      (first
        | (go_at_call 98; refine (P2.out _ (HS3.out.on ((Below.refl _ _).drew))).mono ?_; rintro e w5 ⟨rfl, b5⟩; have hW := (Below.refl w3.heap.size w3).drew.trans (b5.mono (by omega)); have k2' := (hW.cell (p := ⟨w.heap.size, 2, none⟩) hz3).trans k2))
    have HX := Lib.hid (B3.out.trans (hW.mono B3.out.size))
    clear hW k2' k2
    go_wp2_with fail
    go_ret
    exact ⟨⟨60, by simp, fun h => absurd (HZ.out.symm.trans h) HQE.out, fun _ => rfl⟩, HX.out⟩

theorem chks_at {w : World} {g : Nat} {t : TypeId} {cs : Array Value} (h : Blk w g t cs) (ks : List Chk) (hk : cs = (ks.map Chk.val).toArray) : ∀ j (hj : j < ks.length), ∃ ad, some (⟨g, 0, none⟩ : Addr) = some ad ∧ ad.block < w.heap.size ∧ w.cell? (ad.add j) = some ks[j].val := fun j hj =>
  ⟨_, rfl, h.lt, by rw [add_at, h.cell, hk]; simp [hj]⟩
set_option maxRecDepth 100000 in
set_option maxHeartbeats 4000000 in
theorem Check_any6 (T N K : Int) [IsU K] (A : Option Addr) (c : Nat) (ps : List (Int × Int)) (hl : ps.length ≤ 1048576) (hlc : ps.length ≤ c) (hm : c ≤ maxLen) (hu : ∀ p ∈ ps, 0 ≤ p.2 ∧ p.2 < 18446744073709551616) (e : Int) (he : CrewE T N K ps e) (w : World) (hs : SS w w.heap.size A ps) :
    Calls Tryz.prog 18 #[crewV T N K A ps.length c] w fun r w' => r = .returned (.int .i64 e) ∧ Below w.heap.size w w' := by
  -- what the three checks tell
  obtain ⟨e0, e1, e2, h0, h1, h2, hfe⟩ : ∃ e0 e1 e2 : Int, ((e0 = 0 ∧ CrewOk T N K ps) ∨ (e0 = 1 ∧ ¬ CrewOk T N K ps)) ∧ (CrewOk T N K ps → (Fits T.toNat (ps.map Prod.fst) ps → e1 = 0) ∧ (¬ Fits T.toNat (ps.map Prod.fst) ps → e1 = 60)) ∧ (CrewOk T N K ps → e1 = 0 → (qat ((ps.map Prod.fst).take T.toNat) 0 (ps.take T.toNat) = K → e2 = 0) ∧ (qat ((ps.map Prod.fst).take T.toNat) 0 (ps.take T.toNat) ≠ K → e2 = 60)) ∧ firstE [e0, e1, e2] = e := by
    by_cases h : CrewOk T N K ps
    · by_cases f : Fits T.toNat (ps.map Prod.fst) ps
      · by_cases q : qat ((ps.map Prod.fst).take T.toNat) 0 (ps.take T.toNat) = K
        · exact ⟨0, 0, 0, .inl ⟨rfl, h⟩, fun _ => ⟨fun _ => rfl, fun g => absurd f g⟩, fun _ _ => ⟨fun _ => rfl, fun g => absurd q g⟩, (he.2.2 h ⟨f, q⟩).symm⟩
        · exact ⟨0, 0, 60, .inl ⟨rfl, h⟩, fun _ => ⟨fun _ => rfl, fun g => absurd f g⟩, fun _ _ => ⟨fun g => absurd g q, fun _ => rfl⟩, (he.2.1 h (fun g => q g.2)).symm⟩
      · exact ⟨0, 60, 0, .inl ⟨rfl, h⟩, fun _ => ⟨fun g => absurd g f, fun _ => rfl⟩, fun _ g => by omega, (he.2.1 h (fun g => f g.1)).symm⟩
    · exact ⟨1, 0, 0, .inr ⟨rfl, h⟩, fun g => absurd g h, fun g => absurd g h, (he.1 h).symm⟩
  have HFE := Lib.hid hfe
  have HS := Lib.hid hs
  have D0 := Lib.hid ((Below.refl w.heap.size w).alloc (Nat.le_refl _) (.cells #[.int .i64 T, .int .i64 N, .int .u64 K, .slice A ps.length c] 26))
  have D1 := Lib.hid (D0.out.alloc (by simp) (.cells #[.int .i64 T, .int .i64 N, .int .u64 K, .slice A ps.length c] 66))
  have P := Lib.hid (fun (A4 : Option Addr) (c4 : Nat) (W : World) (hW : Below w.heap.size w W) hc => first_any A4 c4 [⟨42, #[crewV T N K A ps.length c]⟩, ⟨43, #[crewV T N K A ps.length c]⟩, ⟨44, #[crewV T N K A ps.length c]⟩] [e0, e1, e2] rfl (by simp) W hc
    (fun j h args w => by
      rcases j with _ | _ | _ | j
      · exact runs_in Tryz.func42 (by kernel_rfl) rfl args w
      · exact runs_in Tryz.func43 (by kernel_rfl) rfl args w
      · exact runs_in Tryz.func44 (by kernel_rfl) rfl args w
      · exact absurd h (by simp <;> omega))
    (fun j h g hz W' hW' => by
      have hss := (HS.out.on hW).on hW'
      rcases j with _ | _ | _ | j
      · refine (cmay_any T N K A c ps hl hu W' hss).mono ?_
        rintro r w' ⟨⟨b, rfl, hb⟩, b2⟩
        refine ⟨?_, b2⟩
        show Ending.returned (.int .i64 b) = .returned (.int .i64 e0)
        rcases hb with ⟨rfl, hb⟩ | ⟨rfl, hb⟩ <;> rcases h0 with ⟨rfl, hc⟩ | ⟨rfl, hc⟩ <;> first | rfl | exact absurd hb hc | exact absurd hc hb
      · have z0 : e0 = 0 := hz 0 (by simp) (by omega)
        have hok : CrewOk T N K ps := by rcases h0 with ⟨_, hc⟩ | ⟨hc, _⟩; exact hc; omega
        refine (partsFit_any T N K A c ps hlc hm hu hok W' hss).mono ?_
        rintro r w' ⟨hb, b2⟩
        refine ⟨?_, b2⟩
        show r = .returned (.int .i64 e1)
        by_cases f : Fits T.toNat (ps.map Prod.fst) ps
        · rw [hb.1 f, (h1 hok).1 f]
        · rw [hb.2 f, (h1 hok).2 f]
      · have z0 : e0 = 0 := hz 0 (by simp) (by omega)
        have z1 : e1 = 0 := hz 1 (by simp) (by omega)
        have hok : CrewOk T N K ps := by rcases h0 with ⟨_, hc⟩ | ⟨hc, _⟩; exact hc; omega
        refine (keyFits_any T N K A c ps hlc hu hok W' hss).mono ?_
        rintro r w' ⟨⟨b, rfl, hb⟩, b2⟩
        refine ⟨?_, b2⟩
        show Ending.returned (.int .i64 b) = .returned (.int .i64 e2)
        by_cases f : qat ((ps.map Prod.fst).take T.toNat) 0 (ps.take T.toNat) = K
        · rw [hb.1 f, (h2 hok z1).1 f]
        · rw [hb.2 f, (h2 hok z1).2 f]
      · exact absurd h (by simp <;> omega)))
  unfold crewV at P ⊢
  clear he hs h0 h1 h2 hfe hu
  go_enter Tryz.func18, Tryz.ntmps18
  go_wp2_with fail
  have D2 := Lib.hid (fun cs => D1.out.alloc (by simp; omega) (.cells cs 68))
  refine (P.out _ _ _ (D2.out _) (chks_at (Blk.new_at _ _ _ (by simp)) _ rfl)).mono ?_; rintro r w4 ⟨rfl, b⟩
  have B4 := Lib.hid (below_on (D2.out _) b)
  clear b
  rw [HFE.out]
  go_wp2_with fail
  go_ret
  exact ⟨rfl, B4.out⟩
end Go.Proofs.YtlannmedefjfhaaGreat
