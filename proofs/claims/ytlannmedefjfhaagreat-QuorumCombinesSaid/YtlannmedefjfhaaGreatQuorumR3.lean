/- The document's own answer on whether a crew may be. -/
import Derived.Test.YtlannmedefjfhaaGreatQuorumR2
namespace Go.Proofs.YtlannmedefjfhaaGreat
open Go.ChangeShapes Go.WideShapes Go.ChangeAt Go.RowKit Gs
set_option linter.unusedVariables false

set_option maxRecDepth 100000 in
set_option maxHeartbeats 8000000 in
theorem Check6_any (T N K : Int) [IsU K] (A : Option Addr) (c : Nat) (ps : List (Int × Int)) (hp : ShFix c ps) (w : World) (hs : SS w w.heap.size A ps) :
    Calls Tryz.prog 19 #[crewV T N K A ps.length c] w fun e w' => e = .returned (.int .i64 (crewF T N K ps)) ∧ Below w.heap.size w w' := by
  unfold crewV
  have D0 := Lib.hid ((Below.refl w.heap.size w).alloc (Nat.le_refl _) (.cells #[.int .i64 T, .int .i64 N, .int .u64 K, .slice A ps.length c] 26))
  have KB := Lib.hid (Blk.new w 26 #[.int .i64 T, .int .i64 N, .int .u64 K, .slice A ps.length c])
  have P := Lib.hid (ref_In K)
  have HS := Lib.hid hs
  have HP := Lib.hid hp
  have hl := hp.len
  have HNO := Lib.hid (fun (g : ¬ CrewOk T N K ps) => (crewF_is T N K ps).1 g)
  clear hs hp
  by_cases h1 : T < 1
  · have HE := Lib.hid (HNO.out (fun h => by have := h.1; omega))
    go_enter Tryz.func19, Tryz.ntmps19
    go_wp2_with fail
    go_ret
    exact ⟨by rw [HE.out]; rfl, D0.out⟩
  by_cases h2 : N < T
  · have HE := Lib.hid (HNO.out (fun h => by have := h.2.1; omega))
    go_enter Tryz.func19, Tryz.ntmps19
    go_wp2_with fail
    go_ret
    exact ⟨by rw [HE.out]; rfl, D0.out⟩
  by_cases h3 : 7 < N
  · have HE := Lib.hid (HNO.out (fun h => by have := h.2.2.1; omega))
    go_enter Tryz.func19, Tryz.ntmps19
    go_wp2_with fail
    go_ret
    exact ⟨by rw [HE.out]; rfl, D0.out⟩
  by_cases h4 : qin K = true
  · by_cases h5 : (ps.length : Int) = N
    · have H4 := Lib.hid h4
      rw [h4] at P
      have q1 : decide (T < 1) = false := decide_eq_false h1
      have q2 : decide (N < T) = false := decide_eq_false h2
      have q3 : decide (7 < N) = false := decide_eq_false h3
      have q5 : ((ps.length : Int) != N) = false := by simp [h5]
      have H5 := Lib.hid h5
      obtain ⟨t, rfl⟩ := Int.eq_ofNat_of_zero_le (show 0 ≤ T by omega)
      have htl : t ≤ ps.length := by omega
      clear h5 h4
      go_enter Tryz.func19, Tryz.ntmps19
      go_wp2_with fail
      refine (P.out _).mono ?_; rintro e w1 ⟨rfl, rfl⟩
      go_wp2_with fail
      refine wp_named (fun W => W.cell? ⟨w.heap.size, 0, none⟩ = some (.int .i64 (t : Int)) ∧ W.cell? ⟨w.heap.size, 2, none⟩ = some (.int .u64 K) ∧ W.cell? ⟨w.heap.size, 3, none⟩ = some (.slice A ps.length c) ∧ Below w.heap.size w W ∧ w.heap.size < W.heap.size) ⟨KB.out.cell 0, KB.out.cell 2, KB.out.cell 3, D0.out, by simp⟩ ?_
      clear D0 KB
      rintro W0 ⟨k0, k2, k3, hD, hw0⟩
      have D0 := Lib.hid hD
      have HS0 := Lib.hid (HS.out.on hD)
      clear hD
      go_loopw [3] (fun i wr => ∃ k : Nat, k ≤ ps.length ∧ i = .int .i64 k ∧ (∀ i (h : i < ps.length), i < k → ps[i].1 = (i : Int) + 1 ∧ qin ps[i].2 = true) ∧ Below W0.heap.size W0 wr) (fun i _ => ps.length - (intOf i).toNat)
      case atStart => exact ⟨0, by omega, rfl, fun i g h => by omega, Below.refl _ _⟩
      case round =>
        obtain ⟨k, hk, rfl, h0, hb⟩ := hrel
        have HB := Lib.hid hb
        have H0 := Lib.hid h0
        have hz := hb.size
        have d0 := (hb.cell (p := ⟨w.heap.size, 0, none⟩) hw0).trans k0
        have d2 := (hb.cell (p := ⟨w.heap.size, 2, none⟩) hw0).trans k2
        have d3 := (hb.cell (p := ⟨w.heap.size, 3, none⟩) hw0).trans k3
        clear hb h0
        by_cases hlt : k < ps.length
        · obtain ⟨ad, rfl, had, c0, c1⟩ := (HS0.out.below HB.out) k hlt
          have hx := HP.out.u ps[k] (List.getElem_mem hlt)
          haveI : IsU ps[k].2 := ⟨hx.1, hx.2⟩
          have PI := Lib.hid (ref_In ps[k].2)
          have HN := Lib.hid (fun (z : ¬ (ps[k].1 = (k : Int) + 1 ∧ qin ps[k].2 = true)) => HNO.out (fun h => z (h.2.2.2.2.2 k hlt)))
          have HY := Lib.hid (fun (z : ps[k].1 = (k : Int) + 1 ∧ qin ps[k].2 = true) => (show ∀ i (h : i < ps.length), i < k + 1 → ps[i].1 = (i : Int) + 1 ∧ qin ps[i].2 = true from fun i h g => by
            by_cases e : i = k
            · subst e; exact z
            · exact H0.out i h (by omega)))
          clear hx
          generalize ps[k].1 = i1 at *
          generalize ps[k].2 = x1 at *
          by_cases hi : i1 = (k : Int) + 1
          · have hq : (i1 != (k : Int) + 1) = false := by simp [hi]
            by_cases hx : qin x1 = true
            · have HY2 := Lib.hid (HY.out ⟨hi, hx⟩)
              rw [hx] at PI
              clear HY HN hi hx
              go_wp2_with fail
              refine (PI.out _).mono ?_; rintro e w3 ⟨rfl, rfl⟩
              go_wp2_with fail
              go_roundw
              case rel => exact ⟨k + 1, by omega, by go_num, HY2.out, HB.out⟩
              case measure => simp [intOf]; omega
            · have HE := Lib.hid (HN.out (fun h => hx h.2))
              rw [Bool.eq_false_iff.2 hx] at PI
              clear HY HN hi hx
              go_wp2_with fail
              refine (PI.out _).mono ?_; rintro e w3 ⟨rfl, rfl⟩
              go_wp2_with fail
              go_ret
              exact ⟨by rw [HE.out]; rfl, D0.out.trans (HB.out.mono (by omega))⟩
          · have hq : (i1 != (k : Int) + 1) = true := by simp [hi]
            have HE := Lib.hid (HN.out (fun h => hi h.1))
            clear HY HN hi
            go_wp2_with fail
            go_ret
            exact ⟨by rw [HE.out]; rfl, D0.out.trans (HB.out.mono (by omega))⟩
        · obtain rfl : k = ps.length := by omega
          have HOK := Lib.hid (show CrewOk (t : Int) N K ps from ⟨by omega, by omega, by omega, H4.out, H5.out, fun i h => H0.out i h h⟩)
          have hl7 : ps.length ≤ 7 := by have := H5.out; omega
          have hr := crew_right HOK.out
          have HLT := Lib.hid (show (ps.take t).length = t by rw [List.length_take]; omega)
          have HJ := Lib.hid (show (ps.take t).map Prod.fst = (ps.map Prod.fst).take t by rw [List.map_take])
          have HRJ := Lib.hid (right_take (T := t) hr (by omega) (by simp; omega))
          have htc : t ≤ c := by have := HP.out.cap; omega
          have htc' : (t : Int) ≤ (c : Int) := by omega
          have HB0 := Lib.hid (D0.out.trans (HB.out.mono (by omega)))
          have HSR := Lib.hid (HS0.out.on HB.out)
          have PC := Lib.hid (refCheck_any (t : Int) A c ps (ps.map Prod.fst) rfl hl HP.out.cap HP.out.u wr HSR.out)
          have hF : ∃ n : Int, (∀ e, CheckE (t : Int) (ps.map Prod.fst) ps e → e = .returned (.int .i64 n)) ∧ (Fits (t : Int).toNat (ps.map Prod.fst) ps → n = 0) ∧ (¬ Fits (t : Int).toNat (ps.map Prod.fst) ps → n = 60) := by
            by_cases g : Fits (t : Int).toNat (ps.map Prod.fst) ps
            · exact ⟨0, fun e he => (crew_check HOK.out he).1 g, fun _ => rfl, fun g' => absurd g g'⟩
            · exact ⟨60, fun e he => (crew_check HOK.out he).2 g, fun g' => absurd g' g, fun _ => rfl⟩
          obtain ⟨fn, hf1, hf2, hf3⟩ := hF
          have HF1 := Lib.hid hf1
          clear hf1 hr
          by_cases hfit : Fits (t : Int).toNat (ps.map Prod.fst) ps
          · obtain rfl := hf2 hfit
            have HFIT := Lib.hid hfit
            clear hf2 hf3 hfit
            have PJ := Lib.hid (fun W h => joint6_any A t c (ps.take t) HLT.out ((ps.map Prod.fst).take t) HJ.out HRJ.out (fun p hp => HP.out.u p (List.mem_of_mem_take hp)) W h)
            have hTt : ((t : Int)).toNat = t := by omega
            have HFI := Lib.hid (show CrewFits (t : Int) K ps ↔ qat ((ps.map Prod.fst).take t) 0 (ps.take t) = K from ⟨fun h => by have := h.2; rwa [hTt] at this, fun h => ⟨HFIT.out, by rw [hTt]; exact h⟩⟩)
            have hEQ : ∀ z, qat ((ps.map Prod.fst).take t) 0 (ps.take t) = z → (z = K → crewF (t : Int) N K ps = 0) ∧ (z ≠ K → crewF (t : Int) N K ps = 60) := fun z hz => ⟨fun e => (crewF_is _ _ _ _).2.2 HOK.out (HFI.out.2 (hz.trans e)), fun e => (crewF_is _ _ _ _).2.1 HOK.out (fun h => e (hz.symm.trans (HFI.out.1 h)))⟩
            have HEQ := Lib.hid hEQ
            clear hEQ hTt
            generalize hz1 : qat ((ps.map Prod.fst).take t) 0 (ps.take t) = z at *
            have HEZ := Lib.hid (HEQ.out z rfl)
            clear HEQ hz1
            go_wp2_with fail
            refine PC.out.mono ?_; rintro e w1 ⟨he, b⟩
            obtain rfl := HF1.out e he
            have e0 := (b.cell (p := ⟨w.heap.size, 0, none⟩) (by simp only []; omega)).trans d0
            have e2 := (b.cell (p := ⟨w.heap.size, 2, none⟩) (by simp only []; omega)).trans d2
            have e3 := (b.cell (p := ⟨w.heap.size, 3, none⟩) (by simp only []; omega)).trans d3
            have B1 := Lib.hid (below_on HB0.out b)
            have HS1 := Lib.hid ((HSR.out.on b).take t)
            have hz3 : w.heap.size < w1.heap.size := by have := b.size; omega
            have hd : w1.heap.size ≤ w1.drew.heap.size := Nat.le_refl _
            clear he b d0 d2 d3 k0 k2 k3
            go_wp2_with fail
            by_cases hq : z = K
            · have hqe : (z != K) = false := by simp [hq]
              have HE := Lib.hid (HEZ.out.1 hq)
              clear hq HEZ
              go_region_held_law (fun w' => w'.cell? ⟨w.heap.size, 0, none⟩ = some (.int .i64 (t : Int)) ∧ w'.cell? ⟨w.heap.size, 2, none⟩ = some (.int .u64 K) ∧ w'.cell? ⟨w.heap.size, 3, none⟩ = some (.slice A ps.length c)) (first | exact ⟨by assumption, by assumption, by assumption⟩ | go_keep)
                (first
                  | (go_at_call 47; refine (PJ.out _ (HS1.out.on ((Below.refl _ _).drew))).mono ?_; rintro e w5 ⟨rfl, b5⟩; have hW := (Below.refl w1.heap.size w1).drew.trans (b5.mono (by omega)); have k0' := (hW.cell (p := ⟨w.heap.size, 0, none⟩) hz3).trans e0; have k2' := (hW.cell (p := ⟨w.heap.size, 2, none⟩) hz3).trans e2; have k3' := (hW.cell (p := ⟨w.heap.size, 3, none⟩) hz3).trans e3))
              have HX := Lib.hid (B1.out.trans (hW.mono B1.out.size))
              clear hW k0' k2' k3' e0 e2 e3
              go_wp2_with fail
              go_ret
              exact ⟨by rw [HE.out]; simp, HX.out⟩
            · have hqe : (z != K) = true := by simp [hq]
              have HE := Lib.hid (HEZ.out.2 hq)
              clear hq HEZ
              go_region_held_law (fun w' => w'.cell? ⟨w.heap.size, 0, none⟩ = some (.int .i64 (t : Int)) ∧ w'.cell? ⟨w.heap.size, 2, none⟩ = some (.int .u64 K) ∧ w'.cell? ⟨w.heap.size, 3, none⟩ = some (.slice A ps.length c)) (first | exact ⟨by assumption, by assumption, by assumption⟩ | go_keep)
                (first
                  | (go_at_call 47; refine (PJ.out _ (HS1.out.on ((Below.refl _ _).drew))).mono ?_; rintro e w5 ⟨rfl, b5⟩; have hW := (Below.refl w1.heap.size w1).drew.trans (b5.mono (by omega)); have k0' := (hW.cell (p := ⟨w.heap.size, 0, none⟩) hz3).trans e0; have k2' := (hW.cell (p := ⟨w.heap.size, 2, none⟩) hz3).trans e2; have k3' := (hW.cell (p := ⟨w.heap.size, 3, none⟩) hz3).trans e3))
              have HX := Lib.hid (B1.out.trans (hW.mono B1.out.size))
              clear hW k0' k2' k3' e0 e2 e3
              go_wp2_with fail
              go_ret
              exact ⟨by rw [HE.out]; simp, HX.out⟩
          · obtain rfl := hf3 hfit
            have HE := Lib.hid ((crewF_is (t : Int) N K ps).2.1 HOK.out (fun h => hfit h.1))
            clear hf2 hf3 hfit
            go_wp2_with fail
            refine PC.out.mono ?_; rintro e w1 ⟨he, b⟩
            obtain rfl := HF1.out e he
            have B1 := Lib.hid (below_on HB0.out b)
            clear he b
            go_wp2_with fail
            go_ret
            exact ⟨by rw [HE.out]; rfl, B1.out⟩
    · have HE := Lib.hid (HNO.out (fun h => h5 h.2.2.2.2.1))
      rw [h4] at P
      have q5 : ((ps.length : Int) != N) = true := by simp [h5]
      clear h5 h4
      go_enter Tryz.func19, Tryz.ntmps19
      go_wp2_with fail
      refine (P.out _).mono ?_; rintro e w1 ⟨rfl, rfl⟩
      go_wp2_with fail
      go_ret
      exact ⟨by rw [HE.out]; rfl, D0.out⟩
  · have HE := Lib.hid (HNO.out (fun h => h4 h.2.2.2.1))
    rw [Bool.eq_false_iff.2 h4] at P
    clear h4
    go_enter Tryz.func19, Tryz.ntmps19
    go_wp2_with fail
    refine (P.out _).mono ?_; rintro e w1 ⟨rfl, rfl⟩
    go_wp2_with fail
    go_ret
    exact ⟨by rw [HE.out]; rfl, D0.out⟩
end Go.Proofs.YtlannmedefjfhaaGreat
