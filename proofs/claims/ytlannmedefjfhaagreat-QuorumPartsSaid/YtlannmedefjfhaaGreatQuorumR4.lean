/- The document's own answers on a signer: its nonce, what it commits to. -/
import Derived.Test.YtlannmedefjfhaaGreatQuorumR3
import Derived.Test.YtlannmedefjfhaaGreatQuorumK
namespace Go.Proofs.YtlannmedefjfhaaGreat
open Go.ChangeShapes Go.WideShapes Go.ChangeAt Go.RowKit Gs
set_option linter.unusedVariables false

set_option maxRecDepth 100000 in
set_option maxHeartbeats 4000000 in
theorem nonce6_any (x : Int × Int) (n : Int) [IsU x.2] (h : SignerOk x n) (A : Option Addr) (c : Nat) (ms : List Int) (hx : ∀ x ∈ ms, 0 ≤ x ∧ x < 256) (hl : ms.length ≤ 1000) (hc : ms.length ≤ c) (hm : c ≤ maxLen) (w : World) (hs : SI w w.heap.size .u8 A ms) :
    Calls Tryz.prog 51 #[.agg #[.int .i64 x.1, .int .u64 x.2], .int .i64 n, .slice A ms.length c] w fun e w' => e = .returned (.int .u64 (qnonce x n ms)) ∧ Below w.heap.size w w' := by
  obtain ⟨h1, h2, h3, h4, h5⟩ := h
  haveI : IsU x.1 := ⟨by omega, by omega⟩
  haveI : IsU n := ⟨by omega, by omega⟩
  haveI : IsU 1152921504606845788 := ⟨by omega, by omega⟩
  have hw1 : IntKind.u64.wrap x.1 = x.1 := by rw [IntKind.wrap_u64]; omega
  have hw2 : IntKind.u64.wrap n = n := by rw [IntKind.wrap_u64]; omega
  have PX := Lib.hid (Eight_any x.2)
  have PI := Lib.hid (Eight_any x.1)
  have PS := Lib.hid (Eight_any n)
  have V := Lib.hid (show Sli w (.slice A ms.length c) ms from ⟨A, c, rfl, hc, hm, hs⟩)
  have KP := Lib.hid (commit_parts x.2 x.1 n hx hl)
  have T1 := Lib.hid (fun A c => refTagged_any ⟨#[99, 111, 109, 109, 105, 116]⟩ A c [be x.2 8, be x.1 8, be n 8, ms] KP.out.byte KP.out.len KP.out.few)
  have M1 := Lib.hid (refNum_any (hst (coded (sbytes ⟨#[99, 111, 109, 109, 105, 116]⟩) [be x.2 8, be x.1 8, be n 8, ms])).1 (hst (coded (sbytes ⟨#[99, 111, 109, 109, 105, 116]⟩) [be x.2 8, be x.1 8, be n 8, ms])).2.1 1152921504606845788)
  have hqn := qnonce_bound x n ms
  have HQ := Lib.hid (show qnonce x n ms = 1 + hnum (hst (coded (sbytes ⟨#[99, 111, 109, 109, 105, 116]⟩) [be x.2 8, be x.1 8, be n 8, ms])).1 (hst (coded (sbytes ⟨#[99, 111, 109, 109, 105, 116]⟩) [be x.2 8, be x.1 8, be n 8, ms])).2.1 1152921504606845788 from rfl)
  have HWR := Lib.hid (show IntKind.u64.wrap (1 + hnum (hst (coded (sbytes ⟨#[99, 111, 109, 109, 105, 116]⟩) [be x.2 8, be x.1 8, be n 8, ms])).1 (hst (coded (sbytes ⟨#[99, 111, 109, 109, 105, 116]⟩) [be x.2 8, be x.1 8, be n 8, ms])).2.1 1152921504606845788) = qnonce x n ms by rw [← HQ.out, IntKind.wrap_u64]; omega)
  have D0 := Lib.hid ((Below.refl w.heap.size w).alloc (Nat.le_refl _) (.cells #[.int .i64 x.1, .int .u64 x.2] 37))
  have KB := Blk.new w 37 #[.int .i64 x.1, .int .u64 x.2]
  have k0 := KB.cell 0
  have k1 := KB.cell 1
  clear KB hs hx hc hm
  generalize hst (coded (sbytes ⟨#[99, 111, 109, 109, 105, 116]⟩) [be x.2 8, be x.1 8, be n 8, ms]) = H at *
  go_enter Tryz.func51, Tryz.ntmps51
  go_wp2_with fail
  refine wp_named (fun W => W.cell? ⟨w.heap.size, 0, none⟩ = some (.int .i64 x.1) ∧ W.cell? ⟨w.heap.size, 1, none⟩ = some (.int .u64 x.2) ∧ Below w.heap.size w W ∧ w.heap.size < W.heap.size) ⟨k0, k1, D0.out, by simp⟩ ?_
  clear k0 k1 D0
  rintro W ⟨c0, c1, hD, hz⟩
  have D0 := Lib.hid hD
  have VM := Lib.hid (fun wi (h : Below W.heap.size W wi) => (V.out.on hD).on h)
  clear hD
  have hW : Below W.heap.size W W.drew := (Below.refl W.heap.size W).drew
  have hZ0 : W.heap.size ≤ W.drew.heap.size := Nat.le_refl _
  go_region_held_law (fun w' => w'.cell? ⟨w.heap.size, 0, none⟩ = some (.int .i64 x.1) ∧ w'.cell? ⟨w.heap.size, 1, none⟩ = some (.int .u64 x.2)) (first | exact ⟨by assumption, by assumption⟩ | exact ⟨cell_set2 (by omega) (by assumption), cell_set2 (by omega) (by assumption)⟩ | go_keep)
    (first
      | (go_at_call_of 106 (Value.int IntKind.u64 x.2); refine (PX.out _).mono ?_; rintro e w5 ⟨v1, rfl, ho, b5⟩; have bb : Below (W.drew).heap.size (W.drew) w5 := (by first | exact b5 | exact below_on ((Below.refl (W.drew).heap.size (W.drew)).alloc (Nat.le_refl _) _) b5); (first | (have GB := Lib.hid (GB.out.below bb GB.out.lt)) | (have GB := Lib.hid (show Blk w5 (W).heap.size 106 #[.int .u64 0, .int .u64 0] from (Blk.new_at (W.drew) 106 #[.int .u64 0, .int .u64 0] rfl).below b5 (by simp <;> omega))) | skip); have hW := below_on hW bb; have hZ1 := hW.size; have k0 := (hW.cell (p := ⟨w.heap.size, 0, none⟩) hz).trans c0; have k1 := (hW.cell (p := ⟨w.heap.size, 1, none⟩) hz).trans c1; obtain ⟨A1, m1, rfl, l1, r1, s1, _⟩ := own_sliceB ho; have V1 := Lib.hid (show Sli w5 (.slice A1 (be x.2 8).length m1) (be x.2 8) from ⟨A1, m1, rfl, l1, r1, s1⟩); clear ho l1 r1 s1)
      | (go_at_call_of 106 (Value.int IntKind.u64 x.1); refine (PI.out _).mono ?_; rintro e w6 ⟨v2, rfl, ho, b5⟩; have bb : Below (w5).heap.size (w5) w6 := (by first | exact b5 | exact below_on ((Below.refl (w5).heap.size (w5)).alloc (Nat.le_refl _) _) b5); (first | (have GB := Lib.hid (GB.out.below bb GB.out.lt)) | (have GB := Lib.hid (show Blk w6 (w5).heap.size 106 #[.int .u64 0, .int .u64 0] from (Blk.new_at (w5) 106 #[.int .u64 0, .int .u64 0] rfl).below b5 (by simp <;> omega))) | skip); have hW := below_on hW bb; have hZ2 := hW.size; have k0 := (hW.cell (p := ⟨w.heap.size, 0, none⟩) hz).trans c0; have k1 := (hW.cell (p := ⟨w.heap.size, 1, none⟩) hz).trans c1; obtain ⟨A2, m2, rfl, l2, r2, s2, _⟩ := own_sliceB ho; have V2 := Lib.hid (show Sli w6 (.slice A2 (be x.1 8).length m2) (be x.1 8) from ⟨A2, m2, rfl, l2, r2, s2⟩); clear ho l2 r2 s2; have V1 := Lib.hid (V1.out.on bb))
      | (go_at_call_of 106 (Value.int IntKind.u64 n); refine (PS.out _).mono ?_; rintro e w7 ⟨v3, rfl, ho, b5⟩; have bb : Below (w6).heap.size (w6) w7 := (by first | exact b5 | exact below_on ((Below.refl (w6).heap.size (w6)).alloc (Nat.le_refl _) _) b5); (first | (have GB := Lib.hid (GB.out.below bb GB.out.lt)) | (have GB := Lib.hid (show Blk w7 (w6).heap.size 106 #[.int .u64 0, .int .u64 0] from (Blk.new_at (w6) 106 #[.int .u64 0, .int .u64 0] rfl).below b5 (by simp <;> omega))) | skip); have hW := below_on hW bb; have hZ3 := hW.size; have k0 := (hW.cell (p := ⟨w.heap.size, 0, none⟩) hz).trans c0; have k1 := (hW.cell (p := ⟨w.heap.size, 1, none⟩) hz).trans c1; obtain ⟨A3, m3, rfl, l3, r3, s3, _⟩ := own_sliceB ho; have V3 := Lib.hid (show Sli w7 (.slice A3 (be n 8).length m3) (be n 8) from ⟨A3, m3, rfl, l3, r3, s3⟩); clear ho l3 r3 s3; have V1 := Lib.hid (V1.out.on bb); have V2 := Lib.hid (V2.out.on bb))
      | (go_at_call 89; refine Calls.mono (T1.out _ _ _ (by first | exact sp4 (Blk.new_at w7 _ _ rfl) (V1.out.on ((Below.refl w7.heap.size w7).alloc (Nat.le_refl _) _)) (V2.out.on ((Below.refl w7.heap.size w7).alloc (Nat.le_refl _) _)) (V3.out.on ((Below.refl w7.heap.size w7).alloc (Nat.le_refl _) _)) ((VM.out _ hW).on ((Below.refl w7.heap.size w7).alloc (Nat.le_refl _) _)) | exact sp4 (Blk.new_at (w7.alloc _) _ _ (by simp)) (V1.out.on (((Below.refl w7.heap.size w7).alloc (Nat.le_refl _) _).alloc (by simp) _)) (V2.out.on (((Below.refl w7.heap.size w7).alloc (Nat.le_refl _) _).alloc (by simp) _)) (V3.out.on (((Below.refl w7.heap.size w7).alloc (Nat.le_refl _) _).alloc (by simp) _)) ((VM.out _ hW).on (((Below.refl w7.heap.size w7).alloc (Nat.le_refl _) _).alloc (by simp) _)) | exact sp4 ((Blk.new_at w7 _ _ rfl).alloc _) (V1.out.on (((Below.refl w7.heap.size w7).alloc (Nat.le_refl _) _).alloc (by simp) _)) (V2.out.on (((Below.refl w7.heap.size w7).alloc (Nat.le_refl _) _).alloc (by simp) _)) (V3.out.on (((Below.refl w7.heap.size w7).alloc (Nat.le_refl _) _).alloc (by simp) _)) ((VM.out _ hW).on (((Below.refl w7.heap.size w7).alloc (Nat.le_refl _) _).alloc (by simp) _)))) ?_; rintro e w8 ⟨rfl, b8⟩; have bb : Below w7.heap.size w7 w8 := (by first | exact below_on ((Below.refl w7.heap.size w7).alloc (Nat.le_refl _) _) b8 | exact below_on (((Below.refl w7.heap.size w7).alloc (Nat.le_refl _) _).alloc (by simp) _) b8); (first | (have GB := Lib.hid (GB.out.below bb GB.out.lt)) | (have GB := Lib.hid (((Blk.new_at w7 106 #[.int .u64 0, .int .u64 0] rfl).alloc _).below b8 (by simp <;> omega))) | (have GB := Lib.hid (Blk.below (show Blk ((w7.alloc _).alloc _) (w7.heap.size + 1) 106 #[.int .u64 0, .int .u64 0] from Blk.new_at _ _ _ (by simp)) b8 (by simp <;> omega))) | skip); have hW := below_on hW bb; have k0 := (hW.cell (p := ⟨w.heap.size, 0, none⟩) hz).trans c0; have k1 := (hW.cell (p := ⟨w.heap.size, 1, none⟩) hz).trans c1; (try (obtain ⟨⟨g0, g1⟩, f0, f1⟩ := GB.out.facts2)))
    )
  all_goals
    clear k0 k1 c0 c1 VM V1 V2 V3 PX PI PS T1 V
    go_wp2_with fail
    refine (M1.out _).mono ?_; rintro e w9 ⟨rfl, hb⟩
    go_wp2_with fail
    go_ret
    refine ⟨by first | exact congrArg (fun z => Ending.returned (.int .u64 z)) HWR.out | (rw [HQ.out]; rfl) | rw [HQ.out], ?_⟩
    first
      | exact below_on (D0.out.trans ((hW.alloc hW.size _).mono D0.out.size)) hb
      | exact below_on (D0.out.trans ((below_setQ (below_setQ hW (by omega) _) (by omega) _).mono D0.out.size)) hb

set_option maxRecDepth 100000 in
set_option maxHeartbeats 4000000 in
theorem Commit6_ok (x : Int × Int) (n : Int) [IsU x.2] (h : SignerOk x n) (A : Option Addr) (c : Nat) (ms : List Int) (hm : ByFix c ms) (w : World) (hs : SI w w.heap.size .u8 A ms) :
    Calls Tryz.prog 21 #[.agg #[.int .i64 x.1, .int .u64 x.2], .int .i64 n, .slice A ms.length c] w fun e w' => e = .returned (.tuple #[.agg #[.int .i64 (qcom x n ms).1, .int .u64 (qcom x n ms).2], .int .i64 0]) ∧ Below w.heap.size w w' := by
  have D0 := Lib.hid (((Below.refl w.heap.size w).alloc (Nat.le_refl _) (.cells #[.int .i64 x.1, .int .u64 x.2] 37)).alloc (by simp) (.cells #[.int .i64 0, .int .u64 0] 37))
  have K1 := Lib.hid ((Blk.new w 37 #[.int .i64 x.1, .int .u64 x.2]).alloc (.cells #[.int .i64 0, .int .u64 0] 37))
  have K2 := Lib.hid (Blk.new_at (w.alloc (.cells #[.int .i64 x.1, .int .u64 x.2] 37)) 37 #[.int .i64 0, .int .u64 0] (g := w.heap.size + 1) (by simp))
  have HS := Lib.hid hs
  have P2 := Lib.hid (fun W hW => nonce6_any x n h A c ms hm.u hm.len hm.cap hm.max W hW)
  have P3 := Lib.hid (fun W => (ref_Base (qnonce x n ms) W).mono fun r w' h => (⟨h.1, h.2 ▸ Below.refl W.heap.size W⟩ : r = .returned (.int .u64 (qpow 4 (qnonce x n ms))) ∧ Below W.heap.size W w'))
  show Calls _ _ _ _ fun e w' => e = .returned (.tuple #[.agg #[.int .i64 x.1, .int .u64 (qpow 4 (qnonce x n ms))], .int .i64 0]) ∧ _
  generalize qnonce x n ms = qn at *
  generalize qpow 4 qn = z at *
  obtain ⟨h1, h2, h3, h4, h5⟩ := h
  clear hs hm
  go_enter Tryz.func21, Tryz.ntmps21
  go_upto_region 3 with (fail)
  refine wp_named (fun W => Blk W w.heap.size 37 #[.int .i64 x.1, .int .u64 x.2] ∧ Blk W (w.heap.size + 1) 37 #[.int .i64 0, .int .u64 0] ∧ Below w.heap.size w W) ⟨K1.out, K2.out, D0.out⟩ ?_
  clear K1 K2 D0
  rintro w1 ⟨k1, k2, hB⟩
  have B1 := Lib.hid hB
  have HS1 := Lib.hid (HS.out.on hB)
  have a0 := k1.cell 0
  have a1 := k1.cell 1
  have hz1 := k1.lt
  have hz2 := k2.lt
  have K2' := Lib.hid k2
  clear hB k1 k2 HS
  have hW : Below w1.heap.size w1 w1.drew := (Below.refl w1.heap.size w1).drew
  go_cut [7] (fun s7 wx => s7 = .int .i64 0 ∧ Blk wx (w.heap.size + 1) 37 #[.int .i64 x.1, .int .u64 z] ∧ Below w.heap.size w wx)
  case first =>
    go_region_held_law (fun w' => w'.cell? ⟨w.heap.size, 0, none⟩ = some (.int .i64 x.1) ∧ w'.cell? ⟨w.heap.size, 1, none⟩ = some (.int .u64 x.2)) (first | exact ⟨by assumption, by assumption⟩ | exact ⟨cell_setA (by simp only []; omega) (by assumption), cell_setA (by simp only []; omega) (by assumption)⟩ | go_keep)
      (first
        | (go_at_call 51; refine (P2.out _ (HS1.out.on hW)).mono ?_; rintro _ w5 ⟨rfl, b5⟩; have hW := below_on hW b5; have e0 := (hW.cell (p := ⟨w.heap.size, 0, none⟩) hz1).trans a0; have e1 := (hW.cell (p := ⟨w.heap.size, 1, none⟩) hz1).trans a1)
        | (go_at_call 50; refine (P3.out _).mono ?_; rintro _ w6 ⟨rfl, b5⟩; have hW := below_on hW b5; have e0 := (hW.cell (p := ⟨w.heap.size, 0, none⟩) hz1).trans a0; have e1 := (hW.cell (p := ⟨w.heap.size, 1, none⟩) hz1).trans a1; have HK := K2'.out.below hW K2'.out.lt; (obtain ⟨⟨g0, g1⟩, f0, f1⟩ := HK.facts2)))
    all_goals
      clear e0 e1 a0 a1
      go_wp2_with fail
      go_meet
      exact ⟨rfl, (K2'.out.below hW K2'.out.lt).set2, below_setR (below_setR (B1.out.trans (hW.mono B1.out.size)) (by omega) _) (by omega) _⟩
  case rest =>
    obtain ⟨rfl, hk, hB⟩ := hcut
    have h := hk.facts2.1
    go_wp2_with fail
    refine bodyPost_ret (v := .tuple #[.agg #[.int .i64 x.1, .int .u64 z], .int .i64 0]) (by simp [results, Tryz.results21, go_sem, h.1, h.2]) rfl ⟨rfl, hB⟩

theorem Commit6_no (x : Int × Int) (n : Int) (h : ¬ SignerOk x n) (A : Option Addr) (m c : Nat) (w : World) :
    Calls Tryz.prog 21 #[.agg #[.int .i64 x.1, .int .u64 x.2], .int .i64 n, .slice A m c] w fun e w' => e = .returned (.tuple #[.agg #[.int .i64 0, .int .u64 0], .int .i64 1]) ∧ Below w.heap.size w w' := by
  have h : x.1 < 1 ∨ (1 ≤ x.1 ∧ 7 < x.1) ∨ (1 ≤ x.1 ∧ x.1 ≤ 7 ∧ 1152921504606845789 ≤ x.2) ∨ (1 ≤ x.1 ∧ x.1 ≤ 7 ∧ x.2 < 1152921504606845789 ∧ n < 0) ∨ (1 ≤ x.1 ∧ x.1 ≤ 7 ∧ x.2 < 1152921504606845789 ∧ 0 ≤ n ∧ 1099511627776 < n) := by unfold SignerOk at h; omega
  have D0 := Lib.hid (((Below.refl w.heap.size w).alloc (Nat.le_refl _) (.cells #[.int .i64 x.1, .int .u64 x.2] 37)).alloc (by simp) (.cells #[.int .i64 0, .int .u64 0] 37))
  rcases h with h | ⟨h1, h2⟩ | ⟨h1, h2, h3⟩ | ⟨h1, h2, h3, h4⟩ | ⟨h1, h2, h3, h4, h5⟩
  all_goals
    go_enter Tryz.func21, Tryz.ntmps21
    go_wp2_with fail
    have hk := (Blk.new_at (w.alloc (.cells #[.int .i64 x.1, .int .u64 x.2] 37)) 37 #[.int .i64 0, .int .u64 0] (g := w.heap.size + 1) (by simp))
    have h := hk.facts2.1
    refine bodyPost_ret (v := .tuple #[.agg #[.int .i64 0, .int .u64 0], .int .i64 1]) (by simp [results, Tryz.results21, go_sem]) rfl ⟨rfl, ?_⟩
    exact D0.out
end Go.Proofs.YtlannmedefjfhaaGreat
