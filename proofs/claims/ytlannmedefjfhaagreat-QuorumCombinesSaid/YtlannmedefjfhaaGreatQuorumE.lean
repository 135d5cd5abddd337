/- What package quorum tells of a signer: its nonce, what it commits to. -/
import Derived.Test.YtlannmedefjfhaaGreatQuorumD
import Derived.Deep.RegionWith
namespace Go.Proofs.YtlannmedefjfhaaGreat
open Go.ChangeShapes Go.WideShapes Go.ChangeAt Go.RowKit Gs
set_option linter.unusedVariables false

theorem sp4 {w : World} {g : Nat} {t : TypeId} {v u z y : Value} {xs ys zs us : List Int} (h : Blk w g t #[v, u, z, y]) (hv : Sli w v xs) (hu : Sli w u ys) (hz : Sli w z zs) (hy : Sli w y us) : SP w w.heap.size (some ⟨g, 0, none⟩) [xs, ys, zs, us] := fun j hj => by
  rcases j with _ | _ | _ | _ | j
  · exact sli_at (ps := [xs, ys, zs, us]) (j := 0) hj rfl hv h.lt (h.cell 0)
  · exact sli_at (ps := [xs, ys, zs, us]) (j := 1) hj rfl hu h.lt (h.cell 1)
  · exact sli_at (ps := [xs, ys, zs, us]) (j := 2) hj rfl hz h.lt (h.cell 2)
  · exact sli_at (ps := [xs, ys, zs, us]) (j := 3) hj rfl hy h.lt (h.cell 3)
  · exact absurd hj (by simp)
theorem sli_ownB {w : World} {B : Nat} {v : Value} {xs : List Int} (h : OwnB w B v xs) : Sli w v xs := by
  obtain ⟨A, c, e, h1, h2, hs, _⟩ := own_sliceB h
  exact ⟨A, c, e, h1, h2, hs⟩
theorem cell_set2 {W : World} {g o b o1 o2 : Nat} {v1 v2 v : Value} (h : g ≠ b) (hc : W.cell? ⟨g, o, none⟩ = some v) : ((W.setCell ⟨b, o1, none⟩ v1).setCell ⟨b, o2, none⟩ v2).cell? ⟨g, o, none⟩ = some v := by
  have e : ((W.setCell ⟨b, o1, none⟩ v1).setCell ⟨b, o2, none⟩ v2).heap[g]? = W.heap[g]? := (Below.heap_setCell _ ⟨b, o2, none⟩ v2 g h).trans (Below.heap_setCell _ ⟨b, o1, none⟩ v1 g h)
  exact (World.cell?_of_block (a := ⟨g, o, none⟩) e).trans hc
theorem below_setQ {B : Nat} {w w' : World} (h : Below B w w') {g o : Nat} (hg : B ≤ g) (v : Value) : Below B w (w'.setCell ⟨g, o, none⟩ v) := h.setCell hg v
theorem be_byte (n : Int) : ∀ k, ∀ x ∈ be n k, 0 ≤ x ∧ x < 256
  | 0, x, hx => by simp [be] at hx
  | k + 1, x, hx => by
    rcases List.mem_cons.1 (show x ∈ byt n k :: be n k from hx) with rfl | h
    · exact byt_bound _ _
    · exact be_byte n k x h
theorem commit_parts (a b c : Int) {ms : List Int} (hx : ∀ x ∈ ms, 0 ≤ x ∧ x < 256) (hl : ms.length ≤ 1000) : Parts ⟨#[99, 111, 109, 109, 105, 116]⟩ [be a 8, be b 8, be c 8, ms] :=
  ⟨by
    intro q hq
    simp only [List.mem_cons, List.not_mem_nil, or_false] at hq
    rcases hq with rfl | rfl | rfl | rfl
    · exact be_byte _ _
    · exact be_byte _ _
    · exact be_byte _ _
    · exact hx, by simp [psz, ByteArray.size, be_length]; omega, by simp⟩
theorem qnonce_bound (x : Int × Int) (n : Int) (ms : List Int) : 1 ≤ qnonce x n ms ∧ qnonce x n ms < 1152921504606845789 := by
  have h := hof_bound ⟨#[99, 111, 109, 109, 105, 116]⟩ [be x.2 8, be x.1 8, be n 8, ms] (m := 1152921504606845788) (by omega)
  unfold qnonce; omega
instance (x : Int × Int) (n : Int) (ms : List Int) : IsU (qnonce x n ms) := ⟨by have := qnonce_bound x n ms; omega, by have := qnonce_bound x n ms; omega⟩

set_option maxRecDepth 100000 in
set_option maxHeartbeats 4000000 in
theorem qnonce_any (x : Int × Int) (n : Int) [IsU x.2] (h : SignerOk x n) (A : Option Addr) (c : Nat) (ms : List Int) (hx : ∀ x ∈ ms, 0 ≤ x ∧ x < 256) (hl : ms.length ≤ 1000) (hc : ms.length ≤ c) (hm : c ≤ maxLen) (w : World) (hs : SI w w.heap.size .u8 A ms) :
    Calls Tryz.prog 49 #[.agg #[.int .i64 x.1, .int .u64 x.2, .int .i64 n, .slice A ms.length c]] w fun e w' => e = .returned (.int .u64 (qnonce x n ms)) ∧ Below w.heap.size w w' := by
  obtain ⟨h1, h2, h3, h4, h5⟩ := h
  haveI : IsU x.1 := ⟨by omega, by omega⟩
  haveI : IsU n := ⟨by omega, by omega⟩
  haveI : IsU 1152921504606845788 := ⟨by omega, by omega⟩
  have hw1 : IntKind.u64.wrap x.1 = x.1 := by rw [IntKind.wrap_u64]; omega
  have hw2 : IntKind.u64.wrap n = n := by rw [IntKind.wrap_u64]; omega
  have PX := Lib.hid (qbytes_any x.2)
  have PI := Lib.hid (qbytes_any x.1)
  have PS := Lib.hid (qbytes_any n)
  have V := Lib.hid (show Sli w (.slice A ms.length c) ms from ⟨A, c, rfl, hc, hm, hs⟩)
  have KP := Lib.hid (commit_parts x.2 x.1 n hx hl)
  have T1 := Lib.hid (fun A c => Tagged_any ⟨#[99, 111, 109, 109, 105, 116]⟩ A c [be x.2 8, be x.1 8, be n 8, ms] KP.out.byte KP.out.len KP.out.few)
  have M1 := Lib.hid (Num_any (hst (coded (sbytes ⟨#[99, 111, 109, 109, 105, 116]⟩) [be x.2 8, be x.1 8, be n 8, ms])).1 (hst (coded (sbytes ⟨#[99, 111, 109, 109, 105, 116]⟩) [be x.2 8, be x.1 8, be n 8, ms])).2.1 1152921504606845788)
  have hqn := qnonce_bound x n ms
  have HQ := Lib.hid (show qnonce x n ms = 1 + hnum (hst (coded (sbytes ⟨#[99, 111, 109, 109, 105, 116]⟩) [be x.2 8, be x.1 8, be n 8, ms])).1 (hst (coded (sbytes ⟨#[99, 111, 109, 109, 105, 116]⟩) [be x.2 8, be x.1 8, be n 8, ms])).2.1 1152921504606845788 from rfl)
  have HWR := Lib.hid (show IntKind.u64.wrap (1 + hnum (hst (coded (sbytes ⟨#[99, 111, 109, 109, 105, 116]⟩) [be x.2 8, be x.1 8, be n 8, ms])).1 (hst (coded (sbytes ⟨#[99, 111, 109, 109, 105, 116]⟩) [be x.2 8, be x.1 8, be n 8, ms])).2.1 1152921504606845788) = qnonce x n ms by rw [← HQ.out, IntKind.wrap_u64]; omega)
  have D0 := Lib.hid ((Below.refl w.heap.size w).alloc (Nat.le_refl _) (.cells #[.int .i64 x.1, .int .u64 x.2, .int .i64 n, .slice A ms.length c] 73))
  have KB := Blk.new w 73 #[.int .i64 x.1, .int .u64 x.2, .int .i64 n, .slice A ms.length c]
  have k0 := KB.cell 0
  have k1 := KB.cell 1
  have k2 := KB.cell 2
  have k3 := KB.cell 3
  clear KB hs hx hc hm
  generalize hst (coded (sbytes ⟨#[99, 111, 109, 109, 105, 116]⟩) [be x.2 8, be x.1 8, be n 8, ms]) = H at *
  go_enter Tryz.func49, Tryz.ntmps49
  go_wp2_with fail
  refine wp_named (fun W => W.cell? ⟨w.heap.size, 0, none⟩ = some (.int .i64 x.1) ∧ W.cell? ⟨w.heap.size, 1, none⟩ = some (.int .u64 x.2) ∧ W.cell? ⟨w.heap.size, 2, none⟩ = some (.int .i64 n) ∧ W.cell? ⟨w.heap.size, 3, none⟩ = some (.slice A ms.length c) ∧ Below w.heap.size w W ∧ w.heap.size < W.heap.size) ⟨k0, k1, k2, k3, D0.out, by simp⟩ ?_
  clear k0 k1 k2 k3 D0
  rintro W ⟨c0, c1, c2, c3, hD, hz⟩
  have D0 := Lib.hid hD
  have VM := Lib.hid (fun wi (h : Below W.heap.size W wi) => (V.out.on hD).on h)
  clear hD
  have hW : Below W.heap.size W W.drew := (Below.refl W.heap.size W).drew
  have hZ0 : W.heap.size ≤ W.drew.heap.size := Nat.le_refl _
  go_region_held_law (fun w' => w'.cell? ⟨w.heap.size, 0, none⟩ = some (.int .i64 x.1) ∧ w'.cell? ⟨w.heap.size, 1, none⟩ = some (.int .u64 x.2) ∧ w'.cell? ⟨w.heap.size, 2, none⟩ = some (.int .i64 n) ∧ w'.cell? ⟨w.heap.size, 3, none⟩ = some (.slice A ms.length c)) (first | exact ⟨by assumption, by assumption, by assumption, by assumption⟩ | exact ⟨cell_set2 (by omega) (by assumption), cell_set2 (by omega) (by assumption), cell_set2 (by omega) (by assumption), cell_set2 (by omega) (by assumption)⟩ | go_keep)
    (first
      | (go_at_call_of 104 (Value.int IntKind.u64 x.2); refine (PX.out _).mono ?_; rintro e w5 ⟨v1, rfl, ho, b5⟩; have bb : Below (W.drew).heap.size (W.drew) w5 := (by first | exact b5 | exact below_on ((Below.refl (W.drew).heap.size (W.drew)).alloc (Nat.le_refl _) _) b5); (first | (have GB := Lib.hid (GB.out.below bb GB.out.lt)) | (have GB := Lib.hid (show Blk w5 (W).heap.size 106 #[.int .u64 0, .int .u64 0] from (Blk.new_at (W.drew) 106 #[.int .u64 0, .int .u64 0] rfl).below b5 (by simp <;> omega))) | skip); have hW := below_on hW bb; have hZ1 := hW.size; have k0 := (hW.cell (p := ⟨w.heap.size, 0, none⟩) hz).trans c0; have k1 := (hW.cell (p := ⟨w.heap.size, 1, none⟩) hz).trans c1; have k2 := (hW.cell (p := ⟨w.heap.size, 2, none⟩) hz).trans c2; have k3 := (hW.cell (p := ⟨w.heap.size, 3, none⟩) hz).trans c3; obtain ⟨A1, m1, rfl, l1, r1, s1, _⟩ := own_sliceB ho; have V1 := Lib.hid (show Sli w5 (.slice A1 (be x.2 8).length m1) (be x.2 8) from ⟨A1, m1, rfl, l1, r1, s1⟩); clear ho l1 r1 s1)
      | (go_at_call_of 104 (Value.int IntKind.u64 x.1); refine (PI.out _).mono ?_; rintro e w6 ⟨v2, rfl, ho, b5⟩; have bb : Below (w5).heap.size (w5) w6 := (by first | exact b5 | exact below_on ((Below.refl (w5).heap.size (w5)).alloc (Nat.le_refl _) _) b5); (first | (have GB := Lib.hid (GB.out.below bb GB.out.lt)) | (have GB := Lib.hid (show Blk w6 (w5).heap.size 106 #[.int .u64 0, .int .u64 0] from (Blk.new_at (w5) 106 #[.int .u64 0, .int .u64 0] rfl).below b5 (by simp <;> omega))) | skip); have hW := below_on hW bb; have hZ2 := hW.size; have k0 := (hW.cell (p := ⟨w.heap.size, 0, none⟩) hz).trans c0; have k1 := (hW.cell (p := ⟨w.heap.size, 1, none⟩) hz).trans c1; have k2 := (hW.cell (p := ⟨w.heap.size, 2, none⟩) hz).trans c2; have k3 := (hW.cell (p := ⟨w.heap.size, 3, none⟩) hz).trans c3; obtain ⟨A2, m2, rfl, l2, r2, s2, _⟩ := own_sliceB ho; have V2 := Lib.hid (show Sli w6 (.slice A2 (be x.1 8).length m2) (be x.1 8) from ⟨A2, m2, rfl, l2, r2, s2⟩); clear ho l2 r2 s2; have V1 := Lib.hid (V1.out.on bb))
      | (go_at_call_of 104 (Value.int IntKind.u64 n); refine (PS.out _).mono ?_; rintro e w7 ⟨v3, rfl, ho, b5⟩; have bb : Below (w6).heap.size (w6) w7 := (by first | exact b5 | exact below_on ((Below.refl (w6).heap.size (w6)).alloc (Nat.le_refl _) _) b5); (first | (have GB := Lib.hid (GB.out.below bb GB.out.lt)) | (have GB := Lib.hid (show Blk w7 (w6).heap.size 106 #[.int .u64 0, .int .u64 0] from (Blk.new_at (w6) 106 #[.int .u64 0, .int .u64 0] rfl).below b5 (by simp <;> omega))) | skip); have hW := below_on hW bb; have hZ3 := hW.size; have k0 := (hW.cell (p := ⟨w.heap.size, 0, none⟩) hz).trans c0; have k1 := (hW.cell (p := ⟨w.heap.size, 1, none⟩) hz).trans c1; have k2 := (hW.cell (p := ⟨w.heap.size, 2, none⟩) hz).trans c2; have k3 := (hW.cell (p := ⟨w.heap.size, 3, none⟩) hz).trans c3; obtain ⟨A3, m3, rfl, l3, r3, s3, _⟩ := own_sliceB ho; have V3 := Lib.hid (show Sli w7 (.slice A3 (be n 8).length m3) (be n 8) from ⟨A3, m3, rfl, l3, r3, s3⟩); clear ho l3 r3 s3; have V1 := Lib.hid (V1.out.on bb); have V2 := Lib.hid (V2.out.on bb))
      | (go_at_call 103; refine Calls.mono (T1.out _ _ _ (by first | exact sp4 (Blk.new_at w7 _ _ rfl) (V1.out.on ((Below.refl w7.heap.size w7).alloc (Nat.le_refl _) _)) (V2.out.on ((Below.refl w7.heap.size w7).alloc (Nat.le_refl _) _)) (V3.out.on ((Below.refl w7.heap.size w7).alloc (Nat.le_refl _) _)) ((VM.out _ hW).on ((Below.refl w7.heap.size w7).alloc (Nat.le_refl _) _)) | exact sp4 (Blk.new_at (w7.alloc _) _ _ (by simp)) (V1.out.on (((Below.refl w7.heap.size w7).alloc (Nat.le_refl _) _).alloc (by simp) _)) (V2.out.on (((Below.refl w7.heap.size w7).alloc (Nat.le_refl _) _).alloc (by simp) _)) (V3.out.on (((Below.refl w7.heap.size w7).alloc (Nat.le_refl _) _).alloc (by simp) _)) ((VM.out _ hW).on (((Below.refl w7.heap.size w7).alloc (Nat.le_refl _) _).alloc (by simp) _)) | exact sp4 ((Blk.new_at w7 _ _ rfl).alloc _) (V1.out.on (((Below.refl w7.heap.size w7).alloc (Nat.le_refl _) _).alloc (by simp) _)) (V2.out.on (((Below.refl w7.heap.size w7).alloc (Nat.le_refl _) _).alloc (by simp) _)) (V3.out.on (((Below.refl w7.heap.size w7).alloc (Nat.le_refl _) _).alloc (by simp) _)) ((VM.out _ hW).on (((Below.refl w7.heap.size w7).alloc (Nat.le_refl _) _).alloc (by simp) _)))) ?_; rintro e w8 ⟨rfl, b8⟩; have bb : Below w7.heap.size w7 w8 := (by first | exact below_on ((Below.refl w7.heap.size w7).alloc (Nat.le_refl _) _) b8 | exact below_on (((Below.refl w7.heap.size w7).alloc (Nat.le_refl _) _).alloc (by simp) _) b8); (first | (have GB := Lib.hid (GB.out.below bb GB.out.lt)) | (have GB := Lib.hid (((Blk.new_at w7 106 #[.int .u64 0, .int .u64 0] rfl).alloc _).below b8 (by simp <;> omega))) | (have GB := Lib.hid (Blk.below (show Blk ((w7.alloc _).alloc _) (w7.heap.size + 1) 106 #[.int .u64 0, .int .u64 0] from Blk.new_at _ _ _ (by simp)) b8 (by simp <;> omega))) | skip); have hW := below_on hW bb; have k0 := (hW.cell (p := ⟨w.heap.size, 0, none⟩) hz).trans c0; have k1 := (hW.cell (p := ⟨w.heap.size, 1, none⟩) hz).trans c1; have k2 := (hW.cell (p := ⟨w.heap.size, 2, none⟩) hz).trans c2; have k3 := (hW.cell (p := ⟨w.heap.size, 3, none⟩) hz).trans c3; (try (obtain ⟨⟨g0, g1⟩, f0, f1⟩ := GB.out.facts2)))
    )
  all_goals
    clear k0 k1 k2 k3 c0 c1 c2 c3 VM V1 V2 V3 PX PI PS T1 V
    go_wp2_with fail
    refine (M1.out _).mono ?_; rintro e w9 ⟨rfl, hb⟩
    go_wp2_with fail
    go_ret
    refine ⟨by first | exact congrArg (fun z => Ending.returned (.int .u64 z)) HWR.out | (rw [HQ.out]; rfl) | rw [HQ.out], ?_⟩
    first
      | exact below_on (D0.out.trans ((hW.alloc hW.size _).mono D0.out.size)) hb
      | exact below_on (D0.out.trans ((below_setQ (below_setQ hW (by omega) _) (by omega) _).mono D0.out.size)) hb
end Go.Proofs.YtlannmedefjfhaaGreat
