/- Contracts of the sieve: whether a number may be in. -/
import Derived.Test.YtgkdkkppeeikoaaSieveD
namespace Go.Proofs.Ytgkdkkppeeikoaa
open Go.ChangeShapes Go.WideShapes Go.ChangeAt Go.RowKit Go.Shelf Gs
set_option linter.unusedVariables false
attribute [local go_sem] Oper.semAt_some

theorem KP.drewN (n₀ Bs Bn : Nat) (W : World) (k : Nat) : KP n₀ Bs Bn W (W.drewN k) := ⟨below_drewN (Below.refl _ _) k, rfl, rfl⟩
theorem and_bit (x : Int) (h : 0 ≤ x ∧ x < 256) (p : Nat) : (Go.bits .and .u8 x (bitOf p) == 0) = !(x.toNat.testBit (p % 8)) := by
  have hp := bitOf_bound p
  rw [u8_and _ _ h.1 h.2 (by omega) hp.2]
  unfold bitOf
  rw [Int.toNat_natCast]
  cases hb : x.toNat.testBit (p % 8)
  · have : x.toNat &&& 2 ^ (p % 8) = 0 := by
      apply Nat.eq_of_testBit_eq
      intro i
      rw [Nat.testBit_and, Nat.testBit_two_pow, Nat.zero_testBit]
      by_cases h : p % 8 = i
      · subst h; rw [hb]; rfl
      · rw [decide_eq_false h, Bool.and_false]
    rw [this]; rfl
  · have : x.toNat &&& 2 ^ (p % 8) ≠ 0 := fun h0 => by
      have h1 : (x.toNat &&& 2 ^ (p % 8)).testBit (p % 8) = true := by rw [Nat.testBit_and, hb, Nat.testBit_two_pow]; simp
      rw [h0, Nat.zero_testBit] at h1
      cases h1
    simp only [Bool.not_true, beq_eq_false_iff_ne, ne_eq]
    omega

set_option maxRecDepth 100000 in
set_option maxHeartbeats 4000000 in
theorem Has_go (bits hashes salt : Int) (ad : Addr) (len c : Nat) (B : List Int) (hB : IsBy B) (hl : B.length = len) (hc : chkS bits hashes salt len = true) (n : Int) (hn : rightN n = true) (w : World) (hs : SI w w.heap.size .u8 (some ad) B) :
    Calls Try.prog 11 #[svV bits hashes salt (some ad) len c, .int .i64 n] w fun e w' => e = .returned (.bool ((pl bits hashes salt n).all (bitB B))) ∧ Below w.heap.size w w' := by
  obtain ⟨hm, hlb⟩ := chkS_iff.1 hc
  have hmb := (mayN_iff.1 hm).1
  have hlen : 8 * len = bits.toNat := by omega
  have hlen1 : len ≤ 1024 := by omega
  have hpos : 0 < bits := by omega
  have HM := Lib.hid hm
  have HRN := Lib.hid hn
  have CK := Lib.hid (Check_ok hc (some ad) c (by unfold maxLen; omega))
  have RT := Lib.hid (show ∀ w, Calls Try.prog 20 #[.int .i64 n] w fun e w' => e = .returned (.bool true) ∧ w = w' from fun w => by have := right_any n w; rwa [hn] at this)
  have HS := Lib.hid hs
  have HB := Lib.hid hB
  have HL := Lib.hid hl
  clear hm hlb hmb hs hB hl hc hn
  refine (callsIn_wide (n := 5)).1 ?_
  refine callsIn_of_wp_marks Try.func11 rfl trivial ?_ rfl
  simp only [Try.ntmps11, List.size_toArray, List.length_cons, List.length_nil, Nat.reduceAdd, Nat.reduceSub, Array.replicate_succ, Array.replicate_zero, List.push_toArray, List.append_toArray, List.nil_append, List.cons_append]
  gi_wp2_with fail
  refine ⟨trivial, ?_⟩
  refine (callsIn_wide.2 (CK.out _)).mono ?_
  rintro e w1 ⟨rfl, b1⟩
  have X1 := Lib.hid (show Blk w1 w.heap.size 26 #[.int .i64 bits, .int .i64 hashes, .int .i64 salt, .slice (some ad) len c] from blk01 b1)
  have R1 := Lib.hid (show Blk w1 (w.heap.size + 1) 4 #[.bool false] from blk10 b1)
  have B1 := Lib.hid (bel2 b1)
  have hz1 : w.heap.size + 1 < w1.heap.size := R1.out.lt
  clear b1
  obtain ⟨p0, p1, p2, p3⟩ := X1.out.facts4
  gi_wp2_with fail
  refine ⟨trivial, ?_⟩
  refine (callsIn_wide.2 (RT.out _)).mono ?_
  rintro e w2 ⟨rfl, rfl⟩
  gi_wp2_with fail
  refine ⟨trivial, ?_⟩
  refine (placesF_in _ _ _ _ _ _ _ _ _).mono ?_
  rintro e W2 ⟨rfl, hW2⟩
  have hb2 : Below w1.heap.size w1 W2 := by rw [hW2]; exact nb1 _ _ _
  have hBs : Blk W2 w1.heap.size 26 #[.int .i64 bits, .int .i64 hashes, .int .i64 salt, .slice (some ad) len c] := by rw [hW2]; exact (Blk.new_at _ _ _ rfl).alloc _
  have hBn : Blk W2 (w1.heap.size + 1) 3 #[.int .i64 n] := by rw [hW2]; exact Blk.new_at _ _ _ (by simp)
  have hz2 : W2.heap.size = w1.heap.size + 1 + 1 := by rw [hW2]; simp
  have X2 := Lib.hid (X1.out.below hb2 X1.out.lt)
  have R2 := Lib.hid (R1.out.below hb2 R1.out.lt)
  have B2 := Lib.hid (belowOn B1.out hb2)
  have HBS := Lib.hid hBs
  have HBN := Lib.hid hBn
  have HZ2 := Lib.hid hz2
  clear hW2 hBs hBn hz2 hb2 p0 p1 p2 p3
  gi_wp2_with fail
  refine wpIn_rangeFunc_ownG rfl (by omega) (gf := 28) (lb := #[.pointer (some ⟨w1.heap.size, 0, none⟩), .pointer (some ⟨w1.heap.size + 1, 0, none⟩)]) rfl trivial (enters_of Try.func28 (by kernel_rfl) rfl)
    (places_stops _ (by omega) w1.heap.size (w1.heap.size + 1) 0 bits hashes salt n _ HM.out HRN.out W2 (Nat.zero_le _) HBS.out HBN.out) KP.trans (KP.put (Nat.zero_le _) (by rw [HZ2.out]; omega) (by rw [HZ2.out]; omega)) (Below.refl _ _) (fun _ => rfl)
    (fun pre W' => (Blk W' w.heap.size 26 #[.int .i64 bits, .int .i64 hashes, .int .i64 salt, .slice (some ad) len c] ∧ Blk W' (w.heap.size + 1) 4 #[.bool false] ∧ ((∀ k ∈ pre, bitB B (place bits salt n k) = true) ∧ w.heap.size + 1 < W'.heap.size)) ∧ Below w.heap.size w W')
    (fun cc pre W' => (Blk W' (w.heap.size + 1) 4 #[.bool false] ∧ (cc = .ret ∧ (∃ k ∈ pre, bitB B (place bits salt n k) = false))) ∧ Below w.heap.size w W')
    (OwnFrom.and (OwnFrom.and (Own.from (blk_own _ _ (fun _ => #[.int .i64 bits, .int .i64 hashes, .int .i64 salt, .slice (some ad) len c])) _) (OwnFrom.and (Own.from (blk_own _ _ (fun _ => #[.bool false])) _) (fun _ _ _ _ hs hg _ => ⟨hs.1, Nat.lt_of_lt_of_le hs.2 hg.size⟩))) (ownFrom_below (Nat.le_refl _) B2.out.size))
    (fun cc => OwnFrom.and (OwnFrom.and (Own.from (blk_own _ _ (fun _ => #[.bool false])) _) (fun _ _ _ _ hs _ _ => hs)) (ownFrom_below (Nat.le_refl _) B2.out.size))
    ⟨⟨X2.out, R2.out, fun k h => absurd h (by simp), R2.out.lt⟩, B2.out⟩
    (fun x => { tmps := #[svV bits hashes salt (some ad) len c, .int .i64 n, .pointer (some ⟨w.heap.size, 0, none⟩), undef, .pointer (some ⟨w.heap.size + 1, 0, none⟩), .int .i64 (place bits salt n x : Int), .agg #[.int .i64 bits, .int .i64 hashes, .int .i64 salt, .slice (some ad) len c], .int .i64 0, .bool false, .bool false, .int .i64 n, .bool true, .bool false, .bool false, .agg #[.int .i64 bits, .int .i64 hashes, .int .i64 salt, .slice (some ad) len c], .int .i64 n, .func (.func 28) #[] #[.pointer (some ⟨w1.heap.size, 0, none⟩), .pointer (some ⟨w1.heap.size + 1, 0, none⟩)], .int .i64 (place bits salt n x : Int), undef, undef, undef, undef, undef, undef, undef, undef, undef, undef], defers := [] }) ?assign ?body ?done ?stop
  case assign =>
    intro lr x W3 K hK
    gi_wp2
    exact hK
  case stop =>
    rintro D cc pre W4 hD ⟨k, hk, rfl⟩ ⟨⟨hR, rfl, hx⟩, hB4⟩ hK
    have HE := Lib.hid (show (pl bits hashes salt n).all (bitB B) = false from by
      obtain ⟨j, hj, hb⟩ := hx
      rw [List.all_eq_false]
      refine ⟨place bits salt n j, ?_, by rw [hb]; simp⟩
      unfold pl plTo
      exact List.mem_map.2 ⟨j, List.mem_range.2 (by have := List.mem_range.1 hj; omega), rfl⟩)
    have HK := Lib.hid hK
    have HR := Lib.hid hR
    have HB4 := Lib.hid hB4
    clear hR hK hB4 hx
    gi_wp2_with fail
    refine leaves_marks [D] _ (by simp) (fun D' h => by rw [List.mem_singleton] at h; subst h; exact HK.out) (fun W' hs => ?_)
    have d0 := (hs.blk (fun D' h => by rw [List.mem_singleton] at h; subst h; exact HK.out) HR.out).cell 0
    rw [HE.out]
    refine ⟨.bool false, by simp [results, Try.results11, go_sem, d0], rfl, ?_⟩
    exact hs.below HB4.out (fun D' h => by rw [List.mem_singleton] at h; subst h; exact Nat.le_trans B2.out.size hD)
  case done =>
    rintro D ys W4 hD rfl ⟨⟨hX, hR, hx, _⟩, hB4⟩ hK
    have HE := Lib.hid (show (pl bits hashes salt n).all (bitB B) = true from by
      rw [List.all_eq_true]
      intro p hp
      obtain ⟨j, hj, rfl⟩ := List.mem_map.1 hp
      exact hx j hj)
    have HK := Lib.hid hK
    have HR := Lib.hid hR
    have HB4 := Lib.hid hB4
    have r0 := hR.cell 0
    have f0 := hR.free 0
    clear hX hR hK hB4 hx
    gi_wp2_with fail
    have hd : ∀ D' ∈ [D], (W4.setCell ⟨w.heap.size + 1, 0, none⟩ (.bool true)).heap[D']? = some (.deferred (some [])) := fun D' h => by
      rw [List.mem_singleton] at h; subst h
      exact (Below.heap_setCell W4 ⟨w.heap.size + 1, 0, none⟩ _ D' (fun e => by
        have h1 := HK.out
        rw [e] at h1
        have h2 := HR.out
        unfold Blk at h2
        rw [h2] at h1
        cases h1)).trans HK.out
    refine leaves_marks [D] _ (by simp) hd (fun W' hs => ?_)
    have d0 := (hs.blk hd HR.out.set1).cell 0
    rw [HE.out]
    refine ⟨.bool true, by simp [results, Try.results11, go_sem, d0], rfl, ?_⟩
    exact hs.below (HB4.out.setCell (by simp) _) (fun D' h => by rw [List.mem_singleton] at h; subst h; exact Nat.le_trans B2.out.size hD)
  case body =>
    rintro lr pre x W3 ⟨⟨hX, hR, hx, hz⟩, hB3⟩ hlt3
    obtain ⟨p, hp⟩ : ∃ p, place bits salt n x = p := ⟨_, rfl⟩
    have hplt : p < bits.toNat := by rw [← hp]; exact place_lt _ _ _ _ hpos
    have HPX := Lib.hid hp
    simp only [hp]
    clear hp
    obtain ⟨q, hq⟩ : ∃ q, p / 8 = q := ⟨_, rfl⟩
    have hq8 : (p : Int) / 8 = (q : Int) := by omega
    have hql : q < len := by omega
    obtain ⟨ad', e', hab, hcell⟩ := (HS.out.below hB3) q (by rw [HL.out]; exact hql)
    cases e'
    have hp0 : (0 : Int) ≤ (p : Int) := by omega
    have hq0 : (0 : Int) ≤ (q : Int) := by omega
    have hqli : (q : Int) < (len : Int) := by omega
    have hqt : ((q : Int)).toNat = q := by omega
    have hwq : IntKind.i64.wrap (q : Int) = (q : Int) := IntWalk.i64_in _ (by omega)
    obtain ⟨s0, s1, s2, s3⟩ := hX.facts4
    have r0 := hR.cell 0
    have f0 := hR.free 0
    have hbyt := at_by HB.out q
    have HT := Lib.hid (and_bit (B[q]?.getD 0) hbyt p)
    have HBB := Lib.hid (show bitB B (place bits salt n x) = (B[q]?.getD 0).toNat.testBit (p % 8) by rw [HPX.out]; unfold bitB; rw [hq])
    have HBT := Lib.hid (bit_any p (by omega))
    have HX := Lib.hid (And.intro hX (And.intro hR (And.intro hx (And.intro hz hB3))))
    clear hX hR hx hz hB3 hbyt
    cases hbt : (B[q]?.getD 0).toNat.testBit (p % 8)
    · have ht : (Go.bits .and .u8 (B[q]?.getD 0) (bitOf p) == 0) = true := by rw [HT.out, hbt]; rfl
      have HF := Lib.hid (show bitB B (place bits salt n x) = false by rw [HBB.out, hbt])
      clear hbt
      gi_wp2_with fail
      refine wpIn_round_quiet_lit (by kernel_rfl) (by kernel_rfl) (by kernel_rfl) ?_
      repeat (first | go_big_quiet_step ((go_at_call 22; exact quiet_eq (HBT.out _))) | quiet_step ((go_at_call 22; exact quiet_eq (HBT.out _))))
      refine wpQuiet_nil ?_
      intro _ hw'
      obtain ⟨nq, hw''⟩ := hw'
      subst hw''
      gi_wp2_with fail
      refine ⟨((keeps_below (below_drewN (Below.refl _ _) nq)).trans (KeepsOthers.setCell _ _ _)).from _, ⟨?_, rfl, x, by simp, HF.out⟩, ?_⟩
      · exact (HX.out.2.1.drewN nq).set1
      · exact (below_drewN HX.out.2.2.2.2 nq).setCell (by simp) _
    · have ht : (Go.bits .and .u8 (B[q]?.getD 0) (bitOf p) == 0) = false := by rw [HT.out, hbt]; rfl
      have HF := Lib.hid (show bitB B (place bits salt n x) = true by rw [HBB.out, hbt])
      clear hbt
      gi_wp2_with fail
      refine wpIn_round_quiet_lit (by kernel_rfl) (by kernel_rfl) (by kernel_rfl) ?_
      repeat (first | go_big_quiet_step ((go_at_call 22; exact quiet_eq (HBT.out _))) | quiet_step ((go_at_call 22; exact quiet_eq (HBT.out _))))
      refine wpQuiet_nil ?_
      intro _ hw'
      obtain ⟨nq, hw''⟩ := hw'
      subst hw''
      gi_wp2_with fail
      refine ⟨(keeps_below (below_drewN (Below.refl _ _) nq)).from _, KP.drewN 0 _ _ _ nq, ⟨HX.out.1.drewN nq, HX.out.2.1.drewN nq, ?_, HX.out.2.2.2.1⟩, below_drewN HX.out.2.2.2.2 nq⟩
      intro k hk
      rw [List.mem_append, List.mem_singleton] at hk
      rcases hk with hk | rfl
      · exact HX.out.2.2.1 k hk
      · exact HF.out

theorem Has_any (bits hashes salt : Int) (A : Option Addr) (len c : Nat) (B : List Int) (hB : IsBy B) (hl : B.length = len) (hcm : len ≤ maxLen) (n : Int) (w : World) (hs : SI w w.heap.size .u8 A B) :
    Calls Try.prog 11 #[svV bits hashes salt A len c, .int .i64 n] w fun e w' => e = .returned (.bool (hasS bits hashes salt B n)) ∧ Below w.heap.size w w' := by
  cases hc : chkS bits hashes salt len
  · have HE := Lib.hid (show hasS bits hashes salt B n = false by unfold hasS; rw [hl, hc]; rfl)
    have CK := Lib.hid (Check_no hc A c hcm)
    rw [HE.out]
    clear hc hs hl hB
    go_enter Try.func11, Try.ntmps11
    go_wp2_with fail
    refine (CK.out _).mono ?_; rintro e w1 ⟨rfl, b1⟩
    have R1 := Lib.hid (show Blk w1 (w.heap.size + 1) 4 #[.bool false] from blk10 b1)
    have B1 := Lib.hid (bel2 b1)
    have r0 := R1.out.cell 0
    have f0 := R1.out.free 0
    clear b1
    go_wp2_with fail
    have d0 := (R1.out.set1 (x' := .bool false)).cell 0
    exact bodyPost_ret (v := .bool false) (by simp [results, Try.results11, go_sem, d0]) rfl ⟨rfl, B1.out.setCell (by simp) _⟩
  · cases hn : rightN n
    · have HE := Lib.hid (show hasS bits hashes salt B n = false by unfold hasS; rw [hn, Bool.and_false]; rfl)
      have CK := Lib.hid (Check_ok hc A c hcm)
      have RT := Lib.hid (show ∀ w, Calls Try.prog 20 #[.int .i64 n] w fun e w' => e = .returned (.bool false) ∧ w = w' from fun w => by have := right_any n w; rwa [hn] at this)
      rw [HE.out]
      clear hc hs hl hB hn
      go_enter Try.func11, Try.ntmps11
      go_wp2_with fail
      refine (CK.out _).mono ?_; rintro e w1 ⟨rfl, b1⟩
      have R1 := Lib.hid (show Blk w1 (w.heap.size + 1) 4 #[.bool false] from blk10 b1)
      have B1 := Lib.hid (bel2 b1)
      have r0 := R1.out.cell 0
      have f0 := R1.out.free 0
      clear b1
      go_wp2_with fail
      refine (RT.out _).mono ?_; rintro e w2 ⟨rfl, rfl⟩
      go_wp2_with fail
      have d0 := (R1.out.set1 (x' := .bool false)).cell 0
      exact bodyPost_ret (v := .bool false) (by simp [results, Try.results11, go_sem, d0]) rfl ⟨rfl, B1.out.setCell (by simp) _⟩
    · have he : hasS bits hashes salt B n = (pl bits hashes salt n).all (bitB B) := by unfold hasS; rw [hl, hc, hn]; rfl
      obtain ⟨hm, hlb⟩ := chkS_iff.1 hc
      have hmb := (mayN_iff.1 hm).1
      obtain ⟨ad, rfl, _⟩ := hs 0 (by omega)
      rw [he]
      exact Has_go bits hashes salt ad len c B hB hl hc n hn w hs
end Go.Proofs.Ytgkdkkppeeikoaa
