/- The document's own answers on quorums: may commitments be, what is challenged, what is scaled. -/
import Derived.Test.YtlannmedefjfhaaGreatQuorumR
namespace Go.Proofs.YtlannmedefjfhaaGreat
open Go.ChangeShapes Go.WideShapes Go.ChangeAt Go.RowKit Gs
set_option linter.unusedVariables false

set_option maxRecDepth 100000 in
set_option maxHeartbeats 4000000 in
theorem chal6_any (T N K : Int) [IsU K] (A : Option Addr) (n c : Nat) (M : Option Addr) (cm : Nat) (ms : List Int) (D : Option Addr) (cd : Nat) (cs : List (Int × Int)) (hc : ShFix cd cs) (hm : ByFix cm ms) (w : World) (h1 : SI w w.heap.size .u8 M ms) (h2 : SS w w.heap.size D cs) :
    Calls Tryz.prog 70 #[crewV T N K A n c, .slice M ms.length cm, .slice D cs.length cd] w fun e w' => e = .returned (.int .u64 (chalF K ms cs)) ∧ Below w.heap.size w w' := by
  unfold crewV
  have D0 := Lib.hid ((Below.refl w.heap.size w).alloc (Nat.le_refl _) (.cells #[.int .i64 T, .int .i64 N, .int .u64 K, .slice A n c] 26))
  have k2 := (Blk.new w 26 #[.int .i64 T, .int .i64 N, .int .u64 K, .slice A n c]).cell 2
  have HM := Lib.hid h1
  have HC := Lib.hid h2
  have HU := Lib.hid hc.u
  have hcl := hc.len
  have HQ := Lib.hid (show chalF K ms cs = schal (qprod (cs.map Prod.snd)) K ms from rfl)
  have P3 := Lib.hid (fun W h => refChallenge_any (qprod (cs.map Prod.snd)) K M cm ms hm.u hm.len hm.cap hm.max W h)
  rw [← HQ.out] at P3
  clear h1 h2 hc hm HQ
  generalize chalF K ms cs = ch at *
  go_enter Tryz.func70, Tryz.ntmps70
  go_wp2_with fail
  refine wp_named (fun W => W.cell? ⟨w.heap.size, 2, none⟩ = some (.int .u64 K) ∧ Below w.heap.size w W ∧ w.heap.size < W.heap.size) ⟨k2, D0.out, by simp⟩ ?_
  clear k2 D0
  rintro W0 ⟨k2, hD, hw0⟩
  have D0 := Lib.hid hD
  clear hD
  go_loopw [7, 8] (fun o j wr => ∃ k : Nat, k ≤ cs.length ∧ j = .int .i64 k ∧ o = .int .u64 (qprod ((cs.map Prod.snd).take k)) ∧ Below W0.heap.size W0 wr) (fun _ j _ => cs.length - (intOf j).toNat)
  case atStart => exact ⟨0, by omega, rfl, rfl, Below.refl _ _⟩
  case round =>
    obtain ⟨k, hk, rfl, rfl, hb⟩ := hrel
    have HB := Lib.hid hb
    have hz := hb.size
    have d2 := (hb.cell (p := ⟨w.heap.size, 2, none⟩) hw0).trans k2
    clear hb
    by_cases hlt : k < cs.length
    · obtain ⟨ad, rfl, had, c0, c1⟩ := ((HC.out.on D0.out).below HB.out) k hlt
      have hx := HU.out cs[k] (List.getElem_mem hlt)
      haveI : IsU cs[k].2 := ⟨hx.1, hx.2⟩
      have P := Lib.hid (ref_Mul (qprod ((cs.map Prod.snd).take k)) cs[k].2)
      have HT := Lib.hid (show qprod ((cs.map Prod.snd).take (k + 1)) = qmul (qprod ((cs.map Prod.snd).take k)) cs[k].2 by unfold qprod; rw [List.take_succ_eq_append_getElem (by simpa using hlt), List.foldl_append]; simp)
      clear hx c0
      generalize cs[k].2 = x2 at *
      go_wp2_with fail
      refine (P.out _).mono ?_; rintro e w2 ⟨rfl, rfl⟩
      go_wp2_with fail
      go_roundw
      case rel => exact ⟨k + 1, by omega, by go_num, by rw [HT.out], HB.out⟩
      case measure => simp [intOf]; omega
    · obtain rfl : k = cs.length := by omega
      have HA := Lib.hid (show (cs.map Prod.snd).take cs.length = cs.map Prod.snd from List.take_of_length_le (by simp))
      rw [HA.out]
      go_wp2_with fail
      refine (P3.out _ (((HM.out.on D0.out).on HB.out))).mono ?_; rintro e w2 ⟨rfl, b⟩
      have B2 := Lib.hid (below_on (D0.out.trans (HB.out.mono (by omega))) b)
      clear b
      go_wp2_with fail
      go_ret
      exact ⟨rfl, B2.out⟩

set_option maxRecDepth 100000 in
set_option maxHeartbeats 4000000 in
theorem scaled6_any (T N K : Int) [IsU K] (A : Option Addr) (n c : Nat) (M : Option Addr) (cm : Nat) (ms : List Int) (D : Option Addr) (cd : Nat) (cs : List (Int × Int)) (hc : ShFix cd cs) (hm : ByFix cm ms) (hr : RightI (cs.map Prod.fst)) (i : Int) (hi : i ∈ cs.map Prod.fst) (w : World) (h1 : SI w w.heap.size .u8 M ms) (h2 : SS w w.heap.size D cs) :
    Calls Tryz.prog 62 #[crewV T N K A n c, .slice M ms.length cm, .slice D cs.length cd, .int .i64 i] w fun e w' => e = .returned (.int .u64 (rmul (chalF K ms cs) (wat (cs.map Prod.fst) i 0))) ∧ Below w.heap.size w w' := by
  have D0 := Lib.hid ((Below.refl w.heap.size w).alloc (Nat.le_refl _) (.cells #[.int .i64 T, .int .i64 N, .int .u64 K, .slice A n c] 26))
  have KB := Lib.hid (Blk.new w 26 #[.int .i64 T, .int .i64 N, .int .u64 K, .slice A n c])
  have HM := Lib.hid h1
  have HC := Lib.hid h2
  have P1 := Lib.hid (fun W h => ids6_any D cs.length cd cs rfl hc.len W h)
  have HJ := Lib.hid (show (cs.map Prod.fst).length = cs.length by simp)
  have P2 := Lib.hid (fun A c W h => (refWeight_any A c (cs.map Prod.fst) (by rw [HJ.out]; exact hc.len) i W.heap.size W h).mono fun r w' (h : WeightE (cs.map Prod.fst) i r ∧ Dr W w') => (⟨h.1.1 ⟨hr, hi⟩, h.2.below _⟩ : r = .returned (.tuple #[.int .u64 (wat (cs.map Prod.fst) i 0), .int .i64 0]) ∧ Below W.heap.size W w'))
  have P3 := Lib.hid (fun W h h' => chal6_any T N K A n c M cm ms D cd cs hc hm W h h')
  have P4 := Lib.hid (ref_MulR (chalF K ms cs) (wat (cs.map Prod.fst) i 0))
  unfold crewV at P3 ⊢
  clear h1 h2 hc hm hr hi
  generalize cs.map Prod.fst = J at *
  generalize wat J i 0 = wi at *
  generalize chalF K ms cs = ch at *
  go_enter Tryz.func62, Tryz.ntmps62
  go_wp2_with fail
  refine (P1.out _ (HC.out.on D0.out)).mono ?_; rintro e w1 ⟨v, rfl, ho, b⟩
  obtain ⟨A1, c1, rfl, hc1, hm1, hs1, _⟩ := own_sliceI ho
  have HS1 := Lib.hid hs1
  have KB1 := Lib.hid (KB.out.below b (by simp))
  have B1 := Lib.hid (below_on D0.out b)
  clear ho b hs1 hc1 hm1
  rw [HJ.out] at P2 ⊢
  go_wp2_with fail
  refine (P2.out _ _ _ HS1.out).mono ?_; rintro e w2 ⟨rfl, b⟩
  have KB2 := KB1.out.below b KB1.out.lt
  have B2 := Lib.hid (below_on B1.out b)
  have k0 := KB2.cell 0
  have k1 := KB2.cell 1
  have k2 := KB2.cell 2
  have k3 := KB2.cell 3
  clear b KB2
  go_wp2_with fail
  refine (P3.out _ (HM.out.on B2.out) (HC.out.on B2.out)).mono ?_; rintro e w3 ⟨rfl, b⟩
  have B3 := Lib.hid (below_on B2.out b)
  clear b
  go_wp2_with fail
  refine (P4.out _).mono ?_; rintro e w4 ⟨rfl, rfl⟩
  go_wp2_with fail
  go_ret
  exact ⟨rfl, B3.out⟩

/-- What is asked of the k-th commitment, the document's way. -/
theorem may_step {N : Int} {cs : List (Int × Int)} (k : Nat) (hk : k < cs.length) (h0 : CommitsOk N (cs.take k)) (h1 : 1 ≤ cs[k].1) (h2 : cs[k].1 ≤ N) (h3 : ∀ q (e : k = q + 1), (cs[q]'(by omega)).1 < cs[k].1) (h4 : qin cs[k].2 = true) : CommitsOk N (cs.take (k + 1)) := by
  refine comm_step k hk h0 (last := if h : k = 0 then 0 else (cs[k - 1]'(by omega)).1) rfl ?_ h2 h4
  by_cases z : k = 0
  · rw [dif_pos z]; omega
  · rw [dif_neg z]
    exact h3 (k - 1) (by omega)

set_option maxRecDepth 100000 in
set_option maxHeartbeats 4000000 in
theorem may6_any (T N K : Int) (A : Option Addr) (n c : Nat) (D : Option Addr) (cd : Nat) (cs : List (Int × Int)) (hc : ShFix cd cs) (w : World) (hs : SS w w.heap.size D cs) :
    Calls Tryz.prog 59 #[crewV T N K A n c, .slice D cs.length cd] w fun e w' => e = .returned (.int .i64 (mayF T N cs)) ∧ Below w.heap.size w w' := by
  unfold crewV
  have D0 := Lib.hid ((Below.refl w.heap.size w).alloc (Nat.le_refl _) (.cells #[.int .i64 T, .int .i64 N, .int .u64 K, .slice A n c] 26))
  have KB := Blk.new w 26 #[.int .i64 T, .int .i64 N, .int .u64 K, .slice A n c]
  have k0 := KB.cell 0
  have k1 := KB.cell 1
  have HS := Lib.hid hs
  have HU := Lib.hid hc.u
  have hl := hc.len
  have HF := Lib.hid (fun (g : ¬ CommitsOk N cs) => (mayF_is T N cs).1 g)
  clear hs hc KB
  go_enter Tryz.func59, Tryz.ntmps59
  go_wp2_with fail
  refine wp_named (fun W => W.cell? ⟨w.heap.size, 0, none⟩ = some (.int .i64 T) ∧ W.cell? ⟨w.heap.size, 1, none⟩ = some (.int .i64 N) ∧ Below w.heap.size w W ∧ w.heap.size < W.heap.size) ⟨k0, k1, D0.out, by simp⟩ ?_
  clear k0 k1 D0
  rintro W0 ⟨k0, k1, hD, hw0⟩
  have D0 := Lib.hid hD
  have HS0 := Lib.hid (HS.out.on hD)
  clear hD
  go_loopw [5] (fun i wr => ∃ (k : Nat), k ≤ cs.length ∧ i = .int .i64 k ∧ CommitsOk N (cs.take k) ∧ Below W0.heap.size W0 wr) (fun i _ => cs.length - (intOf i).toNat)
  case atStart => exact ⟨0, by omega, rfl, comm_none, Below.refl _ _⟩
  case round =>
    obtain ⟨k, hk, rfl, h0, hb⟩ := hrel
    have HB := Lib.hid hb
    have H0 := Lib.hid h0
    have hz := hb.size
    have d0 := (hb.cell (p := ⟨w.heap.size, 0, none⟩) hw0).trans k0
    have d1 := (hb.cell (p := ⟨w.heap.size, 1, none⟩) hw0).trans k1
    clear hb h0
    by_cases hlt : k < cs.length
    · have hx := HU.out cs[k] (List.getElem_mem hlt)
      haveI : IsU cs[k].2 := ⟨hx.1, hx.2⟩
      have PI := Lib.hid (ref_In cs[k].2)
      have HY := Lib.hid (fun a b c d => may_step k hlt H0.out a b c d)
      have HN1 := Lib.hid (fun (g : cs[k].1 < 1) => HF.out fun h => by have := (h k hlt).1.1; omega)
      have HN2 := Lib.hid (fun (g : N < cs[k].1) => HF.out fun h => by have := (h k hlt).1.2.1; omega)
      have HN3 := Lib.hid (fun q (e : k = q + 1) (g : cs[k].1 ≤ (cs[q]'(by omega)).1) => HF.out fun h => by have := (h k hlt).2 q (by omega); omega)
      have HN4 := Lib.hid (fun (g : qin cs[k].2 = false) => HF.out fun h => by have := (h k hlt).1.2.2; rw [g] at this; cases this)
      clear hx
      rcases k with _ | q
      · obtain ⟨ad, rfl, had, c0, c1⟩ := (HS0.out.below HB.out) 0 hlt
        have c0 : wr.cell? ad = some (.int .i64 cs[0].1) := by simpa [Addr.add] using c0
        have c1 : wr.cell? ⟨ad.block, ad.off + 1, none⟩ = some (.int .u64 cs[0].2) := by simpa [Addr.add] using c1
        generalize cs[0].1 = x1 at *
        generalize cs[0].2 = x2 at *
        by_cases h1 : x1 < 1
        · have HE := Lib.hid (HN1.out h1)
          have q1 : decide (x1 < 1) = true := decide_eq_true h1
          clear HY HN1 HN2 HN3 HN4
          go_wp2_with fail
          go_quiet (fail)
          go_wp2_with fail
          go_ret
          exact ⟨by rw [HE.out]; rfl, D0.out.trans ((below_drewN HB.out _).mono (by omega))⟩
        have q1 : decide (x1 < 1) = false := decide_eq_false h1
        by_cases h2 : N < x1
        · have HE := Lib.hid (HN2.out h2)
          have q2 : decide (N < x1) = true := decide_eq_true h2
          clear HY HN1 HN2 HN3 HN4
          go_wp2_with fail
          go_quiet (fail)
          go_wp2_with fail
          go_ret
          exact ⟨by rw [HE.out]; rfl, D0.out.trans ((below_drewN HB.out _).mono (by omega))⟩
        have q2 : decide (N < x1) = false := decide_eq_false h2
        by_cases h3 : qin x2 = true
        · have HY2 := Lib.hid (HY.out (by omega) (by omega) (fun q e => by omega) h3)
          rw [h3] at PI
          clear HY HN1 HN2 HN3 HN4 h3
          go_wp2_with fail
          go_quiet ((go_at_call 45; exact quiet_eq (PI.out _)))
          go_wp2_with fail
          go_roundw
          case rel => exact ⟨0 + 1, by omega, by go_num, HY2.out, below_drewN HB.out _⟩
          case measure => simp [intOf]; omega
        · have HE := Lib.hid (HN4.out (Bool.eq_false_iff.2 h3))
          rw [Bool.eq_false_iff.2 h3] at PI
          clear HY HN1 HN2 HN3 HN4 h3
          go_wp2_with fail
          go_quiet ((go_at_call 45; exact quiet_eq (PI.out _)))
          go_wp2_with fail
          go_ret
          exact ⟨by rw [HE.out]; rfl, D0.out.trans ((below_drewN HB.out _).mono (by omega))⟩
      · obtain ⟨ad, rfl, had, c0, c1⟩ := (HS0.out.below HB.out) (q + 1) hlt
        obtain ⟨ad', had', _, c2, c3⟩ := (HS0.out.below HB.out) q (by omega)
        cases had'
        have hw1 : IntKind.i64.wrap (q : Int) = (q : Int) := IntWalk.i64_in _ (by omega)
        have hqn : (0 : Int) ≤ (q : Int) := by omega
        have hqc : q < cs.length := by omega
        have hqi : (q : Int) < (cs.length : Int) := by omega
        have HN3q := Lib.hid (fun g => HN3.out q rfl g)
        have HYq := Lib.hid (fun a b (c : cs[q].1 < cs[q + 1].1) d => HY.out a b (fun q' e => by
          obtain rfl : q = q' := by omega
          exact c) d)
        clear HN3 HY c3
        generalize cs[q + 1].1 = x1 at *
        generalize cs[q + 1].2 = x2 at *
        generalize cs[q].1 = y1 at *
        by_cases h1 : x1 < 1
        · have HE := Lib.hid (HN1.out h1)
          have q1 : decide (x1 < 1) = true := decide_eq_true h1
          clear HYq HN1 HN2 HN3q HN4
          go_wp2_with fail
          go_quiet (fail)
          go_wp2_with fail
          go_ret
          exact ⟨by rw [HE.out]; rfl, D0.out.trans ((below_drewN HB.out _).mono (by omega))⟩
        have q1 : decide (x1 < 1) = false := decide_eq_false h1
        by_cases h2 : N < x1
        · have HE := Lib.hid (HN2.out h2)
          have q2 : decide (N < x1) = true := decide_eq_true h2
          clear HYq HN1 HN2 HN3q HN4
          go_wp2_with fail
          go_quiet (fail)
          go_wp2_with fail
          go_ret
          exact ⟨by rw [HE.out]; rfl, D0.out.trans ((below_drewN HB.out _).mono (by omega))⟩
        have q2 : decide (N < x1) = false := decide_eq_false h2
        by_cases h5 : x1 ≤ y1
        · have HE := Lib.hid (HN3q.out h5)
          have q5 : decide (x1 ≤ y1) = true := decide_eq_true h5
          clear HYq HN1 HN2 HN3q HN4
          go_wp2_with fail
          go_quiet (fail)
          go_wp2_with fail
          go_ret
          exact ⟨by rw [HE.out]; rfl, D0.out.trans ((below_drewN HB.out _).mono (by omega))⟩
        have q5 : decide (x1 ≤ y1) = false := decide_eq_false h5
        by_cases h3 : qin x2 = true
        · have HY2 := Lib.hid (HYq.out (by omega) (by omega) (by omega) h3)
          rw [h3] at PI
          clear HYq HN1 HN2 HN3q HN4 h3
          go_wp2_with fail
          go_quiet ((go_at_call 45; exact quiet_eq (PI.out _)))
          go_wp2_with fail
          go_roundw
          case rel => exact ⟨q + 1 + 1, by omega, by go_num, HY2.out, below_drewN HB.out _⟩
          case measure => simp [intOf]; omega
        · have HE := Lib.hid (HN4.out (Bool.eq_false_iff.2 h3))
          rw [Bool.eq_false_iff.2 h3] at PI
          clear HYq HN1 HN2 HN3q HN4 h3
          go_wp2_with fail
          go_quiet ((go_at_call 45; exact quiet_eq (PI.out _)))
          go_wp2_with fail
          go_ret
          exact ⟨by rw [HE.out]; rfl, D0.out.trans ((below_drewN HB.out _).mono (by omega))⟩
    · obtain rfl : k = cs.length := by omega
      have HCO := Lib.hid (comm_all H0.out)
      by_cases h : (cs.length : Int) < T
      · have HE := Lib.hid ((mayF_is T N cs).2.1 HCO.out h)
        go_wp2_with fail
        go_ret
        exact ⟨by rw [HE.out]; rfl, D0.out.trans (HB.out.mono (by omega))⟩
      · have HE := Lib.hid ((mayF_is T N cs).2.2 HCO.out h)
        go_wp2_with fail
        go_ret
        exact ⟨by rw [HE.out]; rfl, D0.out.trans (HB.out.mono (by omega))⟩
end Go.Proofs.YtlannmedefjfhaaGreat
