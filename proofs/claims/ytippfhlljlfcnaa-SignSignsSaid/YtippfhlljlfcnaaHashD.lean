/- Contracts of the hash: the plain answer of the hash of bytes. -/
import Derived.Test.YtippfhlljlfcnaaHashC
namespace Go.Proofs.Ytippfhlljlfcnaa
open Go.ChangeShapes Go.WideShapes Go.ChangeAt Go.RowKit Go.Shelf Gs
set_option linter.unusedVariables false

theorem refAdd_s (a b : Int) [IsU a] [IsU b] (w : World) : Calls Try.prog 63 #[.int .u64 a, .int .u64 b] w fun e w' => e = .returned (.int .u64 (fadd a b)) ∧ w' = w :=
  (refAdd_i a b w).mono fun _ _ h => ⟨h.1, h.2.symm⟩

theorem hst_ref (xs : List Int) : hst xs = habs (fof xs) (0, 0, xs.length) (max 1 (((fof xs).length + 1) / 2)) := by
  have hl := fof_length xs
  unfold hst
  by_cases h : xs.length = 0
  · rw [if_pos h]
    have h0 : (fof xs).length = 0 := by omega
    have h1 : fof xs = [] := List.eq_nil_of_length_eq_zero h0
    rw [h1, h]
    rfl
  · rw [if_neg h, show max 1 (((fof xs).length + 1) / 2) = ((fof xs).length + 1) / 2 by omega]

set_option maxRecDepth 100000 in
set_option maxHeartbeats 4000000 in
theorem refSum_any (A : Option Addr) (c : Nat) (xs : List Int) (hx : ∀ x ∈ xs, 0 ≤ x ∧ x < 256) (hl : xs.length ≤ 70368744177664) (w : World) (hs : SI w w.heap.size .u8 A xs) :
    Calls Try.prog 52 #[.slice A xs.length c] w fun e w' => e = .returned (.agg #[.int .u64 (hst xs).1, .int .u64 (hst xs).2.1]) ∧ Below w.heap.size w w' := by
  have HX := Lib.hid hx
  have HS := Lib.hid hs
  have HT := Lib.hid (hst_ref xs)
  clear hx hs
  go_enter Try.func52, Try.ntmps52
  go_wp2_with fail
  refine (refOf_any A c xs HX.out hl _ (HS.out.on (((Below.refl _ _).alloc (Nat.le_refl _) _)))).mono ?_
  rintro e w1 ⟨v, rfl, hown, hb⟩
  obtain ⟨A1, c1, rfl, hl1, hm1, hs1, hne⟩ := own_slice2 hown
  have HS1 := Lib.hid hs1
  have HNE := Lib.hid hne
  have HF := Lib.hid (fof_el xs HX.out)
  have HL := Lib.hid (fof_length xs)
  have hL : (fof xs).length ≤ 70368744177664 := by rw [HL.out]; omega
  have D0 := Blk.below (g := w.heap.size) (Blk.new_at w 50 #[.int .u64 0, .int .u64 0] rfl) hb (by simp)
  have hB1 := ((Below.refl _ _).alloc (Nat.le_refl _) _).trans (hb.mono (by simp))
  have hz1 := hb.size
  simp at hz1
  have H1 := Lib.hid (And.intro D0 hB1)
  clear hs1 hne hown hb D0 hB1 hm1 hl1
  have HU : Hid (U3 ((0 : Int), (0 : Int), (xs.length : Int))) := ⟨⟨by simp, by simp⟩, ⟨by simp, by simp⟩, by simp, by simp; omega⟩
  generalize fof xs = l at *
  go_wp2_with fail
  go_loopw [5] (fun i wr => ∃ q m : Nat, q ≤ max 1 ((l.length + 1) / 2) ∧ m = 2 * q ∧ i = .int .i64 (m : Int) ∧ Blk wr w1.heap.size 70 #[.int .u64 (habs l (0, 0, xs.length) q).1, .int .u64 (habs l (0, 0, xs.length) q).2.1, .int .u64 (habs l (0, 0, xs.length) q).2.2] ∧ Blk wr w.heap.size 50 #[.int .u64 0, .int .u64 0] ∧ SI wr w1.heap.size .u64 A1 l ∧ Below w.heap.size w wr) (fun i _ => l.length + 4 - (intOf i).toNat)
  case atStart => exact ⟨0, 0, by omega, rfl, rfl, Blk.new_at _ _ _ rfl, H1.out.1.alloc _, HS1.out.below ((Below.refl _ _).alloc (Nat.le_refl _) _), H1.out.2.alloc H1.out.2.size _⟩
  case round =>
    obtain ⟨q, m, hq, hm, rfl, k1, k0, ksi, kB⟩ := hrel
    have HM := Lib.hid hm
    have hU := habs_u l _ HU.out q
    haveI := IsU.of hU.1
    haveI := IsU.of hU.2.1
    haveI := IsU.of hU.2.2
    have hu0 := hU.1
    have lt1 := k1.lt
    obtain ⟨⟨c0, c1, c2⟩, f0, f1, f2⟩ := k1.facts3
    have HI := Lib.hid (And.intro k1 (And.intro k0 (And.intro ksi kB)))
    have HS' := Lib.hid (habs_succ l (0, 0, (xs.length : Int)) q)
    clear hU
    have HQ := Lib.hid hq
    rcases (show m < l.length ∨ (l.length = 0 ∧ m = 0 ∧ q = 0) ∨ (l.length ≤ m ∧ 1 ≤ m ∧ q = max 1 ((l.length + 1) / 2)) by omega) with h | ⟨h, hm0, hq0⟩ | ⟨h, hm0, hq0⟩
    · obtain ⟨ad, rfl, had, hcell⟩ := ksi m h
      rw [List.getElem?_eq_getElem h] at hcell
      simp only [Option.getD_some] at hcell
      haveI := IsU.of (HF.out _ (List.getElem_mem h)).u64
      have E0 := Lib.hid (List.getElem?_eq_getElem h)
      have hnb : (ad.add (m + 1)).block ≠ w1.heap.size := block_add_ne had
      generalize l[m] = y at *
      obtain ⟨o2, ho2⟩ : ∃ o2, o2 = l[m + 1]? := ⟨_, rfl⟩
      have HO2 := Lib.hid ho2
      have E3 := Lib.hid (show habs l (0, 0, (xs.length : Int)) (q + 1) = hmix (fadd (habs l (0, 0, (xs.length : Int)) q).1 y, sk (habs l (0, 0, (xs.length : Int)) q).2.1 o2, (habs l (0, 0, (xs.length : Int)) q).2.2) by
        rw [HS'.out]; unfold hstep stp; rw [← hm, E0.out, ← HO2.out]; rfl)
      clear k1 k0 ksi kB hu0 ho2 hm hq
      have K1 := Lib.hid (HI.out.1.set (0) (.int .u64 (fadd (habs l (0, 0, (xs.length : Int)) q).1 y)))
      by_cases h2 : m + 1 < l.length
      · have hcell1 : wr.cell? (ad.add (m + 1)) = some (.int .u64 l[m + 1]) := by
          obtain ⟨ad', e, _, hc⟩ := HI.out.2.2.1 (m + 1) h2
          cases e
          rw [List.getElem?_eq_getElem h2] at hc
          exact hc
        haveI := IsU.of (HF.out _ (List.getElem_mem h2)).u64
        have E1 := Lib.hid (List.getElem?_eq_getElem h2)
        generalize l[m + 1] = z at *
        go_wp2_with fail
        go_still_tail 8, (by kernel_rfl)
        still_call (refAdd_s _ _ _)
        repeat still_step
        refine wpStill_nil ?_
        change wpList _ _ _ _ _ wr.drew
        go_wp2_with fail
        obtain ⟨W2, hW2⟩ : ∃ W2, (wr.setCell ⟨w1.heap.size, 0, none⟩ (.int .u64 (fadd (habs l (0, 0, (xs.length : Int)) q).1 y))).drew = W2 := ⟨_, rfl⟩
        have K2 : Blk W2 w1.heap.size 70 #[.int .u64 (fadd (habs l (0, 0, (xs.length : Int)) q).1 y), .int .u64 (habs l (0, 0, (xs.length : Int)) q).2.1, .int .u64 (habs l (0, 0, (xs.length : Int)) q).2.2] := by rw [← hW2]; exact K1.out.drew
        have hW2s : w1.heap.size < W2.heap.size := K2.lt
        have K20 : Blk W2 w.heap.size 50 #[.int .u64 0, .int .u64 0] := by rw [← hW2]; exact (HI.out.2.1.other (by simp; omega) _).drew
        have K2si : SI W2 w1.heap.size .u64 (some ad) l := by rw [← hW2]; exact (HI.out.2.2.1.set (fun a e => by cases e; exact Nat.ne_of_lt had) _)
        have K2B : Below w.heap.size w W2 := by rw [← hW2]; exact (HI.out.2.2.2.setCell (by simp; omega) _).drew
        have hcell2 : W2.cell? (ad.add (m + 1)) = some (.int .u64 z) := by rw [← hW2]; exact cell_far hcell1 hnb
        have hcell2' : W2.cell? ⟨ad.block, ad.off + (m + 1), none⟩ = some (.int .u64 z) := by simpa [Addr.add] using hcell2
        have HNB := Lib.hid (show ad.block ≠ w1.heap.size from Nat.ne_of_lt had)
        have KX0 := Lib.hid (And.intro (K2.set 1 (.int .u64 (fadd (habs l (0, 0, (xs.length : Int)) q).2.1 z))) (And.intro K20 (And.intro K2si K2B)))
        rw [hW2]
        clear hW2 c0 c1 c2 f0 f1 f2 hcell hcell1 K20 K2si K2B
        obtain ⟨⟨c0, c1, c2⟩, f0, f1, f2⟩ := K2.facts3
        have hwr : IntKind.i64.wrap ((m : Int) + 1) = (m : Int) + 1 := IntWalk.i64_in _ (by omega)
        have hnn : (0 : Int) ≤ (m : Int) + 1 := by omega
        have htn : ((m : Int) + 1).toNat = m + 1 := by omega
        clear K2
        go_still_tail 9, (by kernel_rfl)
        still_call (refAdd_s _ _ _)
        repeat still_step
        refine wpStill_nil ?_
        change wpList _ _ _ _ _ W2.drew
        clear hwr hnn htn
        obtain ⟨W3, hW3⟩ : ∃ W3, (W2.setCell ⟨w1.heap.size, 1, none⟩ (.int .u64 (fadd (habs l (0, 0, (xs.length : Int)) q).2.1 z))).drew = W3 := ⟨_, rfl⟩
        have KX : Hid (Blk W3 w1.heap.size 70 #[.int .u64 (fadd (habs l (0, 0, (xs.length : Int)) q).1 y), .int .u64 (fadd (habs l (0, 0, (xs.length : Int)) q).2.1 z), .int .u64 (habs l (0, 0, (xs.length : Int)) q).2.2] ∧ Blk W3 w.heap.size 50 #[.int .u64 0, .int .u64 0] ∧ SI W3 w1.heap.size .u64 (some ad) l ∧ Below w.heap.size w W3) := by
          rw [← hW3]
          exact ⟨KX0.out.1.drew, (KX0.out.2.1.other (by simp; omega) _).drew, KX0.out.2.2.1.set (fun a e => by cases e; exact HNB.out) _, (KX0.out.2.2.2.setCell (by simp; omega) _).drew⟩
        obtain ⟨⟨d0, d1, d2⟩, g0, g1, g2⟩ := KX.out.1.facts3
        go_wp2_with fail
        clear hW3 KX0 c0 c1 c2 f0 f1 f2 hcell2 hcell2' d0 d1 d2 g0 g1 g2
        refine Calls.mono (refMix_any _ _ _ _) ?_
        rintro e w5 ⟨rfl, hb5⟩
        have N1 := KX.out.1.below hb5 KX.out.1.lt
        have N0 := KX.out.2.1.below hb5 KX.out.2.1.lt
        have KXl := KX.out.1.lt
        have Nsi := KX.out.2.2.1.below (hb5.mono (by omega))
        have NB := KX.out.2.2.2.trans (hb5.mono KX.out.2.2.2.size)
        have HN := Lib.hid (And.intro N1 (And.intro N0 (And.intro Nsi NB)))
        clear hb5 N0 Nsi NB
        obtain ⟨⟨c0, c1, c2⟩, f0, f1, f2⟩ := N1.facts3
        clear N1
        go_wp2_with fail
        go_roundw
        case rel =>
          have hM := HM.out
          have hQ := HQ.out
          refine ⟨q + 1, m + 2, by omega, by omega, by go_num, ?_, ((HN.out.2.1.other (by simp; omega) _).other (by simp; omega) _).other (by simp; omega) _, ((HN.out.2.2.1.set (fun a e => by cases e; exact HNB.out) _).set (fun a e => by cases e; exact HNB.out) _).set (fun a e => by cases e; exact HNB.out) _, ((HN.out.2.2.2.setCell (by simp; omega) _).setCell (by simp; omega) _).setCell (by simp; omega) _⟩
          rw [E3.out, show o2 = some z from HO2.out.trans E1.out]
          exact HN.out.1.set3
        case measure => simp [intOf]; omega
      · have E1 := Lib.hid (List.getElem?_eq_none (show l.length ≤ m + 1 by omega))
        go_wp2_with fail
        go_still_tail 8, (by kernel_rfl)
        still_call (refAdd_s _ _ _)
        repeat still_step
        refine wpStill_nil ?_
        change wpList _ _ _ _ _ wr.drew
        obtain ⟨W3, hW3⟩ : ∃ W3, (wr.setCell ⟨w1.heap.size, 0, none⟩ (.int .u64 (fadd (habs l (0, 0, (xs.length : Int)) q).1 y))).drew = W3 := ⟨_, rfl⟩
        have HNB := Lib.hid (show ad.block ≠ w1.heap.size from Nat.ne_of_lt had)
        have KX : Hid (Blk W3 w1.heap.size 70 #[.int .u64 (fadd (habs l (0, 0, (xs.length : Int)) q).1 y), .int .u64 (habs l (0, 0, (xs.length : Int)) q).2.1, .int .u64 (habs l (0, 0, (xs.length : Int)) q).2.2] ∧ Blk W3 w.heap.size 50 #[.int .u64 0, .int .u64 0] ∧ SI W3 w1.heap.size .u64 (some ad) l ∧ Below w.heap.size w W3) := by
          rw [← hW3]
          exact ⟨K1.out.drew, (HI.out.2.1.other (by simp; omega) _).drew, HI.out.2.2.1.set (fun a e => by cases e; exact HNB.out) _, (HI.out.2.2.2.setCell (by simp; omega) _).drew⟩
        obtain ⟨⟨d0, d1, d2⟩, g0, g1, g2⟩ := KX.out.1.facts3
        go_wp2_with fail
        clear hW3 c0 c1 c2 f0 f1 f2 hcell d0 d1 d2 g0 g1 g2
        refine Calls.mono (refMix_any _ _ _ _) ?_
        rintro e w5 ⟨rfl, hb5⟩
        have N1 := KX.out.1.below hb5 KX.out.1.lt
        have N0 := KX.out.2.1.below hb5 KX.out.2.1.lt
        have KXl := KX.out.1.lt
        have Nsi := KX.out.2.2.1.below (hb5.mono (by omega))
        have NB := KX.out.2.2.2.trans (hb5.mono KX.out.2.2.2.size)
        have HN := Lib.hid (And.intro N1 (And.intro N0 (And.intro Nsi NB)))
        clear hb5 N0 Nsi NB
        obtain ⟨⟨c0, c1, c2⟩, f0, f1, f2⟩ := N1.facts3
        clear N1
        go_wp2_with fail
        go_roundw
        case rel =>
          have hM := HM.out
          have hQ := HQ.out
          refine ⟨q + 1, m + 2, by omega, by omega, by go_num, ?_, ((HN.out.2.1.other (by simp; omega) _).other (by simp; omega) _).other (by simp; omega) _, ((HN.out.2.2.1.set (fun a e => by cases e; exact HNB.out) _).set (fun a e => by cases e; exact HNB.out) _).set (fun a e => by cases e; exact HNB.out) _, ((HN.out.2.2.2.setCell (by simp; omega) _).setCell (by simp; omega) _).setCell (by simp; omega) _⟩
          rw [E3.out, show o2 = none from HO2.out.trans E1.out]
          exact HN.out.1.set3
        case measure => simp [intOf]; omega
    · subst hq0
      have E3 := Lib.hid (show habs l (0, 0, (xs.length : Int)) (0 + 1) = hmix ((habs l (0, 0, (xs.length : Int)) 0).1, (habs l (0, 0, (xs.length : Int)) 0).2.1, (habs l (0, 0, (xs.length : Int)) 0).2.2) by
        rw [HS'.out]; unfold hstep stp; rw [List.getElem?_eq_none (by omega), List.getElem?_eq_none (by omega)]; rfl)
      have HH := Lib.hid h
      have hz : ¬ (m : Int) < l.length := by omega
      have hz1 : ¬ (m : Int) + 1 < l.length := by omega
      have hm0' : ((m : Int) == 0) = true := beq_iff_eq.2 (by omega)
      have HM0 := Lib.hid hm0
      have hmb : m < 1 := by omega
      clear k1 k0 kB hu0 hm hq h hm0
      go_wp2_with fail
      refine Calls.mono (refMix_any _ _ _ _) ?_
      rintro e w5 ⟨rfl, hb5⟩
      have N1 := HI.out.1.below hb5 HI.out.1.lt
      have N0 := HI.out.2.1.below hb5 HI.out.2.1.lt
      have Nsi := HI.out.2.2.1.below (hb5.mono (by omega))
      have NB := HI.out.2.2.2.trans (hb5.mono HI.out.2.2.2.size)
      have HN := Lib.hid (And.intro N1 (And.intro N0 (And.intro Nsi NB)))
      clear hb5 N0 Nsi NB c0 c1 c2 f0 f1 f2 ksi
      obtain ⟨⟨c0, c1, c2⟩, f0, f1, f2⟩ := N1.facts3
      clear N1
      go_wp2_with fail
      go_roundw
      case rel =>
        refine ⟨1, m + 2, by have := HQ.out; omega, by omega, by go_num, ?_, ((HN.out.2.1.other (by simp; omega) _).other (by simp; omega) _).other (by simp; omega) _, fun j hj => by have := HH.out; omega, ((HN.out.2.2.2.setCell (by simp; omega) _).setCell (by simp; omega) _).setCell (by simp; omega) _⟩
        rw [E3.out]
        exact HN.out.1.set3
      case measure => have := HH.out; simp [intOf]; omega
    · have hz : ¬ (m : Int) < l.length := by omega
      have hm0' : ((m : Int) == 0) = false := beq_eq_false_iff_ne.2 (by omega)
      have HE := Lib.hid hq0
      obtain ⟨⟨d0, d1⟩, g0, g1⟩ := k0.facts2
      clear k1 k0 ksi kB hu0 hm hq hq0
      go_wp2_with fail
      refine bodyPost_ret (v := .agg #[.int .u64 (habs l (0, 0, (xs.length : Int)) q).1, .int .u64 (habs l (0, 0, (xs.length : Int)) q).2.1]) (by simp [results, Try.results52, go_sem, d0, d1]) rfl ⟨by rw [HT.out, ← HE.out], ?_⟩
      exact (HI.out.2.2.2.setCell (by simp) _).setCell (by simp) _
end Go.Proofs.Ytippfhlljlfcnaa
