/- The walk of SieveSome. (Printed by tools/gen_sieve_some.py.) -/
import Derived.Test.YtgkdkkppeeikoaaSieveG
namespace Go.Proofs.Ytgkdkkppeeikoaa
open Go.ChangeShapes Go.WideShapes Go.ChangeAt Go.RowKit Gs
set_option linter.unusedVariables false

theorem filter_at {p : Int → Bool} {l : List Int} {k : Nat} (hk : k < (l.filter p).length) : p (l.filter p)[k] = true := (List.mem_filter.1 (List.getElem_mem hk)).2

set_option maxRecDepth 100000 in
set_option maxHeartbeats 8000000 in
theorem some_walk9 (bits hashes salt : Int) (A : Option Addr) (n c : Nat) (B : List Int) (L : Option Addr) (cl : Nat) (l : List Int) (M : Option Addr) (cm : Nat) (m : List Int) (W : World) (hBl : B.length = n) (hnc : n ≤ c) (hcm : c ≤ maxLen) (hs : SI W W.heap.size .u8 A B) (hB : IsBy B) (hL : SI W W.heap.size .i64 L l) (hlc : l.length ≤ cl) (hlm : cl ≤ maxLen) (hM : SI W W.heap.size .i64 M m) (hmc : m.length ≤ cm) (hmm : cm ≤ maxLen) :
    Calls Try.prog 8 #[svV bits hashes salt A n c, .slice L l.length cl, .slice M m.length cm] W fun e w' => e = .returned (.bool true) ∧ Below W.heap.size W w' := by
  have hn : n ≤ maxLen := Nat.le_trans hnc hcm
  have FW := Lib.hid (few_any9 bits hashes salt A n c hn L l.length cl (Nat.le_trans hlc hlm))
  have HB0 := Lib.hid (nb0 W (.cells #[.int .i64 bits, .int .i64 hashes, .int .i64 salt, .slice A n c] 26))
  have HL0 := Lib.hid (hL.on HB0.out)
  have HM0 := Lib.hid (hM.on HB0.out)
  have HS0 := Lib.hid (hs.on HB0.out)
  have HX0 := Lib.hid (Blk.new W 26 #[.int .i64 bits, .int .i64 hashes, .int .i64 salt, .slice A n c])
  have HN := Lib.hid hn
  have hml : m.length ≤ 9223372036854775807 := by unfold maxLen at hmm; omega
  have HBL := Lib.hid hBl
  have HBY := Lib.hid hB
  clear hL hM hs hn hBl hB hnc hcm hlc hlm hmc hmm
  cases hf : fewB n l.length
  · skip
    go_enter Try.func8, Try.ntmps8
    go_wp2_with fail
    refine (live9 _).mono ?_; rintro e w0 ⟨rfl, b⟩
    have HB := Lib.hid (belowOn HB0.out b)
    have HL := Lib.hid (HL0.out.on b)
    have HMM := Lib.hid (HM0.out.on b)
    have HS := Lib.hid (HS0.out.on b)
    have HX := Lib.hid (HX0.out.below b HX0.out.lt)
    clear b
    obtain ⟨q0, q1, q2, q3⟩ := HX.out.facts4
    go_wp2_with fail
    refine (FW.out _).mono ?_; rintro e w1 ⟨rfl, b⟩
    rw [hf]
    have HB := Lib.hid (belowOn HB.out b)
    have HL := Lib.hid (HL.out.on b)
    have HMM := Lib.hid (HMM.out.on b)
    have HS := Lib.hid (HS.out.on b)
    have HX := Lib.hid (HX.out.below b HX.out.lt)
    clear b q0 q1 q2 q3
    obtain ⟨q0, q1, q2, q3⟩ := HX.out.facts4
    go_wp2_with fail
    go_ret
    exact ⟨rfl, HB.out⟩
  by_cases h60 : m.length ≤ 60
  rotate_left 1
  · have d60 : decide ((m.length : Int) ≤ 60) = false := decide_eq_false (by omega)
    go_enter Try.func8, Try.ntmps8
    go_wp2_with fail
    refine (live9 _).mono ?_; rintro e w0 ⟨rfl, b⟩
    have HB := Lib.hid (belowOn HB0.out b)
    have HL := Lib.hid (HL0.out.on b)
    have HMM := Lib.hid (HM0.out.on b)
    have HS := Lib.hid (HS0.out.on b)
    have HX := Lib.hid (HX0.out.below b HX0.out.lt)
    clear b
    obtain ⟨q0, q1, q2, q3⟩ := HX.out.facts4
    go_wp2_with fail
    refine (FW.out _).mono ?_; rintro e w1 ⟨rfl, b⟩
    rw [hf]
    have HB := Lib.hid (belowOn HB.out b)
    have HL := Lib.hid (HL.out.on b)
    have HMM := Lib.hid (HMM.out.on b)
    have HS := Lib.hid (HS.out.on b)
    have HX := Lib.hid (HX.out.below b HX.out.lt)
    clear b q0 q1 q2 q3
    obtain ⟨q0, q1, q2, q3⟩ := HX.out.facts4
    go_wp2_with fail
    go_ret
    exact ⟨rfl, HB.out⟩
  have hl60 : l.length ≤ 60 := by unfold fewB at hf; rw [Bool.and_eq_true] at hf; exact of_decide_eq_true hf.2
  have SM := Lib.hid (fun X cx x hx W2 hs hL => Some_any bits hashes salt A n c B HBY.out HBL.out HN.out X cx x hx W2 hs hL)
  have HA := Lib.hid (fun x W2 hs => Has_any bits hashes salt A n c B HBY.out HBL.out HN.out x W2 hs)
  obtain ⟨p, hp⟩ : ∃ p, hasS bits hashes salt B = p := ⟨_, rfl⟩
  rw [hp] at SM HA
  clear hp
  obtain ⟨i0, hi, hz0, hz1, hz2⟩ := info_parts Try.info3
  have HI := Lib.hid (And.intro hi (And.intro hz0 (And.intro hz1 hz2)))
  clear hi hz0 hz1 hz2
  obtain ⟨lm, hlm⟩ : ∃ lm, l ++ m = lm := ⟨_, rfl⟩
  have HLL := Lib.hid (show lm.length ≤ 1000000 by rw [← hlm]; simp; omega)
  have HLM := Lib.hid hlm
  clear hlm
  obtain ⟨f7, hf7⟩ : ∃ f, l.filter p = f := ⟨_, rfl⟩
  have H7 := Lib.hid hf7
  obtain ⟨f8, hf8⟩ : ∃ f, m.filter p = f := ⟨_, rfl⟩
  have H8 := Lib.hid hf8
  obtain ⟨f9, hf9⟩ : ∃ f, lm.filter p = f := ⟨_, rfl⟩
  have H9 := Lib.hid hf9
  have l7 : f7.length ≤ 60 := by rw [← hf7]; exact Nat.le_trans (List.length_filter_le _ _) hl60
  have l8 : f8.length ≤ 60 := by rw [← hf8]; exact Nat.le_trans (List.length_filter_le _ _) h60
  have P7 := Lib.hid (show ∀ x ∈ f7, p x = true from fun x hx => by rw [← hf7] at hx; exact (List.mem_filter.1 hx).2)
  have F9 := Lib.hid (show f9 = f7 ++ f8 by rw [← hf9, ← HLM.out, List.filter_append, hf7, hf8])
  have F7 := Lib.hid (show f7.filter p = f7 from List.filter_eq_self.2 P7.out)
  have l9 : f9.length ≤ 120 := by rw [F9.out, List.length_append]; omega
  clear hf7 hf8 hf9
  have d60 : decide ((m.length : Int) ≤ 60) = true := decide_eq_true (by omega)
  go_enter Try.func8, Try.ntmps8
  go_wp2_with fail
  refine (live9 _).mono ?_; rintro e w0 ⟨rfl, b⟩
  have HB := Lib.hid (belowOn HB0.out b)
  have HL := Lib.hid (HL0.out.on b)
  have HMM := Lib.hid (HM0.out.on b)
  have HS := Lib.hid (HS0.out.on b)
  have HX := Lib.hid (HX0.out.below b HX0.out.lt)
  clear b
  obtain ⟨q0, q1, q2, q3⟩ := HX.out.facts4
  go_wp2_with fail
  refine (FW.out _).mono ?_; rintro e w1 ⟨rfl, b⟩
  rw [hf]
  have HB := Lib.hid (belowOn HB.out b)
  have HL := Lib.hid (HL.out.on b)
  have HMM := Lib.hid (HMM.out.on b)
  have HS := Lib.hid (HS.out.on b)
  have HX := Lib.hid (HX.out.below b HX.out.lt)
  clear b q0 q1 q2 q3
  obtain ⟨q0, q1, q2, q3⟩ := HX.out.facts4
  go_wp2_with fail
  clear hf
  refine (SM.out _ _ l (by omega) _ HS.out HL.out).mono ?_; rintro e w2 ⟨v, rfl, ho, b⟩
  rw [H7.out] at ho
  obtain ⟨A7, c7, rfl, _, _, h7, _⟩ := own_sliceN ho
  have HB := Lib.hid (belowOn HB.out b)
  have HL := Lib.hid (HL.out.on b)
  have HMM := Lib.hid (HMM.out.on b)
  have HS := Lib.hid (HS.out.on b)
  have HX := Lib.hid (HX.out.below b HX.out.lt)
  have S7 := Lib.hid (h7)
  clear ho h7 b q0 q1 q2 q3
  obtain ⟨q0, q1, q2, q3⟩ := HX.out.facts4
  go_wp2_with fail
  refine (SM.out _ _ m (by omega) _ HS.out HMM.out).mono ?_; rintro e w3 ⟨v, rfl, ho, b⟩
  rw [H8.out] at ho
  obtain ⟨A8, c8, rfl, _, _, h8, _⟩ := own_sliceN ho
  have HB := Lib.hid (belowOn HB.out b)
  have HL := Lib.hid (HL.out.on b)
  have HMM := Lib.hid (HMM.out.on b)
  have HS := Lib.hid (HS.out.on b)
  have HX := Lib.hid (HX.out.below b HX.out.lt)
  have S7 := Lib.hid (S7.out.on b)
  have S8 := Lib.hid (h8)
  clear ho h8 b q0 q1 q2 q3
  go_wp2_with fail
  obtain ⟨q0, q1, q2, q3⟩ := HX.out.facts4
  have RL := Lib.hid (show Reads (w3.drew.alloc (.cells #[] 3)) w3.heap.size 1 L l.length (l.map (Value.int .i64)) from (reads_si HL.out).drew.alloc (Nat.le_refl _) _)
  have OE := Lib.hid (own_emptyN w3.drew (B := w3.heap.size) (Nat.le_refl _) rfl)
  have hW : Below w3.heap.size w3 (w3.drew.alloc (.cells #[] 3)) := (Below.refl _ _).drew.alloc (Nat.le_refl _) _
  have hxs := HX.out.lt
  go_region_held_law (fun w' => w'.cell? ⟨W.heap.size, 0, none⟩ = some (.int .i64 bits) ∧ w'.cell? ⟨W.heap.size, 1, none⟩ = some (.int .i64 hashes) ∧ w'.cell? ⟨W.heap.size, 2, none⟩ = some (.int .i64 salt) ∧ w'.cell? ⟨W.heap.size, 3, none⟩ = some (.slice A n c)) (first | with_reducible exact ⟨by assumption, by assumption, by assumption, by assumption⟩ | go_keep)
    (first
      | (refine step_append_any (by rfl) (.tmp 31) (.tmp 32) _ (by rfl) w3.heap.size 3 i0 (.int .i64 0) 1 8 Try.underlying22 HI.out.1 HI.out.2.1 HI.out.2.2.1 HI.out.2.2.2 (by rfl) (by decide) _ 0 [] (by rfl) OE.out w3.heap.size _ l.length _ (l.map (Value.int .i64)) (by rfl) RL.out (one_i64 _) (by unfold maxLen; omega) (by omega) (by simp) ?_; intro v4 w4 ho4 hb4; have HO4 := Lib.hid ho4; have hW := hW.trans hb4; have RM := Lib.hid (show Reads w4 w3.heap.size 1 M m.length (m.map (Value.int .i64)) from (reads_si HMM.out).below hW); have hsz4 := hW.size; clear ho4 hb4; have k0 := (hW.cell (p := ⟨W.heap.size, 0, none⟩) hxs).trans q0; have k1 := (hW.cell (p := ⟨W.heap.size, 1, none⟩) hxs).trans q1; have k2 := (hW.cell (p := ⟨W.heap.size, 2, none⟩) hxs).trans q2; have k3 := (hW.cell (p := ⟨W.heap.size, 3, none⟩) hxs).trans q3)
      | (refine step_append_any (by rfl) (.tmp 33) (.tmp 34) _ (by rfl) w3.heap.size 3 i0 (.int .i64 0) 1 8 Try.underlying22 HI.out.1 HI.out.2.1 HI.out.2.2.1 HI.out.2.2.2 (by rfl) (by decide) v4 (0 + l.length) ([] ++ l.map (Value.int .i64)) (by rfl) HO4.out w3.heap.size _ m.length _ (m.map (Value.int .i64)) (by rfl) RM.out (one_i64 _) (by unfold maxLen; omega) (by omega) hsz4 ?_; intro v5 w5 ho5 hb5; obtain ⟨A5, c5, rfl, _, _, h5, _⟩ := own_sliceN (own_n (xs := lm) ho5 (by rw [← HLM.out]; simp) (by rw [← HLM.out]; simp)); have HS5 := Lib.hid h5; have hW := hW.trans hb5; have SS5 := Lib.hid (HS.out.on hW); clear ho5 hb5 h5; have k0 := (hW.cell (p := ⟨W.heap.size, 0, none⟩) hxs).trans q0; have k1 := (hW.cell (p := ⟨W.heap.size, 1, none⟩) hxs).trans q1; have k2 := (hW.cell (p := ⟨W.heap.size, 2, none⟩) hxs).trans q2; have k3 := (hW.cell (p := ⟨W.heap.size, 3, none⟩) hxs).trans q3)
      | (go_at_call 14; refine (SM.out _ _ lm HLL.out _ SS5.out HS5.out).mono ?_; rintro e w6 ⟨v6, rfl, ho6, b6⟩; rw [H9.out] at ho6; obtain ⟨A9, c9, rfl, _, _, h9, _⟩ := own_sliceN ho6; have HS9 := Lib.hid h9; have hW := belowOn hW b6; clear ho6 b6 h9; have k0 := (hW.cell (p := ⟨W.heap.size, 0, none⟩) hxs).trans q0; have k1 := (hW.cell (p := ⟨W.heap.size, 1, none⟩) hxs).trans q1; have k2 := (hW.cell (p := ⟨W.heap.size, 2, none⟩) hxs).trans q2; have k3 := (hW.cell (p := ⟨W.heap.size, 3, none⟩) hxs).trans q3))
  have hZ := hW
  have HB := Lib.hid (belowOn HB.out hZ)
  have HL := Lib.hid (HL.out.on hZ)
  have HMM := Lib.hid (HMM.out.on hZ)
  have HS := Lib.hid (HS.out.on hZ)
  have HX := Lib.hid (HX.out.below hZ HX.out.lt)
  have S7 := Lib.hid (S7.out.on hZ)
  have S8 := Lib.hid (S8.out.on hZ)
  clear k0 k1 k2 k3 q0 q1 q2 q3 hZ hW
  go_wp2_with fail
  refine wp_named (fun W1 => Below W.heap.size W W1 ∧ SI W1 W1.heap.size .i64 L l ∧ SI W1 W1.heap.size .u8 A B ∧ Blk W1 W.heap.size 26 #[.int .i64 bits, .int .i64 hashes, .int .i64 salt, .slice A n c] ∧ SI W1 W1.heap.size .i64 A7 f7 ∧ SI W1 W1.heap.size .i64 A8 f8 ∧ SI W1 W1.heap.size .i64 A9 f9) ⟨HB.out, HL.out, HS.out, HX.out, S7.out, S8.out, HS9.out⟩ ?_
  clear HB HL HS HX S7 S8 HS9 HMM
  rintro W1 ⟨h1, h2, h3, h4, h5, h6, h7⟩
  have HB := Lib.hid h1
  have HL := Lib.hid h2
  have HS := Lib.hid h3
  have HX := Lib.hid h4
  have S7 := Lib.hid h5
  have S8 := Lib.hid h6
  have S9 := Lib.hid h7
  clear h1 h2 h3 h4 h5 h6 h7
  go_loopw [10] (fun i wr => ∃ k : Nat, k ≤ f7.length ∧ i = .int .i64 (k : Int) ∧ Below W1.heap.size W1 wr) (fun i _ => f7.length - (intOf i).toNat)
  case atStart => exact ⟨0, by omega, rfl, Below.refl _ _⟩
  case round =>
    obtain ⟨k, hk, rfl, hbr⟩ := hrel
    have BR := Lib.hid hbr
    have XR := Lib.hid (HX.out.below hbr HX.out.lt)
    have SR := Lib.hid (HS.out.on hbr)
    have LR := Lib.hid (S7.out.on hbr)
    clear hbr
    by_cases hlt : k < f7.length
    · obtain ⟨ad, rfl, _, hc⟩ := LR.out k hlt
      rw [List.getElem?_eq_getElem hlt] at hc
      simp only [Option.getD_some] at hc
      have HN := Lib.hid (P7.out _ (List.getElem_mem hlt))
      generalize f7[k] = x at hc HN
      obtain ⟨c0, c1, c2, c3⟩ := XR.out.facts4
      go_wp2_with fail
      go_still_tail 5, (by kernel_rfl)
      change wpList _ _ _ _ _ wr.drew
      have BD := Lib.hid (show Below wr.heap.size wr wr.drew from (Below.refl wr.heap.size wr).drew)
      have SD := Lib.hid (show SI wr.drew wr.drew.heap.size .u8 A B from SR.out)
      clear c0 c1 c2 c3 hc
      go_wp2_with fail
      refine (HA.out x _ SD.out).mono ?_; rintro e w6 ⟨rfl, b⟩
      rw [HN.out]
      have BR2 := Lib.hid (belowOn BR.out (belowOn BD.out b))
      clear b
      go_wp2_with fail
      go_roundw
      case rel => exact ⟨k + 1, by omega, by go_num, BR2.out⟩
      case measure => simp [intOf]; omega
    · obtain rfl : k = f7.length := by omega
      clear XR SR LR
      go_wp2_with fail
      refine wp_named (fun W2 => Below W1.heap.size W1 W2) BR.out ?_
      clear BR
      rintro W2 hb2
      have B2 := Lib.hid hb2
      have HX2 := Lib.hid (HX.out.below hb2 HX.out.lt)
      have HS2 := Lib.hid (HS.out.on hb2)
      have HL2 := Lib.hid (HL.out.on hb2)
      have T7 := Lib.hid (S7.out.on hb2)
      have T8 := Lib.hid (S8.out.on hb2)
      have T9 := Lib.hid (S9.out.on hb2)
      clear hb2
      go_loopw [11, 12] (fun q i wr => ∃ j : Nat, j ≤ l.length ∧ i = .int .i64 (j : Int) ∧ q = .int .i64 (((l.take j).filter p).length : Int) ∧ Below W2.heap.size W2 wr) (fun _ i _ => l.length - (intOf i).toNat)
      case atStart => exact ⟨0, by omega, rfl, rfl, Below.refl _ _⟩
      case round =>
        obtain ⟨j, hj, rfl, rfl, hbr⟩ := hrel
        have BR := Lib.hid hbr
        have XR := Lib.hid (HX2.out.below hbr HX2.out.lt)
        have SR := Lib.hid (HS2.out.on hbr)
        have LR := Lib.hid (HL2.out.on hbr)
        obtain ⟨cn, hcn⟩ : ∃ cn, ((l.take j).filter p).length = cn := ⟨_, rfl⟩
        have hcn60 : cn ≤ 60 := by rw [← hcn]; exact Nat.le_trans (List.length_filter_le _ _) (Nat.le_trans (List.length_take_le _ _) (by omega))
        rw [hcn]
        have HCN := Lib.hid hcn
        clear hbr hcn
        by_cases hlt : j < l.length
        · obtain ⟨ad, rfl, _, hc⟩ := LR.out j hlt
          rw [List.getElem?_eq_getElem hlt] at hc
          simp only [Option.getD_some] at hc
          have HF := Lib.hid (filter_take (p := p) l j hlt)
          generalize l[j] = x at hc HF
          obtain ⟨c0, c1, c2, c3⟩ := XR.out.facts4
          cases hpx : p x
          · rw [hpx] at HF
            have HPX := Lib.hid hpx
            clear hpx
            go_wp2_with fail
            go_still_tail 5, (by kernel_rfl)
            change wpList _ _ _ _ _ wr.drew
            have BD := Lib.hid (show Below wr.heap.size wr wr.drew from (Below.refl wr.heap.size wr).drew)
            have SD := Lib.hid (show SI wr.drew wr.drew.heap.size .u8 A B from SR.out)
            clear c0 c1 c2 c3 hc
            go_wp2_with fail
            refine (HA.out x _ SD.out).mono ?_; rintro e w6 ⟨rfl, b⟩
            rw [HPX.out]
            have BR2 := Lib.hid (belowOn BR.out (belowOn BD.out b))
            clear b
            go_wp2_with fail
            go_roundw
            case rel => exact ⟨j + 1, by omega, by go_num, congrArg (Value.int .i64) (by rw [HF.out, List.length_append, HCN.out]; simp), BR2.out⟩
            case measure => simp [intOf]; omega
          · rw [hpx] at HF
            have HPX := Lib.hid hpx
            clear hpx
            go_wp2_with fail
            go_still_tail 5, (by kernel_rfl)
            change wpList _ _ _ _ _ wr.drew
            have BD := Lib.hid (show Below wr.heap.size wr wr.drew from (Below.refl wr.heap.size wr).drew)
            have SD := Lib.hid (show SI wr.drew wr.drew.heap.size .u8 A B from SR.out)
            clear c0 c1 c2 c3 hc
            go_wp2_with fail
            refine (HA.out x _ SD.out).mono ?_; rintro e w6 ⟨rfl, b⟩
            rw [HPX.out]
            have BR2 := Lib.hid (belowOn BR.out (belowOn BD.out b))
            clear b
            go_wp2_with fail
            go_roundw
            case rel => exact ⟨j + 1, by omega, by go_num, congrArg (Value.int .i64) (by rw [HF.out, List.length_append, HCN.out]; simp), BR2.out⟩
            case measure => simp [intOf]; omega
        · obtain rfl : j = l.length := by omega
          have H7' := H7.out
          have hcn' := HCN.out
          rw [List.take_length, H7'] at hcn'
          obtain rfl := hcn'
          clear H7' HCN
          have U7 := Lib.hid (T7.out.on BR.out)
          have U8 := Lib.hid (T8.out.on BR.out)
          have U9 := Lib.hid (T9.out.on BR.out)
          clear LR
          have R7 := Lib.hid (show Reads (wr.alloc (.cells #[] 3)) wr.heap.size 1 A7 f7.length (f7.map (Value.int .i64)) from (reads_si U7.out).alloc (Nat.le_refl _) _)
          have OE := Lib.hid (own_emptyN wr (B := wr.heap.size) (Nat.le_refl _) rfl)
          have HB7 := Lib.hid (nb0 wr (.cells #[] 3))
          go_wp2_with (first | (at_builtin; refine wpList_append_any_g (by rfl) (.tmp 70) (.tmp 71) _ rfl wr.heap.size 3 i0 (.int .i64 0) 1 8 Try.underlying22 HI.out.1 HI.out.2.1 HI.out.2.2.1 HI.out.2.2.2 rfl (by decide) _ 0 [] rfl OE.out wr.heap.size _ f7.length _ (f7.map (Value.int .i64)) rfl R7.out (one_i64 _) (by unfold maxLen; omega) (by omega) (by simp) ?_; intro v4 w4 ho4 hg4 _; have HO4 := Lib.hid ho4; have HB4 := Lib.hid (show Below wr.heap.size wr w4 from HB7.out.grown hg4 (by simp) (fun g e => own_ge OE.out g e)); have R8 := Lib.hid (show Reads w4 wr.heap.size 1 A8 f8.length (f8.map (Value.int .i64)) from (reads_si U8.out).below HB4.out); have hz4 := HB4.out.size; clear ho4 hg4) | (at_builtin; refine wpList_append_any_g (by rfl) (.tmp 72) (.tmp 73) _ rfl wr.heap.size 3 i0 (.int .i64 0) 1 8 Try.underlying22 HI.out.1 HI.out.2.1 HI.out.2.2.1 HI.out.2.2.2 rfl (by decide) v4 (0 + f7.length) ([] ++ f7.map (Value.int .i64)) rfl HO4.out wr.heap.size _ f8.length _ (f8.map (Value.int .i64)) rfl R8.out (one_i64 _) (by unfold maxLen; omega) (by omega) hz4 ?_; intro v5 w5 ho5 hg5 _; obtain ⟨A5, c5, rfl, _, _, h5, _⟩ := own_sliceN (own_n (xs := f9) ho5 (by rw [F9.out]; simp) (by rw [F9.out]; simp)); have HS5 := Lib.hid h5; have HB5 := Lib.hid (show Below wr.heap.size wr w5 from HB4.out.grown hg5 hz4 (fun g e => own_ge HO4.out g e)); clear ho5 hg5 h5))
          have V9 := Lib.hid (U9.out.on HB5.out)
          have BR := Lib.hid (belowOn BR.out HB5.out)
          have XR := Lib.hid (XR.out.below HB5.out XR.out.lt)
          have SR := Lib.hid (SR.out.on HB5.out)
          have U7 := Lib.hid (U7.out.on HB5.out)
          refine (refInts_yes _ _ f9.length f9.length _ _ f9 rfl rfl _ _ _ (by omega) V9.out HS5.out).mono ?_; rintro e w6 ⟨rfl, nd, rfl⟩
          have hd := below_drewN (Below.refl w5.heap.size w5) nd
          have BR := Lib.hid (belowOn BR.out hd)
          have XR := Lib.hid (XR.out.below hd XR.out.lt)
          have SR := Lib.hid (SR.out.on hd)
          have U7 := Lib.hid (U7.out.on hd)
          clear hd
          obtain ⟨c0, c1, c2, c3⟩ := XR.out.facts4
          go_wp2_with fail
          refine (SM.out _ _ f7 (by omega) _ SR.out U7.out).mono ?_; rintro e w7 ⟨v, rfl, ho, b⟩
          rw [F7.out] at ho
          obtain ⟨A6, c6, rfl, _, _, h6, _⟩ := own_sliceN ho
          have HS6 := Lib.hid h6
          have BR := Lib.hid (belowOn BR.out b)
          have XR := Lib.hid (XR.out.below b XR.out.lt)
          have SR := Lib.hid (SR.out.on b)
          have U7 := Lib.hid (U7.out.on b)
          clear ho h6 b c0 c1 c2 c3
          go_wp2_with fail
          refine (refInts_yes _ _ f7.length f7.length _ _ f7 rfl rfl _ _ _ (by omega) HS6.out U7.out).mono ?_; rintro e w8 ⟨rfl, nd2, rfl⟩
          go_wp2_with fail
          go_ret
          exact ⟨rfl, HB.out.trans ((belowOn B2.out (below_drewN BR.out nd2)).mono HB.out.size)⟩
end Go.Proofs.Ytgkdkkppeeikoaa
