/- The walk of SieveBare. (Printed by tools/gen_sieve_bare.py.) -/
import Derived.Test.YtgkdkkppeeikoaaSieveH
namespace Go.Proofs.Ytgkdkkppeeikoaa
open Go.ChangeShapes Go.WideShapes Go.ChangeAt Go.RowKit Gs
set_option linter.unusedVariables false

theorem shr_bit (x : Int) (h : 0 ≤ x ∧ x < 256) (k : Nat) (hk : k < 8) : Go.bits .and .u8 (x / 2 ^ k) 1 = if x.toNat.testBit k then 1 else 0 := by
  obtain ⟨n, rfl⟩ := Int.eq_ofNat_of_zero_le h.1
  have hn : n < 256 := by omega
  have e : ((n : Int) / 2 ^ k) = ((n / 2 ^ k : Nat) : Int) := by norm_cast
  have hd0 : 0 ≤ n / 2 ^ k := Nat.zero_le _
  have hd : n / 2 ^ k < 256 := Nat.lt_of_le_of_lt (Nat.div_le_self _ _) hn
  rw [e]
  generalize hm : n / 2 ^ k = m at *
  rw [u8_and _ _ (by omega) (by omega) (by omega) (by omega)]
  simp only [Int.toNat_natCast, Nat.testBit_eq_decide_div_mod_eq, hm]
  have h1 : (1 : Int).toNat = 2 ^ 1 - 1 := rfl
  rw [h1, Nat.and_two_pow_sub_one_eq_mod]
  by_cases h : m % 2 = 1
  · rw [decide_eq_true h, if_pos rfl]; omega
  · rw [decide_eq_false h]; have h0 : m % 2 = 0 := by omega
    simp only [Nat.pow_one, h0]; rfl
theorem cnt_step (C : List Int) (i k : Nat) (hk : k < 8) : cntTo C (8 * i + (k + 1)) = cntTo C (8 * i + k) + (if (C[i]?.getD 0).toNat.testBit k then 1 else 0) := by
  rw [show 8 * i + (k + 1) = (8 * i + k) + 1 by omega, cntTo_succ, bit_at C i k hk]
theorem bit_step (cd N : Nat) (y : Int) (b : Bool) (h : cd ≤ 8192) (hN : N = cd + if b = true then 1 else 0) (hy : y = if b = true then 1 else 0) : (Value.int .i64 (wrap64 ((cd : Int) + wrap64 y))) = .int .i64 (N : Int) := by
  cases b
  · simp only [Bool.false_eq_true, if_false, Nat.add_zero] at hN hy; subst hy; rw [hN]
    rw [show wrap64 0 = 0 by unfold wrap64; omega, show wrap64 ((cd : Int) + 0) = (cd : Int) by unfold wrap64; omega]
  · simp only [if_true] at hN hy; subst hy; rw [hN]
    rw [show wrap64 1 = 1 by unfold wrap64; omega, show wrap64 ((cd : Int) + 1) = ((cd + 1 : Nat) : Int) by unfold wrap64; omega]
theorem own_nilB' (w : World) (B : Nat) : OwnB w B (.slice none 0 0) [] := World.ownsRow_nil _ _ _ _
/-- The row of bytes 255 in its box, so many of them. -/
def FullI (base fb : Nat) (bits hashes salt : Int) (P : World) (k : Nat) (wr : World) : Prop :=
  (∃ g c, Blk wr fb 26 #[.int .i64 bits, .int .i64 hashes, .int .i64 salt, .slice (some ⟨g, 0, none⟩) k c] ∧ wr.ownsRow (fb + 1) 5 1 (.slice (some ⟨g, 0, none⟩) k c) k ((List.replicate k (255 : Int)).map (Value.int .u8))) ∧ Below base P wr

theorem own_farB {w : World} {B e size n : Nat} {v : Value} {xs : List Value} (h : w.ownsRow B e size v n xs) {p : Addr} (hp : p.block < B) (u : Value) : (w.setCell p u).ownsRow B e size v n xs := by
  obtain ⟨h1, h2⟩ := h
  refine ⟨h1, ?_⟩
  rcases h2 with h2 | ⟨g, cap, cur, rfl, hb, hg, r⟩
  · exact .inl h2
  · exact .inr ⟨g, cap, cur, rfl, hb, (Below.heap_setCell w p u g (by omega)).trans hg, r⟩
theorem addr_0 (g k : Nat) : (⟨g, 0, none⟩ : Addr).add k = ⟨g, k, none⟩ := by unfold Addr.add; split <;> simp_all
theorem full_form (k g c : Nat) : (List.replicate k (255 : Int)).map (Value.int .u8) ++ [Value.int .u8 255] = (List.replicate (k + 1) (255 : Int)).map (Value.int .u8) := by
  rw [List.replicate_succ']; simp

set_option maxRecDepth 100000 in
set_option maxHeartbeats 8000000 in
theorem bare_walk9 (bits hashes salt n : Int) (W : World) :
    Calls Try.prog 7 #[.int .i64 bits, .int .i64 hashes, .int .i64 salt, .int .i64 n] W fun e w' => e = .returned (.bool true) ∧ Below W.heap.size W w' := by
  cases hm : mayN bits hashes salt
  · have NO := Lib.hid (New_no bits hashes salt hm)
    clear hm
    go_enter Try.func7, Try.ntmps7
    go_wp2_with fail
    refine (live9 _).mono ?_; rintro e w0 ⟨rfl, b⟩
    have HB := Lib.hid b
    clear b
    go_wp2_with fail
    refine (NO.out _).mono ?_; rintro e w1 ⟨rfl, b⟩
    have HB := Lib.hid (belowOn HB.out b)
    clear b
    go_wp2_with fail
    go_ret
    exact ⟨rfl, HB.out.alloc HB.out.size _⟩
  have NW := Lib.hid (New_ok bits hashes salt hm)
  have HZC := Lib.hid (chk_of hm [])
  have HBH := Lib.hid (bare_has hm n)
  have HFH := Lib.hid (fun h => full_has hm (n := n) h)
  have HCN := Lib.hid (bare_count hm n)
  have hmb := (mayN_iff.1 hm).1
  have b0 : 0 ≤ bits := by omega
  have b1 : bits ≤ 8192 := by omega
  obtain ⟨nb, hnb⟩ : ∃ nb : Nat, (bits / 8).toNat = nb := ⟨_, rfl⟩
  have hq : bits / 8 = (nb : Int) := by omega
  have hnb1 : nb ≤ 1024 := by omega
  have hnb0 : 1 ≤ nb := by omega
  have hck : chkS bits hashes salt nb = true := chkS_iff.2 ⟨hm, by omega⟩
  rw [hnb] at NW HBH HFH HCN
  have HQ := Lib.hid hq
  have PT := Lib.hid (fun ad c W2 h => Put_chk bits hashes salt ad nb c (List.replicate nb 0) (zeros_by _) (by simp) hck (by omega) n W2 h)
  have HA := Lib.hid (fun ad c W2 h => Has_any bits hashes salt (some ad) nb c (List.replicate nb 0) (zeros_by _) (by simp) (by unfold maxLen; omega) n W2 h)
  have HAF := Lib.hid (fun ad c W2 h => Has_any bits hashes salt (some ad) nb c (List.replicate nb 255) (full_by _) (by simp) (by unfold maxLen; omega) n W2 h)
  rw [HBH.out] at HA
  clear hm hmb hnb hq hck HZC
  go_enter Try.func7, Try.ntmps7
  go_wp2_with fail
  refine (live9 _).mono ?_; rintro e w0 ⟨rfl, b⟩
  have HB := Lib.hid b
  clear b
  go_wp2_with fail
  refine (NW.out _).mono ?_; rintro e w1 ⟨⟨g1, cap1, rfl, ho⟩, b⟩
  have HB := Lib.hid (belowOn HB.out b)
  have S1 := Lib.hid (si_rows ho)
  clear ho b
  have na := nb0 w1 (.cells #[.int .i64 bits, .int .i64 hashes, .int .i64 salt, .slice (some ⟨g1, 0, none⟩) nb cap1] 26)
  have HB := Lib.hid (belowOn HB.out na)
  have S1 := Lib.hid (S1.out.on na)
  have XS := Lib.hid (show Blk (w1.alloc (.cells #[.int .i64 bits, .int .i64 hashes, .int .i64 salt, .slice (some ⟨g1, 0, none⟩) nb cap1] 26)) w1.heap.size 26 #[.int .i64 bits, .int .i64 hashes, .int .i64 salt, .slice (some ⟨g1, 0, none⟩) nb cap1] from Blk.new_at _ _ _ rfl)
  clear na
  go_wp2_with fail
  refine (PT.out _ _ _ S1.out).mono ?_; rintro e w2 ⟨b, ⟨hr, g2, cap2, rfl, ho⟩ | ⟨hr, rfl⟩⟩
  rotate_left 1
  · skip
    have HB := Lib.hid (belowOn HB.out b)
    have S1 := Lib.hid (S1.out.on b)
    have XS := Lib.hid (XS.out.below b XS.out.lt)
    clear b hr
    have na := nb0 w2 (.cells #[.int .i64 0, .int .i64 0, .int .i64 0, .slice none 0 0] 26)
    have HB := Lib.hid (belowOn HB.out na)
    have S1 := Lib.hid (S1.out.on na)
    have XS := Lib.hid (XS.out.below na XS.out.lt)
    clear na
    obtain ⟨q0, q1, q2, q3⟩ := XS.out.facts4
    go_wp2_with fail
    refine (HA.out _ _ _ S1.out).mono ?_; rintro e w3 ⟨rfl, b⟩
    have HB := Lib.hid (belowOn HB.out b)
    have S1 := Lib.hid (S1.out.on b)
    have XS := Lib.hid (XS.out.below b XS.out.lt)
    clear b q0 q1 q2 q3
    go_wp2_with fail
    go_ret
    exact ⟨rfl, HB.out⟩
  have HB := Lib.hid (belowOn HB.out b)
  have S1 := Lib.hid (S1.out.on b)
  have XS := Lib.hid (XS.out.below b XS.out.lt)
  have S2 := Lib.hid (si_rows ho)
  have HL2 := Lib.hid (row_len ho)
  have HFT := Lib.hid (HFH.out hr)
  clear ho b hr
  rw [HFT.out] at HAF
  have na := nb0 w2 (.cells #[.int .i64 bits, .int .i64 hashes, .int .i64 salt, .slice (some ⟨g2, 0, none⟩) nb cap2] 26)
  have HB := Lib.hid (belowOn HB.out na)
  have S1 := Lib.hid (S1.out.on na)
  have XS := Lib.hid (XS.out.below na XS.out.lt)
  have S2 := Lib.hid (S2.out.on na)
  have XX := Lib.hid (show Blk (w2.alloc (.cells #[.int .i64 bits, .int .i64 hashes, .int .i64 salt, .slice (some ⟨g2, 0, none⟩) nb cap2] 26)) w2.heap.size 26 #[.int .i64 bits, .int .i64 hashes, .int .i64 salt, .slice (some ⟨g2, 0, none⟩) nb cap2] from Blk.new_at _ _ _ rfl)
  clear na
  have hCb : IsBy (putB (List.replicate nb 0) (pl bits hashes salt n)) := putB_by _ (zeros_by _)
  generalize putB (List.replicate nb 0) (pl bits hashes salt n) = C at *
  have HCB := Lib.hid hCb
  clear hCb
  obtain ⟨q0, q1, q2, q3⟩ := XS.out.facts4
  obtain ⟨x0, x1, x2, x3⟩ := XX.out.facts4
  go_wp2_with fail
  have hF0 : FullI (w2.heap.size + 1) (w2.heap.size + 1) bits hashes salt (w2.alloc (.cells #[.int .i64 bits, .int .i64 hashes, .int .i64 salt, .slice (some ⟨g2, 0, none⟩) nb cap2] 26)) 0 (((w2.alloc (.cells #[.int .i64 bits, .int .i64 hashes, .int .i64 salt, .slice (some ⟨g2, 0, none⟩) nb cap2] 26)).alloc (.cells #[.int .i64 bits, .int .i64 hashes, .int .i64 salt, .slice (some ⟨w2.heap.size + 1 + 1, 0, none⟩) 0 0] 26)).alloc (.cells #[] 5)) := ⟨⟨w2.heap.size + 1 + 1, 0, (Blk.new_at (w2.alloc (.cells #[.int .i64 bits, .int .i64 hashes, .int .i64 salt, .slice (some ⟨g2, 0, none⟩) nb cap2] 26)) _ _ (by simp)).alloc _, own_emptyB ((w2.alloc (.cells #[.int .i64 bits, .int .i64 hashes, .int .i64 salt, .slice (some ⟨g2, 0, none⟩) nb cap2] 26)).alloc (.cells #[.int .i64 bits, .int .i64 hashes, .int .i64 salt, .slice (some ⟨w2.heap.size + 1 + 1, 0, none⟩) 0 0] 26)) (g := w2.heap.size + 1 + 1) (Nat.le_refl _) (by simp)⟩, by have h := nb1 (w2.alloc (.cells #[.int .i64 bits, .int .i64 hashes, .int .i64 salt, .slice (some ⟨g2, 0, none⟩) nb cap2] 26)) (.cells #[.int .i64 bits, .int .i64 hashes, .int .i64 salt, .slice (some ⟨w2.heap.size + 1 + 1, 0, none⟩) 0 0] 26) (.cells #[] 5); simpa using h⟩
  have HF0 := Lib.hid hF0
  clear hF0 q0 q1 q2 q3 x0 x1 x2 x3
  obtain ⟨j0, ji, jz0, jz1, jz2⟩ := info_parts Try.info5
  have HJ := Lib.hid (And.intro ji (And.intro jz0 (And.intro jz1 jz2)))
  clear ji jz0 jz1 jz2
  obtain ⟨P, hP⟩ : ∃ P, (w2.alloc (.cells #[.int .i64 bits, .int .i64 hashes, .int .i64 salt, .slice (some ⟨g2, 0, none⟩) nb cap2] 26)) = P := ⟨_, rfl⟩
  rw [hP] at HB S1 S2 XS XX HF0
  have hPz : P.heap.size = w2.heap.size + 1 := by rw [← hP]; simp
  have HPZ := Lib.hid hPz
  go_loopw [13, 15] (fun s i wr => ∃ k : Nat, k ≤ nb ∧ i = .int .i64 (k : Int) ∧ s = .int .i64 (cntTo C (8 * k) : Int) ∧ FullI (w2.heap.size + 1) (w2.heap.size + 1) bits hashes salt P k wr) (fun _ i _ => nb - (intOf i).toNat)
  case atStart => exact ⟨0, by omega, rfl, rfl, by have := HF0.out; rwa [← hP] at this ⊢⟩
  case round =>
    obtain ⟨k, hk, rfl, rfl, hF⟩ := hrel
    obtain ⟨⟨g, c, hX, hO⟩, hBr⟩ := hF
    have hBr' : Below P.heap.size P wr := by rw [hPz]; exact hBr
    have BR := Lib.hid hBr'
    have FX := Lib.hid hX
    have FO := Lib.hid hO
    have hzr := hX.lt
    have XR := Lib.hid (XX.out.below hBr' XX.out.lt)
    have SR := Lib.hid (S2.out.on hBr')
    obtain ⟨x0, x1, x2, x3⟩ := XR.out.facts4
    obtain ⟨z0, z1, z2, z3⟩ := FX.out.facts4
    clear hX hO hBr hBr' hPz hP
    by_cases hlt : k < nb
    · obtain ⟨cc, hcc⟩ : ∃ cc, cntTo C (8 * k) = cc := ⟨_, rfl⟩
      have hcl : cc ≤ 8192 := by rw [← hcc]; exact Nat.le_trans (cntTo_le _ _) (by omega)
      rw [hcc]
      have HCC := Lib.hid hcc
      clear hcc
      obtain ⟨ad2, e2, _, hcell⟩ := SR.out k (by rw [HL2.out]; exact hlt)
      cases e2
      go_wp2_with (at_builtin; refine wpList_append_own _ rfl _ _ 24 rfl (w2.heap.size + 1 + 1) 5 j0 (.int .u8 0) 1 1 Try.underlying24 HJ.out.1 HJ.out.2.1 HJ.out.2.2.1 HJ.out.2.2.2 rfl (by decide) _ _ _ rfl (FO.out.alloc _) ⟨wr.heap.size, 0, none⟩ 1 1 [.int .u8 255] rfl rfl (cell_one_new _ _ _) (by simp [Value.oneCell']) (by unfold maxLen; omega) (by omega) (by simp; omega) ?_; intro v' w5 hown' hgrow _; obtain ⟨g', cap', rfl⟩ := ownsRow_succ hown'; have hX5 := (FX.out.alloc (.cells #[.int .u8 255] 5)).grown hgrow (by intro e; have e2 := Option.some.inj (show some (w2.heap.size + 1) = some g from e); have := (FO.out.lt g rfl).1; omega); have FX5 := Lib.hid hX5; have FO5 := Lib.hid hown'; obtain ⟨y0, y1, y2, y3⟩ := hX5.facts4; have f3 := hX5.free 3; have HG := Lib.hid hgrow; clear hown' hgrow hX5)
      clear y0 y1 y2 y3 f3 x0 x1 x2 x3 z0 z1 z2 z3 hcell
      have hZ5 : (wr.alloc (.cells #[.int .u8 255] 5)).heap.size ≤ w5.heap.size := HG.out.size
      simp at hZ5
      have hGg := (FO.out.lt g rfl).1
      have B5 : Below P.heap.size P w5 := (BR.out.alloc BR.out.size _).grown HG.out (by have := BR.out.size; simp; omega) (fun q e => by have e2 := Option.some.inj (show some g = some q from e); have := HPZ.out; omega)
      have B6 := B5.setCell (p := ⟨w2.heap.size + 1, 3, none⟩) (by have := HPZ.out; simp; omega) (.slice (some ⟨g', 0, none⟩) (k + 1) cap')
      obtain ⟨w6, h6⟩ : ∃ w6, w5.setCell ⟨w2.heap.size + 1, 3, none⟩ (.slice (some ⟨g', 0, none⟩) (k + 1) cap') = w6 := ⟨_, rfl⟩
      have FX6 : Blk w6 (w2.heap.size + 1) 26 #[.int .i64 bits, .int .i64 hashes, .int .i64 salt, .slice (some ⟨g', 0, none⟩) (k + 1) cap'] := by rw [← h6]; exact FX5.out.set 3 _
      have FO6 : w6.ownsRow (w2.heap.size + 1 + 1) 5 1 (.slice (some ⟨g', 0, none⟩) (k + 1) cap') (k + 1) ((List.replicate (k + 1) (255 : Int)).map (Value.int .u8)) := by rw [← h6, ← full_form k 0 0]; exact own_farB FO5.out (by simp) _
      rw [h6] at B6 ⊢
      have B6' : Below (w2.heap.size + 1) P w6 := by rw [← HPZ.out]; exact B6
      have H6 := Lib.hid (show FullI (w2.heap.size + 1) (w2.heap.size + 1) bits hashes salt P (k + 1) w6 from ⟨⟨g', cap', FX6, FO6⟩, B6'⟩)
      have X6 := Lib.hid (XX.out.below B6 XX.out.lt)
      have S6 := Lib.hid (S2.out.on B6)
      have hz6 := Lib.hid FX6.lt
      clear FX6 FO6 B6 B6' B5 h6 hZ5 hGg FX5 FO5 HG FX FO XR SR BR
      go_loop [13, 16] (fun s i => ∃ j : Nat, j ≤ 8 ∧ i = .int .i64 (j : Int) ∧ s = .int .i64 (cntTo C (8 * k + j) : Int)) (fun _ i => 8 - (intOf i).toNat)
      case atStart => exact ⟨0, by omega, rfl, by rw [Nat.add_zero, HCC.out]⟩
      case round =>
        obtain ⟨j, hj, rfl, rfl⟩ := hrel
        obtain ⟨x0, x1, x2, x3⟩ := X6.out.facts4
        by_cases hlj : j < 8
        · obtain ⟨cd, hcd⟩ : ∃ cd, cntTo C (8 * k + j) = cd := ⟨_, rfl⟩
          have hcdl : cd ≤ 8192 := by rw [← hcd]; exact Nat.le_trans (cntTo_le _ _) (by omega)
          have HST := Lib.hid (cnt_step C k j hlj)
          rw [hcd] at HST ⊢
          clear hcd
          obtain ⟨ad2, e2, _, hcell⟩ := S6.out k (by rw [HL2.out]; exact hlt)
          cases e2
          have hby := at_by HCB.out k
          have hsh := Lib.hid (shr_bit _ hby j hlj)
          obtain ⟨xb, hxb⟩ : ∃ xb, C[k]?.getD 0 = xb := ⟨_, rfl⟩
          rw [hxb] at hby hcell hsh HST
          have hcell2 : w6.cell? ⟨g2, k, none⟩ = some (.int .u8 xb) := by rw [addr_0] at hcell; exact hcell
          clear hcell
          go_wp2_with fail
          exact ⟨⟨j + 1, by omega, by simp, bit_step cd _ _ _ hcdl HST.out hsh.out⟩, by simp [intOf]; omega⟩
        · obtain rfl : j = 8 := by omega
          rw [show 8 * k + 8 = 8 * (k + 1) by omega]
          clear x0 x1 x2 x3
          obtain ⟨⟨g6, c6, hX6, _⟩, _⟩ := H6.out
          have hc := cntTo_le C (8 * (k + 1))
          generalize hcc : cntTo C (8 * (k + 1)) = cc at *
          have HC6 := Lib.hid hcc
          clear hcc hX6
          go_wp2_with fail
          exact ⟨⟨k + 1, by omega, by simp, by rw [HC6.out], H6.out⟩, by simp [intOf]; omega⟩
    · have hkn : k = nb := by omega
      rw [hkn] at FX FO ⊢
      have SF := Lib.hid (si_rows FO.out)
      have hcn := HCN.out
      generalize cntTo C (8 * nb) = cc at *
      have hc1 : (1 : Int) ≤ (cc : Int) := by omega
      have hc2 : (cc : Int) ≤ hashes := hcn.2
      have hq := HQ.out
      clear hcn HCN HF0 XX SR XR x0 x1 x2
      have HB := Lib.hid (belowOn HB.out BR.out)
      have S1 := Lib.hid (S1.out.on BR.out)
      have XS := Lib.hid (XS.out.below BR.out XS.out.lt)
      obtain ⟨q0, q1, q2, q3⟩ := XS.out.facts4
      clear z0 z1 z2 z3
      go_wp2_with fail
      refine (HA.out _ _ _ S1.out).mono ?_; rintro e w7 ⟨rfl, b⟩
      have HB := Lib.hid (belowOn HB.out b)
      have S1 := Lib.hid (S1.out.on b)
      have XS := Lib.hid (XS.out.below b XS.out.lt)
      have SF := Lib.hid (SF.out.on b)
      have FX := Lib.hid (FX.out.below b FX.out.lt)
      clear b q0 q1 q2 q3
      obtain ⟨q0, q1, q2, q3⟩ := XS.out.facts4
      obtain ⟨z0, z1, z2, z3⟩ := FX.out.facts4
      go_wp2_with fail
      refine (HAF.out _ _ _ SF.out).mono ?_; rintro e w8 ⟨rfl, b⟩
      have HB := Lib.hid (belowOn HB.out b)
      have S1 := Lib.hid (S1.out.on b)
      have XS := Lib.hid (XS.out.below b XS.out.lt)
      have SF := Lib.hid (SF.out.on b)
      have FX := Lib.hid (FX.out.below b FX.out.lt)
      clear b q0 q1 q2 q3 z0 z1 z2 z3
      go_wp2_with fail
      go_ret
      exact ⟨rfl, HB.out⟩
end Go.Proofs.Ytgkdkkppeeikoaa
