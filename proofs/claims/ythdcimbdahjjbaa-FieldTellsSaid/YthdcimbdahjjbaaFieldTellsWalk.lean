/- The walk of the law FieldTells. -/
import Derived.Test.YthdcimbdahjjbaaFieldD
namespace Go.Proofs.Ythdcimbdahjjbaa
open Go.ChangeShapes Go.WideShapes Go.ChangeAt Go.RowKit Gs
set_option linter.unusedVariables false

set_option maxRecDepth 100000 in
set_option maxHeartbeats 4000000 in
theorem tells_walk (a b : Int) [IsU a] [IsU b] (A A' : Option Addr) (c c' : Nat) (xs ys : List Int) (w : World) (hs : SI w w.heap.size .u8 A xs) (hs' : SI w w.heap.size .u64 A' ys)
    (hc : xs.length ≤ c) (hcm : c ≤ maxLen) (hc' : ys.length ≤ c') (hcm' : c' ≤ maxLen) (hx : ∀ n ∈ xs, (Lit.int .u8 n).wf = true) (hy : ∀ n ∈ ys, (Lit.int .u64 n).wf = true)
    (h1 : xs.length ≤ 2000) (h2 : ys.length ≤ 100) :
    Calls Try.prog 9 #[.int .u64 a, .int .u64 b, .slice A xs.length c, .slice A' ys.length c'] w fun e w' => e = .returned (.bool true) ∧ Below w.heap.size w w' := by
  have HS := Lib.hid hs
  have HS' := Lib.hid hs'
  have HX := Lib.hid (fun n hn => u8_wf (hx n hn))
  have HY := Lib.hid (fun n hn => u64_wf (hy n hn))
  have a0 : 0 ≤ a := IsU.lo
  have b0 : 0 ≤ b := IsU.lo
  unfold maxLen at hcm hcm'
  clear hs hs' hx hy
  obtain ⟨i0, hi, hz0, hz1, hz2⟩ := info_parts Try.info22
  have HI := Lib.hid (And.intro hi (And.intro hz0 (And.intro hz1 hz2)))
  clear hi hz0 hz1 hz2
  go_enter Try.func9, Try.ntmps9
  go_wp2_with fail
  refine (live_any _).mono ?_
  rintro e w1 ⟨rfl, hb1⟩
  have HB1 := Lib.hid hb1
  clear hb1
  go_wp2_with fail
  refine (Of_any A c xs HX.out (by omega) hc _ (HS.out.on HB1.out)).mono ?_
  rintro e w2 ⟨v2, rfl, hown, hb2⟩
  have HB2 := Lib.hid (HB1.out.trans (hb2.mono HB1.out.size))
  obtain ⟨A2, c2, rfl, hl2, hm2, hs2⟩ := own_slice hown
  have HS2 := Lib.hid hs2
  have HL := Lib.hid (fof_length xs)
  have hfl : (fof xs).length ≤ 300 := by rw [HL.out]; omega
  have HE := Lib.hid (fof_el xs HX.out)
  clear hown hb2 hs2 hl2 hm2
  generalize fof xs = os at *
  go_wp2_with fail
  go_loop [10] (fun i => ∃ k : Nat, k ≤ os.length ∧ i = .int .i64 k) (fun i => os.length - (intOf i).toNat)
  case atStart => exact ⟨0, by omega, rfl⟩
  case round =>
    obtain ⟨k, hk, rfl⟩ := hrel
    by_cases hlt : k < os.length
    · obtain ⟨ad, rfl, _, hcell⟩ := HS2.out k hlt
      have hel := HE.out _ (List.getElem_mem hlt)
      have hel1 := hel.2
      unfold PP at hel1
      rw [List.getElem?_eq_getElem hlt] at hcell
      simp only [Option.getD_some] at hcell
      clear hel
      go_wp2_with fail
      go_round
      case rel => exact ⟨k + 1, by omega, by go_num⟩
      case measure => simp [intOf]; omega
    · go_wp2_with (at_make; refine wpList_make_full _ rfl _ _ 30 rfl w.heap.size 22 i0 (.int .u64 0) 1 Try.underlying30 HI.out.1 HI.out.2.1 HI.out.2.2.1 _ _ _ _ ys.length rfl rfl rfl rfl (by rw [HI.out.2.2.2]; omega) (by unfold maxLen; omega) HB2.out.size ?_; intro w3 hown3 hgrow3; have HO3 := Lib.hid hown3; have HG3 := Lib.hid hgrow3; clear hown3 hgrow3)
      have HB3 := Lib.hid (HB2.out.grown HG3.out HB2.out.size (by simp))
      have HB3' := Lib.hid ((Below.refl _ _).grown HG3.out (Nat.le_refl _) (by simp))
      have HO3' := Lib.hid (own_made HO3.out)
      clear hlt
      go_loopw [12] (fun i wr => ∃ k : Nat, k ≤ ys.length ∧ i = .int .i64 k ∧ OwnU wr w.heap.size (.slice (some ⟨w2.heap.size, 0, none⟩) ys.length ys.length) (lowTo ys k) ∧ Below w2.heap.size w2 wr) (fun i _ => ys.length - (intOf i).toNat)
      case atStart => exact ⟨0, by omega, rfl, by rw [lowTo_zero]; exact HO3'.out, HB3'.out⟩
      case round =>
        obtain ⟨j, hj, rfl, hown, hbw⟩ := hrel
        have HO := Lib.hid hown
        have HBW := Lib.hid hbw
        have HBWw := Lib.hid (HB2.out.trans (hbw.mono HB2.out.size))
        clear hown hbw
        by_cases hlt : j < ys.length
        · obtain ⟨ad, rfl, had, hcell⟩ := (HS'.out.below HBWw.out) j hlt
          obtain ⟨y0, hc1, _, hf1, hwg⟩ := own_at HO.out (lowTo_length ys j (by omega)) j hlt
          have hyb := HY.out _ (List.getElem_mem hlt)
          rw [List.getElem?_eq_getElem hlt] at hcell
          simp only [Option.getD_some] at hcell
          go_wp2_with fail
          go_roundw
          case rel => exact ⟨j + 1, by omega, by go_num, by rw [← lowTo_set ys j hlt]; exact own_set HO.out (lowTo_length ys j hj) j _, HBW.out.setCell (p := ⟨w2.heap.size, j, none⟩) (Nat.le_refl _) _⟩
          case measure => simp [intOf]; omega
        · have hj' : j = ys.length := by omega
          rw [hj'] at HO
          have HO4 := Lib.hid (by have h := HO.out; rw [lowTo_all] at h; exact own_si h)
          have HR := Lib.hid (show ∀ y ∈ ys.map fred, 0 ≤ y ∧ y < 18446744073709551616 from fun y h => by
            obtain ⟨z, _, rfl⟩ := List.mem_map.1 h
            exact (fred_el z).u64)
          have HL4 := Lib.hid (show (ys.map fred).length = ys.length by simp)
          clear hj'
          have ea : a % 2305843009213693951 = fred a := rfl
          have eb : b % 2305843009213693951 = fred b := rfl
          have f1 : (fadd a b == fadd (fred a) (fred b)) = true := beq_iff_eq.2 (fadd_red a b).symm
          have f2 : (fsub a b == fsub (fred a) (fred b)) = true := beq_iff_eq.2 (fsub_red a b).symm
          have f3 : (fmul a b == fmul (fred a) (fred b)) = true := beq_iff_eq.2 (fmul_red a b).symm
          have f4 : (fpow a b.toNat == fpow (fred a) b.toNat) = true := beq_iff_eq.2 (fpow_red a _).symm
          have f5 : (feval a ys == feval (fred a) (ys.map fred)) = true := beq_iff_eq.2 (feval_red a ys).symm
          have u1 := (fadd_el a b).2
          have u2 := (fsub_el a b).2
          have u3 := (fmul_el a b).2
          have u4 := (fpow_el a b.toNat).2
          have u5 := (feval_el a ys).2
          unfold PP at u1 u2 u3 u4 u5
          have P1 := Lib.hid (Pow_n (a := a) (n := b) _ rfl)
          have P2 := Lib.hid (Pow_n (a := fred a) (n := b) _ rfl)
          generalize b.toNat = N at *
          go_wp2_with (first
            | (go_at_call 13; refine (Add_i _ _ _).mono ?_; rintro e w' ⟨rfl, rfl⟩)
            | (go_at_call 15; refine (Sub_i _ _ _).mono ?_; rintro e w' ⟨rfl, rfl⟩)
            | (go_at_call 19; refine (Mul_i _ _ _).mono ?_; rintro e w' ⟨rfl, rfl⟩))
          refine (P1.out _).mono ?_; rintro e w' ⟨rfl, rfl⟩
          go_wp2_with fail
          refine (P2.out _).mono ?_; rintro e w' ⟨rfl, rfl⟩
          go_wp2_with fail
          refine (Eval_len A' _ c' ys a rfl HY.out IsU.lo IsU.hi (by omega) _ _ (HS'.out.on HBWw.out)).mono ?_
          rintro e w5 ⟨rfl, n5, rfl⟩
          go_wp2_with fail
          refine (Eval_len _ _ _ (ys.map fred) (fred a) HL4.out HR.out IsU.lo IsU.hi (by omega) _ _ (HO4.out.on (below_drewN (Below.refl _ _) n5))).mono ?_
          rintro e w6 ⟨rfl, n6, rfl⟩
          go_wp2_with (first
            | (go_at_call 13; refine (Add_i _ _ _).mono ?_; rintro e w' ⟨rfl, rfl⟩)
            | (go_at_call 15; refine (Sub_i _ _ _).mono ?_; rintro e w' ⟨rfl, rfl⟩)
            | (go_at_call 19; refine (Mul_i _ _ _).mono ?_; rintro e w' ⟨rfl, rfl⟩))
          refine (P1.out _).mono ?_; rintro e w' ⟨rfl, rfl⟩
          go_wp2_with fail
          refine (Eval_len A' _ c' ys a rfl HY.out IsU.lo IsU.hi (by omega) _ _ (HS'.out.on (below_drewN HBWw.out _))).mono ?_
          rintro e w7 ⟨rfl, n7, rfl⟩
          go_wp2_with fail
          go_ret
          exact ⟨rfl, below_drewN HBWw.out _⟩

set_option maxRecDepth 100000 in
theorem tells_all (a b : Int) [IsU a] [IsU b] (A A' : Option Addr) (c c' : Nat) (xs ys : List Int) (w : World) (hs : SI w w.heap.size .u8 A xs) (hs' : SI w w.heap.size .u64 A' ys)
    (hc : xs.length ≤ c) (hcm : c ≤ maxLen) (hc' : ys.length ≤ c') (hcm' : c' ≤ maxLen) (hx : ∀ n ∈ xs, (Lit.int .u8 n).wf = true) (hy : ∀ n ∈ ys, (Lit.int .u64 n).wf = true) :
    Calls Try.prog 9 #[.int .u64 a, .int .u64 b, .slice A xs.length c, .slice A' ys.length c'] w fun e w' => e = .returned (.bool true) ∧ Below w.heap.size w w' := by
  by_cases hg : xs.length ≤ 2000 ∧ ys.length ≤ 100
  · exact tells_walk a b A A' c c' xs ys w hs hs' hc hcm hc' hcm' hx hy hg.1 hg.2
  · clear hs hs' hx hy
    unfold maxLen at hcm hcm'
    rcases Nat.lt_or_ge 2000 xs.length with h1 | h1
    · clear hg
      go_enter Try.func9, Try.ntmps9
      go_wp2_with fail
      refine (live_any _).mono ?_
      rintro e w1 ⟨rfl, hb⟩
      have HB := Lib.hid hb
      clear hb
      go_wp2_with fail
      go_ret
      exact ⟨rfl, HB.out⟩
    · have h2 : 100 < ys.length := by omega
      clear hg
      go_enter Try.func9, Try.ntmps9
      go_wp2_with fail
      refine (live_any _).mono ?_
      rintro e w1 ⟨rfl, hb⟩
      have HB := Lib.hid hb
      clear hb
      go_wp2_with fail
      go_ret
      exact ⟨rfl, HB.out⟩
end Go.Proofs.Ythdcimbdahjjbaa
