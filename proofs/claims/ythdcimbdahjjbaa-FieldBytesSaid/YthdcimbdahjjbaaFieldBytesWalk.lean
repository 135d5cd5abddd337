/- The walk of the law FieldBytes. -/
import Derived.Test.YthdcimbdahjjbaaFieldD
import Derived.BigQuiet
import Derived.Deep.QuietTactic
namespace Go.Proofs.Ythdcimbdahjjbaa
open Go.ChangeShapes Go.WideShapes Go.ChangeAt Go.RowKit Gs
set_option linter.unusedVariables false

set_option maxRecDepth 100000 in
set_option maxHeartbeats 1000000 in
theorem bytes_walk (A : Option Addr) (c : Nat) (xs : List Int) (k : Int) (w : World) (hs : SI w w.heap.size .u8 A xs)
    (hc : xs.length ≤ c) (hcm : c ≤ maxLen) (hx : ∀ n ∈ xs, (Lit.int .u8 n).wf = true) (h1 : xs.length ≤ 2000) :
    Calls Try.prog 10 #[.slice A xs.length c, .int .i64 k] w fun e w' => e = .returned (.bool true) ∧ Below w.heap.size w w' := by
  have HS := Lib.hid hs
  have HX := Lib.hid (fun n hn => u8_wf (hx n hn))
  unfold maxLen at hcm
  clear hs hx
  obtain ⟨i0, hi, hz0, hz1, hz2⟩ := info_parts Try.info22
  have HI := Lib.hid (And.intro hi (And.intro hz0 (And.intro hz1 hz2)))
  clear hi hz0 hz1 hz2
  go_enter Try.func10, Try.ntmps10
  go_wp2_with fail
  refine (live_any _).mono ?_
  rintro e w1 ⟨rfl, hb1⟩
  have HB1 := Lib.hid hb1
  clear hb1
  go_wp2_with fail
  refine (Of_any A c xs HX.out (by omega) hc _ (HS.out.on HB1.out)).mono ?_
  rintro e w2 ⟨v2, rfl, hown, hb2⟩
  have HB2 := Lib.hid (HB1.out.trans (hb2.mono HB1.out.size))
  obtain ⟨A2, c2, rfl, hl2, hm2, hs2⟩ := own_slice hown
  have HS2 := Lib.hid hs2
  have HL := Lib.hid (fof_length xs)
  have hfl : (fof xs).length ≤ 300 := by rw [HL.out]; omega
  have hfl1 : (fof xs).length * 7 ≤ xs.length + 6 := by rw [HL.out]; omega
  have hfl2 : xs.length ≤ (fof xs).length * 7 := by rw [HL.out]; omega
  have hln : (((fof xs).length : Int) != (xs.length + 6) / 7) = false := by rw [HL.out, bne_eq_false_iff_eq]; omega
  have HE := Lib.hid (fof_el xs HX.out)
  have HG := Lib.hid (show ∀ i (h : i < (fof xs).length), (fof xs)[i] = elm xs i from fun i h => by simp [fof])
  clear hown hb2 hs2 hl2 hm2
  go_wp2_with fail
  go_loopw [6] (fun i wr => ∃ k : Nat, k ≤ xs.length ∧ i = .int .i64 k ∧ Dr w2 wr) (fun i _ => xs.length - (intOf i).toNat)
  case atStart => exact ⟨0, by omega, rfl, Dr.refl _⟩
  case round =>
    obtain ⟨j, hj, rfl, hd⟩ := hrel
    have HD := Lib.hid hd
    clear hd
    by_cases hlt : j < xs.length
    · have hj7 : j / 7 < (fof xs).length := by omega
      obtain ⟨ad, rfl, _, hcell⟩ := (HD.out.si HS2.out) (j / 7) hj7
      obtain ⟨ad', rfl, _, hcell'⟩ := (HD.out.si (HS.out.on HB2.out)) j hlt
      have hee := (HE.out _ (List.getElem_mem hj7)).u64
      have HV := Lib.hid (elm_byte xs HX.out j hlt)
      have hxb := HX.out _ (List.getElem_mem hlt)
      rw [List.getElem?_eq_getElem hj7] at hcell
      rw [List.getElem?_eq_getElem hlt] at hcell'
      simp only [Option.getD_some] at hcell hcell'
      rw [HG.out] at hcell hee
      unfold U64 at hee
      have hv : (elm xs (j / 7) / 2 ^ (8 * (j % 7)) % 256 != xs[j]) = false := by rw [HV.out]; simp
      go_wp2_with fail
      go_quiet (fail)
      go_wp2_with fail
      go_roundw
      case rel => exact ⟨j + 1, by omega, by go_num, HD.out.drewN _⟩
      case measure => simp [intOf]; omega
    · obtain ⟨K, hK⟩ := Int.eq_ofNat_of_zero_le (show 0 ≤ k % 65536 by omega)
      have hkk : bits .and .i64 k 65535 = (K : Int) := (i64_and_mask k).trans hK
      have hk1 : K < 65536 := by omega
      clear hK
      obtain ⟨q, hq⟩ : ∃ q, K % (xs.length / 7 + 1) = q := ⟨_, rfl⟩
      have hq1 : 7 * q ≤ xs.length := by have := Nat.mod_lt K (show 0 < xs.length / 7 + 1 by omega); omega
      have hqi : (K : Int) % ((xs.length : Int) / 7 + 1) = (q : Int) := by rw [← hq]; simp
      clear hq
      have HB3 := Lib.hid (show Below w2.heap.size w2 wr from by obtain ⟨n, rfl⟩ := HD.out; exact below_drewN (Below.refl _ _) n)
      have HSr := Lib.hid ((HS.out.on HB2.out).on HB3.out)
      have HT := Lib.hid (show (xs.take (7 * q)).length = 7 * q by simp; omega)
      have HT' := Lib.hid (show (xs.drop (7 * q)).length = xs.length - 7 * q by simp)
      have HTX := Lib.hid (show ∀ x ∈ xs.take (7 * q), 0 ≤ x ∧ x < 256 from fun x h => HX.out x (List.mem_of_mem_take h))
      have HDX := Lib.hid (show ∀ x ∈ xs.drop (7 * q), 0 ≤ x ∧ x < 256 from fun x h => HX.out x (List.mem_of_mem_drop h))
      have HC := Lib.hid (fof_cut xs q hq1)
      rcases Nat.lt_or_ge (7 * q) c with hcl | hcl
      rotate_left
      · obtain rfl : c = 7 * q := by omega
        clear hcl
        have hz3 := HB3.out.size
        go_wp2_with fail
        refine (Of_len A (7 * q) _ (xs.take (7 * q)) HT.out HTX.out (by omega) (by omega) _ ((HSr.out.on ((Below.refl _ _).alloc (Nat.le_refl _) _)).take_ _)).mono ?_
        rintro e w4 ⟨v4, rfl, hown4, hb4⟩
        have HO0 := Lib.hid (own_below (own_empty wr (B := w2.heap.size) HB3.out.size rfl) hb4)
        have HO0r := Lib.hid (own_below (own_empty wr (B := wr.heap.size) (Nat.le_refl _) rfl) hb4)
        have HB4' := Lib.hid (((Below.refl wr.heap.size wr).alloc (Nat.le_refl _) _).trans (hb4.mono (by simp)))
        have HB4 := Lib.hid (HB3.out.trans (HB4'.out.mono HB3.out.size))
        obtain ⟨A4, c4, rfl, hl4, hm4, hs4⟩ := own_slice hown4
        have HS4 := Lib.hid hs4
        have hq4 : (fof (xs.take (7 * q))).length ≤ 300 := by rw [fof_length, HT.out]; omega
        have hq5 : (fof (xs.drop (7 * q))).length ≤ 300 := by rw [fof_length, HT'.out]; omega
        clear hown4 hb4 hs4 hl4 hm4
        go_wp2_with (at_builtin; refine wpList_append_any _ rfl (.tmp 53) (.tmp 57) 30 rfl w2.heap.size 22 i0 (.int .u64 0) 1 8 Try.underlying30 HI.out.1 HI.out.2.1 HI.out.2.2.1 HI.out.2.2.2 rfl (by omega) _ _ _ rfl HO0.out w4.heap.size A4 _ c4 _ rfl (reads_si HS4.out) (one_u64 _) (by unfold maxLen; omega) (by omega) HB4.out.size ?_; intro v5 w5 hown5 hg5 hat5; have HO5 := Lib.hid hown5; have HB5' := Lib.hid (HB4'.out.grown hg5 HB4'.out.size (own_ge HO0r.out)); have HB5 := Lib.hid (HB4.out.grown hg5 HB4.out.size (own_ge HO0.out)); clear hown5 hg5 hat5)
        refine (Of_len _ _ _ (xs.drop (7 * q)) (by have := HT'.out; omega) HDX.out (by omega) (by omega) _ (by
          have h := (HSr.out.on HB5'.out).cut (7 * q) hc
          rw [if_pos rfl] at h
          exact h)).mono ?_
        rintro e w6 ⟨v6, rfl, hown6, hb6⟩
        have HO5' := Lib.hid (own_below HO5.out hb6)
        have HB6 := Lib.hid (HB5.out.trans (hb6.mono HB5.out.size))
        obtain ⟨A6, c6, rfl, hl6, hm6, hs6⟩ := own_slice hown6
        have HS6 := Lib.hid hs6
        clear hown6 hb6 hs6 hl6 hm6
        go_wp2_with (at_builtin; refine wpList_append_any _ rfl (.tmp 59) (.tmp 63) 30 rfl w2.heap.size 22 i0 (.int .u64 0) 1 8 Try.underlying30 HI.out.1 HI.out.2.1 HI.out.2.2.1 HI.out.2.2.2 rfl (by omega) _ _ _ rfl HO5'.out w6.heap.size A6 _ c6 _ rfl (reads_si HS6.out) (one_u64 _) (by unfold maxLen; omega) (by omega) HB6.out.size ?_; intro v7 w7 hown7 hg7 hat7; have HB7 := Lib.hid (HB6.out.grown hg7 HB6.out.size (own_ge HO5'.out)); have HO7 := Lib.hid (own_u (xs := fof xs) hown7 (by rw [← HC.out, List.length_append]; omega) (by rw [← HC.out, List.map_append]; rfl)); clear hown7 hg7 hat7; obtain ⟨A7, c7, rfl, hl7, hm7, hs7⟩ := own_slice HO7.out; have HS7 := Lib.hid hs7; clear hl7 hm7 hs7)
        refine (Same_len A2 A7 _ _ c2 c7 (fof xs) rfl rfl w7.heap.size _ (by omega) (HS2.out.on HB7.out) HS7.out).mono ?_
        rintro e w8 ⟨rfl, n8, rfl⟩
        go_wp2_with fail
        go_ret
        exact ⟨rfl, below_drewN (HB2.out.trans (HB7.out.mono HB2.out.size)) _⟩
      · have hz3 := HB3.out.size
        go_wp2_with fail
        refine (Of_len A (7 * q) _ (xs.take (7 * q)) HT.out HTX.out (by omega) (by omega) _ ((HSr.out.on ((Below.refl _ _).alloc (Nat.le_refl _) _)).take_ _)).mono ?_
        rintro e w4 ⟨v4, rfl, hown4, hb4⟩
        have HO0 := Lib.hid (own_below (own_empty wr (B := w2.heap.size) HB3.out.size rfl) hb4)
        have HO0r := Lib.hid (own_below (own_empty wr (B := wr.heap.size) (Nat.le_refl _) rfl) hb4)
        have HB4' := Lib.hid (((Below.refl wr.heap.size wr).alloc (Nat.le_refl _) _).trans (hb4.mono (by simp)))
        have HB4 := Lib.hid (HB3.out.trans (HB4'.out.mono HB3.out.size))
        obtain ⟨A4, c4, rfl, hl4, hm4, hs4⟩ := own_slice hown4
        have HS4 := Lib.hid hs4
        have hq4 : (fof (xs.take (7 * q))).length ≤ 300 := by rw [fof_length, HT.out]; omega
        have hq5 : (fof (xs.drop (7 * q))).length ≤ 300 := by rw [fof_length, HT'.out]; omega
        clear hown4 hb4 hs4 hl4 hm4
        go_wp2_with (at_builtin; refine wpList_append_any _ rfl (.tmp 53) (.tmp 57) 30 rfl w2.heap.size 22 i0 (.int .u64 0) 1 8 Try.underlying30 HI.out.1 HI.out.2.1 HI.out.2.2.1 HI.out.2.2.2 rfl (by omega) _ _ _ rfl HO0.out w4.heap.size A4 _ c4 _ rfl (reads_si HS4.out) (one_u64 _) (by unfold maxLen; omega) (by omega) HB4.out.size ?_; intro v5 w5 hown5 hg5 hat5; have HO5 := Lib.hid hown5; have HB5' := Lib.hid (HB4'.out.grown hg5 HB4'.out.size (own_ge HO0r.out)); have HB5 := Lib.hid (HB4.out.grown hg5 HB4.out.size (own_ge HO0.out)); clear hown5 hg5 hat5)
        refine (Of_len _ _ _ (xs.drop (7 * q)) (by have := HT'.out; omega) HDX.out (by omega) (by omega) _ (by
          have h := (HSr.out.on HB5'.out).cut (7 * q) hc
          rw [if_neg (by omega)] at h
          exact h)).mono ?_
        rintro e w6 ⟨v6, rfl, hown6, hb6⟩
        have HO5' := Lib.hid (own_below HO5.out hb6)
        have HB6 := Lib.hid (HB5.out.trans (hb6.mono HB5.out.size))
        obtain ⟨A6, c6, rfl, hl6, hm6, hs6⟩ := own_slice hown6
        have HS6 := Lib.hid hs6
        clear hown6 hb6 hs6 hl6 hm6
        go_wp2_with (at_builtin; refine wpList_append_any _ rfl (.tmp 59) (.tmp 63) 30 rfl w2.heap.size 22 i0 (.int .u64 0) 1 8 Try.underlying30 HI.out.1 HI.out.2.1 HI.out.2.2.1 HI.out.2.2.2 rfl (by omega) _ _ _ rfl HO5'.out w6.heap.size A6 _ c6 _ rfl (reads_si HS6.out) (one_u64 _) (by unfold maxLen; omega) (by omega) HB6.out.size ?_; intro v7 w7 hown7 hg7 hat7; have HB7 := Lib.hid (HB6.out.grown hg7 HB6.out.size (own_ge HO5'.out)); have HO7 := Lib.hid (own_u (xs := fof xs) hown7 (by rw [← HC.out, List.length_append]; omega) (by rw [← HC.out, List.map_append]; rfl)); clear hown7 hg7 hat7; obtain ⟨A7, c7, rfl, hl7, hm7, hs7⟩ := own_slice HO7.out; have HS7 := Lib.hid hs7; clear hl7 hm7 hs7)
        refine (Same_len A2 A7 _ _ c2 c7 (fof xs) rfl rfl w7.heap.size _ (by omega) (HS2.out.on HB7.out) HS7.out).mono ?_
        rintro e w8 ⟨rfl, n8, rfl⟩
        go_wp2_with fail
        go_ret
        exact ⟨rfl, below_drewN (HB2.out.trans (HB7.out.mono HB2.out.size)) _⟩

theorem bytes_all (A : Option Addr) (c : Nat) (xs : List Int) (k : Int) (w : World) (hs : SI w w.heap.size .u8 A xs)
    (hc : xs.length ≤ c) (hcm : c ≤ maxLen) (hx : ∀ n ∈ xs, (Lit.int .u8 n).wf = true) :
    Calls Try.prog 10 #[.slice A xs.length c, .int .i64 k] w fun e w' => e = .returned (.bool true) ∧ Below w.heap.size w w' := by
  rcases Nat.lt_or_ge 2000 xs.length with h1 | h1
  · clear hs hx
    unfold maxLen at hcm
    go_enter Try.func10, Try.ntmps10
    go_wp2_with fail
    refine (live_any _).mono ?_
    rintro e w1 ⟨rfl, hb⟩
    have HB := Lib.hid hb
    clear hb
    go_wp2_with fail
    go_ret
    exact ⟨rfl, HB.out⟩
  · exact bytes_walk A c xs k w hs hc hcm hx h1
end Go.Proofs.Ythdcimbdahjjbaa
