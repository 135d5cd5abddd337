/- Contracts of the hash: the plain answer of parts under a tag. -/
import Derived.Test.YtippfhlljlfcnaaHashG
namespace Go.Proofs.Ytippfhlljlfcnaa
open Go.ChangeShapes Go.WideShapes Go.ChangeAt Go.RowKit Gs
set_option linter.unusedVariables false

theorem be_drop (n : Int) : (be n 8).drop 4 = be n 4 := by simp [be]
theorem own_oneB (w : World) (z : Int) {B g : Nat} (hB : B ≤ g) (hg : g = w.heap.size) : OwnB (w.alloc (.cells #[.int .u8 z] 5)) B (.slice (some ⟨g, 0, none⟩) 1 1) [z] := by
  subst hg
  exact ⟨rfl, .inr ⟨_, 1, #[.int .u8 z], rfl, hB, World.alloc_heap_new w _, Nat.le_refl _, by unfold maxLen; omega, rfl, rfl⟩⟩

set_option maxRecDepth 100000 in
set_option maxHeartbeats 4000000 in
theorem Coded_any (s : ByteArray) (A : Option Addr) (c : Nat) (ps : List (List Int)) (hb : ∀ p ∈ ps, ∀ x ∈ p, 0 ≤ x ∧ x < 256) (hlen : s.size + psz ps ≤ 1099511627776) (hpl : ps.length ≤ 1099511627776) (w : World) (hp : SP w w.heap.size A ps) :
    Calls Try.prog 53 #[.string s, .slice A ps.length c] w fun e w' => ∃ v', e = .returned v' ∧ OwnB w' w.heap.size v' (coded (sbytes s) ps) ∧ Below w.heap.size w w' := by
  obtain ⟨i0, hi, hz0, hz1, hz2⟩ := info_parts Try.info5
  have HI := Lib.hid (And.intro hi (And.intro hz0 (And.intro hz1 hz2)))
  have HP := Lib.hid hp
  have HB := Lib.hid hb
  clear hi hz0 hz1 hz2 hp hb
  go_enter Try.func53, Try.ntmps53
  go_wp2_with (at_builtin; refine Lib.wpList_append_own_string _ rfl _ _ 22 9 rfl w.heap.size 5 i0 Try.underlying22 Try.underlying9 HI.out.1 HI.out.2.1 HI.out.2.2.1 HI.out.2.2.2 _ 1 _ rfl (own_oneB w ((s.size : Int) % 256) (Nat.le_refl _) rfl) s rfl (by unfold maxLen; omega) (by omega) (by simp) ?_; intro v3 w3 hown3 hgrow3 _; have HO3 := Lib.hid hown3; have HG3 := Lib.hid hgrow3; clear hown3 hgrow3)
  have hb3 : Below w.heap.size w w3 := ((Below.refl _ _).alloc (Nat.le_refl _) _).grown HG3.out (by simp) (fun g e => own_ge (own_oneB w ((s.size : Int) % 256) (Nat.le_refl _) rfl) g e)
  have HO3' : Hid (OwnB w3 w.heap.size v3 (be (s.size : Int) 1 ++ sbytes s)) := by
    have h := HO3.out
    rw [strCells_eq] at h
    exact own_b h (by simp [be_length, sbytes_length]) (by simp [be, byt])
  have HB3 := Lib.hid hb3
  clear hb3
  go_loopw [5, 6] (fun b i wr => ∃ k : Nat, k ≤ ps.length ∧ i = .int .i64 k ∧ OwnB wr w.heap.size b (be (s.size : Int) 1 ++ sbytes s ++ pbytes (ps.take k)) ∧ Below w.heap.size w wr) (fun _ i _ => ps.length - (intOf i).toNat)
  case atStart => exact ⟨0, by omega, rfl, by simpa [pbytes] using HO3'.out, HB3.out⟩
  case round =>
    obtain ⟨k, hk, rfl, hoR, hbR⟩ := hrel
    have HOR := Lib.hid hoR
    have HBR := Lib.hid hbR
    have hzR := hbR.size
    have HLR := Lib.hid (show (be (s.size : Int) 1 ++ sbytes s ++ pbytes (ps.take k)).length = 1 + s.size + psz (ps.take k) by rw [List.length_append, List.length_append, be_length, sbytes_length, pbytes_length])
    have hle := psz_le ps k
    clear hoR hbR
    by_cases hlt : k < ps.length
    · obtain ⟨ad, rfl, had, A', c', hc, h1, h2, hs⟩ := HP.out k hlt
      have HS := Lib.hid (psz_take ps k hlt)
      have HPB := Lib.hid (pbytes_take ps k hlt)
      have hle1 := psz_le ps (k + 1)
      rw [HS.out] at hle1
      have hsz2 : ps[k].length ≤ 1099511627777 := by omega
      haveI : IsU ((ps[k].length : Nat) : Int) := ⟨by omega, by omega⟩
      have hca : wr.cell? (ad.add k) = some (.slice A' ps[k].length c') := (HBR.out.cell (by rw [block_of_add]; exact had)).trans hc
      have HC := Lib.hid hc
      have HSI := Lib.hid hs
      clear hs hc h1 h2
      go_wp2_with fail
      refine (Eight_any ps[k].length _).mono ?_
      rintro e w5 ⟨v5, rfl, hown5, hb5⟩
      obtain ⟨A5, c5, rfl, hl5, hm5, hs5, _⟩ := own_sliceB hown5
      obtain ⟨ad5, rfl, had5, _⟩ := hs5 0 (by rw [be_length]; omega)
      have HO5 := Lib.hid (own_below HOR.out hb5)
      have HB5 := Lib.hid (HBR.out.trans (hb5.mono hzR))
      have hz5 := HB5.out.size
      have HX5 := Lib.hid (be_length (ps[k].length : Int) 8)
      rw [be_length] at hl5
      have HR5 : Hid (Reads w5 w5.heap.size 1 (some (ad5.add 4)) 4 ((be (ps[k].length : Int) 4).map (Value.int .u8))) := by
        have h := hs5.part 4 4 (by rw [be_length]; omega)
        rw [be_drop, List.take_of_length_le (by rw [be_length]; omega)] at h
        have h' := reads_si h
        rwa [be_length] at h'
      rw [HX5.out]
      unfold maxLen at hm5
      clear hown5 hb5 hs5 had5
      go_wp2_with (first | (at_builtin; refine wpList_append_any _ rfl _ _ 22 rfl w.heap.size 5 i0 (.int .u8 0) 1 1 Try.underlying22 HI.out.1 HI.out.2.1 HI.out.2.2.1 HI.out.2.2.2 rfl (by decide) _ _ _ rfl HO5.out _ _ _ _ _ rfl HR5.out (one_u8 _) (by rw [HLR.out]; unfold maxLen; omega) (by rw [HLR.out]; omega) hz5 ?_; intro v6 w6 hown6 hgrow6 _; have HO6 := Lib.hid hown6; have HB6 := Lib.hid (HB5.out.trans ((Below.refl w.heap.size w5).grown hgrow6 hz5 (fun g e => own_ge HO5.out g e))); have hca6 : w6.cell? (ad.add k) = some (.slice A' ps[k].length c') := (HB6.out.cell (by rw [block_of_add]; exact had)).trans HC.out; have HR6 := Lib.hid (reads_si (HSI.out.below HB6.out)); have hz6 := HB6.out.size; clear hown6 hgrow6) | (at_builtin; refine wpList_append_any _ rfl _ _ 22 rfl w.heap.size 5 i0 (.int .u8 0) 1 1 Try.underlying22 HI.out.1 HI.out.2.1 HI.out.2.2.1 HI.out.2.2.2 rfl (by decide) _ _ _ rfl HO6.out _ _ _ _ _ rfl HR6.out (one_u8 _) (by rw [HLR.out]; unfold maxLen; omega) (by rw [HLR.out]; omega) hz6 ?_; intro v7 w7 hown7 hgrow7 _; have HO7 := Lib.hid hown7; have HB7 := Lib.hid (HB6.out.trans ((Below.refl w.heap.size w6).grown hgrow7 hz6 (fun g e => own_ge HO6.out g e))); clear hown7 hgrow7))
      go_roundw
      case rel =>
        refine ⟨k + 1, by omega, by go_num, ?_, HB7.out⟩
        rw [HPB.out]
        have h := HO7.out
        exact own_b h (by simp [be_length]; omega) (by simp)
      case measure => simp [intOf]; omega
    · obtain rfl : k = ps.length := by omega
      have HC := Lib.hid (show be (s.size : Int) 1 ++ sbytes s ++ pbytes (ps.take ps.length) = coded (sbytes s) ps by rw [List.take_length, coded, sbytes_length])
      go_wp2_with fail
      go_ret
      exact ⟨_, rfl, by rw [← HC.out]; exact HOR.out, HBR.out⟩

theorem refTagged_any (s : ByteArray) (A : Option Addr) (c : Nat) (ps : List (List Int)) (hb : ∀ p ∈ ps, ∀ x ∈ p, 0 ≤ x ∧ x < 256) (hlen : s.size + psz ps ≤ 1099511627776) (hpl : ps.length ≤ 1099511627776) (w : World) (hp : SP w w.heap.size A ps) :
    Calls Try.prog 36 #[.string s, .slice A ps.length c] w fun e w' => e = .returned (.agg #[.int .u64 (hst (coded (sbytes s) ps)).1, .int .u64 (hst (coded (sbytes s) ps)).2.1]) ∧ Below w.heap.size w w' := by
  have HP := Lib.hid hp
  have HB := Lib.hid hb
  clear hp hb
  go_enter Try.func36, Try.ntmps36
  go_wp2_with fail
  refine (Coded_any s A c ps HB.out hlen hpl _ (HP.out.on ((Below.refl _ _).alloc (Nat.le_refl _) _))).mono ?_
  rintro e w1 ⟨v1, rfl, ho, hb1⟩
  obtain ⟨A7, c7, rfl, hl7, hm7, hs7, _⟩ := own_sliceB ho
  have HK1 := Lib.hid (Blk.below (g := w.heap.size) (Blk.new_at w 50 #[.int .u64 0, .int .u64 0] rfl) hb1 (by simp))
  have HB1 := Lib.hid (((Below.refl _ _).alloc (Nat.le_refl _) _).trans (hb1.mono (by simp)))
  have HS7 := Lib.hid hs7
  have HL7 := Lib.hid (show (coded (sbytes s) ps).length = 1 + s.size + psz ps by rw [coded_length, sbytes_length])
  have HBB := Lib.hid (coded_bound (sbytes s) ps (sbytes_bound s) HB.out)
  have hz1 := HB1.out.size
  clear ho hb1 hs7 hm7
  go_wp2_with fail
  refine (refSum_any A7 c7 (coded (sbytes s) ps) HBB.out (by rw [HL7.out]; omega) _ HS7.out).mono ?_
  rintro e w8 ⟨rfl, hb8⟩
  obtain ⟨⟨c0, c1⟩, f0, f1⟩ := (HK1.out.below hb8 HK1.out.lt).facts2
  have HB8 := Lib.hid (HB1.out.trans (hb8.mono hz1))
  clear hb8
  go_wp2_with fail
  refine bodyPost_ret (v := .agg #[.int .u64 (hst (coded (sbytes s) ps)).1, .int .u64 (hst (coded (sbytes s) ps)).2.1]) (by simp [results, Try.results36, go_sem, c0, c1]) rfl ⟨rfl, ?_⟩
  exact (HB8.out.setCell (by simp) _).setCell (by simp) _
end Go.Proofs.Ytippfhlljlfcnaa
