/- Copies of items. -/
import Derived.Test.YteafbfhojhpbgaaDerK
namespace Go.Proofs.Yteafbfhojhpbgaa
open Go.ChangeShapes Go.WideShapes Go.ChangeAt Go.RowKit Gs
set_option linter.unusedVariables false

theorem itR_fresh {W : World} {B0 C : Nat} {x : It} {A5 A6 : Option Addr} {m c5 n c6 : Nat} {v : Value} (OB : OwnB W B0 (.slice A5 m c5) x.b) (OI : OwnIt W B0 B0 (.slice A6 n c6) x.l) (hv : ∀ k, v.ownBlock = some k → k < B0) (hC : C ≤ B0) :
    ItR W (fun b => C ≤ b ∧ b < W.heap.size ∧ v.ownBlock ≠ some b) x (.slice A5 m c5) (.slice A6 n c6) := by
  obtain ⟨A, c, e, h1, h2, h3, h4⟩ := own_sliceB OB
  obtain ⟨A', c', e', h5, h6, h7⟩ := OI.slice
  refine itR_is.2 ⟨⟨A, c, e, h1, h2, fun j hj => ?_⟩, A', c', e', h5, h6, its_of fun j hj => ?_⟩
  · obtain ⟨ad, e1, hb, hc⟩ := h3 j hj
    have := h4 ad e1
    exact ⟨ad, e1, ⟨by omega, hb, fun k => by have := hv _ k; omega⟩, hc⟩
  · refine (h7 j hj).keep_more (fun _ _ => rfl) (fun b hb => ⟨by omega, hb.2, fun k => by have := hv _ k; omega⟩)

theorem OwnIt.lt {w : World} {B C : Nat} {v : Value} {l : List It} (h : OwnIt w B C v l) : ∀ g, v.ownBlock = some g → g < w.heap.size := by
  obtain ⟨vs, h1, _⟩ := h
  exact own_lt h1
/-- What is told of copies. -/
def CopiesOf (l : List It) : Prop := ∀ (A : Option Addr) (c : Nat) (w : World), IS w w.heap.size A l →
  Calls Try.prog 52 #[.slice A l.length c] w fun e w' => (∃ v, e = .returned v ∧ OwnIt w' w.heap.size w.heap.size v l) ∧ Below w.heap.size w w'

set_option maxRecDepth 100000 in
set_option maxHeartbeats 8000000 in
theorem copies_from (l : List It) (hw : wts l ≤ 100000000) (IH : ∀ y ∈ l, CopiesOf y.l) : CopiesOf l := by
  intro A c w hs
  have hlen := wts_len l
  have HBl := Lib.hid (fun (k : Nat) (h : k < l.length) => (show l[k].b.length ≤ 1000000000 by have := wts_mem (List.getElem_mem h); have := wt_is l[k]; omega))
  have HIH := Lib.hid IH
  have HS := Lib.hid hs
  obtain ⟨n, hn⟩ : ∃ n, l.length = n := ⟨_, rfl⟩
  rw [hn] at hlen ⊢
  have HN := Lib.hid hn
  have hn8 : n ≤ 50000000 := by omega
  obtain ⟨i0, hi, hz0, hz1, hz2⟩ := info_parts Try.info25
  have HI := Lib.hid (And.intro hi (And.intro hz0 (And.intro hz1 hz2)))
  clear hi hz0 hz1 hz2 hs IH hw hn hlen
  go_enter Try.func52, Try.ntmps52
  go_wp2_with (at_make; refine wpList_make_own _ rfl _ _ 23 rfl w.heap.size 25 i0 (.agg #[.int .i64 0, .slice none 0 0, .slice none 0 0]) 3 Try.underlying23 HI.out.1 HI.out.2.1 HI.out.2.2.1 _ _ _ n rfl rfl (by omega) (by rw [HI.out.2.2.2]; omega) (by unfold maxLen; omega) (by simp) ?_; intro w1 hown1 hgrow1; have HO1 := Lib.hid hown1; have HG1 := Lib.hid ((Below.refl w.heap.size w).grown hgrow1 (Nat.le_refl _) (by simp)); clear hown1 hgrow1)
  go_loopw [3, 11] (fun b i wr => ∃ k : Nat, k ≤ n ∧ i = .int .i64 k ∧ OwnIt wr w.heap.size w.heap.size b (l.take k) ∧ Below w.heap.size w wr) (fun _ i _ => n - (intOf i).toNat)
  case atStart => exact ⟨0, by omega, rfl, by rw [List.take_zero]; exact OwnIt.of_empty HO1.out, HG1.out⟩
  case round =>
    obtain ⟨k, hk, rfl, ho, hb⟩ := hrel
    have HO := Lib.hid ho
    have HB := Lib.hid hb
    have hz := hb.size
    have HOV := Lib.hid ho.lt
    clear ho hb
    by_cases hlt : k < n
    · have hkl : k < l.length := by rw [HN.out]; exact hlt
      obtain ⟨ad, rfl, had, Ab, cb, Al, cl, c0, c1, c2, hit⟩ := (HS.out.on HB.out).at_ k hkl
      have HT := Lib.hid (show l.take (k + 1) = l.take k ++ [l[k]] by rw [List.take_succ_eq_append_getElem hkl])
      have HIt := Lib.hid hit
      have hbl := HBl.out k hkl
      have PI := Lib.hid (HIH.out l[k] (List.getElem_mem hkl))
      have HTL := Lib.hid (show (l.take k).length ≤ 1000000000 by rw [List.length_take]; omega)
      unfold CopiesOf at PI
      generalize l[k] = x at *
      have PC := Lib.hid (fun W (h : SI W W.heap.size .u8 Ab x.b) => clone_any Ab x.b.length cb x.b rfl hbl W h)
      have B0 := Lib.hid ((Below.refl wr.heap.size wr).alloc (Nat.le_refl _) (.cells #[.int .i64 x.tag, .slice Ab x.b.length cb, .slice Al x.l.length cl] 25))
      have K0 := Lib.hid (Blk.new wr 25 #[.int .i64 x.tag, .slice Ab x.b.length cb, .slice Al x.l.length cl])
      clear hit hbl
      generalize hm : x.b.length = m at *
      generalize hn' : x.l.length = n' at *
      have HM := Lib.hid hm
      have HN' := Lib.hid hn'
      clear hm hn'
      go_wp2_with fail
      generalize wr.alloc (.cells #[.int .i64 x.tag, .slice Ab m cb, .slice Al n' cl] 25) = W0 at *
      have k0 := K0.out.cell 0
      have k1 := K0.out.cell 1
      have k2 := K0.out.cell 2
      have hg : wr.heap.size < W0.heap.size := K0.out.lt
      have hW : Below W0.heap.size W0 W0.drew := (Below.refl W0.heap.size W0).drew
      go_region_held_law (fun w' => w'.cell? ⟨wr.heap.size, 0, none⟩ = some (.int .i64 x.tag) ∧ w'.cell? ⟨wr.heap.size, 1, none⟩ = some (.slice Ab m cb) ∧ w'.cell? ⟨wr.heap.size, 2, none⟩ = some (.slice Al n' cl)) (first | exact ⟨by assumption, by assumption, by assumption⟩ | go_keep)
        (first
          | (go_at_call 54; refine (PC.out _ ((HIt.out.on (below_on B0.out hW)).bi)).mono ?_; rintro _ w5 ⟨⟨v5, rfl, ho5⟩, b5⟩; have OB := Lib.hid (own_less ho5 hW.size); obtain ⟨A5, c5, rfl, _, _, _, _⟩ := own_sliceB ho5; clear ho5; (try have OI := Lib.hid (OI.out.below b5)); have hW := below_on hW b5; have n0 := (hW.cell (p := ⟨wr.heap.size, 0, none⟩) hg).trans k0; have n1 := (hW.cell (p := ⟨wr.heap.size, 1, none⟩) hg).trans k1; have n2 := (hW.cell (p := ⟨wr.heap.size, 2, none⟩) hg).trans k2)
          | (go_at_call 52; refine (PI.out Al cl _ ((HIt.out.on (below_on B0.out hW)).li)).mono ?_; rintro _ w6 ⟨⟨v6, rfl, ho6⟩, b6⟩; have OI := Lib.hid (ho6.less hW.size hW.size); obtain ⟨A6, c6, rfl, _, _, _⟩ := ho6.slice; clear ho6; (try have OB := Lib.hid (own_below OB.out b6)); have hW := below_on hW b6; have n0 := (hW.cell (p := ⟨wr.heap.size, 0, none⟩) hg).trans k0; have n1 := (hW.cell (p := ⟨wr.heap.size, 1, none⟩) hg).trans k1; have n2 := (hW.cell (p := ⟨wr.heap.size, 2, none⟩) hg).trans k2)
          | (refine step_append_it (by rfl) _ _ (by rfl) w.heap.size w.heap.size _ (l.take k) x _ _ (by rfl) (HO.out.below (below_on B0.out hW)) (itR_fresh OB.out OI.out (fun g e => by have := HOV.out g e; omega) (by omega)) _ _ (by rfl) (by rfl) HTL.out (by have := hW.size; omega) ?_; intro v7 w7 ho7 hb7 hf7; have hsz7 := hW.size; have n0' := (hf7 ⟨wr.heap.size, 0, none⟩ (Nat.lt_of_lt_of_le hg hsz7) (fun e => Nat.lt_irrefl _ (HOV.out wr.heap.size e))).trans n0; have n1' := (hf7 ⟨wr.heap.size, 1, none⟩ (Nat.lt_of_lt_of_le hg hsz7) (fun e => Nat.lt_irrefl _ (HOV.out wr.heap.size e))).trans n1; have n2' := (hf7 ⟨wr.heap.size, 2, none⟩ (Nat.lt_of_lt_of_le hg hsz7) (fun e => Nat.lt_irrefl _ (HOV.out wr.heap.size e))).trans n2; have HX := Lib.hid ((HB.out.trans ((below_on B0.out hW).mono hz)).trans hb7)))
      all_goals
        have HO7 := Lib.hid ho7
        clear ho7 hb7 hf7 hW n0 n1 n2 n0' n1' n2'
        go_wp2_with fail
        go_roundw
        case rel => exact ⟨k + 1, by omega, by go_num, by rw [HT.out]; exact HO7.out, HX.out⟩
        case measure => simp [intOf]; omega
    · obtain rfl : n = k := by omega
      have HA := Lib.hid (show l.take n = l from List.take_of_length_le (by rw [HN.out]; omega))
      go_wp2_with fail
      go_ret
      exact ⟨⟨_, rfl, by have h := HO.out; rwa [HA.out] at h⟩, HB.out⟩
theorem copies_any : ∀ (n : Nat) (l : List It), wts l ≤ n → n ≤ 100000000 → CopiesOf l
  | 0, l, h, h8 => copies_from l (by omega) (fun y hy => by have := wts_mem hy; have := wt_pos y; omega)
  | n + 1, l, h, h8 => copies_from l (by omega) (fun y hy => copies_any n y.l (by have := wts_mem hy; have := wt_is y; omega) (by omega))
end Go.Proofs.Yteafbfhojhpbgaa
