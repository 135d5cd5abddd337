/- The walk of the law DerShort. -/
import Derived.Test.YteafbfhojhpbgaaDerX
import Derived.Test.YteafbfhojhpbgaaDerZf
import Derived.Test.YteafbfhojhpbgaaDerZg
namespace Go.Proofs.Yteafbfhojhpbgaa
open Go.ChangeShapes Go.WideShapes Go.ChangeAt Go.RowKit Gs
set_option linter.unusedVariables false

theorem nbz (w : World) (o : Obj) : Below w.heap.size w (w.alloc o) := (Below.refl _ _).alloc (Nat.le_refl _) _
theorem and_low7 (x : Int) : ∃ m : Nat, bits .and .i64 x 65535 = (m : Int) ∧ m < 65536 := by
  have hb : (BitVec.ofInt 64 x &&& BitVec.ofInt 64 65535).toNat < 65536 := by
    rw [BitVec.toNat_and]
    have h1 : (BitVec.ofInt 64 65535).toNat = 65535 := by rfl
    rw [h1]
    exact Nat.lt_of_le_of_lt Nat.and_le_right (by omega)
  refine ⟨(BitVec.ofInt 64 x &&& BitVec.ofInt 64 65535).toNat, ?_, hb⟩
  show IntKind.i64.wrap ((BitVec.ofInt 64 x &&& BitVec.ofInt 64 65535).toNat : Nat) = _
  rw [IntKind.wrap_i64]
  omega
theorem lenB_bytesS (n : Nat) : ∀ z ∈ lenB n, 0 ≤ z ∧ z < 256 := by
  intro z hz
  unfold lenB at hz
  by_cases h1 : n < 128
  · rw [if_pos h1] at hz; simp at hz; omega
  · rw [if_neg h1] at hz
    by_cases h2 : n < 256
    · rw [if_pos h2] at hz; simp at hz; rcases hz with rfl | rfl <;> omega
    · rw [if_neg h2] at hz; simp at hz; rcases hz with rfl | rfl | rfl <;> omega
theorem enc_boundS : ∀ x : It, x.wf → ∀ z ∈ x.enc, 0 ≤ z ∧ z < 256 := it_ind fun x ih hwf z hz => by
  rw [wf_is] at hwf
  rw [enc_is] at hz
  rcases List.mem_cons.1 hz with rfl | hz
  · omega
  rcases List.mem_append.1 hz with hz | hz
  · exact lenB_bytesS _ z hz
  rcases List.mem_append.1 hz with hz | hz
  · exact hwf.2.1 z hz
  have ha := wfs_all.1 hwf.2.2
  have go : ∀ l : List It, (∀ y ∈ l, ∀ z ∈ y.enc, 0 ≤ z ∧ z < 256) → ∀ z ∈ encs l, 0 ≤ z ∧ z < 256 := by
    intro l
    induction l with
    | nil => intro _ z hz; simp [encs] at hz
    | cons y r ihl =>
      intro h z hz
      rw [encs] at hz
      rcases List.mem_append.1 hz with hz | hz
      · exact h y (List.mem_cons_self ..) z hz
      · exact ihl (fun y' hy => h y' (List.mem_cons_of_mem _ hy)) z hz
  exact go x.l (fun y hy => ih y hy (ha y hy)) z hz

set_option maxRecDepth 100000 in
set_option maxHeartbeats 8000000 in
theorem short_walk7 (x : It) (hwf : x.wf) (hbig : x.wt ≤ 10000000) (Ab : Option Addr) (cb : Nat) (Al : Option Addr) (cl : Nat) (a : Int) (w : World) (hi : IR w w.heap.size x Ab cb Al cl) :
    Calls Try.prog 9 #[.agg #[.int .i64 x.tag, .slice Ab x.b.length cb, .slice Al x.l.length cl], .int .i64 a] w fun e w' => e = .returned (.bool true) ∧ Below w.heap.size w w' := by
  have D0 := Lib.hid (nbz w (.cells #[.int .i64 x.tag, .slice Ab x.b.length cb, .slice Al x.l.length cl] 25))
  have K0 := Lib.hid (Blk.new w 25 #[.int .i64 x.tag, .slice Ab x.b.length cb, .slice Al x.l.length cl])
  have PF := Lib.hid (fun W (hh : IR W W.heap.size x Ab cb Al cl) => Few_any x (by omega) Ab cb Al cl W hh)
  have PP := Lib.hid (fun W (hh : IR W W.heap.size x Ab cb Al cl) => Put_any x hwf (by omega) Ab cb Al cl W hh)
  have HI := Lib.hid hi
  by_cases hfew : x.wt ≤ 9000
  rotate_left 1
  · rw [decide_eq_false hfew] at PF
    clear hfew hi PP
    have k0 := K0.out.cell 0
    have k1 := K0.out.cell 1
    have k2 := K0.out.cell 2
    generalize x.b.length = m1 at *
    generalize x.l.length = m2 at *
    generalize x.tag = tg at *
    go_enter Try.func9, Try.ntmps9
    go_wp2_with fail
    refine (live7 _).mono ?_; rintro _ w1 ⟨rfl, bb⟩
    have B1 := Lib.hid (below_on D0.out bb)
    have K1 := Lib.hid (K0.out.below bb K0.out.lt)
    clear bb k0 k1 k2
    have k0 := K1.out.cell 0
    have k1 := K1.out.cell 1
    have k2 := K1.out.cell 2
    go_wp2_with fail
    refine (PF.out _ (HI.out.on B1.out)).mono ?_; rintro _ w2 ⟨rfl, bb⟩
    have B2 := Lib.hid (below_on B1.out bb)
    clear bb k0 k1 k2
    go_wp2_with fail
    go_ret
    exact ⟨rfl, B2.out⟩
  rw [decide_eq_true hfew] at PF
  by_cases hput : mayI 8 x = true ∧ x.enc.length ≤ 8192
  rotate_left 1
  · have hE : putE x ≠ 0 ∧ putB x = [] := by
      unfold putE putB
      by_cases hm : mayI 8 x = true
      · have h8 : 8192 < x.enc.length := Nat.lt_of_not_le (fun hle => hput ⟨hm, hle⟩)
        rw [if_pos hm, if_pos hm, if_pos h8, if_pos h8]; exact ⟨by omega, rfl⟩
      · rw [if_neg hm, if_neg hm]; exact ⟨by omega, rfl⟩
    rw [hE.2] at PP
    obtain ⟨pe, hpe⟩ : ∃ pe, putE x = pe := ⟨_, rfl⟩
    have he0 : (pe != 0) = true := by have := hE.1; rw [hpe] at this; simpa using this
    rw [hpe] at PP
    clear hpe hE hput hi hfew
    generalize x.b.length = m1 at *
    generalize x.l.length = m2 at *
    generalize x.tag = tg at *
    go_enter Try.func9, Try.ntmps9
    go_wp2_with fail
    refine (live7 _).mono ?_; rintro _ w1 ⟨rfl, bb⟩
    have B1 := Lib.hid (below_on D0.out bb)
    have K1 := Lib.hid (K0.out.below bb K0.out.lt)
    clear bb
    have k0 := K1.out.cell 0
    have k1 := K1.out.cell 1
    have k2 := K1.out.cell 2
    go_wp2_with fail
    refine (PF.out _ (HI.out.on B1.out)).mono ?_; rintro _ w2 ⟨rfl, bb⟩
    have B2 := Lib.hid (below_on B1.out bb)
    have K2 := Lib.hid (K1.out.below bb K1.out.lt)
    clear bb k0 k1 k2
    have k0 := K2.out.cell 0
    have k1 := K2.out.cell 1
    have k2 := K2.out.cell 2
    go_wp2_with fail
    refine (PP.out _ (HI.out.on B2.out)).mono ?_; rintro _ w3 ⟨⟨v, rfl, ho⟩, bb⟩
    obtain ⟨Av, cv, rfl, _, _, _, _⟩ := own_sliceB ho
    have B3 := Lib.hid (below_on B2.out bb)
    clear bb ho k0 k1 k2
    go_wp2_with fail
    go_ret
    exact ⟨rfl, B3.out⟩
  obtain ⟨hmay, hel⟩ := hput
  have e1 : putE x = 0 := by unfold putE; rw [if_pos hmay, if_neg (by omega)]
  have e2 : putB x = x.enc := by unfold putB; rw [if_pos hmay, if_neg (by omega)]
  rw [e1, e2] at PP
  have henb := enc_boundS x hwf
  have h2 : 2 ≤ x.enc.length := by rw [enc_len]; have := lenB_pos x.cont; omega
  obtain ⟨m, hand, hm⟩ := and_low7 a
  obtain ⟨r, hr⟩ : ∃ r, m % x.enc.length = r := ⟨_, rfl⟩
  have hrl : r < x.enc.length := by rw [← hr]; exact Nat.mod_lt _ (by omega)
  have G1 := Lib.hid (get_cut hmay hel hrl)
  have G2 := Lib.hid (fun h1 h2 => get_cut_seq hmay hel hrl h1 h2)
  have PG := Lib.hid (fun (L : List Int) (hb : ∀ z ∈ L, 0 ≤ z ∧ z < 256) (hl : L.length ≤ 100000) (A : Option Addr) (c : Nat) (W : World) (hc : L.length ≤ c) (hm : c ≤ maxLen) (hh : SI W W.heap.size .u8 A L) => Get_any L hb hl 0 A c W hc hm hh)
  obtain ⟨enc, henc⟩ : ∃ enc, x.enc = enc := ⟨_, rfl⟩
  rw [henc] at PP hel henb h2 hr hrl G1 G2
  obtain ⟨ne, hne⟩ : ∃ ne, enc.length = ne := ⟨_, rfl⟩
  have HNE := Lib.hid hne
  rw [hne] at hel h2 hr hrl
  have hrem : Int.tmod (m : Int) (ne : Int) = (r : Int) := by rw [← hr]; rfl
  have dl : decide ((ne : Int) < 2) = false := decide_eq_false (by omega)
  have dz : decide ((ne : Int) = 0) = false := decide_eq_false (by omega)
  clear henc hi hfew hmay e1 e2 hr
  generalize x.b.length = m1 at *
  generalize x.l.length = m2 at *
  generalize x.tag = tg at *
  go_enter Try.func9, Try.ntmps9
  go_wp2_with fail
  refine (live7 _).mono ?_; rintro _ w1 ⟨rfl, bb⟩
  have B1 := Lib.hid (below_on D0.out bb)
  have K1 := Lib.hid (K0.out.below bb K0.out.lt)
  clear bb
  have k0 := K1.out.cell 0
  have k1 := K1.out.cell 1
  have k2 := K1.out.cell 2
  go_wp2_with fail
  refine (PF.out _ (HI.out.on B1.out)).mono ?_; rintro _ w2 ⟨rfl, bb⟩
  have B2 := Lib.hid (below_on B1.out bb)
  have K2 := Lib.hid (K1.out.below bb K1.out.lt)
  clear bb k0 k1 k2
  have k0 := K2.out.cell 0
  have k1 := K2.out.cell 1
  have k2 := K2.out.cell 2
  go_wp2_with fail
  refine (PP.out _ (HI.out.on B2.out)).mono ?_; rintro _ w3 ⟨⟨v, rfl, ho⟩, bb⟩
  obtain ⟨Av, cv, rfl, hlv, hmv, hsv, _⟩ := own_sliceB ho
  have B3 := Lib.hid (below_on B2.out bb)
  have SV := Lib.hid hsv
  rw [HNE.out] at hlv ⊢
  clear bb ho hsv k0 k1 k2
  go_wp2_with fail
  have P1 := Lib.hid (PG.out (enc.take r) (fun z hz => henb z (List.mem_of_mem_take hz)) (by rw [List.length_take]; omega) Av cv w3 (by rw [List.length_take, HNE.out]; omega) hmv (SV.out.take_ r))
  rw [G1.out, show (enc.take r).length = r by rw [List.length_take, HNE.out]; omega] at P1
  refine P1.out.mono ?_; rintro _ w4 ⟨h, bb⟩
  obtain rfl : _ = _ := h
  have B4 := Lib.hid (below_on (below_on B3.out bb) (nbz w4 (.cells #[.int .i64 0, .slice none 0 0, .slice none 0 0] 25)))
  have b34 := below_on bb (nbz w4 (.cells #[.int .i64 0, .slice none 0 0, .slice none 0 0] 25))
  have SV4 := Lib.hid (SV.out.on b34)
  have B4a := Lib.hid (below_on B3.out bb)
  clear bb b34
  by_cases hz : r = 0 ∨ 127 < r
  · have hz' : ((r : Int) == 0) = true ∨ (((r : Int) == 0) = false ∧ decide ((127 : Int) < (r : Int)) = true) := by
      by_cases h0 : r = 0
      · subst h0; exact .inl rfl
      · exact .inr ⟨by simp; omega, decide_eq_true (by omega)⟩
    rcases hz' with z1 | ⟨z1, z2⟩
    all_goals (
      go_wp2_with fail
      go_ret
      exact ⟨rfl, B4.out⟩)
  have z1 : ((r : Int) == 0) = false := by simp; omega
  have z2 : decide ((127 : Int) < (r : Int)) = false := decide_eq_false (by omega)
  have hw : IntKind.u8.wrap (r : Int) = (r : Int) := by rw [IntKind.wrap_u8]; omega
  have hsz1 : w4.heap.size + 1 = (w4.alloc (.cells #[.int .i64 0, .slice none 0 0, .slice none 0 0] 25)).heap.size := (Array.size_push ..).symm
  have OL : Hid (OwnB ((w4.alloc (.cells #[.int .i64 0, .slice none 0 0, .slice none 0 0] 25)).alloc (.cells #[.int .u8 48, .int .u8 (r : Int)] 5)) w4.heap.size (.slice (some ⟨w4.heap.size + 1, 0, none⟩) 2 2) [48, (r : Int)]) := Lib.hid (own_litB (w4.alloc (.cells #[.int .i64 0, .slice none 0 0, .slice none 0 0] 25)) [48, (r : Int)] (B := w4.heap.size) (g := w4.heap.size + 1) (by omega) hsz1 (by simp))
  have b5 := nbz (w4.alloc (.cells #[.int .i64 0, .slice none 0 0, .slice none 0 0] 25)) (.cells #[.int .u8 48, .int .u8 (r : Int)] 5)
  have B5 := Lib.hid (((nbz w4 (.cells #[.int .i64 0, .slice none 0 0, .slice none 0 0] 25)).trans (by rw [← hsz1] at b5; exact b5.mono (by omega))))
  have S1 := Lib.hid ((SV4.out.on b5).take_ r)
  have hL1 : ([48, (r : Int)] : List Int).length + r ≤ 1099511627776 := by show 2 + r ≤ _; omega
  have HTL := Lib.hid (show (enc.take r).length = r by rw [List.length_take, HNE.out]; omega)
  have HL8 := Lib.hid (show ([48, (r : Int)] ++ enc.take r).length = r + 2 by rw [List.length_append, HTL.out]; simp; omega)
  have hb8 : ∀ z ∈ [48, (r : Int)] ++ enc.take r, 0 ≤ z ∧ z < 256 := fun z hz => by
    rcases List.mem_append.1 hz with hz | hz
    · simp at hz; rcases hz with rfl | rfl <;> omega
    · exact henb z (List.mem_of_mem_take hz)
  have P9 := Lib.hid (PG.out ([48, (r : Int)] ++ enc.take r) hb8 (by rw [HL8.out]; omega))
  rw [G2.out (by omega) (by omega), HL8.out] at P9
  have hZ5 := B5.out.size
  clear b5 hsz1 hb8
  go_wp2_with (at_builtin; first
    | (refine wpList_append_b (by rfl) _ _ (by rfl) w4.heap.size _ [48, (r : Int)] (by rfl) OL.out _ Av r cv (enc.take r) HTL.out (by rfl) S1.out hL1 hZ5 ?_; intro v6 w6 o6 b6 g6 n6; have B6 := Lib.hid (below_on B4a.out (B5.out.trans b6)); obtain ⟨A8, c8, e8, q1, q2, q3, _⟩ := own_sliceB o6; rw [HL8.out] at e8 q1; subst e8; have P8 := Lib.hid (P9.out A8 c8 w6 q1 q2 q3); clear o6 g6 n6 b6 q1 q2 q3)
    | fail)
  refine P8.out.mono ?_; rintro _ w7 ⟨h, bb⟩
  obtain rfl : _ = _ := h
  have B7 := Lib.hid (below_on (below_on B6.out bb) (nbz w7 (.cells #[.int .i64 0, .slice none 0 0, .slice none 0 0] 25)))
  clear bb
  go_wp2_with fail
  go_ret
  exact ⟨rfl, B7.out⟩
end Go.Proofs.Yteafbfhojhpbgaa
