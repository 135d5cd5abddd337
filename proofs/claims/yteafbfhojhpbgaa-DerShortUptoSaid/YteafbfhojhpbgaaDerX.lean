/- The laws' head: the chapter's examples. -/
import Derived.Test.YteafbfhojhpbgaaDerW
namespace Go.Proofs.Yteafbfhojhpbgaa
open Go.ChangeShapes Go.WideShapes Go.ChangeAt Go.RowKit Gs
set_option linter.unusedVariables false

theorem Int_k (n : Int) (h0 : -9223372036854775808 ≤ n) (h1 : n < 9223372036854775808) (b : List Int) (m : Nat) (hb : intE n = b) (hm : b.length = m) (w : World) :
    Calls Try.prog 23 #[.int .i64 n] w fun e w' => (∃ A c, e = .returned (.agg #[.int .i64 2, .slice A m c, .slice none 0 0]) ∧ IR w' w'.heap.size (.mk 2 b []) A c none 0) ∧ Below w.heap.size w w' := by
  refine (Int_any n h0 h1 w).mono ?_
  rintro _ w' ⟨v, rfl, ho, hb2⟩
  rw [hb] at ho
  obtain ⟨A, c, rfl, q1, q2, hs, _⟩ := own_sliceB ho
  exact ⟨⟨A, c, by rw [hm], ir_leaf hs q1 q2⟩, hb2⟩
theorem Text_k (s : ByteArray) (b : List Int) (m : Nat) (hs : s.size = m) (hm : m ≤ 1000000) (hb : sbs s = b) (w : World) :
    Calls Try.prog 25 #[.string s] w fun e w' => (∃ A c, e = .returned (.agg #[.int .i64 12, .slice A m c, .slice none 0 0]) ∧ IR w' w'.heap.size (.mk 12 b []) A c none 0) ∧ Below w.heap.size w w' := by
  refine (Text_any s (by omega) w).mono ?_
  rintro _ w' ⟨⟨A, c, rfl, h1, h2, h3⟩, hb2⟩
  rw [hb] at h3
  have hl : b.length = s.size := by rw [← hb, sbs_len]
  exact ⟨⟨A, c, by rw [hs], ir_leaf h3 (by omega) h2⟩, hb2⟩
theorem Seq_k (w : World) (g : Nat) (hs : IS w w.heap.size (some ⟨g, 0, none⟩) [xI5, xIm, xTx]) :
    Calls Try.prog 21 #[.slice (some ⟨g, 0, none⟩) 3 3] w fun e w' => (∃ A c, e = .returned (.agg #[.int .i64 48, .slice none 0 0, .slice A 3 c]) ∧ IR w' w'.heap.size xSq none 0 A c) ∧ Below w.heap.size w w' := by
  refine (Seq_any [xI5, xIm, xTx] (by decide) _ 3 3 rfl w hs).mono ?_
  rintro _ w' ⟨⟨v, rfl, ho⟩, hb⟩
  obtain ⟨A, c, rfl, h1, h2, h3⟩ := ho.is
  exact ⟨⟨A, c, rfl, ⟨Nat.le_refl _, by unfold maxLen; omega, fun j hj => absurd hj (Nat.not_lt_zero j), h1, h2, h3⟩⟩, hb⟩
theorem Put_k (w : World) (A : Option Addr) (c : Nat) (hi : IR w w.heap.size xSq none 0 A c) :
    Calls Try.prog 14 #[.agg #[.int .i64 48, .slice none 0 0, .slice A 3 c]] w fun e w' => (∃ B d, e = .returned (.tuple #[.slice B 12 d, .int .i64 0]) ∧ 12 ≤ d ∧ d ≤ maxLen ∧ SI w' w'.heap.size .u8 B [48, 10, 2, 1, 5, 2, 1, 128, 12, 2, 97, 98]) ∧ Below w.heap.size w w' := by
  have h := Put_any xSq sq_wf (by rw [sq_wt]; omega) none 0 A c w hi
  rw [sq_putE, sq_putB] at h
  refine h.mono ?_
  rintro _ w' ⟨⟨v, rfl, ho⟩, hb⟩
  obtain ⟨B, d, rfl, h1, h2, h3, _⟩ := own_sliceB ho
  exact ⟨⟨B, d, rfl, h1, h2, h3⟩, hb⟩
theorem Put_3 (w : World) : Calls Try.prog 14 #[.agg #[.int .i64 3, .slice none 0 0, .slice none 0 0]] w fun e w' => (∃ v, e = .returned (.tuple #[v, .int .i64 1])) ∧ Below w.heap.size w w' := by
  have h := Put_any x3 (by simp [x3, It.wf, wfs]) (by decide) none 0 none 0 w (ir_leaf (fun j hj => absurd hj (Nat.not_lt_zero j)) (Nat.le_refl _) (by unfold maxLen; omega))
  rw [put_3.1] at h
  exact h.mono fun e w' ⟨⟨v, h1, _⟩, h2⟩ => ⟨⟨v, h1⟩, h2⟩
theorem Get_k (w : World) (B : Option Addr) (d : Nat) (h1 : 12 ≤ d) (h2 : d ≤ maxLen) (hs : SI w w.heap.size .u8 B [48, 10, 2, 1, 5, 2, 1, 128, 12, 2, 97, 98]) :
    Calls Try.prog 16 #[.slice B 12 d, .int .i64 0] w fun e w' => (∃ A c A' c', e = .returned (.tuple #[.agg #[.int .i64 48, .slice A 0 c, .slice A' 3 c'], .int .i64 12, .int .i64 0]) ∧ IR w' w'.heap.size xSq A c A' c') ∧ Below w.heap.size w w' := by
  have h := Get_any [48, 10, 2, 1, 5, 2, 1, 128, 12, 2, 97, 98] (by decide) (by decide) 0 B d w h1 h2 hs
  rw [live_get] at h
  refine h.mono ?_
  rintro _ w' ⟨⟨A, c, A', c', rfl, hi⟩, hb⟩
  obtain ⟨Ab, cb, Al, cl, e1, e2, hi⟩ := IR.of (hi.more (S' := (· < w'.heap.size)) (fun g hg => hg.2))
  cases e1
  cases e2
  exact ⟨⟨A, c, A', c', rfl, hi⟩, hb⟩
theorem Get_b (w : World) (b : List Int) (e : Int) (m : Nat) (hm : b.length = m) (hb : ∀ x ∈ b, 0 ≤ x ∧ x < 256) (h8 : m ≤ 100) (hg : getP b 0 = .bad e) (g : Nat) (hs : SI w w.heap.size .u8 (some ⟨g, 0, none⟩) b) :
    Calls Try.prog 16 #[.slice (some ⟨g, 0, none⟩) m m, .int .i64 0] w fun e' w' => e' = .returned (.tuple #[.agg #[.int .i64 0, .slice none 0 0, .slice none 0 0], .int .i64 0, .int .i64 e]) ∧ Below w.heap.size w w' := by
  subst hm
  have h := Get_any b hb (by omega) 0 _ b.length w (Nat.le_refl _) (by unfold maxLen; omega) hs
  rw [hg] at h
  exact h
theorem AsInt_k (w : World) (A : Option Addr) (c : Nat) (hi : IR w w.heap.size (.mk 2 [255, 127] []) A c none 0) :
    Calls Try.prog 31 #[.agg #[.int .i64 2, .slice A 2 c, .slice none 0 0]] w fun e w' => e = .returned (.tuple #[.int .i64 (-129), .int .i64 0]) ∧ Below w.heap.size w w' := by
  have h := AsInt_any x129 (by simp [x129, It.wf, wfs]) (by decide) A c none 0 w hi
  rw [if_pos as_129.1, as_129.1, show valI x129.b = -129 from as_129.2] at h
  exact h
theorem AsText_k (w : World) (A : Option Addr) (c : Nat) (hi : IR w w.heap.size (.mk 2 [5] []) A c none 0) :
    Calls Try.prog 33 #[.agg #[.int .i64 2, .slice A 1 c, .slice none 0 0]] w fun e w' => e = .returned (.tuple #[.string ByteArray.empty, .int .i64 72]) ∧ Below w.heap.size w w' := by
  have h := AsText_any xI5 (by simp [xI5, It.wf, wfs]) (by decide) A c none 0 w hi
  rw [if_neg (by rw [as_5]; omega), as_5] at h
  exact h
theorem AsSeq_k (w : World) (A : Option Addr) (c : Nat) (A' : Option Addr) (c' : Nat) (hi : IR w w.heap.size xSq A c A' c') :
    Calls Try.prog 39 #[.agg #[.int .i64 48, .slice A 0 c, .slice A' 3 c']] w fun e w' => (∃ B d, e = .returned (.tuple #[.slice B 3 d, .int .i64 0])) ∧ Below w.heap.size w w' := by
  have h := AsSeq_any xSq sq_wf (by rw [sq_wt]; omega) A c A' c' w hi
  rw [if_pos as_sq, as_sq] at h
  refine h.mono ?_
  rintro _ w' ⟨⟨v, rfl, ho⟩, hb⟩
  obtain ⟨B, d, rfl, h1, h2, h3⟩ := ho.is
  exact ⟨⟨B, d, rfl⟩, hb⟩
theorem Same_k (w : World) (A : Option Addr) (c : Nat) (B : Option Addr) (d : Nat) (A' : Option Addr) (c' : Nat) (hi : IR w w.heap.size xSq none 0 A c) (hi' : IR w w.heap.size xSq B d A' c') :
    Calls Try.prog 20 #[.agg #[.int .i64 48, .slice none 0 0, .slice A 3 c], .agg #[.int .i64 48, .slice B 0 d, .slice A' 3 c']] w fun e w' => e = .returned (.bool true) ∧ Below w.heap.size w w' := by
  have h := same_any xSq sq_wf xSq sq_wf none 0 A c B d A' c' w hi hi'
  rw [same_self] at h
  exact h
theorem si_lit_at (w : World) (t : TypeId) (xs : List Int) (cs : Array Value) (hc : cs = (xs.map (Value.int .u8)).toArray) (g : Nat) (hg : g = w.heap.size) : SI (w.alloc (.cells cs t)) (w.alloc (.cells cs t)).heap.size .u8 (some ⟨g, 0, none⟩) xs := by
  subst hc hg
  exact si_lit w t (0, 0) xs
theorem live_str : (strOfNums [48, 10, 2, 1, 5, 2, 1, 128, 12, 2, 97, 98]).toList = ([48, 10, 2, 1, 5, 2, 1, 128, 12, 2, 97, 98] : List UInt8) := by
  rw [str_toList]
  rfl

set_option maxRecDepth 100000 in
set_option maxHeartbeats 8000000 in
theorem live7 (w : World) : Calls Try.prog 12 #[] w fun e w' => e = .returned (.bool true) ∧ Below w.heap.size w w' := by
  have BB := Lib.hid (Below.refl w.heap.size w)
  have P1 := Lib.hid (fun W => Int_k 5 (by omega) (by omega) [5] 1 int_5 rfl W)
  have P2 := Lib.hid (fun W => Int_k (-128) (by omega) (by omega) [128] 1 int_m rfl W)
  have P9 := Lib.hid (fun W => Int_k (-129) (by omega) (by omega) [255, 127] 2 int_129 rfl W)
  have PT := Lib.hid (fun W => Text_k ⟨#[97, 98]⟩ [97, 98] 2 rfl (by omega) tx_ab W)
  have QS := Lib.hid live_str
  go_enter Try.func12, Try.ntmps12
  go_wp2_with fail
  refine (P1.out _).mono ?_; rintro _ w1 ⟨⟨A1, c1, rfl, i1⟩, bb⟩
  have bb' := bb
  have BB := Lib.hid (below_on BB.out bb')
  clear bb bb'
  have I1 := Lib.hid i1
  clear i1
  go_wp2_with fail
  refine (P2.out _).mono ?_; rintro _ w2 ⟨⟨A2, c2, rfl, i2⟩, bb⟩
  have bb' := bb
  have BB := Lib.hid (below_on BB.out bb')
  have I1 := Lib.hid (I1.out.on bb')
  clear bb bb'
  have I2 := Lib.hid i2
  clear i2
  go_wp2_with fail
  refine (PT.out _).mono ?_; rintro _ w3 ⟨⟨A3, c3, rfl, i3⟩, bb⟩
  have bb' := bb
  have BB := Lib.hid (below_on BB.out bb')
  have I1 := Lib.hid (I1.out.on bb')
  have I2 := Lib.hid (I2.out.on bb')
  clear bb bb'
  have I3 := Lib.hid i3
  clear i3
  go_wp2_with fail
  have bb := (Below.refl w3.heap.size w3).alloc (Nat.le_refl _) (.cells #[.int .i64 2, .slice A1 1 c1, .slice none 0 0, .int .i64 2, .slice A2 1 c2, .slice none 0 0, .int .i64 12, .slice A3 2 c3, .slice none 0 0] 25)
  have BB := Lib.hid (below_on BB.out bb)
  have I1 := Lib.hid (I1.out.on bb)
  have I2 := Lib.hid (I2.out.on bb)
  have I3 := Lib.hid (I3.out.on bb)
  have IL := Lib.hid (is_3 (x := xI5) (y := xIm) (z := xTx) (Blk.new w3 25 #[.int .i64 2, .slice A1 1 c1, .slice none 0 0, .int .i64 2, .slice A2 1 c2, .slice none 0 0, .int .i64 12, .slice A3 2 c3, .slice none 0 0]) I1.out I2.out I3.out)
  clear bb I1 I2 I3
  refine (Seq_k _ _ IL.out).mono ?_; rintro _ w4 ⟨⟨A4, c4, rfl, i4⟩, bb⟩
  have bb' := bb
  have BB := Lib.hid (below_on BB.out bb')
  clear bb bb'
  have IX := Lib.hid i4
  clear i4 IL
  have KX := Lib.hid (Blk.new w4 25 #[.int .i64 48, .slice none 0 0, .slice A4 3 c4])
  have bb := (Below.refl w4.heap.size w4).alloc (Nat.le_refl _) (.cells #[.int .i64 48, .slice none 0 0, .slice A4 3 c4] 25)
  have BB := Lib.hid (below_on BB.out bb)
  have IX := Lib.hid (IX.out.on bb)
  clear bb
  go_wp2_with fail
  refine (Put_k _ _ _ IX.out).mono ?_; rintro _ w5 ⟨⟨A5, c5, rfl, h51, h52, s5⟩, bb⟩
  have bb' := bb
  have BB := Lib.hid (below_on BB.out bb')
  have IX := Lib.hid (IX.out.on bb')
  have KX := Lib.hid (KX.out.below bb' KX.out.lt)
  clear bb bb'
  have SB := Lib.hid s5
  have HB5 := Lib.hid (And.intro h51 h52)
  clear s5 h51 h52
  go_wp2_with fail
  refine (Get_k _ _ _ HB5.out.1 HB5.out.2 SB.out).mono ?_; rintro _ w6 ⟨⟨A6, c6, A7, c7, rfl, i6⟩, bb⟩
  have bb' := bb
  have BB := Lib.hid (below_on BB.out bb')
  have IX := Lib.hid (IX.out.on bb')
  have KX := Lib.hid (KX.out.below bb' KX.out.lt)
  have SB := Lib.hid (SB.out.on bb')
  clear bb bb'
  have IY := Lib.hid i6
  clear i6
  have KY := Lib.hid (Blk.new w6 25 #[.int .i64 48, .slice A6 0 c6, .slice A7 3 c7])
  have bb := (Below.refl w6.heap.size w6).alloc (Nat.le_refl _) (.cells #[.int .i64 48, .slice A6 0 c6, .slice A7 3 c7] 25)
  have BB := Lib.hid (below_on BB.out bb)
  have IX := Lib.hid (IX.out.on bb)
  have KX := Lib.hid (KX.out.below bb KX.out.lt)
  have SB := Lib.hid (SB.out.on bb)
  have IY := Lib.hid (IY.out.on bb)
  clear bb
  go_wp2_with fail
  have bb := (Below.refl (w6.alloc (.cells #[.int .i64 48, .slice A6 0 c6, .slice A7 3 c7] 25)).heap.size (w6.alloc (.cells #[.int .i64 48, .slice A6 0 c6, .slice A7 3 c7] 25))).alloc (Nat.le_refl _) (.cells #[.int .u8 48, .int .u8 129, .int .u8 1, .int .u8 0] 5)
  have BB := Lib.hid (below_on BB.out bb)
  have IX := Lib.hid (IX.out.on bb)
  have KX := Lib.hid (KX.out.below bb KX.out.lt)
  have SB := Lib.hid (SB.out.on bb)
  have IY := Lib.hid (IY.out.on bb)
  have KY := Lib.hid (KY.out.below bb KY.out.lt)
  clear bb
  have SL := Lib.hid (si_lit_at (w6.alloc (.cells #[.int .i64 48, .slice A6 0 c6, .slice A7 3 c7] 25)) 5 [48, 129, 1, 0] #[.int .u8 48, .int .u8 129, .int .u8 1, .int .u8 0] rfl (w6.heap.size + 1) (by simp))
  refine (Get_b _ [48, 129, 1, 0] 71 4 rfl (by decide) (by omega) live_bad1 _ SL.out).mono ?_; rintro _ w7 ⟨rfl, bb⟩
  have bb' := bb
  have BB := Lib.hid (below_on BB.out bb')
  have IX := Lib.hid (IX.out.on bb')
  have KX := Lib.hid (KX.out.below bb' KX.out.lt)
  have SB := Lib.hid (SB.out.on bb')
  have IY := Lib.hid (IY.out.on bb')
  have KY := Lib.hid (KY.out.below bb' KY.out.lt)
  clear bb bb'
  clear SL
  have bb := (Below.refl w7.heap.size w7).alloc (Nat.le_refl _) (.cells #[.int .i64 0, .slice none 0 0, .slice none 0 0] 25)
  have BB := Lib.hid (below_on BB.out bb)
  have IX := Lib.hid (IX.out.on bb)
  have KX := Lib.hid (KX.out.below bb KX.out.lt)
  have SB := Lib.hid (SB.out.on bb)
  have IY := Lib.hid (IY.out.on bb)
  have KY := Lib.hid (KY.out.below bb KY.out.lt)
  clear bb
  go_wp2_with fail
  have bb := (Below.refl (w7.alloc (.cells #[.int .i64 0, .slice none 0 0, .slice none 0 0] 25)).heap.size (w7.alloc (.cells #[.int .i64 0, .slice none 0 0, .slice none 0 0] 25))).alloc (Nat.le_refl _) (.cells #[.int .u8 2, .int .u8 1] 5)
  have BB := Lib.hid (below_on BB.out bb)
  have IX := Lib.hid (IX.out.on bb)
  have KX := Lib.hid (KX.out.below bb KX.out.lt)
  have SB := Lib.hid (SB.out.on bb)
  have IY := Lib.hid (IY.out.on bb)
  have KY := Lib.hid (KY.out.below bb KY.out.lt)
  clear bb
  have SL := Lib.hid (si_lit_at (w7.alloc (.cells #[.int .i64 0, .slice none 0 0, .slice none 0 0] 25)) 5 [2, 1] #[.int .u8 2, .int .u8 1] rfl (w7.heap.size + 1) (by simp))
  refine (Get_b _ [2, 1] 70 2 rfl (by decide) (by omega) live_bad2 _ SL.out).mono ?_; rintro _ w8 ⟨rfl, bb⟩
  have bb' := bb
  have BB := Lib.hid (below_on BB.out bb')
  have IX := Lib.hid (IX.out.on bb')
  have KX := Lib.hid (KX.out.below bb' KX.out.lt)
  have SB := Lib.hid (SB.out.on bb')
  have IY := Lib.hid (IY.out.on bb')
  have KY := Lib.hid (KY.out.below bb' KY.out.lt)
  clear bb bb'
  clear SL
  have bb := (Below.refl w8.heap.size w8).alloc (Nat.le_refl _) (.cells #[.int .i64 0, .slice none 0 0, .slice none 0 0] 25)
  have BB := Lib.hid (below_on BB.out bb)
  have IX := Lib.hid (IX.out.on bb)
  have KX := Lib.hid (KX.out.below bb KX.out.lt)
  have SB := Lib.hid (SB.out.on bb)
  have IY := Lib.hid (IY.out.on bb)
  have KY := Lib.hid (KY.out.below bb KY.out.lt)
  clear bb
  go_wp2_with fail
  refine (P9.out _).mono ?_; rintro _ w9 ⟨⟨A9, c9, rfl, i9⟩, bb⟩
  have bb' := bb
  have BB := Lib.hid (below_on BB.out bb')
  have IX := Lib.hid (IX.out.on bb')
  have KX := Lib.hid (KX.out.below bb' KX.out.lt)
  have SB := Lib.hid (SB.out.on bb')
  have IY := Lib.hid (IY.out.on bb')
  have KY := Lib.hid (KY.out.below bb' KY.out.lt)
  clear bb bb'
  have I9 := Lib.hid i9
  clear i9
  go_wp2_with fail
  refine (AsInt_k _ _ _ I9.out).mono ?_; rintro _ w10 ⟨rfl, bb⟩
  have bb' := bb
  have BB := Lib.hid (below_on BB.out bb')
  have IX := Lib.hid (IX.out.on bb')
  have KX := Lib.hid (KX.out.below bb' KX.out.lt)
  have SB := Lib.hid (SB.out.on bb')
  have IY := Lib.hid (IY.out.on bb')
  have KY := Lib.hid (KY.out.below bb' KY.out.lt)
  have I9 := Lib.hid (I9.out.on bb')
  clear bb bb'
  clear I9
  go_wp2_with fail
  refine (P1.out _).mono ?_; rintro _ w11 ⟨⟨A8, c8, rfl, i8⟩, bb⟩
  have bb' := bb
  have BB := Lib.hid (below_on BB.out bb')
  have IX := Lib.hid (IX.out.on bb')
  have KX := Lib.hid (KX.out.below bb' KX.out.lt)
  have SB := Lib.hid (SB.out.on bb')
  have IY := Lib.hid (IY.out.on bb')
  have KY := Lib.hid (KY.out.below bb' KY.out.lt)
  clear bb bb'
  have I8 := Lib.hid i8
  clear i8
  go_wp2_with fail
  refine (AsText_k _ _ _ I8.out).mono ?_; rintro _ w12 ⟨rfl, bb⟩
  have bb' := bb
  have BB := Lib.hid (below_on BB.out bb')
  have IX := Lib.hid (IX.out.on bb')
  have KX := Lib.hid (KX.out.below bb' KX.out.lt)
  have SB := Lib.hid (SB.out.on bb')
  have IY := Lib.hid (IY.out.on bb')
  have KY := Lib.hid (KY.out.below bb' KY.out.lt)
  have I8 := Lib.hid (I8.out.on bb')
  clear bb bb'
  clear I8
  go_wp2_with fail
  refine (Put_3 _).mono ?_; rintro _ w13 ⟨⟨v13, rfl⟩, bb⟩
  have bb' := bb
  have BB := Lib.hid (below_on BB.out bb')
  have IX := Lib.hid (IX.out.on bb')
  have KX := Lib.hid (KX.out.below bb' KX.out.lt)
  have SB := Lib.hid (SB.out.on bb')
  have IY := Lib.hid (IY.out.on bb')
  have KY := Lib.hid (KY.out.below bb' KY.out.lt)
  clear bb bb'
  have y0 := KY.out.cell 0
  have y1 := KY.out.cell 1
  have y2 := KY.out.cell 2
  go_wp2_with fail
  refine (AsSeq_k _ _ _ _ _ IY.out).mono ?_; rintro _ w14 ⟨⟨A14, c14, rfl⟩, bb⟩
  have bb' := bb
  have BB := Lib.hid (below_on BB.out bb')
  have IX := Lib.hid (IX.out.on bb')
  have KX := Lib.hid (KX.out.below bb' KX.out.lt)
  have SB := Lib.hid (SB.out.on bb')
  have IY := Lib.hid (IY.out.on bb')
  have KY := Lib.hid (KY.out.below bb' KY.out.lt)
  clear bb bb'
  clear y0 y1 y2
  have y0 := KY.out.cell 0
  have y1 := KY.out.cell 1
  have y2 := KY.out.cell 2
  have x0 := KX.out.cell 0
  have x1 := KX.out.cell 1
  have x2 := KX.out.cell 2
  have cv := conv_si (c := c5) (n := 12) rfl SB.out
  have q := QS.out
  generalize strOfNums [48, 10, 2, 1, 5, 2, 1, 128, 12, 2, 97, 98] = sb at *
  go_wp2_with fail
  refine (Same_k _ _ _ _ _ _ _ IX.out IY.out).mono ?_; rintro _ w15 ⟨rfl, bb⟩
  have bb' := bb
  have BB := Lib.hid (below_on BB.out bb')
  have IX := Lib.hid (IX.out.on bb')
  have KX := Lib.hid (KX.out.below bb' KX.out.lt)
  have SB := Lib.hid (SB.out.on bb')
  have IY := Lib.hid (IY.out.on bb')
  have KY := Lib.hid (KY.out.below bb' KY.out.lt)
  clear bb bb'
  go_wp2_with fail
  go_ret
  exact ⟨rfl, BB.out⟩
end Go.Proofs.Yteafbfhojhpbgaa
