/- The walk of the law DerInts. -/
import Derived.Test.YtdphepglcecdjaaDerX
namespace Go.Proofs.Ytdphepglcecdjaa
open Go.ChangeShapes Go.WideShapes Go.ChangeAt Go.RowKit Gs
set_option linter.unusedVariables false

theorem i64_wf {n : Int} (h : (Lit.int .i64 n).wf = true) : -9223372036854775808 ≤ n ∧ n < 9223372036854775808 := by
  have : -9223372036854775808 ≤ n ∧ n ≤ 9223372036854775807 := by simpa [Lit.wf, IntKind.min, IntKind.max, IntKind.signed, IntKind.bits] using h
  omega
theorem int_may (n : Int) (h0 : -9223372036854775808 ≤ n) (h1 : n < 9223372036854775808) : mayI 8 (.mk 2 (intE n) []) = true := by
  rw [mayI_leaf 8 (.mk 2 (intE n) []) (by show (2 : Int) ≠ 48; omega)]
  show (decide (1 ≤ 8) && (intB (intE n) && decide (([] : List It).length = 0))) = true
  rw [intE_ok n h0 h1]
  rfl
theorem int_bad (b : List Int) (h : intB b = false) : mayI 8 (.mk 2 b []) = false := by
  rw [mayI_leaf 8 (.mk 2 b []) (by show (2 : Int) ≠ 48; omega)]
  show (decide (1 ≤ 8) && (intB b && decide (([] : List It).length = 0))) = false
  rw [h]
  rfl
theorem leaf_wf (b : List Int) (hb : ∀ x ∈ b, 0 ≤ x ∧ x < 256) : (It.mk 2 b []).wf := by
  rw [It.wf]
  exact ⟨⟨by omega, by omega⟩, hb, by rw [wfs]; trivial⟩
theorem leaf_wt (b : List Int) (h : b.length ≤ 100) : (It.mk 2 b []).wt ≤ 100000000 := by
  rw [It.wt, wts]; omega
theorem int_same (a b : Int) (h0 : -9223372036854775808 ≤ a) (h1 : a < 9223372036854775808) (g0 : -9223372036854775808 ≤ b) (g1 : b < 9223372036854775808) : (It.mk 2 (intE a) []).same (.mk 2 (intE b) []) = decide (a = b) := by
  rw [Bool.eq_iff_iff, same_eq]
  simp only [decide_eq_true_eq]
  constructor
  · intro h
    injection h with _ h _
    exact intE_inj h0 h1 g0 g1 h
  · rintro rfl; rfl

theorem asInt_y (z : Int) (ae : List Int) (s : Nat) (hs : ae.length = s) (h8 : s ≤ 8) (hz : 0 ≤ z ∧ z < 256) (hb : ∀ x ∈ ae, 0 ≤ x ∧ x < 256) (hy : intB (z :: ae) = false) (A : Option Addr) (c : Nat) (w : World) (hi : IR w w.heap.size (.mk 2 (z :: ae) []) A c none 0) :
    Calls Try.prog 31 #[.agg #[.int .i64 2, .slice A (ae.length + 1) c, .slice none 0 0]] w fun e w' => e = .returned (.tuple #[.int .i64 0, .int .i64 71]) ∧ Below w.heap.size w w' := by
  have hB : ∀ x ∈ z :: ae, 0 ≤ x ∧ x < 256 := fun x hx => by
    rcases List.mem_cons.1 hx with rfl | hx
    · exact hz
    · exact hb x hx
  have h := AsInt_any (.mk 2 (z :: ae) []) (leaf_wf _ hB) (leaf_wt _ (by simp; omega)) A c none 0 w hi
  have e : asE 2 (.mk 2 (z :: ae) []) = 71 := asE_bad rfl (int_bad _ hy)
  rw [e] at h
  exact h
theorem put_y (z : Int) (ae : List Int) (s : Nat) (hs : ae.length = s) (h8 : s ≤ 8) (hz : 0 ≤ z ∧ z < 256) (hb : ∀ x ∈ ae, 0 ≤ x ∧ x < 256) (hy : intB (z :: ae) = false) (A : Option Addr) (c : Nat) (w : World) (hi : IR w w.heap.size (.mk 2 (z :: ae) []) A c none 0) :
    Calls Try.prog 14 #[.agg #[.int .i64 2, .slice A (ae.length + 1) c, .slice none 0 0]] w fun e w' => (∃ v, e = .returned (.tuple #[v, .int .i64 1])) ∧ Below w.heap.size w w' := by
  have hB : ∀ x ∈ z :: ae, 0 ≤ x ∧ x < 256 := fun x hx => by
    rcases List.mem_cons.1 hx with rfl | hx
    · exact hz
    · exact hb x hx
  have h := Put_any (.mk 2 (z :: ae) []) (leaf_wf _ hB) (leaf_wt _ (by simp; omega)) A c none 0 w hi
  have e : putE (.mk 2 (z :: ae) []) = 1 := by unfold putE; rw [int_bad _ hy]; rfl
  rw [e] at h
  exact h.mono fun e w' ⟨⟨v, h1, _⟩, h2⟩ => ⟨⟨v, h1⟩, h2⟩
theorem far_set {w : World} {h H : Nat} (hH : h + 1 < H) {A : Option Addr} {n c : Nat} {xs : List Int} (n7 : (Value.slice A n c).ownBlock = some h ∨ (Value.slice A n c).ownBlock = some H) (s7 : SI w w.heap.size .u8 A xs) (v : Value) : SI (w.setCell ⟨h + 1, 1, none⟩ v) (w.setCell ⟨h + 1, 1, none⟩ v).heap.size .u8 A xs := by
  refine (s7.set ?_ v).more (by simp)
  rintro ad rfl
  show ad.block ≠ h + 1
  rcases n7 with e | e
  · have := Option.some.inj e; omega
  · have := Option.some.inj e; omega

set_option maxRecDepth 100000 in
set_option maxHeartbeats 8000000 in
theorem ints_walk7 (a b : Int) (more : Bool) (h0 : -9223372036854775808 ≤ a) (h1 : a < 9223372036854775808) (g0 : -9223372036854775808 ≤ b) (g1 : b < 9223372036854775808) (w : World) :
    Calls Try.prog 10 #[.int .i64 a, .int .i64 b, .bool more] w fun e w' => e = .returned (.bool true) ∧ Below w.heap.size w w' := by
  obtain ⟨s1, s8, sf, sn⟩ := sizeI_is a h0 h1
  obtain ⟨s, hs⟩ : ∃ s, sizeI a = s := ⟨_, rfl⟩
  have hla : (intE a).length = s := by rw [intE_len, hs]
  have hlb := intE_len b
  obtain ⟨_, sb8, _, _⟩ := sizeI_is b g0 g1
  have hba := bz_byte a (sizeI a)
  have hbb := bz_byte b (sizeI b)
  rw [hs] at s1 s8 sn
  have P1 := Lib.hid (fun W => Int_k a h0 h1 (intE a) s rfl hla W)
  have P2 := Lib.hid (fun W => Int_k b g0 g1 (intE b) (intE b).length rfl rfl W)
  have PA := Lib.hid (fun A c W (h : IR W W.heap.size (.mk 2 (intE a) []) A c none 0) => AsInt_any (.mk 2 (intE a) []) (leaf_wf _ hba) (leaf_wt _ (by omega)) A c none 0 W h)
  have ea : asE 2 (.mk 2 (intE a) []) = 0 := asE_ok rfl (int_may a h0 h1)
  rw [if_pos ea, ea] at PA
  simp only [It.tag, It.b, It.l, List.length_nil, hla, val_intE a h0 h1] at PA
  have PS := Lib.hid (fun A c B d W (h : IR W W.heap.size (.mk 2 (intE a) []) A c none 0) (h' : IR W W.heap.size (.mk 2 (intE b) []) B d none 0) => same_any (.mk 2 (intE a) []) (leaf_wf _ hba) (.mk 2 (intE b) []) (leaf_wf _ hbb) A c none 0 B d none 0 W h h')
  rw [int_same a b h0 h1 g0 g1] at PS
  simp only [It.tag, It.b, It.l, List.length_nil, hla] at PS
  have hMB := Lib.hid (fun x hx => more_bad h0 h1 x hx)
  have HBA := Lib.hid (show ∀ x ∈ intE a, 0 ≤ x ∧ x < 256 from hba)
  have HLA := Lib.hid hla
  have HN := Lib.hid sn
  have HS18 := Lib.hid (And.intro s1 s8)
  generalize intE b = be at *
  generalize intE a = ae at *
  generalize be.length = lb at *
  clear hla hlb hba hbb sn sf sb8 hs ea h0 h1 g0 g1
  have hab : (a == b) = decide (a = b) := by
    by_cases h : a = b
    · subst h; simp
    · rw [decide_eq_false h]; simpa using h
  have hqs : decide ((s : Int) < 1) = false := decide_eq_false (by omega)
  have hq8 : decide ((8 : Int) < (s : Int)) = false := decide_eq_false (by omega)
  have hqs' : decide (s < 1) = false := decide_eq_false (by omega)
  have hq8' : decide (8 < s) = false := decide_eq_false (by omega)
  generalize decide (a = b) = eqv at *
  have q0 : (eqv != eqv) = false := by cases eqv <;> rfl
  have q00 : (eqv == eqv) = true := by cases eqv <;> rfl
  go_enter Try.func10, Try.ntmps10
  go_wp2_with fail
  refine (live7 _).mono ?_; rintro _ w1 ⟨rfl, bb⟩
  have B1 := Lib.hid bb
  clear bb
  go_wp2_with fail
  refine (P1.out _).mono ?_; rintro _ w2 ⟨⟨A1, c1, rfl, i1⟩, bb⟩
  have bb2 := (Below.refl w2.heap.size w2).alloc (Nat.le_refl _) (.cells #[.int .i64 2, .slice A1 s c1, .slice none 0 0] 25)
  have B2 := Lib.hid (below_on (below_on B1.out bb) bb2)
  have I1 := Lib.hid (i1.on bb2)
  have KX := Lib.hid (Blk.new w2 25 #[.int .i64 2, .slice A1 s c1, .slice none 0 0])
  clear bb bb2 i1
  go_wp2_with fail
  refine (PA.out _ _ _ I1.out).mono ?_; rintro _ w3 ⟨rfl, bb⟩
  have B3 := Lib.hid (below_on B2.out bb)
  have I3 := Lib.hid (I1.out.on bb)
  have K3 := Lib.hid (KX.out.below bb KX.out.lt)
  clear bb
  have k0 := K3.out.cell 0
  have k1 := K3.out.cell 1
  have k2 := K3.out.cell 2
  have hlt := K3.out.lt
  go_wp2_with fail
  have hW : Below w3.heap.size w3 w3.drew := (Below.refl w3.heap.size w3).drew
  go_region_held_law (fun w' => w'.cell? ⟨w2.heap.size, 0, none⟩ = some (.int .i64 2) ∧ w'.cell? ⟨w2.heap.size, 1, none⟩ = some (.slice A1 s c1) ∧ w'.cell? ⟨w2.heap.size, 2, none⟩ = some (.slice none 0 0)) (first | exact ⟨by assumption, by assumption, by assumption⟩ | go_keep)
    (first
      | (go_at_call 23; refine (P2.out _).mono ?_; rintro _ w4 ⟨⟨A2, c2, rfl, i2⟩, bb⟩; have I2 := Lib.hid i2; have hW := below_on hW bb; have n0 := (hW.cell (p := ⟨w2.heap.size, 0, none⟩) hlt).trans k0; have n1 := (hW.cell (p := ⟨w2.heap.size, 1, none⟩) hlt).trans k1; have n2 := (hW.cell (p := ⟨w2.heap.size, 2, none⟩) hlt).trans k2)
      | (go_at_call 20; refine (PS.out _ _ _ _ _ (I3.out.on hW) I2.out).mono ?_; rintro _ w5 ⟨rfl, bb⟩; have hW := below_on hW bb; have n0 := (hW.cell (p := ⟨w2.heap.size, 0, none⟩) hlt).trans k0; have n1 := (hW.cell (p := ⟨w2.heap.size, 1, none⟩) hlt).trans k1; have n2 := (hW.cell (p := ⟨w2.heap.size, 2, none⟩) hlt).trans k2))
  all_goals
    have K5 := Lib.hid (K3.out.below hW hlt)
    have B5 := Lib.hid (below_on B3.out hW)
    have I5 := Lib.hid (I3.out.on hW)
    clear hW n0 n1 n2 k0 k1 k2
    have k0 := K5.out.cell 0
    have k1 := K5.out.cell 1
    have k2 := K5.out.cell 2
    rcases (show s = 1 ∨ ∃ p, s = p + 2 by have := HS18.out; exact if h : s = 1 then .inl h else .inr ⟨s - 2, by omega⟩) with h1 | ⟨p, hp⟩
    · have qs : decide ((1 : Int) < (s : Int)) = false := decide_eq_false (by omega)
      have qs' : decide (1 < s) = false := decide_eq_false (by omega)
      clear h1
      by_cases hneg : a < 0
      · have qn : decide (a < 0) = true := by simp; omega
        cases more with
        | false =>
          have OL := Lib.hid (own_litB w5 [0] (Nat.le_refl _) rfl (by simp))
          have bL := ((Below.refl w5.heap.size w5).alloc (Nat.le_refl _) (.cells #[.int .u8 0] 5)).alloc (by simp) (.cells #[.int .i64 2, .slice (some ⟨w5.heap.size, 0, none⟩) 1 1, .slice none 0 0] 25)
          have OL2 := Lib.hid (OL.out.alloc (.cells #[.int .i64 2, .slice (some ⟨w5.heap.size, 0, none⟩) 1 1, .slice none 0 0] 25))
          have KL := Lib.hid ((Blk.new w5 5 #[.int .u8 0]).alloc (.cells #[.int .i64 2, .slice (some ⟨w5.heap.size, 0, none⟩) 1 1, .slice none 0 0] 25))
          have KY := Lib.hid (Blk.new_at (w5.alloc (.cells #[.int .u8 0] 5)) 25 #[.int .i64 2, .slice (some ⟨w5.heap.size, 0, none⟩) 1 1, .slice none 0 0] (g := w5.heap.size + 1) (by simp))
          have OW := Lib.hid OL2.out
          have bW := Lib.hid bL
          have KW := Lib.hid KY.out
          have hWs : w5.heap.size + 1 < ((w5.alloc (.cells #[.int .u8 0] 5)).alloc (.cells #[.int .i64 2, .slice (some ⟨w5.heap.size, 0, none⟩) 1 1, .slice none 0 0] 25)).heap.size := KW.out.lt
          have HSX := Lib.hid (I5.out.on bW.out).bi
          have KXW := Lib.hid (K5.out.below bW.out K5.out.lt)
          have xw1 := KXW.out.cell 1
          have yw1 := KW.out.cell 1
          have hs8 := HS18.out
          clear bL
          have hL1 : ([0] : List Int).length + s ≤ 1099511627776 := by simp; omega
          have hL2 : w5.heap.size ≤ ((w5.alloc (.cells #[.int .u8 0] 5)).alloc (.cells #[.int .i64 2, .slice (some ⟨w5.heap.size, 0, none⟩) 1 1, .slice none 0 0] 25)).heap.size := by omega
          have hne : (some (w5.heap.size + 1) : Option Nat) ≠ some w5.heap.size := fun e => by have e2 := Option.some.inj e; omega
          have FK := Lib.hid (fun w7 (g7 : ((w5.alloc (.cells #[.int .u8 0] 5)).alloc (.cells #[.int .i64 2, .slice (some ⟨w5.heap.size, 0, none⟩) 1 1, .slice none 0 0] 25)).grownBy w7 (some w5.heap.size)) => KW.out.grown g7 hne)
          have FB := Lib.hid (fun w7 (b7 : Below w5.heap.size ((w5.alloc (.cells #[.int .u8 0] 5)).alloc (.cells #[.int .i64 2, .slice (some ⟨w5.heap.size, 0, none⟩) 1 1, .slice none 0 0] 25)) w7) => (below_on B5.out bW.out).trans (b7.mono B5.out.size))
          go_wp2_with (at_builtin; refine wpList_append_b (by rfl) _ _ (by rfl) w5.heap.size _ [0] (by rfl) OW.out _ _ s _ ae HLA.out (by rfl) HSX.out hL1 hL2 ?_; intro v7 w7 o7 b7 g7 n7; have K7 := Lib.hid (FK.out w7 g7); have B7 := Lib.hid (FB.out w7 b7); obtain ⟨A7, c7, rfl, hc71, hc72, s7, _⟩ := own_sliceB o7; have S7 := Lib.hid s7; have N7 := Lib.hid n7; have C71 := Lib.hid hc71; have C72 := Lib.hid hc72; clear o7 b7 g7 n7 s7 hc71 hc72; have y70 := K7.out.cell 0; have y71 := K7.out.cell 1; have y72 := K7.out.cell 2; have f70 := K7.out.free 0; have f71 := K7.out.free 1; have f72 := K7.out.free 2)
          have B8 := Lib.hid (B7.out.setCell (p := ⟨w5.heap.size + 1, 1, none⟩) (show w.heap.size ≤ w5.heap.size + 1 by have := B5.out.size; omega) (.slice A7 (ae.length + 1) c7))
          go_ret
          exact ⟨rfl, B8.out⟩
        | true =>
          have OL := Lib.hid (own_litB w5 [255] (Nat.le_refl _) rfl (by simp))
          have bL := ((Below.refl w5.heap.size w5).alloc (Nat.le_refl _) (.cells #[.int .u8 255] 5)).alloc (by simp) (.cells #[.int .i64 2, .slice (some ⟨w5.heap.size, 0, none⟩) 1 1, .slice none 0 0] 25)
          have OL2 := Lib.hid (OL.out.alloc (.cells #[.int .i64 2, .slice (some ⟨w5.heap.size, 0, none⟩) 1 1, .slice none 0 0] 25))
          have KL := Lib.hid ((Blk.new w5 5 #[.int .u8 255]).alloc (.cells #[.int .i64 2, .slice (some ⟨w5.heap.size, 0, none⟩) 1 1, .slice none 0 0] 25))
          have KY := Lib.hid (Blk.new_at (w5.alloc (.cells #[.int .u8 255] 5)) 25 #[.int .i64 2, .slice (some ⟨w5.heap.size, 0, none⟩) 1 1, .slice none 0 0] (g := w5.heap.size + 1) (by simp))
          have OW := Lib.hid OL2.out
          have bW := Lib.hid bL
          have KW := Lib.hid KY.out
          have hWs : w5.heap.size + 1 < ((w5.alloc (.cells #[.int .u8 255] 5)).alloc (.cells #[.int .i64 2, .slice (some ⟨w5.heap.size, 0, none⟩) 1 1, .slice none 0 0] 25)).heap.size := KW.out.lt
          have HSX := Lib.hid (I5.out.on bW.out).bi
          have KXW := Lib.hid (K5.out.below bW.out K5.out.lt)
          have xw1 := KXW.out.cell 1
          have yw1 := KW.out.cell 1
          have hs8 := HS18.out
          clear bL
          have hL1 : ([255] : List Int).length + s ≤ 1099511627776 := by simp; omega
          have hL2 : w5.heap.size ≤ ((w5.alloc (.cells #[.int .u8 255] 5)).alloc (.cells #[.int .i64 2, .slice (some ⟨w5.heap.size, 0, none⟩) 1 1, .slice none 0 0] 25)).heap.size := by omega
          have hne : (some (w5.heap.size + 1) : Option Nat) ≠ some w5.heap.size := fun e => by have e2 := Option.some.inj e; omega
          have FK := Lib.hid (fun w7 (g7 : ((w5.alloc (.cells #[.int .u8 255] 5)).alloc (.cells #[.int .i64 2, .slice (some ⟨w5.heap.size, 0, none⟩) 1 1, .slice none 0 0] 25)).grownBy w7 (some w5.heap.size)) => KW.out.grown g7 hne)
          have FB := Lib.hid (fun w7 (b7 : Below w5.heap.size ((w5.alloc (.cells #[.int .u8 255] 5)).alloc (.cells #[.int .i64 2, .slice (some ⟨w5.heap.size, 0, none⟩) 1 1, .slice none 0 0] 25)) w7) => (below_on B5.out bW.out).trans (b7.mono B5.out.size))
          go_wp2_with (at_builtin; refine wpList_append_b (by rfl) _ _ (by rfl) w5.heap.size _ [255] (by rfl) OW.out _ _ s _ ae HLA.out (by rfl) HSX.out hL1 hL2 ?_; intro v7 w7 o7 b7 g7 n7; have K7 := Lib.hid (FK.out w7 g7); have B7 := Lib.hid (FB.out w7 b7); obtain ⟨A7, c7, rfl, hc71, hc72, s7, _⟩ := own_sliceB o7; have S7 := Lib.hid s7; have N7 := Lib.hid n7; have C71 := Lib.hid hc71; have C72 := Lib.hid hc72; clear o7 b7 g7 n7 s7 hc71 hc72; have y70 := K7.out.cell 0; have y71 := K7.out.cell 1; have y72 := K7.out.cell 2; have f70 := K7.out.free 0; have f71 := K7.out.free 1; have f72 := K7.out.free 2)
          have B8 := Lib.hid (B7.out.setCell (p := ⟨w5.heap.size + 1, 1, none⟩) (show w.heap.size ≤ w5.heap.size + 1 by have := B5.out.size; omega) (.slice A7 (ae.length + 1) c7))
          have I8 : IR (w7.setCell ⟨w5.heap.size + 1, 1, none⟩ (.slice A7 (ae.length + 1) c7)) (w7.setCell ⟨w5.heap.size + 1, 1, none⟩ (.slice A7 (ae.length + 1) c7)).heap.size (.mk 2 (255 :: ae) []) A7 c7 none 0 := ir_leaf (far_set hWs N7.out S7.out _) C71.out C72.out
          have K8 : Blk (w7.setCell ⟨w5.heap.size + 1, 1, none⟩ (.slice A7 (ae.length + 1) c7)) (w5.heap.size + 1) 25 #[.int .i64 2, .slice A7 (ae.length + 1) c7, .slice none 0 0] := K7.out.set 1 _
          have hy := hMB.out 255 (by first | rw [if_pos hneg] | rw [if_neg (by omega)])
          have I8 := Lib.hid I8
          have K8 := Lib.hid K8
          refine (asInt_y 255 ae s HLA.out HS18.out.2 (by omega) HBA.out hy A7 c7 _ I8.out).mono ?_; rintro _ w9 ⟨rfl, b9⟩
          have B9 := Lib.hid (below_on B8.out b9)
          have I9 := Lib.hid (I8.out.on b9)
          have K9 := Lib.hid (K8.out.below b9 K8.out.lt)
          clear b9
          have y90 := K9.out.cell 0
          have y91 := K9.out.cell 1
          have y92 := K9.out.cell 2
          go_wp2_with fail
          refine (put_y 255 ae s HLA.out HS18.out.2 (by omega) HBA.out hy A7 c7 _ I9.out).mono ?_; rintro _ w10 ⟨⟨v10, rfl⟩, b10⟩
          have B10 := Lib.hid (below_on B9.out b10)
          go_wp2_with fail
          go_ret
          exact ⟨rfl, B10.out⟩
      · have qn : decide (a < 0) = false := by simp; omega
        cases more with
        | false =>
          have OL := Lib.hid (own_litB w5 [0] (Nat.le_refl _) rfl (by simp))
          have bL := ((Below.refl w5.heap.size w5).alloc (Nat.le_refl _) (.cells #[.int .u8 0] 5)).alloc (by simp) (.cells #[.int .i64 2, .slice (some ⟨w5.heap.size, 0, none⟩) 1 1, .slice none 0 0] 25)
          have OL2 := Lib.hid (OL.out.alloc (.cells #[.int .i64 2, .slice (some ⟨w5.heap.size, 0, none⟩) 1 1, .slice none 0 0] 25))
          have KL := Lib.hid ((Blk.new w5 5 #[.int .u8 0]).alloc (.cells #[.int .i64 2, .slice (some ⟨w5.heap.size, 0, none⟩) 1 1, .slice none 0 0] 25))
          have KY := Lib.hid (Blk.new_at (w5.alloc (.cells #[.int .u8 0] 5)) 25 #[.int .i64 2, .slice (some ⟨w5.heap.size, 0, none⟩) 1 1, .slice none 0 0] (g := w5.heap.size + 1) (by simp))
          have OW := Lib.hid OL2.out
          have bW := Lib.hid bL
          have KW := Lib.hid KY.out
          have hWs : w5.heap.size + 1 < ((w5.alloc (.cells #[.int .u8 0] 5)).alloc (.cells #[.int .i64 2, .slice (some ⟨w5.heap.size, 0, none⟩) 1 1, .slice none 0 0] 25)).heap.size := KW.out.lt
          have HSX := Lib.hid (I5.out.on bW.out).bi
          have KXW := Lib.hid (K5.out.below bW.out K5.out.lt)
          have xw1 := KXW.out.cell 1
          have yw1 := KW.out.cell 1
          have hs8 := HS18.out
          clear bL
          have hL1 : ([0] : List Int).length + s ≤ 1099511627776 := by simp; omega
          have hL2 : w5.heap.size ≤ ((w5.alloc (.cells #[.int .u8 0] 5)).alloc (.cells #[.int .i64 2, .slice (some ⟨w5.heap.size, 0, none⟩) 1 1, .slice none 0 0] 25)).heap.size := by omega
          have hne : (some (w5.heap.size + 1) : Option Nat) ≠ some w5.heap.size := fun e => by have e2 := Option.some.inj e; omega
          have FK := Lib.hid (fun w7 (g7 : ((w5.alloc (.cells #[.int .u8 0] 5)).alloc (.cells #[.int .i64 2, .slice (some ⟨w5.heap.size, 0, none⟩) 1 1, .slice none 0 0] 25)).grownBy w7 (some w5.heap.size)) => KW.out.grown g7 hne)
          have FB := Lib.hid (fun w7 (b7 : Below w5.heap.size ((w5.alloc (.cells #[.int .u8 0] 5)).alloc (.cells #[.int .i64 2, .slice (some ⟨w5.heap.size, 0, none⟩) 1 1, .slice none 0 0] 25)) w7) => (below_on B5.out bW.out).trans (b7.mono B5.out.size))
          go_wp2_with (at_builtin; refine wpList_append_b (by rfl) _ _ (by rfl) w5.heap.size _ [0] (by rfl) OW.out _ _ s _ ae HLA.out (by rfl) HSX.out hL1 hL2 ?_; intro v7 w7 o7 b7 g7 n7; have K7 := Lib.hid (FK.out w7 g7); have B7 := Lib.hid (FB.out w7 b7); obtain ⟨A7, c7, rfl, hc71, hc72, s7, _⟩ := own_sliceB o7; have S7 := Lib.hid s7; have N7 := Lib.hid n7; have C71 := Lib.hid hc71; have C72 := Lib.hid hc72; clear o7 b7 g7 n7 s7 hc71 hc72; have y70 := K7.out.cell 0; have y71 := K7.out.cell 1; have y72 := K7.out.cell 2; have f70 := K7.out.free 0; have f71 := K7.out.free 1; have f72 := K7.out.free 2)
          have B8 := Lib.hid (B7.out.setCell (p := ⟨w5.heap.size + 1, 1, none⟩) (show w.heap.size ≤ w5.heap.size + 1 by have := B5.out.size; omega) (.slice A7 (ae.length + 1) c7))
          have I8 : IR (w7.setCell ⟨w5.heap.size + 1, 1, none⟩ (.slice A7 (ae.length + 1) c7)) (w7.setCell ⟨w5.heap.size + 1, 1, none⟩ (.slice A7 (ae.length + 1) c7)).heap.size (.mk 2 (0 :: ae) []) A7 c7 none 0 := ir_leaf (far_set hWs N7.out S7.out _) C71.out C72.out
          have K8 : Blk (w7.setCell ⟨w5.heap.size + 1, 1, none⟩ (.slice A7 (ae.length + 1) c7)) (w5.heap.size + 1) 25 #[.int .i64 2, .slice A7 (ae.length + 1) c7, .slice none 0 0] := K7.out.set 1 _
          have hy := hMB.out 0 (by first | rw [if_pos hneg] | rw [if_neg (by omega)])
          have I8 := Lib.hid I8
          have K8 := Lib.hid K8
          refine (asInt_y 0 ae s HLA.out HS18.out.2 (by omega) HBA.out hy A7 c7 _ I8.out).mono ?_; rintro _ w9 ⟨rfl, b9⟩
          have B9 := Lib.hid (below_on B8.out b9)
          have I9 := Lib.hid (I8.out.on b9)
          have K9 := Lib.hid (K8.out.below b9 K8.out.lt)
          clear b9
          have y90 := K9.out.cell 0
          have y91 := K9.out.cell 1
          have y92 := K9.out.cell 2
          go_wp2_with fail
          refine (put_y 0 ae s HLA.out HS18.out.2 (by omega) HBA.out hy A7 c7 _ I9.out).mono ?_; rintro _ w10 ⟨⟨v10, rfl⟩, b10⟩
          have B10 := Lib.hid (below_on B9.out b10)
          go_wp2_with fail
          go_ret
          exact ⟨rfl, B10.out⟩
        | true =>
          have OL := Lib.hid (own_litB w5 [255] (Nat.le_refl _) rfl (by simp))
          have bL := ((Below.refl w5.heap.size w5).alloc (Nat.le_refl _) (.cells #[.int .u8 255] 5)).alloc (by simp) (.cells #[.int .i64 2, .slice (some ⟨w5.heap.size, 0, none⟩) 1 1, .slice none 0 0] 25)
          have OL2 := Lib.hid (OL.out.alloc (.cells #[.int .i64 2, .slice (some ⟨w5.heap.size, 0, none⟩) 1 1, .slice none 0 0] 25))
          have KL := Lib.hid ((Blk.new w5 5 #[.int .u8 255]).alloc (.cells #[.int .i64 2, .slice (some ⟨w5.heap.size, 0, none⟩) 1 1, .slice none 0 0] 25))
          have KY := Lib.hid (Blk.new_at (w5.alloc (.cells #[.int .u8 255] 5)) 25 #[.int .i64 2, .slice (some ⟨w5.heap.size, 0, none⟩) 1 1, .slice none 0 0] (g := w5.heap.size + 1) (by simp))
          have OW := Lib.hid OL2.out
          have bW := Lib.hid bL
          have KW := Lib.hid KY.out
          have hWs : w5.heap.size + 1 < ((w5.alloc (.cells #[.int .u8 255] 5)).alloc (.cells #[.int .i64 2, .slice (some ⟨w5.heap.size, 0, none⟩) 1 1, .slice none 0 0] 25)).heap.size := KW.out.lt
          have HSX := Lib.hid (I5.out.on bW.out).bi
          have KXW := Lib.hid (K5.out.below bW.out K5.out.lt)
          have xw1 := KXW.out.cell 1
          have yw1 := KW.out.cell 1
          have hs8 := HS18.out
          clear bL
          have hL1 : ([255] : List Int).length + s ≤ 1099511627776 := by simp; omega
          have hL2 : w5.heap.size ≤ ((w5.alloc (.cells #[.int .u8 255] 5)).alloc (.cells #[.int .i64 2, .slice (some ⟨w5.heap.size, 0, none⟩) 1 1, .slice none 0 0] 25)).heap.size := by omega
          have hne : (some (w5.heap.size + 1) : Option Nat) ≠ some w5.heap.size := fun e => by have e2 := Option.some.inj e; omega
          have FK := Lib.hid (fun w7 (g7 : ((w5.alloc (.cells #[.int .u8 255] 5)).alloc (.cells #[.int .i64 2, .slice (some ⟨w5.heap.size, 0, none⟩) 1 1, .slice none 0 0] 25)).grownBy w7 (some w5.heap.size)) => KW.out.grown g7 hne)
          have FB := Lib.hid (fun w7 (b7 : Below w5.heap.size ((w5.alloc (.cells #[.int .u8 255] 5)).alloc (.cells #[.int .i64 2, .slice (some ⟨w5.heap.size, 0, none⟩) 1 1, .slice none 0 0] 25)) w7) => (below_on B5.out bW.out).trans (b7.mono B5.out.size))
          go_wp2_with (at_builtin; refine wpList_append_b (by rfl) _ _ (by rfl) w5.heap.size _ [255] (by rfl) OW.out _ _ s _ ae HLA.out (by rfl) HSX.out hL1 hL2 ?_; intro v7 w7 o7 b7 g7 n7; have K7 := Lib.hid (FK.out w7 g7); have B7 := Lib.hid (FB.out w7 b7); obtain ⟨A7, c7, rfl, hc71, hc72, s7, _⟩ := own_sliceB o7; have S7 := Lib.hid s7; have N7 := Lib.hid n7; have C71 := Lib.hid hc71; have C72 := Lib.hid hc72; clear o7 b7 g7 n7 s7 hc71 hc72; have y70 := K7.out.cell 0; have y71 := K7.out.cell 1; have y72 := K7.out.cell 2; have f70 := K7.out.free 0; have f71 := K7.out.free 1; have f72 := K7.out.free 2)
          have B8 := Lib.hid (B7.out.setCell (p := ⟨w5.heap.size + 1, 1, none⟩) (show w.heap.size ≤ w5.heap.size + 1 by have := B5.out.size; omega) (.slice A7 (ae.length + 1) c7))
          go_ret
          exact ⟨rfl, B8.out⟩
    · subst hp
      have hlow : ¬ FitsI a (p + 1) := HN.out (p + 1) (by omega) (by omega)
      have qa0 : ¬ a / 2 ^ (8 * (p + 2) - 9) = 0 := fun e => hlow (.inl e)
      have qa1 : ¬ a / 2 ^ (8 * (p + 2) - 9) = -1 := fun e => hlow (.inr e)
      have qb0 : (a / 2 ^ (8 * (p + 2) - 9) == 0) = false := by simpa using qa0
      have qb1 : (a / 2 ^ (8 * (p + 2) - 9) == -1) = false := by simpa using qa1
      have qd0 := decide_eq_false qa0
      have qd1 := decide_eq_false qa1
      have qs : decide ((1 : Int) < ((p + 2 : Nat) : Int)) = true := decide_eq_true (by omega)
      have qs' : decide (1 < p + 2) = true := decide_eq_true (by omega)
      clear qa0 qa1 hlow
      by_cases hneg : a < 0
      · have qn : decide (a < 0) = true := by simp; omega
        cases more with
        | false =>
          have OL := Lib.hid (own_litB w5 [0] (Nat.le_refl _) rfl (by simp))
          have bL := ((Below.refl w5.heap.size w5).alloc (Nat.le_refl _) (.cells #[.int .u8 0] 5)).alloc (by simp) (.cells #[.int .i64 2, .slice (some ⟨w5.heap.size, 0, none⟩) 1 1, .slice none 0 0] 25)
          have OL2 := Lib.hid (OL.out.alloc (.cells #[.int .i64 2, .slice (some ⟨w5.heap.size, 0, none⟩) 1 1, .slice none 0 0] 25))
          have KL := Lib.hid ((Blk.new w5 5 #[.int .u8 0]).alloc (.cells #[.int .i64 2, .slice (some ⟨w5.heap.size, 0, none⟩) 1 1, .slice none 0 0] 25))
          have KY := Lib.hid (Blk.new_at (w5.alloc (.cells #[.int .u8 0] 5)) 25 #[.int .i64 2, .slice (some ⟨w5.heap.size, 0, none⟩) 1 1, .slice none 0 0] (g := w5.heap.size + 1) (by simp))
          have OW := Lib.hid OL2.out
          have bW := Lib.hid bL
          have KW := Lib.hid KY.out
          have hWs : w5.heap.size + 1 < ((w5.alloc (.cells #[.int .u8 0] 5)).alloc (.cells #[.int .i64 2, .slice (some ⟨w5.heap.size, 0, none⟩) 1 1, .slice none 0 0] 25)).heap.size := KW.out.lt
          have HSX := Lib.hid (I5.out.on bW.out).bi
          have KXW := Lib.hid (K5.out.below bW.out K5.out.lt)
          have xw1 := KXW.out.cell 1
          have yw1 := KW.out.cell 1
          have hs8 := HS18.out
          clear bL
          have hL1 : ([0] : List Int).length + (p + 2) ≤ 1099511627776 := by simp; omega
          have hL2 : w5.heap.size ≤ ((w5.alloc (.cells #[.int .u8 0] 5)).alloc (.cells #[.int .i64 2, .slice (some ⟨w5.heap.size, 0, none⟩) 1 1, .slice none 0 0] 25)).heap.size := by omega
          have hne : (some (w5.heap.size + 1) : Option Nat) ≠ some w5.heap.size := fun e => by have e2 := Option.some.inj e; omega
          have FK := Lib.hid (fun w7 (g7 : ((w5.alloc (.cells #[.int .u8 0] 5)).alloc (.cells #[.int .i64 2, .slice (some ⟨w5.heap.size, 0, none⟩) 1 1, .slice none 0 0] 25)).grownBy w7 (some w5.heap.size)) => KW.out.grown g7 hne)
          have FB := Lib.hid (fun w7 (b7 : Below w5.heap.size ((w5.alloc (.cells #[.int .u8 0] 5)).alloc (.cells #[.int .i64 2, .slice (some ⟨w5.heap.size, 0, none⟩) 1 1, .slice none 0 0] 25)) w7) => (below_on B5.out bW.out).trans (b7.mono B5.out.size))
          go_wp2_with (at_builtin; refine wpList_append_b (by rfl) _ _ (by rfl) w5.heap.size _ [0] (by rfl) OW.out _ _ (p + 2) _ ae HLA.out (by rfl) HSX.out hL1 hL2 ?_; intro v7 w7 o7 b7 g7 n7; have K7 := Lib.hid (FK.out w7 g7); have B7 := Lib.hid (FB.out w7 b7); obtain ⟨A7, c7, rfl, hc71, hc72, s7, _⟩ := own_sliceB o7; have S7 := Lib.hid s7; have N7 := Lib.hid n7; have C71 := Lib.hid hc71; have C72 := Lib.hid hc72; clear o7 b7 g7 n7 s7 hc71 hc72; have y70 := K7.out.cell 0; have y71 := K7.out.cell 1; have y72 := K7.out.cell 2; have f70 := K7.out.free 0; have f71 := K7.out.free 1; have f72 := K7.out.free 2)
          have B8 := Lib.hid (B7.out.setCell (p := ⟨w5.heap.size + 1, 1, none⟩) (show w.heap.size ≤ w5.heap.size + 1 by have := B5.out.size; omega) (.slice A7 (ae.length + 1) c7))
          go_ret
          exact ⟨rfl, B8.out⟩
        | true =>
          have OL := Lib.hid (own_litB w5 [255] (Nat.le_refl _) rfl (by simp))
          have bL := ((Below.refl w5.heap.size w5).alloc (Nat.le_refl _) (.cells #[.int .u8 255] 5)).alloc (by simp) (.cells #[.int .i64 2, .slice (some ⟨w5.heap.size, 0, none⟩) 1 1, .slice none 0 0] 25)
          have OL2 := Lib.hid (OL.out.alloc (.cells #[.int .i64 2, .slice (some ⟨w5.heap.size, 0, none⟩) 1 1, .slice none 0 0] 25))
          have KL := Lib.hid ((Blk.new w5 5 #[.int .u8 255]).alloc (.cells #[.int .i64 2, .slice (some ⟨w5.heap.size, 0, none⟩) 1 1, .slice none 0 0] 25))
          have KY := Lib.hid (Blk.new_at (w5.alloc (.cells #[.int .u8 255] 5)) 25 #[.int .i64 2, .slice (some ⟨w5.heap.size, 0, none⟩) 1 1, .slice none 0 0] (g := w5.heap.size + 1) (by simp))
          have OW := Lib.hid OL2.out
          have bW := Lib.hid bL
          have KW := Lib.hid KY.out
          have hWs : w5.heap.size + 1 < ((w5.alloc (.cells #[.int .u8 255] 5)).alloc (.cells #[.int .i64 2, .slice (some ⟨w5.heap.size, 0, none⟩) 1 1, .slice none 0 0] 25)).heap.size := KW.out.lt
          have HSX := Lib.hid (I5.out.on bW.out).bi
          have KXW := Lib.hid (K5.out.below bW.out K5.out.lt)
          have xw1 := KXW.out.cell 1
          have yw1 := KW.out.cell 1
          have hs8 := HS18.out
          clear bL
          have hL1 : ([255] : List Int).length + (p + 2) ≤ 1099511627776 := by simp; omega
          have hL2 : w5.heap.size ≤ ((w5.alloc (.cells #[.int .u8 255] 5)).alloc (.cells #[.int .i64 2, .slice (some ⟨w5.heap.size, 0, none⟩) 1 1, .slice none 0 0] 25)).heap.size := by omega
          have hne : (some (w5.heap.size + 1) : Option Nat) ≠ some w5.heap.size := fun e => by have e2 := Option.some.inj e; omega
          have FK := Lib.hid (fun w7 (g7 : ((w5.alloc (.cells #[.int .u8 255] 5)).alloc (.cells #[.int .i64 2, .slice (some ⟨w5.heap.size, 0, none⟩) 1 1, .slice none 0 0] 25)).grownBy w7 (some w5.heap.size)) => KW.out.grown g7 hne)
          have FB := Lib.hid (fun w7 (b7 : Below w5.heap.size ((w5.alloc (.cells #[.int .u8 255] 5)).alloc (.cells #[.int .i64 2, .slice (some ⟨w5.heap.size, 0, none⟩) 1 1, .slice none 0 0] 25)) w7) => (below_on B5.out bW.out).trans (b7.mono B5.out.size))
          go_wp2_with (at_builtin; refine wpList_append_b (by rfl) _ _ (by rfl) w5.heap.size _ [255] (by rfl) OW.out _ _ (p + 2) _ ae HLA.out (by rfl) HSX.out hL1 hL2 ?_; intro v7 w7 o7 b7 g7 n7; have K7 := Lib.hid (FK.out w7 g7); have B7 := Lib.hid (FB.out w7 b7); obtain ⟨A7, c7, rfl, hc71, hc72, s7, _⟩ := own_sliceB o7; have S7 := Lib.hid s7; have N7 := Lib.hid n7; have C71 := Lib.hid hc71; have C72 := Lib.hid hc72; clear o7 b7 g7 n7 s7 hc71 hc72; have y70 := K7.out.cell 0; have y71 := K7.out.cell 1; have y72 := K7.out.cell 2; have f70 := K7.out.free 0; have f71 := K7.out.free 1; have f72 := K7.out.free 2)
          have B8 := Lib.hid (B7.out.setCell (p := ⟨w5.heap.size + 1, 1, none⟩) (show w.heap.size ≤ w5.heap.size + 1 by have := B5.out.size; omega) (.slice A7 (ae.length + 1) c7))
          have I8 : IR (w7.setCell ⟨w5.heap.size + 1, 1, none⟩ (.slice A7 (ae.length + 1) c7)) (w7.setCell ⟨w5.heap.size + 1, 1, none⟩ (.slice A7 (ae.length + 1) c7)).heap.size (.mk 2 (255 :: ae) []) A7 c7 none 0 := ir_leaf (far_set hWs N7.out S7.out _) C71.out C72.out
          have K8 : Blk (w7.setCell ⟨w5.heap.size + 1, 1, none⟩ (.slice A7 (ae.length + 1) c7)) (w5.heap.size + 1) 25 #[.int .i64 2, .slice A7 (ae.length + 1) c7, .slice none 0 0] := K7.out.set 1 _
          have hy := hMB.out 255 (by first | rw [if_pos hneg] | rw [if_neg (by omega)])
          have I8 := Lib.hid I8
          have K8 := Lib.hid K8
          refine (asInt_y 255 ae (p + 2) HLA.out HS18.out.2 (by omega) HBA.out hy A7 c7 _ I8.out).mono ?_; rintro _ w9 ⟨rfl, b9⟩
          have B9 := Lib.hid (below_on B8.out b9)
          have I9 := Lib.hid (I8.out.on b9)
          have K9 := Lib.hid (K8.out.below b9 K8.out.lt)
          clear b9
          have y90 := K9.out.cell 0
          have y91 := K9.out.cell 1
          have y92 := K9.out.cell 2
          go_wp2_with fail
          refine (put_y 255 ae (p + 2) HLA.out HS18.out.2 (by omega) HBA.out hy A7 c7 _ I9.out).mono ?_; rintro _ w10 ⟨⟨v10, rfl⟩, b10⟩
          have B10 := Lib.hid (below_on B9.out b10)
          go_wp2_with fail
          go_ret
          exact ⟨rfl, B10.out⟩
      · have qn : decide (a < 0) = false := by simp; omega
        cases more with
        | false =>
          have OL := Lib.hid (own_litB w5 [0] (Nat.le_refl _) rfl (by simp))
          have bL := ((Below.refl w5.heap.size w5).alloc (Nat.le_refl _) (.cells #[.int .u8 0] 5)).alloc (by simp) (.cells #[.int .i64 2, .slice (some ⟨w5.heap.size, 0, none⟩) 1 1, .slice none 0 0] 25)
          have OL2 := Lib.hid (OL.out.alloc (.cells #[.int .i64 2, .slice (some ⟨w5.heap.size, 0, none⟩) 1 1, .slice none 0 0] 25))
          have KL := Lib.hid ((Blk.new w5 5 #[.int .u8 0]).alloc (.cells #[.int .i64 2, .slice (some ⟨w5.heap.size, 0, none⟩) 1 1, .slice none 0 0] 25))
          have KY := Lib.hid (Blk.new_at (w5.alloc (.cells #[.int .u8 0] 5)) 25 #[.int .i64 2, .slice (some ⟨w5.heap.size, 0, none⟩) 1 1, .slice none 0 0] (g := w5.heap.size + 1) (by simp))
          have OW := Lib.hid OL2.out
          have bW := Lib.hid bL
          have KW := Lib.hid KY.out
          have hWs : w5.heap.size + 1 < ((w5.alloc (.cells #[.int .u8 0] 5)).alloc (.cells #[.int .i64 2, .slice (some ⟨w5.heap.size, 0, none⟩) 1 1, .slice none 0 0] 25)).heap.size := KW.out.lt
          have HSX := Lib.hid (I5.out.on bW.out).bi
          have KXW := Lib.hid (K5.out.below bW.out K5.out.lt)
          have xw1 := KXW.out.cell 1
          have yw1 := KW.out.cell 1
          have hs8 := HS18.out
          clear bL
          have hL1 : ([0] : List Int).length + (p + 2) ≤ 1099511627776 := by simp; omega
          have hL2 : w5.heap.size ≤ ((w5.alloc (.cells #[.int .u8 0] 5)).alloc (.cells #[.int .i64 2, .slice (some ⟨w5.heap.size, 0, none⟩) 1 1, .slice none 0 0] 25)).heap.size := by omega
          have hne : (some (w5.heap.size + 1) : Option Nat) ≠ some w5.heap.size := fun e => by have e2 := Option.some.inj e; omega
          have FK := Lib.hid (fun w7 (g7 : ((w5.alloc (.cells #[.int .u8 0] 5)).alloc (.cells #[.int .i64 2, .slice (some ⟨w5.heap.size, 0, none⟩) 1 1, .slice none 0 0] 25)).grownBy w7 (some w5.heap.size)) => KW.out.grown g7 hne)
          have FB := Lib.hid (fun w7 (b7 : Below w5.heap.size ((w5.alloc (.cells #[.int .u8 0] 5)).alloc (.cells #[.int .i64 2, .slice (some ⟨w5.heap.size, 0, none⟩) 1 1, .slice none 0 0] 25)) w7) => (below_on B5.out bW.out).trans (b7.mono B5.out.size))
          go_wp2_with (at_builtin; refine wpList_append_b (by rfl) _ _ (by rfl) w5.heap.size _ [0] (by rfl) OW.out _ _ (p + 2) _ ae HLA.out (by rfl) HSX.out hL1 hL2 ?_; intro v7 w7 o7 b7 g7 n7; have K7 := Lib.hid (FK.out w7 g7); have B7 := Lib.hid (FB.out w7 b7); obtain ⟨A7, c7, rfl, hc71, hc72, s7, _⟩ := own_sliceB o7; have S7 := Lib.hid s7; have N7 := Lib.hid n7; have C71 := Lib.hid hc71; have C72 := Lib.hid hc72; clear o7 b7 g7 n7 s7 hc71 hc72; have y70 := K7.out.cell 0; have y71 := K7.out.cell 1; have y72 := K7.out.cell 2; have f70 := K7.out.free 0; have f71 := K7.out.free 1; have f72 := K7.out.free 2)
          have B8 := Lib.hid (B7.out.setCell (p := ⟨w5.heap.size + 1, 1, none⟩) (show w.heap.size ≤ w5.heap.size + 1 by have := B5.out.size; omega) (.slice A7 (ae.length + 1) c7))
          have I8 : IR (w7.setCell ⟨w5.heap.size + 1, 1, none⟩ (.slice A7 (ae.length + 1) c7)) (w7.setCell ⟨w5.heap.size + 1, 1, none⟩ (.slice A7 (ae.length + 1) c7)).heap.size (.mk 2 (0 :: ae) []) A7 c7 none 0 := ir_leaf (far_set hWs N7.out S7.out _) C71.out C72.out
          have K8 : Blk (w7.setCell ⟨w5.heap.size + 1, 1, none⟩ (.slice A7 (ae.length + 1) c7)) (w5.heap.size + 1) 25 #[.int .i64 2, .slice A7 (ae.length + 1) c7, .slice none 0 0] := K7.out.set 1 _
          have hy := hMB.out 0 (by first | rw [if_pos hneg] | rw [if_neg (by omega)])
          have I8 := Lib.hid I8
          have K8 := Lib.hid K8
          refine (asInt_y 0 ae (p + 2) HLA.out HS18.out.2 (by omega) HBA.out hy A7 c7 _ I8.out).mono ?_; rintro _ w9 ⟨rfl, b9⟩
          have B9 := Lib.hid (below_on B8.out b9)
          have I9 := Lib.hid (I8.out.on b9)
          have K9 := Lib.hid (K8.out.below b9 K8.out.lt)
          clear b9
          have y90 := K9.out.cell 0
          have y91 := K9.out.cell 1
          have y92 := K9.out.cell 2
          go_wp2_with fail
          refine (put_y 0 ae (p + 2) HLA.out HS18.out.2 (by omega) HBA.out hy A7 c7 _ I9.out).mono ?_; rintro _ w10 ⟨⟨v10, rfl⟩, b10⟩
          have B10 := Lib.hid (below_on B9.out b10)
          go_wp2_with fail
          go_ret
          exact ⟨rfl, B10.out⟩
        | true =>
          have OL := Lib.hid (own_litB w5 [255] (Nat.le_refl _) rfl (by simp))
          have bL := ((Below.refl w5.heap.size w5).alloc (Nat.le_refl _) (.cells #[.int .u8 255] 5)).alloc (by simp) (.cells #[.int .i64 2, .slice (some ⟨w5.heap.size, 0, none⟩) 1 1, .slice none 0 0] 25)
          have OL2 := Lib.hid (OL.out.alloc (.cells #[.int .i64 2, .slice (some ⟨w5.heap.size, 0, none⟩) 1 1, .slice none 0 0] 25))
          have KL := Lib.hid ((Blk.new w5 5 #[.int .u8 255]).alloc (.cells #[.int .i64 2, .slice (some ⟨w5.heap.size, 0, none⟩) 1 1, .slice none 0 0] 25))
          have KY := Lib.hid (Blk.new_at (w5.alloc (.cells #[.int .u8 255] 5)) 25 #[.int .i64 2, .slice (some ⟨w5.heap.size, 0, none⟩) 1 1, .slice none 0 0] (g := w5.heap.size + 1) (by simp))
          have OW := Lib.hid OL2.out
          have bW := Lib.hid bL
          have KW := Lib.hid KY.out
          have hWs : w5.heap.size + 1 < ((w5.alloc (.cells #[.int .u8 255] 5)).alloc (.cells #[.int .i64 2, .slice (some ⟨w5.heap.size, 0, none⟩) 1 1, .slice none 0 0] 25)).heap.size := KW.out.lt
          have HSX := Lib.hid (I5.out.on bW.out).bi
          have KXW := Lib.hid (K5.out.below bW.out K5.out.lt)
          have xw1 := KXW.out.cell 1
          have yw1 := KW.out.cell 1
          have hs8 := HS18.out
          clear bL
          have hL1 : ([255] : List Int).length + (p + 2) ≤ 1099511627776 := by simp; omega
          have hL2 : w5.heap.size ≤ ((w5.alloc (.cells #[.int .u8 255] 5)).alloc (.cells #[.int .i64 2, .slice (some ⟨w5.heap.size, 0, none⟩) 1 1, .slice none 0 0] 25)).heap.size := by omega
          have hne : (some (w5.heap.size + 1) : Option Nat) ≠ some w5.heap.size := fun e => by have e2 := Option.some.inj e; omega
          have FK := Lib.hid (fun w7 (g7 : ((w5.alloc (.cells #[.int .u8 255] 5)).alloc (.cells #[.int .i64 2, .slice (some ⟨w5.heap.size, 0, none⟩) 1 1, .slice none 0 0] 25)).grownBy w7 (some w5.heap.size)) => KW.out.grown g7 hne)
          have FB := Lib.hid (fun w7 (b7 : Below w5.heap.size ((w5.alloc (.cells #[.int .u8 255] 5)).alloc (.cells #[.int .i64 2, .slice (some ⟨w5.heap.size, 0, none⟩) 1 1, .slice none 0 0] 25)) w7) => (below_on B5.out bW.out).trans (b7.mono B5.out.size))
          go_wp2_with (at_builtin; refine wpList_append_b (by rfl) _ _ (by rfl) w5.heap.size _ [255] (by rfl) OW.out _ _ (p + 2) _ ae HLA.out (by rfl) HSX.out hL1 hL2 ?_; intro v7 w7 o7 b7 g7 n7; have K7 := Lib.hid (FK.out w7 g7); have B7 := Lib.hid (FB.out w7 b7); obtain ⟨A7, c7, rfl, hc71, hc72, s7, _⟩ := own_sliceB o7; have S7 := Lib.hid s7; have N7 := Lib.hid n7; have C71 := Lib.hid hc71; have C72 := Lib.hid hc72; clear o7 b7 g7 n7 s7 hc71 hc72; have y70 := K7.out.cell 0; have y71 := K7.out.cell 1; have y72 := K7.out.cell 2; have f70 := K7.out.free 0; have f71 := K7.out.free 1; have f72 := K7.out.free 2)
          have B8 := Lib.hid (B7.out.setCell (p := ⟨w5.heap.size + 1, 1, none⟩) (show w.heap.size ≤ w5.heap.size + 1 by have := B5.out.size; omega) (.slice A7 (ae.length + 1) c7))
          go_ret
          exact ⟨rfl, B8.out⟩
end Go.Proofs.Ytdphepglcecdjaa
