/- The closures that share hands to what goes through shares. -/
import Derived.Test.YtgboijbnjjmmkaaShareQ
import Derived.Deep.AppendLies
namespace Go.Proofs.Ytgboijbnjjmmkaa
open Go.ChangeShapes Go.WideShapes Go.ChangeAt Go.RowKit Gs
set_option linter.unusedVariables false

theorem step_append_far {P : Program} {w : World} {ops : Array Oper} {o : Oper} {a : Act} {K : Act → World → Prop} {Q : Exit → Act → World → Prop} {E : Prop} (hgd : o.guard = none) (s x : Operand) (t : TypeId)
    (ho : o.op = .call { callee := .builtin .append, args := #[s, x], argTypes := #[t, t] })
    (base : Nat) (e : TypeId) (i : TypeInfo) (z : Value) (size bytes : Nat) (ht : P.underlying t = some (.slice e)) (hi : P.info? e = some i) (hz : i.zero = some z)
    (hsize : i.size = size) (hby : i.bytes = bytes) (hzs : z.cells.size = size) (hsz : 0 < size)
    (v : Value) (n : Nat) (xs : List Value) (hs : a.eval s = v) (hown : w.ownsRow base e size v n xs)
    (B : Nat) (A : Option Addr) (m c : Nat) (news : List Value) (hx : a.eval x = .slice A m c) (hr : Reads w B size A m news) (h1 : ∀ u ∈ news, u.oneCell' = true)
    (h63 : n + m ≤ maxLen) (hbytes : (n + m) * bytes ≤ 140737488355328) (hbase : base ≤ w.heap.size)
    (h : ∀ v' w', w'.ownsRow base e size v' (n + m) (xs ++ news) → Below base w w' → (∀ p : Addr, p.block < w.heap.size → some p.block ≠ v.ownBlock → w'.cell? p = w.cell? p) → K (a.put o.dst v') w') :
    if Region.wanted o (yielded ops a.tmps) = true then Oper.wp P o a w K Q else E := by
  have hw : Region.wanted o (yielded ops a.tmps) = true := by simp [Region.wanted, hgd]
  rw [if_pos hw]
  exact wp_append_any w s x t ho base e i z size bytes ht hi hz hsize hby hzs hsz v n xs hs hown B A m c news hx hr h1 h63 hbytes hbase (fun v' w' h2 h3 _ => h v' w' h2 ((Below.refl _ _).grown h3 hbase (fun k e => own_ge hown k e)) (fun p hp hne => h3.cell_far p hp hne))
theorem own_not {w : World} {B n : Nat} {e : TypeId} {size : Nat} {v : Value} {vs : List Value} (h : w.ownsRow B e size v n vs) {g : Nat} (hg : w.heap.size ≤ g) : some g ≠ v.ownBlock := by
  rcases h.2 with ⟨rfl, _⟩ | ⟨g', cap, cur, rfl, _, hh, _⟩
  · intro e; cases e
  · intro e
    have := (Array.getElem?_eq_some_iff.1 hh).1
    have e' : g = g' := Option.some.inj e
    omega
set_option maxRecDepth 100000 in
set_option maxHeartbeats 4000000 in
theorem takes_pub (v : Value) (p : Int × Int) (hp : 0 ≤ p.2 ∧ p.2 < 18446744073709551616) (xs : List (Int × Int)) (hl : xs.length ≤ 1048576) (B : Nat) (w : World) (hB : B ≤ w.heap.size) (ho : OwnS w B v xs) :
    Calls Try.prog 43 #[v, .agg #[.int .i64 p.1, .int .u64 p.2]] w fun e w' => ∃ v', e = .returned v' ∧ OwnS w' B v' (xs ++ [(p.1, qpow 4 p.2)]) ∧ Below B w w' := by
  obtain ⟨i0, hi, hz0, hz1, hz2⟩ := info_parts Try.info43
  have HI := Lib.hid (And.intro hi (And.intro hz0 (And.intro hz1 hz2)))
  haveI : IsU p.2 := ⟨hp.1, hp.2⟩
  have P4 := Lib.hid (Base_q p.2)
  have HO0 := Lib.hid (show w.ownsRow B 43 2 v xs.length (cells2 xs) from ho)
  have D0 := Lib.hid ((Below.refl B w).alloc hB (.cells #[.int .i64 p.1, .int .u64 p.2] 43))
  clear hi hz0 hz1 hz2 hp
  have k0 : (w.alloc (.cells #[.int .i64 p.1, .int .u64 p.2] 43)).cell? ⟨w.heap.size, 0, none⟩ = some (.int .i64 p.1) := (Blk.new w 43 #[.int .i64 p.1, .int .u64 p.2]).cell 0
  have k1 : (w.alloc (.cells #[.int .i64 p.1, .int .u64 p.2] 43)).cell? ⟨w.heap.size, 1, none⟩ = some (.int .u64 p.2) := (Blk.new w 43 #[.int .i64 p.1, .int .u64 p.2]).cell 1
  clear ho
  go_enter Try.func43, Try.ntmps43
  go_wp2_with fail
  refine wp_named (fun W => W.cell? ⟨w.heap.size, 0, none⟩ = some (.int .i64 p.1) ∧ W.cell? ⟨w.heap.size, 1, none⟩ = some (.int .u64 p.2) ∧ OwnS W B v xs ∧ Below B w W ∧ w.heap.size < W.heap.size) ⟨k0, k1, own_below HO0.out ((Below.refl _ _).alloc (Nat.le_refl _) _), D0.out, by simp⟩ ?_
  clear k0 k1 D0
  rintro W ⟨c0, c1, ho, hD, hz⟩
  have D0 := Lib.hid hD
  have HO2 := Lib.hid (show W.ownsRow B 43 2 v xs.length (cells2 xs) from ho)
  have hBW : B ≤ W.heap.size := by omega
  clear ho hD
  have hd : W.heap.size ≤ W.drew.heap.size := Nat.le_refl _
  go_region_held_law (fun w' => w'.cell? ⟨w.heap.size, 0, none⟩ = some (.int .i64 p.1) ∧ w'.cell? ⟨w.heap.size, 1, none⟩ = some (.int .u64 p.2)) (first | exact ⟨by assumption, by assumption⟩ | go_keep)
    (first
      | (go_at_call 32; refine (P4.out _).mono ?_; rintro e w5 ⟨rfl, b5⟩; have hW := (Below.refl W.heap.size W).drew.trans (b5.mono (by omega)); have k0 := (hW.cell (p := ⟨w.heap.size, 0, none⟩) hz).trans c0; have k1 := (hW.cell (p := ⟨w.heap.size, 1, none⟩) hz).trans c1)
      | (refine step_append_far (by rfl) _ _ _ (by rfl) B 43 i0 (.agg #[.int .i64 0, .int .u64 0]) 2 16 Try.underlying24 HI.out.1 HI.out.2.1 HI.out.2.2.1 HI.out.2.2.2 (by rfl) (by decide) _ xs.length (cells2 xs) (by rfl) (own_below HO2.out (hW.alloc hW.size _)) _ _ 1 _ (cells2 [(p.1, qpow 4 p.2)]) (by rfl) (reads_new (Blk.new_at _ _ _ (by rfl)) 1 rfl) (cells2_one _) (by unfold maxLen; omega) (by omega) (by have := hW.size; simp; omega) ?_; intro v4 w4 ho4 hb4 hfar; have hX := (((hW.mono hBW).alloc (by have := hW.size; omega) _).trans hb4); have k0 := (hfar ⟨w.heap.size, 0, none⟩ (by have := hW.size; simp; omega) (own_not HO0.out (Nat.le_refl _))).trans (((Below.refl w5.heap.size w5).alloc (Nat.le_refl _) _).cell (p := ⟨w.heap.size, 0, none⟩) (by have := hW.size; simp; omega) |>.trans k0); have k1 := (hfar ⟨w.heap.size, 1, none⟩ (by have := hW.size; simp; omega) (own_not HO0.out (Nat.le_refl _))).trans (((Below.refl w5.heap.size w5).alloc (Nat.le_refl _) _).cell (p := ⟨w.heap.size, 1, none⟩) (by have := hW.size; simp; omega) |>.trans k1)))
  have HX := Lib.hid (D0.out.trans hX)
  have HO4 := Lib.hid ho4
  clear hX ho4 hb4 k0 k1 hfar hW c0 c1
  go_wp2_with fail
  go_ret
  refine ⟨v4, by simp, ?_, HX.out⟩
  have h := HO4.out
  rw [← cells2_append] at h
  exact own_s h (by simp) rfl

theorem belowR_any (x : Int) [hx : IsU x] (w : World) :
    Calls Try.prog 41 #[.int .u64 x] w fun e w' => e = .returned (.bool (decide (x < 1152921504606845789))) ∧ w = w' := by
  have x0 := hx.1
  go_enter Try.func41, Try.ntmps41
  go_wp2_with fail
  go_ret
  exact ⟨rfl, rfl⟩

/-- What a closure of weights reads. -/
structure WBox (w : World) (Bw Bi Bp : Nat) (ids : List Int) (pl : Int) : Prop where
  lw : Bw < w.heap.size
  li : Bi < w.heap.size
  lp : Bp < w.heap.size
  cw : w.cell? ⟨Bw, 0, none⟩ = some (.func (.func 75) #[] #[.pointer (some ⟨Bi, 0, none⟩), .pointer (some ⟨Bp, 0, none⟩)])
  cp : w.cell? ⟨Bp, 0, none⟩ = some (.int .i64 pl)
  ci : ∃ A c, w.cell? ⟨Bi, 0, none⟩ = some (.slice A ids.length c) ∧ SI w w.heap.size .i64 A ids
theorem WBox.on {w w' : World} {Bw Bi Bp : Nat} {ids : List Int} {pl : Int} (h : WBox w Bw Bi Bp ids pl) (hb : Below w.heap.size w w') : WBox w' Bw Bi Bp ids pl := by
  have hz := hb.size
  obtain ⟨A, c, hc, hs⟩ := h.ci
  exact ⟨by have := h.lw; omega, by have := h.li; omega, by have := h.lp; omega, (hb.cell (p := ⟨Bw, 0, none⟩) h.lw).trans h.cw, (hb.cell (p := ⟨Bp, 0, none⟩) h.lp).trans h.cp, A, c, (hb.cell (p := ⟨Bi, 0, none⟩) h.li).trans hc, hs.on hb⟩

theorem weigh_box (Bw Bi Bp : Nat) (ids : List Int) (pl : Int) (p0 : 0 ≤ pl) (p1 : pl < 9223372036854775808) (hr : RightI ids) (i : Int) (hi : i ∈ ids) (w : World) (hw : WBox w Bw Bi Bp ids pl) :
    Calls Try.prog 75 #[.int .i64 i, .pointer (some ⟨Bi, 0, none⟩), .pointer (some ⟨Bp, 0, none⟩)] w fun e w' => e = .returned (.int .u64 (wat ids i pl)) ∧ Below w.heap.size w w' := by
  obtain ⟨A, c, hc, hs⟩ := hw.ci
  have ha := right_all hr
  have hl := hr.2.1
  have hi2 := ha i hi
  exact weigh_any Bi Bp A c ids (by omega) (fun x hx => by have := ha x hx; omega) i pl (by omega) (by omega) p0 p1 (fun k hk e => apart_of (right_apart hr) hi hk (fun g => e g.symm)) w hw.li hw.lp hc hw.cp hs
set_option maxRecDepth 100000 in
set_option maxHeartbeats 4000000 in
theorem weighs (Bw Bi Bp : Nat) (ids : List Int) (pl : Int) (p0 : 0 ≤ pl) (p1 : pl < 9223372036854775808) (hr : RightI ids) (o : Int) [IsU o] (p : Int × Int) [IsU p.2] (hi : p.1 ∈ ids) (w : World) (hw : WBox w Bw Bi Bp ids pl) :
    Calls Try.prog 49 #[.int .u64 o, .agg #[.int .i64 p.1, .int .u64 p.2], .pointer (some ⟨Bw, 0, none⟩)] w fun e w' => e = .returned (.int .u64 (radd o (rmul p.2 (wat ids p.1 pl)))) ∧ Below w.heap.size w w' := by
  have P1 := Lib.hid (weigh_box Bw Bi Bp ids pl p0 p1 hr p.1 hi)
  haveI : IsU (wat ids p.1 pl) := IsU.below (wat_rb ids p.1 pl) (by omega)
  have P2 := Lib.hid (MulR_r p.2 (wat ids p.1 pl))
  have P3 := Lib.hid (AddR_r o (rmul p.2 (wat ids p.1 pl)))
  have HW := Lib.hid hw
  have l0 := hw.lw
  have D0 := Lib.hid ((Below.refl w.heap.size w).alloc (Nat.le_refl _) (.cells #[.int .i64 p.1, .int .u64 p.2] 43))
  clear hr hi hw
  generalize wat ids p.1 pl = z at *
  have k0 : (w.alloc (.cells #[.int .i64 p.1, .int .u64 p.2] 43)).cell? ⟨w.heap.size, 0, none⟩ = some (.int .i64 p.1) := (Blk.new w 43 #[.int .i64 p.1, .int .u64 p.2]).cell 0
  have k1 : (w.alloc (.cells #[.int .i64 p.1, .int .u64 p.2] 43)).cell? ⟨w.heap.size, 1, none⟩ = some (.int .u64 p.2) := (Blk.new w 43 #[.int .i64 p.1, .int .u64 p.2]).cell 1
  go_enter Try.func49, Try.ntmps49
  go_wp2_with fail
  refine wp_named (fun W => W.cell? ⟨w.heap.size, 0, none⟩ = some (.int .i64 p.1) ∧ W.cell? ⟨w.heap.size, 1, none⟩ = some (.int .u64 p.2) ∧ Below w.heap.size w W ∧ w.heap.size < W.heap.size) ⟨k0, k1, D0.out, by simp⟩ ?_
  clear k0 k1 D0
  rintro W ⟨c0, c1, hD, hz⟩
  have D0 := Lib.hid hD
  have HW0 := Lib.hid (HW.out.on hD)
  have cw := HW0.out.cw
  have lw : Bw < W.heap.size := HW0.out.lw
  clear hD
  have hd : W.heap.size ≤ W.drew.heap.size := Nat.le_refl _
  go_region_held_law (fun w' => w'.cell? ⟨w.heap.size, 0, none⟩ = some (.int .i64 p.1) ∧ w'.cell? ⟨w.heap.size, 1, none⟩ = some (.int .u64 p.2) ∧ w'.cell? ⟨Bw, 0, none⟩ = some (.func (.func 75) #[] #[.pointer (some ⟨Bi, 0, none⟩), .pointer (some ⟨Bp, 0, none⟩)])) (first | exact ⟨by assumption, by assumption, by assumption⟩ | go_keep)
    (first
      | (go_at_call 75; refine (P1.out _ (HW0.out.on (Below.refl W.heap.size W).drew)).mono ?_; rintro e w5 ⟨rfl, b5⟩; have hW := (Below.refl W.heap.size W).drew.trans (b5.mono (by omega)); have k0 := (hW.cell (p := ⟨w.heap.size, 0, none⟩) hz).trans c0; have k1 := (hW.cell (p := ⟨w.heap.size, 1, none⟩) hz).trans c1; have kw := (hW.cell (p := ⟨Bw, 0, none⟩) lw).trans cw)
      | (go_at_call 28; refine (P2.out _).mono ?_; rintro e w5 ⟨rfl, b5⟩; have hW := hW.trans (b5.mono hW.size); have k0 := (hW.cell (p := ⟨w.heap.size, 0, none⟩) hz).trans c0; have k1 := (hW.cell (p := ⟨w.heap.size, 1, none⟩) hz).trans c1; have kw := (hW.cell (p := ⟨Bw, 0, none⟩) lw).trans cw)
      | (go_at_call 27; refine (P3.out _).mono ?_; rintro e w' ⟨rfl, rfl⟩))
  have HX := Lib.hid (D0.out.trans (hW.mono (by omega)))
  clear hW k0 k1 kw c0 c1 cw
  go_wp2_with fail
  go_ret
  exact ⟨by simp, HX.out⟩

set_option maxRecDepth 100000 in
set_option maxHeartbeats 4000000 in
theorem weighs_q (Bw Bi Bp : Nat) (ids : List Int) (pl : Int) (p0 : 0 ≤ pl) (p1 : pl < 9223372036854775808) (hr : RightI ids) (o : Int) [IsU o] (p : Int × Int) [IsU p.2] (hi : p.1 ∈ ids) (w : World) (hw : WBox w Bw Bi Bp ids pl) :
    Calls Try.prog 82 #[.int .u64 o, .agg #[.int .i64 p.1, .int .u64 p.2], .pointer (some ⟨Bw, 0, none⟩)] w fun e w' => e = .returned (.int .u64 (qmul o (qpow p.2 (wat ids p.1 pl)))) ∧ Below w.heap.size w w' := by
  have P1 := Lib.hid (weigh_box Bw Bi Bp ids pl p0 p1 hr p.1 hi)
  haveI : IsU (wat ids p.1 pl) := IsU.below (wat_rb ids p.1 pl) (by omega)
  have P2 := Lib.hid (Pow_q p.2 (wat ids p.1 pl))
  have P3 := Lib.hid (Mul_q o (qpow p.2 (wat ids p.1 pl)))
  have HW := Lib.hid hw
  have l0 := hw.lw
  have D0 := Lib.hid ((Below.refl w.heap.size w).alloc (Nat.le_refl _) (.cells #[.int .i64 p.1, .int .u64 p.2] 43))
  clear hr hi hw
  generalize wat ids p.1 pl = z at *
  have k0 : (w.alloc (.cells #[.int .i64 p.1, .int .u64 p.2] 43)).cell? ⟨w.heap.size, 0, none⟩ = some (.int .i64 p.1) := (Blk.new w 43 #[.int .i64 p.1, .int .u64 p.2]).cell 0
  have k1 : (w.alloc (.cells #[.int .i64 p.1, .int .u64 p.2] 43)).cell? ⟨w.heap.size, 1, none⟩ = some (.int .u64 p.2) := (Blk.new w 43 #[.int .i64 p.1, .int .u64 p.2]).cell 1
  go_enter Try.func82, Try.ntmps82
  go_wp2_with fail
  refine wp_named (fun W => W.cell? ⟨w.heap.size, 0, none⟩ = some (.int .i64 p.1) ∧ W.cell? ⟨w.heap.size, 1, none⟩ = some (.int .u64 p.2) ∧ Below w.heap.size w W ∧ w.heap.size < W.heap.size) ⟨k0, k1, D0.out, by simp⟩ ?_
  clear k0 k1 D0
  rintro W ⟨c0, c1, hD, hz⟩
  have D0 := Lib.hid hD
  have HW0 := Lib.hid (HW.out.on hD)
  have cw := HW0.out.cw
  have lw : Bw < W.heap.size := HW0.out.lw
  clear hD
  have hd : W.heap.size ≤ W.drew.heap.size := Nat.le_refl _
  go_region_held_law (fun w' => w'.cell? ⟨w.heap.size, 0, none⟩ = some (.int .i64 p.1) ∧ w'.cell? ⟨w.heap.size, 1, none⟩ = some (.int .u64 p.2) ∧ w'.cell? ⟨Bw, 0, none⟩ = some (.func (.func 75) #[] #[.pointer (some ⟨Bi, 0, none⟩), .pointer (some ⟨Bp, 0, none⟩)])) (first | exact ⟨by assumption, by assumption, by assumption⟩ | go_keep)
    (first
      | (go_at_call 75; refine (P1.out _ (HW0.out.on (Below.refl W.heap.size W).drew)).mono ?_; rintro e w5 ⟨rfl, b5⟩; have hW := (Below.refl W.heap.size W).drew.trans (b5.mono (by omega)); have k0 := (hW.cell (p := ⟨w.heap.size, 0, none⟩) hz).trans c0; have k1 := (hW.cell (p := ⟨w.heap.size, 1, none⟩) hz).trans c1; have kw := (hW.cell (p := ⟨Bw, 0, none⟩) lw).trans cw)
      | (go_at_call 31; refine (P2.out _).mono ?_; rintro e w5 ⟨rfl, b5⟩; have hW := hW.trans (b5.mono hW.size); have k0 := (hW.cell (p := ⟨w.heap.size, 0, none⟩) hz).trans c0; have k1 := (hW.cell (p := ⟨w.heap.size, 1, none⟩) hz).trans c1; have kw := (hW.cell (p := ⟨Bw, 0, none⟩) lw).trans cw)
      | (go_at_call 30; refine (P3.out _).mono ?_; rintro e w5 ⟨rfl, b5⟩; have hW := hW.trans (b5.mono hW.size); have k0 := (hW.cell (p := ⟨w.heap.size, 0, none⟩) hz).trans c0; have k1 := (hW.cell (p := ⟨w.heap.size, 1, none⟩) hz).trans c1; have kw := (hW.cell (p := ⟨Bw, 0, none⟩) lw).trans cw))
  have HX := Lib.hid (D0.out.trans (hW.mono (by omega)))
  clear hW k0 k1 kw c0 c1 cw
  go_wp2_with fail
  go_ret
  exact ⟨by simp, HX.out⟩


set_option maxRecDepth 100000 in
theorem all_below (Bw : Nat) (b : Bool) (p : Int × Int) [IsU p.2] (w : World) (hBw : Bw < w.heap.size) (hw : w.cell? ⟨Bw, 0, none⟩ = some (.func (.func 41) #[] #[])) :
    Calls Try.prog 73 #[.bool b, .agg #[.int .i64 p.1, .int .u64 p.2], .pointer (some ⟨Bw, 0, none⟩)] w fun e w' => e = .returned (.bool (b && decide (p.2 < 1152921504606845789))) ∧ Below w.heap.size w w' := by
  have P := Lib.hid (belowR_any p.2)
  have D0 := Lib.hid ((Below.refl w.heap.size w).alloc (Nat.le_refl _) (.cells #[.int .i64 p.1, .int .u64 p.2] 43))
  generalize decide (p.2 < 1152921504606845789) = z at *
  cases b
  · go_enter Try.func73, Try.ntmps73
    go_wp2_with fail
    go_ret
    exact ⟨by simp, D0.out⟩
  · have k0 : (w.alloc (.cells #[.int .i64 p.1, .int .u64 p.2] 43)).cell? ⟨w.heap.size, 1, none⟩ = some (.int .u64 p.2) := (Blk.new w 43 #[.int .i64 p.1, .int .u64 p.2]).cell 1
    have k1 := (D0.out.cell (p := ⟨Bw, 0, none⟩) hBw).trans hw
    go_enter Try.func73, Try.ntmps73
    go_wp2_with fail
    refine (P.out _).mono ?_; rintro e w' ⟨rfl, rfl⟩
    have D1 := Lib.hid D0.out
    go_wp2_with fail
    go_ret
    exact ⟨by simp, D1.out⟩

set_option maxRecDepth 100000 in
theorem all_in (Bw : Nat) (b : Bool) (p : Int × Int) [IsU p.2] (w : World) (hBw : Bw < w.heap.size) (hw : w.cell? ⟨Bw, 0, none⟩ = some (.func (.func 54) #[] #[])) :
    Calls Try.prog 73 #[.bool b, .agg #[.int .i64 p.1, .int .u64 p.2], .pointer (some ⟨Bw, 0, none⟩)] w fun e w' => e = .returned (.bool (b && qin p.2)) ∧ Below w.heap.size w w' := by
  have P := Lib.hid (In_q p.2)
  have D0 := Lib.hid ((Below.refl w.heap.size w).alloc (Nat.le_refl _) (.cells #[.int .i64 p.1, .int .u64 p.2] 43))
  generalize qin p.2 = z at *
  cases b
  · go_enter Try.func73, Try.ntmps73
    go_wp2_with fail
    go_ret
    exact ⟨by simp, D0.out⟩
  · have k0 : (w.alloc (.cells #[.int .i64 p.1, .int .u64 p.2] 43)).cell? ⟨w.heap.size, 1, none⟩ = some (.int .u64 p.2) := (Blk.new w 43 #[.int .i64 p.1, .int .u64 p.2]).cell 1
    have k1 := (D0.out.cell (p := ⟨Bw, 0, none⟩) hBw).trans hw
    go_enter Try.func73, Try.ntmps73
    go_wp2_with fail
    refine (P.out _).mono ?_; rintro e w5 ⟨rfl, b5⟩
    have D1 := Lib.hid (D0.out.trans (b5.mono (by simp))); clear b5
    go_wp2_with fail
    go_ret
    exact ⟨by simp, D1.out⟩
end Go.Proofs.Ytgboijbnjjmmkaa
