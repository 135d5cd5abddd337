/- An item's bytes: the program's own. -/
import Derived.Test.YteafbfhojhpbgaaDerH
namespace Go.Proofs.Yteafbfhojhpbgaa
open Go.ChangeShapes Go.WideShapes Go.ChangeAt Go.RowKit Gs
set_option linter.unusedVariables false

theorem one_u8' (xs : List Int) : ∀ u ∈ xs.map (Value.int .u8), u.oneCell' = true := by
  intro u hu
  obtain ⟨z, _, rfl⟩ := List.mem_map.1 hu
  rfl
/-- Bytes behind bytes that a call has made. -/
theorem wpList_append_b {w : World} {ops : Array Oper} {rest : List Oper} {o : Oper} {a : Act} {Q : Exit → Act → World → Prop} (hgd : o.guard = none) (s x : Operand)
    (ho : o.op = .call { callee := .builtin .append, args := #[s, x], argTypes := #[22, 22] })
    (base : Nat) (v : Value) (xs : List Int) (hs : a.eval s = v) (hown : OwnB w base v xs)
    (B : Nat) (A : Option Addr) (m c : Nat) (ys : List Int) (hm : ys.length = m) (hx : a.eval x = .slice A m c) (hr : SI w B .u8 A ys)
    (h40 : xs.length + m ≤ 1099511627776) (hbase : base ≤ w.heap.size)
    (h : ∀ v' w', OwnB w' base v' (xs ++ ys) → Below base w w' → w.grownBy w' v.ownBlock → (v'.ownBlock = v.ownBlock ∨ v'.ownBlock = some w.heap.size) → wpList Try.prog ops Q rest (a.put o.dst v') w') : wpList Try.prog ops Q (o :: rest) a w := by
  subst hm
  obtain ⟨i0, hi, hz0, hz1, hz2⟩ := info_parts Try.info5
  refine wpList_append_any (P := Try.prog) w hgd s x 22 ho base 5 i0 (.int .u8 0) 1 1 Try.underlying22 hi hz0 hz1 hz2 rfl (by decide) v xs.length (xs.map (Value.int .u8)) hs hown B A ys.length c (ys.map (Value.int .u8)) hx (reads_si hr) (one_u8' _) (by unfold maxLen; omega) (by omega) hbase ?_
  intro v' w' h2 h3 h4
  refine h v' w' ?_ ((Below.refl base w).grown h3 hbase (fun g e => own_ge hown g e)) h3 h4
  rw [← List.map_append] at h2
  exact own_b h2 (by simp) rfl
theorem IR.more {w : World} {B B' : Nat} {x : It} {Ab Al : Option Addr} {cb cl : Nat} (h : IR w B x Ab cb Al cl) (hB : B ≤ B') : IR w B' x Ab cb Al cl :=
  ⟨h.bl, h.bm, h.bi.more hB, h.ll, h.lm, fun j hj => (h.li j hj).keep_more (fun _ _ => rfl) (fun b hb => by omega)⟩
theorem IS.more {w : World} {B B' : Nat} {A : Option Addr} {l : List It} (h : IS w B A l) (hB : B ≤ B') : IS w B' A l := fun j hj => (h j hj).keep_more (fun _ _ => rfl) (fun b hb => by omega)
theorem own_lt {w : World} {B e size n : Nat} {v : Value} {xs : List Value} (h : w.ownsRow B e size v n xs) : ∀ k, v.ownBlock = some k → k < w.heap.size := by
  intro k hk
  rcases h.2 with ⟨rfl, _⟩ | ⟨g, cap, cur, rfl, hb, hg, _⟩
  · simp [Value.ownBlock] at hk
  · simp [Value.ownBlock] at hk
    subst hk
    exact (Array.getElem?_eq_some_iff.1 hg).1

theorem si_one_at (w : World) (t : TypeId) (fr : Nat × Nat) (z : Int) {g : Nat} (hg : g = w.heap.size) : SI (w.alloc (.cells #[.int .u8 z] t fr)) (g + 1) .u8 (some ⟨g, 0, none⟩) [z] := by
  subst hg
  have h := si_lit w t fr [z]
  rw [show (w.alloc (.cells (([z] : List Int).map (Value.int .u8)).toArray t fr)).heap.size = w.heap.size + 1 by simp] at h
  exact h

/-- What is told of an item's bytes behind others. -/
def PutOf (x : It) : Prop := ∀ (base : Nat) (v : Value) (xs : List Int) (Ab : Option Addr) (cb : Nat) (Al : Option Addr) (cl : Nat) (w : World), OwnB w base v xs → base ≤ w.heap.size → xs.length + 2 * x.wt ≤ 1000000000 → IR w base x Ab cb Al cl →
  Calls Try.prog 45 #[v, .agg #[.int .i64 x.tag, .slice Ab x.b.length cb, .slice Al x.l.length cl]] w fun e w' => (∃ v', e = .returned v' ∧ OwnB w' base v' (xs ++ x.enc)) ∧ Below base w w'

theorem wts_take (l : List It) (k : Nat) (h : k < l.length) : wts (l.take k) + l[k].wt ≤ wts l := by
  have e : l = l.take (k + 1) ++ l.drop (k + 1) := (List.take_append_drop _ l).symm
  have h1 : wts (l.take (k + 1)) = wts (l.take k) + l[k].wt := by
    rw [List.take_succ_eq_append_getElem h, wts_append]
    simp [wts]
  conv => rhs; rw [e, wts_append, h1]
  omega
theorem put_len (x : It) (k : Nat) (h : k < x.l.length) : 4 + x.b.length + (encs (x.l.take k)).length + 2 * x.l[k].wt ≤ 2 * x.wt := by
  have h1 := wts_take x.l k h
  have h2 : (encs (x.l.take k)).length ≤ 2 * wts (x.l.take k) := encs_wt (fun y _ => enc_wt y)
  have h3 := wt_is x
  omega
theorem below_le {B : Nat} {w w' : World} (h : Below w.heap.size w w') (hB : B ≤ w.heap.size) : Below B w w' := h.mono hB

set_option maxRecDepth 100000 in
set_option maxHeartbeats 8000000 in
theorem put_from (x : It) (hx : x.wt ≤ 100000000) (IH : ∀ y ∈ x.l, PutOf y) : PutOf x := by
  intro base v xs Ab cb Al cl w hown hbase hxl hi
  have HPL := Lib.hid (put_len x)
  have hcw := cont_wt x
  have hce := cont_is x
  have h3 := lenB_le x.cont
  have hencw := enc_wt x
  have hwl : ∀ y ∈ x.l, y.wt ≤ 100000000 := fun y hy => by have := wt_child hy; omega
  have PC := Lib.hid (fun W (h : IR W W.heap.size x Ab cb Al cl) => contentOf_any x hx Ab cb Al cl W h)
  have PL := Lib.hid (fun W => lengthOf_any x.cont (by omega) W)
  have HI := Lib.hid hi
  have HIH := Lib.hid IH
  have HE := Lib.hid (enc_is x)
  have HO := Lib.hid hown
  have hbl := hi.bl
  obtain ⟨hb0, hl0⟩ : x.b.length ≤ 200000000 ∧ (encs x.l).length ≤ 200000000 := by omega
  have HB0 := Lib.hid hb0
  have HL0 := Lib.hid hl0
  have HLB := Lib.hid h3
  have HTk := Lib.hid (fun k => encs_take_le x.l k)
  have HC := Lib.hid (fun k (h : k < x.l.length) => encs_take x.l k h)
  have HCe := Lib.hid hce
  obtain ⟨m, hm⟩ : ∃ m, x.b.length = m := ⟨_, rfl⟩
  obtain ⟨n, hn⟩ : ∃ n, x.l.length = n := ⟨_, rfl⟩
  rw [hm, hn] at PC ⊢
  have HM := Lib.hid hm
  have HN := Lib.hid hn
  have hm8 : m ≤ 200000000 := by omega
  have hnn : n ≤ 9223372036854775807 := by have := hi.ll; have := hi.lm; unfold maxLen at this; omega
  clear hi IH hcw hce h3 hencw hown hbl hb0 hl0 hm hn hwl hx
  have D0 := Lib.hid ((Below.refl w.heap.size w).alloc (Nat.le_refl _) (.cells #[.int .i64 x.tag, .slice Ab m cb, .slice Al n cl] 25))
  have K0 := Lib.hid (Blk.new w 25 #[.int .i64 x.tag, .slice Ab m cb, .slice Al n cl])
  have hne : v.ownBlock ≠ some w.heap.size := fun e => by have := own_lt HO.out _ e; omega
  have HNE := Lib.hid hne
  clear hne
  have k0 := K0.out.cell 0
  go_enter Try.func45, Try.ntmps45
  have hxl2 := hxl
  have hwt := wt_is x
  go_wp2_with (at_builtin; refine wpList_append_b rfl _ _ rfl base _ xs rfl ((own_below HO.out D0.out).alloc _) _ _ 1 1 [x.tag % 256] rfl rfl (si_one_at _ _ _ (x.tag % 256) (by simp)) (by omega) (by simp; omega) ?_; intro v1 w1 o1 b1 g1 n1; have HO1 := Lib.hid o1; have HB1 := Lib.hid b1; have HN1 := Lib.hid n1; have K1 := Lib.hid ((K0.out.alloc (.cells #[.int .u8 (x.tag % 256)] 5)).grown g1 (fun e => HNE.out e.symm)); have k10 := K1.out.cell 0; have k11 := K1.out.cell 1; have k12 := K1.out.cell 2; clear o1 b1 g1 n1)
  have BX1 := Lib.hid (((D0.out.alloc D0.out.size (.cells #[.int .u8 (x.tag % 256)] 5)).mono hbase).trans HB1.out)
  have hz1 : base ≤ w1.heap.size := by have := BX1.out.size; omega
  have HNE1 := Lib.hid (show v1.ownBlock ≠ some w.heap.size from fun e => by
    rcases HN1.out with h | h
    · exact HNE.out (h ▸ e)
    · rw [h] at e; injection e with e; simp at e; omega)
  clear k0 K0 D0 HN1 HB1 HNE k10 k11 k12
  refine (PC.out _ ((HI.out.below BX1.out).more hz1)).mono ?_; rintro _ w2 ⟨rfl, b⟩
  have B2 := Lib.hid b
  clear b
  go_wp2_with fail
  refine (PL.out _).mono ?_; rintro _ w3 ⟨⟨v3, rfl, ho⟩, b⟩
  obtain ⟨A3, c3, rfl, q1, q2, hs3, _⟩ := own_sliceB ho
  have B3 := Lib.hid (below_on B2.out b)
  have HS3 := Lib.hid hs3
  have hz3 : base ≤ w3.heap.size := by have := B3.out.size; omega
  have K3 := Lib.hid (K1.out.below B3.out K1.out.lt)
  have HO3 := Lib.hid (own_below HO1.out B3.out)
  have BX3 := Lib.hid (BX1.out.trans (B3.out.mono hz1))
  have HLb := HLB.out
  clear b ho q1 q2 hs3 B2 K1 HO1 BX1
  go_wp2_with (at_builtin; first
    | (refine wpList_append_b rfl _ _ rfl base _ (xs ++ [x.tag % 256]) rfl HO3.out _ _ _ _ (lenB x.cont) rfl rfl HS3.out (by simp; omega) hz3 ?_; intro v4 w4 o1 b1 g1 n1; have HO4 := Lib.hid o1; have BX4 := Lib.hid (BX3.out.trans b1); have HN4 := Lib.hid n1; have K4 := Lib.hid (K3.out.grown g1 (fun e => HNE1.out e.symm)); have k11 := K4.out.cell 1; clear o1 b1 g1 n1)
    | (have T1 : base ≤ w4.heap.size := (by have := BX4.out.size; omega)
       have T2 := (HI.out.below BX4.out).bi
       have T3 : ((xs ++ [x.tag % 256]) ++ lenB x.cont).length + m ≤ 1099511627776 := (by simp; omega)
       refine wpList_append_b rfl _ _ rfl base _ ((xs ++ [x.tag % 256]) ++ lenB x.cont) rfl HO4.out _ _ _ _ x.b HM.out rfl T2 T3 T1 ?_
       intro v5 w5 o1 b1 g1 n1
       have BX5 := Lib.hid (BX4.out.trans b1)
       have HNE4 : v4.ownBlock ≠ some w.heap.size := fun e => by
         rcases HN4.out with h | h
         · exact HNE1.out (h ▸ e)
         · rw [h] at e
           have e2 := Option.some.inj e
           have := K3.out.lt
           omega
       have K5 := Lib.hid (K4.out.grown g1 (fun e => HNE4 e.symm))
       have k12 := K5.out.cell 2
       have HO5 := Lib.hid o1
       clear o1 b1 g1 n1 k11 T1 T2 T3 HNE4))
  clear k12 K5 K4 K3 HNE1 HN4 HO4 HO3 BX4 BX3 HS3 B3 PC PL
  go_loopw [0, 25] (fun b i wr => ∃ k : Nat, k ≤ n ∧ i = .int .i64 k ∧ OwnB wr base b (((xs ++ [x.tag % 256]) ++ lenB x.cont ++ x.b) ++ encs (x.l.take k)) ∧ Below base w wr) (fun _ i _ => n - (intOf i).toNat)
  case atStart => exact ⟨0, by omega, rfl, by rw [List.take_zero]; simpa [encs] using HO5.out, BX5.out⟩
  case round =>
    obtain ⟨k, hk, rfl, ho, hb⟩ := hrel
    have HO := Lib.hid ho
    have HB := Lib.hid hb
    have hz := hb.size
    clear ho hb
    by_cases hlt : k < n
    · have hkl : k < x.l.length := by rw [HN.out]; exact hlt
      obtain ⟨ad, hAl, had, Ab', cb', Al', cl', c0, c1, c2, hi⟩ := (HI.out.below HB.out).li.at_ k hkl
      have hbw : base ≤ wr.heap.size := by omega
      have hpl := HPL.out k hkl
      have hmx := HM.out
      have P := Lib.hid (HIH.out x.l[k] (List.getElem_mem hkl) base _ _ Ab' cb' Al' cl' _ (own_below HO.out ((Below.refl wr.heap.size wr).alloc (Nat.le_refl _) (.cells #[.int .i64 x.l[k].tag, .slice Ab' x.l[k].b.length cb', .slice Al' x.l[k].l.length cl'] 25))) (by simp; omega) (by simp; omega) (hi.below ((Below.refl base wr).alloc hbw _)))
      have HC2 := Lib.hid (HC.out k hkl)
      rw [List.append_assoc, ← HC2.out] at P
      have B1 := Lib.hid ((Below.refl base wr).alloc hbw (.cells #[.int .i64 x.l[k].tag, .slice Ab' x.l[k].b.length cb', .slice Al' x.l[k].l.length cl'] 25))
      clear hi hpl hmx
      subst hAl
      generalize x.l[k].tag = y1 at *
      generalize x.l[k].b.length = y2 at *
      generalize x.l[k].l.length = y3 at *
      go_wp2_with fail
      refine P.out.mono ?_; rintro _ w6 ⟨⟨v6, rfl, ho6⟩, b6⟩
      have HO6 := Lib.hid ho6
      have B6 := Lib.hid (HB.out.trans (B1.out.trans b6))
      clear b6 ho6 c0 c1 c2
      go_wp2_with fail
      go_roundw
      case rel => exact ⟨k + 1, by omega, by go_num, HO6.out, B6.out⟩
      case measure => simp [intOf]; omega
    · obtain rfl : n = k := by omega
      have HA := Lib.hid (show ((xs ++ [x.tag % 256]) ++ lenB x.cont ++ x.b) ++ encs (x.l.take n) = xs ++ x.enc by
        rw [List.take_of_length_le (by rw [HN.out]; omega), HE.out, HCe.out]
        simp [List.append_assoc])
      go_wp2_with fail
      go_ret
      exact ⟨⟨_, rfl, by have h := HO.out; rwa [HA.out] at h⟩, HB.out⟩
end Go.Proofs.Yteafbfhojhpbgaa
