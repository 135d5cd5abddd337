/- Contracts of the sieve: what is put into one. -/
import Derived.Test.YtgkdkkppeeikoaaSieveB
import Derived.Test.YtgkdkkppeeikoaaRound
import Derived.StillTailTactics
namespace Go.Proofs.Ytgkdkkppeeikoaa
open Go.ChangeShapes Go.WideShapes Go.ChangeAt Go.RowKit Go.Shelf Gs
set_option linter.unusedVariables false
attribute [local go_sem] Oper.semAt_some

/-- The marks that ranges over a function leave among a function's deferred calls. -/
def marks (Ds : List Nat) : List Deferred := Ds.map fun D => { target := .collected D, args := #[] }
/-- W' is W, but for the blocks Ds. -/
structure Shuts (Ds : List Nat) (W W' : World) : Prop where
  os : W'.os = W.os
  tape : W'.tape = W.tape
  output : W'.output = W.output
  size : W'.heap.size = W.heap.size
  block : ∀ b, b ∉ Ds → W'.heap[b]? = W.heap[b]?
theorem leaves_marks {F : Fence} {n : Nat} {P : Program} {fn : Func} {tmps : Array Value} {R : Ending → World → Prop} : ∀ (Ds : List Nat) (W : World), Ds.Nodup → (∀ D ∈ Ds, W.heap[D]? = some (.deferred (some []))) →
    (∀ W', Shuts Ds W W' → LeavesIn F n P fn tmps R [] .returning W') → LeavesInM F n P fn tmps R (marks Ds) .returning W
  | [], W, _, _, h => h W ⟨rfl, rfl, rfl, rfl, fun _ _ => rfl⟩
  | D :: Ds, W, hn, hD, h => by
    refine ⟨by simp, .inl ⟨D, _, rfl, run_takeDeferred (hD D (List.mem_cons_self ..)), ?_⟩⟩
    have hDs := (List.nodup_cons.1 hn).1
    refine leaves_marks Ds _ (List.nodup_cons.1 hn).2 (fun D' h' => ?_) (fun W' hs => h W' ?_)
    · have hne : D' ≠ D := fun e => hDs (e ▸ h')
      exact (World.putObj_heap_other hne).trans (hD D' (List.mem_cons_of_mem _ h'))
    · refine ⟨hs.os, hs.tape, hs.output, by rw [hs.size]; simp, fun b hb => ?_⟩
      rw [List.mem_cons, not_or] at hb
      exact (hs.block b hb.2).trans (World.putObj_heap_other hb.1)
theorem Shuts.grown {Ds : List Nat} {a W W' : World} {row : Option Nat} (h : Shuts Ds W W') (hg : a.grownBy W row) (hD : ∀ D ∈ Ds, a.heap.size ≤ D) : a.grownBy W' row :=
  ⟨h.os.trans hg.os, h.tape.trans hg.tape, h.output.trans hg.output, by rw [h.size]; exact hg.size, fun i hi hne => (h.block i (fun hm => by have := hD i hm; omega)).trans (hg.block i hi hne)⟩
theorem Shuts.below {Ds : List Nat} {B : Nat} {a W W' : World} (h : Shuts Ds W W') (hb : Below B a W) (hD : ∀ D ∈ Ds, B ≤ D) : Below B a W' :=
  ⟨h.os.trans hb.os, h.tape.trans hb.tape, h.output.trans hb.output, by rw [h.size]; exact hb.size, fun i hi => (h.block i (fun hm => by have := hD i hm; omega)).trans (hb.block i hi)⟩
theorem Shuts.blk {Ds : List Nat} {W W' : World} {g : Nat} {t : TypeId} {cs : Array Value} (h : Shuts Ds W W') (hD : ∀ D ∈ Ds, W.heap[D]? = some (.deferred (some []))) (hb : Blk W g t cs) : Blk W' g t cs := by
  refine (h.block g (fun hm => ?_)).trans hb
  have := hD g hm
  unfold Blk at hb
  rw [hb] at this
  cases this
theorem Shuts.own {Ds : List Nat} {W W' : World} {base : Nat} {e : TypeId} {size n : Nat} {v : Value} {xs : List Value} (h : Shuts Ds W W') (hD : ∀ D ∈ Ds, W.heap[D]? = some (.deferred (some []))) (ho : W.ownsRow base e size v n xs) : W'.ownsRow base e size v n xs := by
  rcases ho.2 with ⟨rfl, h0⟩ | ⟨g, cap, cur, rfl, hb, hg, hnc, hcm, hcs, htake⟩
  · exact ⟨ho.1, .inl ⟨rfl, h0⟩⟩
  · refine ⟨ho.1, .inr ⟨g, cap, cur, rfl, hb, (h.block g (fun hm => ?_)).trans hg, hnc, hcm, hcs, htake⟩⟩
    have := hD g hm
    rw [hg] at this
    cases this

theorem grown_of_below {a w : World} (h : Below a.heap.size a w) (row : Option Nat) : a.grownBy w row := ⟨h.os, h.tape, h.output, h.size, fun i hi _ => h.block i hi⟩
/-- What is known of the worlds in which bytes are put in: the sieve in its box, the answer's box, the row of bytes, and the marks. -/
def PI (w : World) (base g len cap : Nat) (bits hashes salt : Int) (Ds : List Nat) (Bk : List Int) (W : World) : Prop :=
  Blk W w.heap.size 26 #[.int .i64 bits, .int .i64 hashes, .int .i64 salt, .slice (some ⟨g, 0, none⟩) len cap] ∧ Blk W (w.heap.size + 1) 26 #[.int .i64 0, .int .i64 0, .int .i64 0, .slice none 0 0] ∧ W.ownsRow base 5 1 (.slice (some ⟨g, 0, none⟩) len cap) len (Bk.map (Value.int .u8)) ∧ w.grownBy W (some g) ∧ (∀ D ∈ Ds, W.heap[D]? = some (.deferred (some [])))
section
variable {w W W' : World} {base g len cap : Nat} {bits hashes salt : Int} {Ds : List Nat} {Bk : List Int}
theorem PI.keep (h : PI w base g len cap bits hashes salt Ds Bk W) {B : Nat} (hB : w.heap.size ≤ B) (hD : ∀ D ∈ Ds, D < B) {row : Option Nat} (hg : W.grownBy W' row) (hr : ∀ r, row = some r → B ≤ r ∧ ∃ o : Obj, W.heap[r]? = some o ∧ o.isCells = false) : PI w base g len cap bits hashes salt Ds Bk W' := by
  obtain ⟨h1, h2, h3, h4, h5⟩ := h
  have hne : ∀ {b : Nat} {t : TypeId} {cs : Array Value}, Blk W b t cs → some b ≠ row := fun {b t cs} hb e => by
    obtain ⟨_, o, ho, hc⟩ := hr b e.symm
    unfold Blk at hb
    rw [hb] at ho
    cases ho
    simp [Obj.isCells] at hc
  have hlt := h3.lt g rfl
  refine ⟨h1.grown hg (hne h1), h2.grown hg (hne h2), h3.kept hg (.inr (fun e => ?_)), ⟨hg.os.trans h4.os, hg.tape.trans h4.tape, hg.output.trans h4.output, Nat.le_trans h4.size hg.size, fun i hi hne' => ?_⟩, fun D hd => ?_⟩
  · obtain ⟨_, o, ho, hc⟩ := hr g (by rw [← e]; rfl)
    rcases h3.2 with ⟨e', _⟩ | ⟨g', cap', cur, e', _, hg', _⟩
    · cases e'
    · cases e'
      rw [hg'] at ho
      cases ho
      simp [Obj.isCells] at hc
  · refine (hg.block i (Nat.lt_of_lt_of_le hi h4.size) (fun e => ?_)).trans (h4.block i hi hne')
    have := (hr i e.symm).1
    omega
  · have hDl := (Array.getElem?_eq_some_iff.1 (h5 D hd)).1
    refine (hg.block D hDl (fun e => ?_)).trans (h5 D hd)
    have := (hr D e.symm).1
    have := hD D hd
    omega
theorem PI.below (h : PI w base g len cap bits hashes salt Ds Bk W) (hb : Below W.heap.size W W') : PI w base g len cap bits hashes salt Ds Bk W' := by
  obtain ⟨h1, h2, h3, h4, h5⟩ := h
  refine ⟨h1.below hb h1.lt, h2.below hb h2.lt, own_below h3 hb, ⟨hb.os.trans h4.os, hb.tape.trans h4.tape, hb.output.trans h4.output, Nat.le_trans h4.size hb.size, fun i hi hne' => (hb.block i (Nat.lt_of_lt_of_le hi h4.size)).trans (h4.block i hi hne')⟩, fun D hd => (hb.block D (Array.getElem?_eq_some_iff.1 (h5 D hd)).1).trans (h5 D hd)⟩
theorem PI.store (h : PI w base g len cap bits hashes salt Ds Bk W) (hgw : g < w.heap.size) (q : Nat) (v : Int) : PI w base g len cap bits hashes salt Ds (Bk.set q v) (W.setCell ⟨g, q, none⟩ (.int .u8 v)) := by
  obtain ⟨h1, h2, h3, h4, h5⟩ := h
  have hs := h3.stored q (.int .u8 v)
  rw [← List.map_set] at hs
  refine ⟨h1.other (by simp; omega) _, h2.other (by simp; omega) _, hs.1, ⟨h4.os, h4.tape, h4.output, Nat.le_trans h4.size hs.2.size, fun i hi hne' => (hs.2.block i (Nat.lt_of_lt_of_le hi h4.size) hne').trans (h4.block i hi hne')⟩, fun D hd => ?_⟩
  have hD := h5 D hd
  refine (hs.2.block D (Array.getElem?_eq_some_iff.1 hD).1 (fun e => ?_)).trans hD
  cases e
  rcases h3.2 with ⟨e', _⟩ | ⟨g', cap', cur, e', _, hg', _⟩
  · cases e'
  · cases e'
    rw [hg'] at hD
    cases hD
theorem PI.put (h : PI w base g len cap bits hashes salt Ds Bk W) (hgw : g < w.heap.size) (hB : IsBy Bk) (p q : Nat) (hq : p / 8 = q) : PI w base g len cap bits hashes salt Ds (setB Bk p) (W.setCell ⟨g, q, none⟩ (.int .u8 (Go.bits .or .u8 (Bk[q]?.getD 0) (bitOf p)))).drew := by
  have hb := at_by hB q
  have hp := bitOf_bound p
  rw [u8_or _ _ hb.1 hb.2 (by omega) hp.2]
  have := (h.store hgw q (orB (Bk[q]?.getD 0) (bitOf p))).below ((Below.refl _ _).drew)
  subst hq
  exact this
theorem KP.set {n₀ Bs Bn : Nat} (W : World) {a : Addr} (hn : n₀ ≤ a.block) (h1 : Bs ≠ a.block) (h2 : Bn ≠ a.block) (v : Value) : KP n₀ Bs Bn W (W.setCell a v).drew :=
  ⟨((Below.refl _ _).setCell hn v).drew, Below.heap_setCell W a v Bs h1, Below.heap_setCell W a v Bn h2⟩
theorem PI.answer (h : PI w base g len cap bits hashes salt Ds Bk W) (hgw : g < w.heap.size) (x y z u : Value) :
    Blk ((((W.setCell ⟨w.heap.size + 1, 0, none⟩ x).setCell ⟨w.heap.size + 1, 1, none⟩ y).setCell ⟨w.heap.size + 1, 2, none⟩ z).setCell ⟨w.heap.size + 1, 3, none⟩ u) (w.heap.size + 1) 26 #[x, y, z, u] ∧
    ((((W.setCell ⟨w.heap.size + 1, 0, none⟩ x).setCell ⟨w.heap.size + 1, 1, none⟩ y).setCell ⟨w.heap.size + 1, 2, none⟩ z).setCell ⟨w.heap.size + 1, 3, none⟩ u).ownsRow base 5 1 (.slice (some ⟨g, 0, none⟩) len cap) len (Bk.map (Value.int .u8)) ∧
    w.grownBy ((((W.setCell ⟨w.heap.size + 1, 0, none⟩ x).setCell ⟨w.heap.size + 1, 1, none⟩ y).setCell ⟨w.heap.size + 1, 2, none⟩ z).setCell ⟨w.heap.size + 1, 3, none⟩ u) (some g) ∧
    (∀ D ∈ Ds, ((((W.setCell ⟨w.heap.size + 1, 0, none⟩ x).setCell ⟨w.heap.size + 1, 1, none⟩ y).setCell ⟨w.heap.size + 1, 2, none⟩ z).setCell ⟨w.heap.size + 1, 3, none⟩ u).heap[D]? = some (.deferred (some []))) := by
  obtain ⟨h1, h2, h3, h4, h5⟩ := h
  have far : ∀ (V : World) (i : Nat) (o : Nat) (v : Value), i ≠ w.heap.size + 1 → (V.setCell ⟨w.heap.size + 1, o, none⟩ v).heap[i]? = V.heap[i]? := fun V i o v hi => Below.heap_setCell V ⟨w.heap.size + 1, o, none⟩ v i hi
  have far4 : ∀ i, i ≠ w.heap.size + 1 → ((((W.setCell ⟨w.heap.size + 1, 0, none⟩ x).setCell ⟨w.heap.size + 1, 1, none⟩ y).setCell ⟨w.heap.size + 1, 2, none⟩ z).setCell ⟨w.heap.size + 1, 3, none⟩ u).heap[i]? = W.heap[i]? := fun i hi => by
    rw [far _ i 3 u hi, far _ i 2 z hi, far _ i 1 y hi, far _ i 0 x hi]
  have hz : ((((W.setCell ⟨w.heap.size + 1, 0, none⟩ x).setCell ⟨w.heap.size + 1, 1, none⟩ y).setCell ⟨w.heap.size + 1, 2, none⟩ z).setCell ⟨w.heap.size + 1, 3, none⟩ u).heap.size = W.heap.size := by simp [World.setCell]
  refine ⟨(((h2.set 0 x).set 1 y).set 2 z).set 3 u, ?_, ⟨h4.os, h4.tape, h4.output, by rw [hz]; exact h4.size, fun i hi hne => (far4 i (by omega)).trans (h4.block i hi hne)⟩, fun D hd => (far4 D (fun e => ?_)).trans (h5 D hd)⟩
  · have ne : (Value.slice (some ⟨g, 0, none⟩) len cap).ownBlock ≠ some (w.heap.size + 1) := by simp [Value.ownBlock]; omega
    exact ownsRow_setCell_other (ownsRow_setCell_other (ownsRow_setCell_other (ownsRow_setCell_other h3 ne _) ne _) ne _) ne _
  · have hD := h5 D hd
    rw [e] at hD
    unfold Blk at h2
    rw [h2] at hD
    cases hD
theorem PI.cell (h : PI w base g len cap bits hashes salt Ds Bk W) {q : Nat} (hq : q < len) : W.cell? ⟨g, q, none⟩ = some (.int .u8 (Bk[q]?.getD 0)) ∧ W.frozen? ⟨g, q, none⟩ = false := by
  have hl : Bk.length = len := by have := h.2.2.1.1; simpa using this
  have hc := h.2.2.1.cellAt q (by omega)
  rw [List.getElem?_map, List.getElem?_eq_getElem (by omega)] at hc
  rw [List.getElem?_eq_getElem (by omega)]
  exact ⟨hc, h.2.2.1.frozenAt q⟩
end
theorem rights_take (l : List Int) (k : Nat) (hk : k < l.length) : rights (l.take (k + 1)) = (rights (l.take k) && rightN l[k]) := by
  unfold rights
  rw [List.take_succ_eq_append_getElem hk, List.all_append]
  simp
theorem rights_false {l : List Int} {k : Nat} (hk : k < l.length) (h : rightN l[k] = false) : rights l = false := by
  unfold rights
  rw [List.all_eq_false]
  exact ⟨l[k], List.getElem_mem hk, by rw [h]; simp⟩
theorem pls_take (bits hashes salt : Int) (l : List Int) (k : Nat) (hk : k < l.length) : pls bits hashes salt (l.take (k + 1)) = pls bits hashes salt (l.take k) ++ pl bits hashes salt l[k] := by
  rw [List.take_succ_eq_append_getElem hk, pls_append, pls_one]
theorem pl_range (bits hashes salt n : Int) : (List.range hashes.toNat).map (place bits salt n) = pl bits hashes salt n := rfl
/-- What package sieve tells of numbers that are put in. -/
def PutPost (bits hashes salt : Int) (base g len cap : Nat) (B l : List Int) (w : World) (e : Ending) (w' : World) : Prop :=
  w.grownBy w' (some g) ∧ ((rights l = true ∧ e = .returned (.tuple #[svV bits hashes salt (some ⟨g, 0, none⟩) len cap, .int .i64 0]) ∧ w'.ownsRow base 5 1 (.slice (some ⟨g, 0, none⟩) len cap) len ((putB B (pls bits hashes salt l)).map (Value.int .u8))) ∨
    (rights l = false ∧ e = .returned (.tuple #[svV 0 0 0 none 0 0, .int .i64 1])))

set_option maxRecDepth 100000 in
set_option maxHeartbeats 8000000 in
theorem putAll_any (bits hashes salt : Int) (hm : mayN bits hashes salt = true) (g len cap base : Nat) (B : List Int) (hB : IsBy B) (hl : (len : Int) = bits / 8) (L : Option Addr) (cl : Nat) (l : List Int) (hll : l.length ≤ 1000000) (w : World)
    (hrow : w.ownsRow base 5 1 (.slice (some ⟨g, 0, none⟩) len cap) len (B.map (Value.int .u8))) (hL : SI w w.heap.size .i64 L l) (hne : ∀ ad, L = some ad → 0 < l.length → ad.block ≠ g) :
    Calls Try.prog 19 #[svV bits hashes salt (some ⟨g, 0, none⟩) len cap, .slice L l.length cl] w (PutPost bits hashes salt base g len cap B l w) := by
  have HL := Lib.hid hL
  have HM := Lib.hid hm
  have HNE := Lib.hid hne
  have HBy := Lib.hid hB
  have hgw := (hrow.lt g rfl).2
  have hmb := (mayN_iff.1 hm).1
  have hlen : 8 * len = bits.toNat := by omega
  have hlen1 : len ≤ 1024 := by omega
  have HBL := Lib.hid (show B.length = len by have := hrow.1; simpa using this)
  have HI0 := Lib.hid (show PI w base g len cap bits hashes salt [] (putB B (pls bits hashes salt (l.take 0))) ((w.alloc (.cells #[.int .i64 bits, .int .i64 hashes, .int .i64 salt, .slice (some ⟨g, 0, none⟩) len cap] 26)).alloc (.cells #[.int .i64 0, .int .i64 0, .int .i64 0, .slice none 0 0] 26)) from
    ⟨(Blk.new_at _ _ _ rfl).alloc _, Blk.new_at _ _ _ (by simp), (hrow.alloc _).alloc _, grown_of_below (((Below.refl _ _).alloc (Nat.le_refl _) _).alloc (by simp) _) _, fun D hd => absurd hd (by simp)⟩)
  have hpos : 0 < bits := by omega
  clear hL hm hne hB hrow hl
  refine (callsIn_wide (n := 5)).1 ?_
  refine callsIn_of_wp_marks Try.func19 rfl trivial ?_ rfl
  simp only [Try.ntmps19, List.size_toArray, List.length_cons, List.length_nil, Nat.reduceAdd, Nat.reduceSub, Array.replicate_succ, Array.replicate_zero, List.push_toArray, List.append_toArray, List.nil_append, List.cons_append]
  gi_wp2_with fail
  refine wpIn_loop (fun a W => ∃ (k : Nat) (Ds : List Nat) (u7 u8 u12 u13 u14 u15 u16 u17 u18 u19 u20 u21 u22 u23 u24 u25 u26 u27 u28 u29 u30 u31 u32 u33 : Value), (k ≤ l.length ∧ rights (l.take k) = true ∧ Ds.Nodup ∧ (∀ D ∈ Ds, w.heap.size ≤ D) ∧ PI w base g len cap bits hashes salt Ds (putB B (pls bits hashes salt (l.take k))) W) ∧ a = { tmps := #[svV bits hashes salt (some ⟨g, 0, none⟩) len cap, .slice L l.length cl, .pointer (some ⟨w.heap.size, 0, none⟩), undef, .pointer (some ⟨w.heap.size + 1, 0, none⟩), .int .i64 0, undef, u7, u8, .slice L l.length cl, .int .i64 l.length, .int .i64 (k : Int), u12, u13, u14, u15, u16, u17, u18, u19, u20, u21, u22, u23, u24, u25, u26, u27, u28, u29, u30, u31, u32, u33, undef], defers := marks Ds }) (fun a _ => l.length - (intOf (a.tmps.getD 11 undef)).toNat) ?_ ?_
  · exact ⟨0, [], undef, undef, undef, undef, undef, undef, undef, undef, undef, undef, undef, undef, undef, undef, undef, undef, undef, undef, undef, undef, undef, undef, undef, undef, ⟨by omega, rfl, List.nodup_nil, fun D hd => absurd hd (by simp), HI0.out⟩, rfl⟩
  rintro a W ⟨k, Ds, u7, u8, u12, u13, u14, u15, u16, u17, u18, u19, u20, u21, u22, u23, u24, u25, u26, u27, u28, u29, u30, u31, u32, u33, ⟨hk, hrt, hnd, hDs, hPI⟩, rfl⟩
  have HP := Lib.hid hPI
  have HRT := Lib.hid hrt
  have HND := Lib.hid hnd
  have HDS := Lib.hid hDs
  clear hPI hrt hnd hDs
  by_cases hlt : k < l.length
  · obtain ⟨ad, rfl, hb, hc⟩ := HL.out k hlt
    have hcW : W.cell? (ad.add k) = some (.int .i64 (l[k]?.getD 0)) := (World.cell?_of_block (HP.out.2.2.2.1.block (ad.add k).block (by rw [block_of_add]; exact hb) (by rw [block_of_add]; exact fun e => HNE.out ad rfl (by omega) (by injection e)))).trans hc
    rw [List.getElem?_eq_getElem hlt] at hcW
    simp only [Option.getD_some] at hcW
    obtain ⟨n, hn⟩ : ∃ n, l[k] = n := ⟨_, rfl⟩
    have HN := Lib.hid hn
    rw [hn] at hcW
    clear hc hn
    have HR := Lib.hid (right_any n)
    gi_wp2_with fail
    refine ⟨trivial, ?_⟩
    refine (callsIn_wide.2 (HR.out _)).mono ?_
    rintro e w' ⟨rfl, rfl⟩
    by_cases hr : rightN n = true
    · rw [hr]
      have HRN := Lib.hid hr
      clear hr
      obtain ⟨p0, p1, p2, p3⟩ := HP.out.1.facts4
      gi_wp2_with fail
      refine ⟨trivial, ?_⟩
      refine (placesF_in _ _ _ _ _ _ _ _ _).mono ?_
      rintro e W2 ⟨rfl, hW2⟩
      have hb2 : Below W.heap.size W W2 := by rw [hW2]; exact nb1 _ _ _
      have hBs : Blk W2 W.heap.size 26 #[.int .i64 bits, .int .i64 hashes, .int .i64 salt, .slice (some ⟨g, 0, none⟩) len cap] := by rw [hW2]; exact (Blk.new_at _ _ _ rfl).alloc _
      have hBn : Blk W2 (W.heap.size + 1) 3 #[.int .i64 n] := by rw [hW2]; exact Blk.new_at _ _ _ (by simp)
      have hz2 : W2.heap.size = W.heap.size + 1 + 1 := by rw [hW2]; simp
      have hP2 := HP.out.below hb2
      have hDlt : ∀ D ∈ Ds, D < W2.heap.size := fun D hd => by have := (Array.getElem?_eq_some_iff.1 (hP2.2.2.2.2 D hd)).1; exact this
      have hw2 : w.heap.size ≤ W2.heap.size := hP2.2.2.2.1.size
      have HP2 := Lib.hid hP2
      have HDL := Lib.hid hDlt
      have HW := Lib.hid hW2
      have HBS := Lib.hid hBs
      have HBN := Lib.hid hBn
      have HZ2 := Lib.hid hz2
      clear hP2 hDlt hW2 hBs hBn hz2 hb2 p0 p1 p2 p3 hcW
      gi_wp2_with fail
      refine wpIn_rangeFunc_ownG rfl (by omega) (gf := 28) (lb := #[.pointer (some ⟨W.heap.size, 0, none⟩), .pointer (some ⟨W.heap.size + 1, 0, none⟩)]) rfl trivial (enters_of Try.func28 (by kernel_rfl) rfl)
        (places_stops _ (by omega) W.heap.size (W.heap.size + 1) 0 bits hashes salt n _ HM.out HRN.out W2 (Nat.zero_le _) HBS.out HBN.out) KP.trans (KP.put (Nat.zero_le _) (by rw [HZ2.out]; omega) (by rw [HZ2.out]; omega)) (Below.refl _ _) (fun _ => rfl)
        (fun pre W' => PI w base g len cap bits hashes salt Ds (putB (putB B (pls bits hashes salt (l.take k))) (pre.map (place bits salt n))) W')
        (fun _ _ _ => False)
        (fun s X Y row hs hg hr => PI.keep hs hw2 HDL.out hg hr)
        (fun _ _ _ _ _ hs _ _ => hs)
        HP2.out
        (fun x => { tmps := #[svV bits hashes salt (some ⟨g, 0, none⟩) len cap, .slice (some ad) l.length cl, .pointer (some ⟨w.heap.size, 0, none⟩), undef, .pointer (some ⟨w.heap.size + 1, 0, none⟩), .int .i64 0, undef, .int .i64 n, .int .i64 (place bits salt n x : Int), .slice (some ad) l.length cl, .int .i64 l.length, .int .i64 (k : Int), .bool true, .pointer (some (ad.add k)), .int .i64 n, .int .i64 n, .bool true, .bool false, u18, .agg #[.int .i64 bits, .int .i64 hashes, .int .i64 salt, .slice (some ⟨g, 0, none⟩) len cap], .int .i64 n, .func (.func 28) #[] #[.pointer (some ⟨W.heap.size, 0, none⟩), .pointer (some ⟨W.heap.size + 1, 0, none⟩)], .int .i64 (place bits salt n x : Int), u23, u24, u25, u26, u27, u28, u29, u30, u31, u32, u33, undef], defers := [] }) ?assign ?body ?done ?stop
      case assign =>
        intro lr x W3 K hK
        gi_wp2
        exact hK
      case stop =>
        rintro D c pre W3 _ _ h _
        exact h.elim
      case done =>
        rintro D ys W4 hD rfl hI4 hK
        have hI4' : PI w base g len cap bits hashes salt Ds (putB B (pls bits hashes salt (l.take (k + 1)))) W4 := by
          rw [pls_take _ _ _ _ _ hlt, putB_append, HN.out]
          exact hI4
        have HI4 := Lib.hid hI4'
        have HK := Lib.hid hK
        have HD := Lib.hid hD
        clear hI4 hI4' hK hD
        gi_wp2_with fail
        refine ⟨⟨k + 1, D :: Ds, _, _, _, _, _, _, _, _, _, _, _, _, _, _, _, _, _, _, _, _, _, _, _, _, ⟨by omega, by rw [rights_take l k hlt, HRT.out, HN.out, HRN.out]; rfl, List.nodup_cons.2 ⟨fun h => by have := HDL.out D h; have := HD.out; omega, HND.out⟩, fun D' h => ?_, HI4.out.1, HI4.out.2.1, HI4.out.2.2.1, HI4.out.2.2.2.1, fun D' h => ?_⟩, rfl⟩, by simp [intOf]; omega⟩
        · rcases List.mem_cons.1 h with rfl | h
          · have := HD.out; omega
          · exact HDS.out D' h
        · rcases List.mem_cons.1 h with rfl | h
          · exact HK.out
          · exact HI4.out.2.2.2.2 D' h
      case body =>
        rintro lr pre x W3 hI3 hlt3
        have HI3 := Lib.hid hI3
        clear hI3
        obtain ⟨p, hp⟩ : ∃ p, place bits salt n x = p := ⟨_, rfl⟩
        have hplt : p < bits.toNat := by rw [← hp]; exact place_lt _ _ _ _ hpos
        have HPX := Lib.hid hp
        simp only [hp]
        clear hp
        obtain ⟨q, hq⟩ : ∃ q, p / 8 = q := ⟨_, rfl⟩
        have hq8 : (p : Int) / 8 = (q : Int) := by omega
        have hql : q < len := by omega
        obtain ⟨c0, f0⟩ := HI3.out.cell hql
        obtain ⟨s0, s1, s2, s3⟩ := HI3.out.1.facts4
        have hp0 : (0 : Int) ≤ (p : Int) := by omega
        have hq0 : (0 : Int) ≤ (q : Int) := by omega
        have hqli : (q : Int) < (len : Int) := by omega
        have hqt : ((q : Int)).toNat = q := by omega
        have hwq : IntKind.i64.wrap (q : Int) = (q : Int) := IntWalk.i64_in _ (by omega)
        have HBT := Lib.hid (bit_any p (by omega))
        have hww : w.heap.size ≤ W.heap.size := HP.out.2.2.2.1.size
        gi_wp2_with fail
        refine wpIn_round_still_tail 10 (by kernel_rfl) (by kernel_rfl) (by kernel_rfl) ?_
        simp only [List.take_succ_cons, List.take_zero, List.drop_succ_cons, List.drop_zero]
        repeat still_step
        still_call ((HBT.out _).mono fun _ _ h => ⟨h.1, h.2.symm⟩)
        repeat still_step
        refine wpStill_nil ?_
        change wpListIn _ _ _ _ _ _ _ W3.drew
        gi_wp2_with fail
        refine ⟨((KeepsOthers.setCell _ _ _).trans (KeepsOthers.drew _)).from _, KP.set _ (Nat.zero_le _) (by simp only []; omega) (by simp only []; omega) _, ?_⟩
        have hfin := HI3.out.put hgw (putB_by _ (putB_by _ HBy.out)) p q hq
        have heq : setB (putB (putB B (pls bits hashes salt (l.take k))) (pre.map (place bits salt n))) p = putB (putB B (pls bits hashes salt (l.take k))) ((pre ++ [x]).map (place bits salt n)) := by
          rw [List.map_append, putB_append, List.map_cons, List.map_nil, HPX.out]; rfl
        rw [heq] at hfin
        exact hfin
    · have hr' : rightN n = false := by simpa using hr
      rw [hr']
      have HRN := Lib.hid hr'
      obtain ⟨r0, r1, r2, r3⟩ := HP.out.2.1.facts4
      have f0 := HP.out.2.1.free 0
      have f1 := HP.out.2.1.free 1
      have f2 := HP.out.2.1.free 2
      have f3 := HP.out.2.1.free 3
      clear hr hr'
      gi_wp2_with fail
      obtain ⟨a1, a2, a3, a4⟩ := HP.out.answer hgw (.int .i64 0) (.int .i64 0) (.int .i64 0) (.slice none 0 0)
      refine leaves_marks Ds _ HND.out a4 (fun W' hs => ?_)
      obtain ⟨d0, d1, d2, d3⟩ := (hs.blk a4 a1).facts4
      refine ⟨.tuple #[svV 0 0 0 none 0 0, .int .i64 1], by simp [results, Try.results19, go_sem, d0, d1, d2, d3], hs.grown a3 HDS.out, .inr ⟨rights_false hlt (by rw [HN.out]; exact HRN.out), rfl⟩⟩
  · obtain rfl : k = l.length := by omega
    obtain ⟨p0, p1, p2, p3⟩ := HP.out.1.facts4
    obtain ⟨r0, r1, r2, r3⟩ := HP.out.2.1.facts4
    have f0 := HP.out.2.1.free 0
    have f1 := HP.out.2.1.free 1
    have f2 := HP.out.2.1.free 2
    have f3 := HP.out.2.1.free 3
    gi_wp2_with fail
    obtain ⟨a1, a2, a3, a4⟩ := HP.out.answer hgw (.int .i64 bits) (.int .i64 hashes) (.int .i64 salt) (.slice (some ⟨g, 0, none⟩) len cap)
    rw [List.take_length] at HRT a2
    refine leaves_marks Ds _ HND.out a4 (fun W' hs => ?_)
    obtain ⟨d0, d1, d2, d3⟩ := (hs.blk a4 a1).facts4
    refine ⟨.tuple #[svV bits hashes salt (some ⟨g, 0, none⟩) len cap, .int .i64 0], by simp [results, Try.results19, go_sem, d0, d1, d2, d3], hs.grown a3 HDS.out, .inl ⟨HRT.out, rfl, hs.own a4 a2⟩⟩
end Go.Proofs.Ytgkdkkppeeikoaa
