/- Contracts of the hash: the hash of bytes. -/
import Derived.Test.YtippfhlljlfcnaaHashB
namespace Go.Proofs.Ytippfhlljlfcnaa
open Go.ChangeShapes Go.WideShapes Go.ChangeAt Go.RowKit Go.Shelf Gs
set_option linter.unusedVariables false
attribute [local go_sem] Oper.semAt_some

theorem wpIn_named {F : Fence} {n : Nat} {P : Program} {c : Code} {K : Exit → Act → World → Prop} {a : Act} {W : World} (Q : World → Prop) (hQ : Q W) (h : ∀ w2, Q w2 → Code.wpIn F n P c K a w2) : Code.wpIn F n P c K a W := h W hQ

theorem callsIn_named {F : Fence} {n : Nat} {P : Program} {f : FuncId} {args : Array Value} {R : Ending → World → Prop} {W : World} (Q : World → Prop) (hQ : Q W) (h : ∀ w2, Q w2 → CallsIn F n P f args w2 R) : CallsIn F n P f args W R := h W hQ

theorem blk_own {β : Type} (B : Nat) (t : TypeId) (f : β → Array Value) : Own (fun s W => Blk W B t (f s)) := fun s X Y row hs hg hrow =>
  (hg.block B hs.lt (fun e' => by obtain ⟨o, ho, hc⟩ := hrow B e'.symm; rw [show X.heap[B]? = _ from hs] at ho; cases ho; cases hc)).trans hs
theorem si_own {β : Type} (B : Nat) (k : IntKind) (A : Option Addr) (xs : List Int) : Own (fun (_ : β) W => SI W B k A xs) := fun s X Y row hs hg hrow j hj => by
  obtain ⟨ad, e, hb, hc⟩ := hs j hj
  exact ⟨ad, e, hb, cell_kept hc hg hrow⟩
theorem keeps_below {W W' : World} (h : Below W.heap.size W W') : KeepsOthers W W' := ⟨h.size, fun k o hk _ => (h.block k (Array.getElem?_eq_some_iff.1 hk).1).trans hk⟩
theorem kb_below {W W' : World} {n₀ Bs : Nat} (h : Below W.heap.size W W') (hn : n₀ ≤ W.heap.size) (hb : Bs < W.heap.size) : KB n₀ Bs W W' := ⟨h.mono hn, h.block Bs hb⟩
theorem kb_set {W W' : World} {n₀ Bs : Nat} (h : KB n₀ Bs W W') {a : Addr} (hn : n₀ ≤ a.block) (hb : Bs ≠ a.block) (v : Value) : KB n₀ Bs W (W'.setCell a v) := ⟨h.1.setCell hn v, (Below.heap_setCell W' a v Bs hb).trans h.2⟩

theorem Blk.put {w : World} {g : Nat} {t : TypeId} {cs : Array Value} (h : Blk w g t cs) {l : Nat} (hl : g ≠ l) (o : Obj) : Blk (w.putObj l o) g t cs := ((grownBy_putObj' w l o).block g h.lt (fun e => hl (by cases e; rfl))).trans h

theorem own_slice2 {w : World} {B : Nat} {v : Value} {xs : List Int} (h : OwnU w B v xs) : ∃ A c, v = .slice A xs.length c ∧ xs.length ≤ c ∧ c ≤ maxLen ∧ SI w w.heap.size .u64 A xs ∧ ∀ ad, A = some ad → B ≤ ad.block := by
  obtain ⟨A, c, rfl, h1, h2, h3⟩ := own_slice h
  refine ⟨A, c, rfl, h1, h2, h3, fun ad e => ?_⟩
  subst e
  exact own_ge h _ rfl
theorem SI.set {w : World} {B : Nat} {k : IntKind} {A : Option Addr} {xs : List Int} (h : SI w B k A xs) {p : Addr} (hp : ∀ ad, A = some ad → ad.block ≠ p.block) (v : Value) : SI (w.setCell p v) B k A xs := fun j hj => by
  obtain ⟨ad, e, hb, hc⟩ := h j hj
  exact ⟨ad, e, hb, cell_far hc (by rw [block_of_add]; exact hp ad e)⟩

set_option maxRecDepth 100000 in
set_option maxHeartbeats 2000000 in
theorem Sum_any (A : Option Addr) (c : Nat) (xs : List Int) (hx : ∀ x ∈ xs, 0 ≤ x ∧ x < 256) (hl : xs.length ≤ 70368744177664) (hcap : xs.length ≤ c) (w : World) (hs : SI w w.heap.size .u8 A xs) :
    Calls Try.prog 68 #[.slice A xs.length c] w fun e w' => e = .returned (.agg #[.int .u64 (hst xs).1, .int .u64 (hst xs).2.1]) ∧ Below w.heap.size w w' := by
  have HX := Lib.hid hx
  have HS := Lib.hid hs
  clear hx hs
  refine (callsIn_wide (n := 6)).1 ?_
  refine callsIn_of_wp_marks Try.func68 rfl trivial ?_ rfl
  simp only [Try.ntmps68, List.size_toArray, List.length_cons, List.length_nil, Nat.reduceAdd, Nat.reduceSub, Array.replicate_succ, Array.replicate_zero, List.push_toArray, List.append_toArray, List.nil_append, List.cons_append]
  have HK : Hid (∃ s : S3, U3 s ∧ s = (if xs.length = 0 then hmix (0, 0, 0) else (0, 0, (xs.length : Int))) ∧ hst xs = habs (fof xs) s (((fof xs).length + 1) / 2)) := by
    refine ⟨_, ?_, rfl, ?_⟩
    · by_cases h : xs.length = 0
      · rw [if_pos h]; exact (hmix_el _).u3
      · rw [if_neg h]; exact ⟨⟨by simp, by simp⟩, ⟨by simp, by simp⟩, by simp, by simp; omega⟩
    · unfold hst
      by_cases h : xs.length = 0
      · rw [if_pos h, if_pos h, fof_length, h]; rfl
      · rw [if_neg h, if_neg h]
  obtain ⟨s, hsU, hs0, hsT⟩ := HK.out
  have HT := Lib.hid hsT
  have HU := Lib.hid hsU
  have HS0 := Lib.hid hs0
  clear hsU hsT HK hs0
  by_cases h0 : xs.length = 0
  case' pos =>
    have hb0 : ((xs.length : Int) == 0) = true := beq_iff_eq.2 (by omega)
    haveI : IsU ((xs.length : Nat) : Int) := ⟨by omega, by omega⟩
    have H0 := Lib.hid h0
    clear h0
    gi_wp2_with fail
    refine ⟨trivial, ?_⟩
    refine (callsIn_wide.2 (Mix_any 0 0 xs.length _)).mono ?_
    rintro e w1 ⟨rfl, hb⟩
    have B0 := Blk.below (g := w.heap.size) ((Blk.new_at w 50 #[.int .u64 0, .int .u64 0] rfl).alloc (.cells #[.int .u64 0, .int .u64 0, .int .u64 xs.length] 70)) hb (by simp; omega)
    have B1 := Blk.below (g := w.heap.size + 1) (Blk.new_at (w.alloc (.cells #[.int .u64 0, .int .u64 0] 50)) 70 #[.int .u64 0, .int .u64 0, .int .u64 xs.length] (by simp)) hb (by simp)
    have hB : Below w.heap.size w w1 := (((Below.refl _ _).alloc (Nat.le_refl _) _).alloc (by simp) _).trans (hb.mono (by simp; omega))
    obtain ⟨⟨c0, c1, c2⟩, f0, f1, f2⟩ := B1.facts3
    have H := Lib.hid (And.intro B0 (And.intro B1 hB))
    clear hb B0 B1 hB
    gi_wp2_with fail
    refine ⟨trivial, ?_⟩
    refine callsIn_named (fun w2 => Blk w2 w.heap.size 50 #[.int .u64 0, .int .u64 0] ∧ Blk w2 (w.heap.size + 1) 70 #[.int .u64 s.1, .int .u64 s.2.1, .int .u64 s.2.2] ∧ Below w.heap.size w w2) ?_ ?_
    · refine ⟨((H.out.1.other (by simp) _).other (by simp) _).other (by simp) _, ?_, ((H.out.2.2.setCell (by simp) _).setCell (by simp) _).setCell (by simp) _⟩
      rw [HS0.out, if_pos H0.out]
      have h := H.out.2.1.set3 (x' := .int .u64 (hmix (0, 0, (xs.length : Int))).1) (y' := .int .u64 (hmix (0, 0, (xs.length : Int))).2.1) (z' := .int .u64 (hmix (0, 0, (xs.length : Int))).2.2)
      rw [H0.out] at h ⊢
      exact h
    clear c0 c1 c2 f0 f1 f2 H H0
  case' neg =>
    have hb0 : ((xs.length : Int) == 0) = false := beq_eq_false_iff_ne.2 (by omega)
    have H0 := Lib.hid h0
    clear h0
    gi_wp2_with fail
    refine ⟨trivial, ?_⟩
    refine callsIn_named (fun w2 => Blk w2 w.heap.size 50 #[.int .u64 0, .int .u64 0] ∧ Blk w2 (w.heap.size + 1) 70 #[.int .u64 s.1, .int .u64 s.2.1, .int .u64 s.2.2] ∧ Below w.heap.size w w2) ?_ ?_
    · rw [HS0.out, if_neg H0.out]
      exact ⟨(Blk.new_at _ _ _ rfl).alloc _, Blk.new_at _ _ _ (by simp), ((Below.refl _ _).alloc (Nat.le_refl _) _).alloc (by simp) _⟩
  all_goals
    rintro w2 ⟨B0, B1, hB⟩
    refine (callsIn_wide.2 (Of_any A c xs HX.out hl hcap _ (HS.out.on hB))).mono ?_
    rintro e w3 ⟨v, rfl, hown, hb⟩
    obtain ⟨A1, c1, rfl, hl1, hm1, hs1, hne⟩ := own_slice2 hown
    have HS1 := Lib.hid hs1
    have HNE := Lib.hid (show ∀ ad, A1 = some ad → ad.block ≠ w.heap.size + 1 from fun ad e => by have := hne ad e; have := B1.lt; omega)
    have HF := Lib.hid (fof_el xs HX.out)
    have HL := Lib.hid (fof_length xs)
    have hL : (fof xs).length ≤ 70368744177664 := by rw [HL.out]; omega
    have D0 := B0.below hb B0.lt
    have D1 := B1.below hb B1.lt
    have hB3 := hB.trans (hb.mono hB.size)
    have lt1 := B1.lt
    have hz3 := hb.size
    have H3 := Lib.hid (And.intro D0 (And.intro D1 hB3))
    clear hne hs1 hown hb B0 B1 hB D0 D1 hB3 hm1
    generalize fof xs = l at *
    obtain ⟨ad, had⟩ : ∃ ad, 0 < l.length → A1 = some ad := by
      cases A1 with
      | none => exact ⟨⟨0, 0, none⟩, fun h => by obtain ⟨_, e, _⟩ := HS1.out 0 h; cases e⟩
      | some a => exact ⟨a, fun _ => rfl⟩
    have HA := Lib.hid had
    clear had
    gi_wp2_with fail
    refine ⟨trivial, ?_⟩
    refine (chunk_in _ _ _ _ _).mono ?_
    rintro e w4 ⟨rfl, rfl⟩
    gi_wp2_with fail
    have bS : Blk ((w3.alloc (.cells #[.slice A1 l.length c1] 68)).alloc (.cells #[.int .i64 2] 3)) w3.heap.size 68 #[.slice A1 l.length c1] := (Blk.new_at _ _ _ rfl).alloc _
    have bN : Blk ((w3.alloc (.cells #[.slice A1 l.length c1] 68)).alloc (.cells #[.int .i64 2] 3)) (w3.heap.size + 1) 3 #[.int .i64 2] := Blk.new_at _ _ _ (by simp)
    have hBe : Below w.heap.size w ((w3.alloc (.cells #[.slice A1 l.length c1] 68)).alloc (.cells #[.int .i64 2] 3)) := (H3.out.2.2.alloc H3.out.2.2.size _).alloc (by have := H3.out.2.2.size; simp; omega) _
    have b0 := (H3.out.1.alloc (.cells #[.slice A1 l.length c1] 68)).alloc (.cells #[.int .i64 2] 3)
    have b1 := (H3.out.2.1.alloc (.cells #[.slice A1 l.length c1] 68)).alloc (.cells #[.int .i64 2] 3)
    have hsi : SI ((w3.alloc (.cells #[.slice A1 l.length c1] 68)).alloc (.cells #[.int .i64 2] 3)) w3.heap.size .u64 A1 l := HS1.out.below (((Below.refl _ _).alloc (Nat.le_refl _) _).alloc (by simp) _)
    have hzz : ((w3.alloc (.cells #[.slice A1 l.length c1] 68)).alloc (.cells #[.int .i64 2] 3)).heap.size = w3.heap.size + 2 := by simp
    have HW := Lib.hid (And.intro bS (And.intro bN (And.intro hBe (And.intro b0 (And.intro b1 (And.intro hsi hzz))))))
    clear bS bN hBe b0 b1 hsi hzz
    generalize (w3.alloc (.cells #[.slice A1 l.length c1] 68)).alloc (.cells #[.int .i64 2] 3) = w4 at *
    obtain ⟨bS, bN, hBe, b0, b1, hsi, hzz⟩ := HW.out
    refine wpIn_rangeFunc_ownG rfl (by omega) (gf := 79) (lb := #[.pointer (some ⟨w3.heap.size, 0, none⟩), .pointer (some ⟨w3.heap.size + 1, 0, none⟩)]) rfl trivial (enters_of Try.func79 (by kernel_rfl) rfl)
      (chunks_stops _ (by omega) w3.heap.size (w3.heap.size + 1) w.heap.size A1 ad c1 l.length HA.out hL hl1 _ (by omega) (by omega) (bS.cell 0) (bN.cell 0)) (fun h k => ⟨h.1.trans k.1, h.2.trans k.2⟩) (fun W i o o' h1 h2 h3 h4 => ⟨KB.put (by omega) (by omega) W i o o' h1 h2 h3 h4, KB.put (by omega) (by omega) W i o o' h1 h2 h3 h4⟩) (Below.refl _ _) (fun _ => rfl)
      (fun pre W => (Blk W (w.heap.size + 1) 70 #[.int .u64 (habsL l s pre).1, .int .u64 (habsL l s pre).2.1, .int .u64 (habsL l s pre).2.2] ∧ Blk W w.heap.size 50 #[.int .u64 0, .int .u64 0] ∧ SI W w3.heap.size .u64 A1 l ∧ w3.heap.size + 2 ≤ W.heap.size) ∧ Below w.heap.size w W)
      (fun _ _ _ => False) ?_ (fun _ _ _ _ _ hs _ _ => hs) ?_ ?_ ?_ ?_ ?_ ?_
    rotate_left 3
    · intro i x W K hK
      gi_wp2
      exact hK
    · rintro i pre x W ⟨⟨k1, k0, ksi, kz⟩, kB⟩ hlt
      have hu := foldl_u l pre s HU.out
      haveI := IsU.of hu.1
      haveI := IsU.of hu.2.1
      haveI := IsU.of hu.2.2
      obtain ⟨⟨c0, c1, c2⟩, f0, f1, f2⟩ := k1.facts3
      have HI := Lib.hid (And.intro k1 (And.intro k0 (And.intro ksi kB)))
      clear k1 k0 ksi kB hu
      gi_wp2_with fail
      refine ⟨trivial, ?_⟩
      refine (CallsIn.inRound i (callsIn_wide.2 (soak_chunk _ _ _ ad l l.length x rfl (fun y hy => (HF.out y hy).u64) w3.heap.size _ (fun h => by rw [← HA.out h]; exact HI.out.2.2.1)))).mono ?_
      rintro e w5 ⟨rfl, hb5⟩
      have hst := HI.out.1.lt
      have hsz := HI.out.2.2.2.size
      have hz5 := hb5.size
      have D1 := HI.out.1.below hb5 hst
      have D0 := HI.out.2.1.below hb5 HI.out.2.1.lt
      have Dsi := HI.out.2.2.1.up.on hb5
      have DB := HI.out.2.2.2.trans (hb5.mono hsz)
      have HJ := Lib.hid (And.intro D1 (And.intro D0 (And.intro Dsi (And.intro DB hb5))))
      haveI := IsU.of (sk_u (foldl_u l pre s HU.out).1 l[2 * x]?)
      haveI := IsU.of (sk_u (foldl_u l pre s HU.out).2.1 l[2 * x + 1]?)
      haveI := IsU.of (foldl_u l pre s HU.out).2.2
      clear D1 D0 Dsi DB hb5 c0 c1 c2 f0 f1 f2
      gi_wp2_with fail
      refine ⟨trivial, ?_⟩
      refine (CallsIn.inRound i (callsIn_wide.2 (Mix_any _ _ _ _))).mono ?_
      rintro e w6 ⟨rfl, hb6⟩
      have E1 := HJ.out.1.below hb6 HJ.out.1.lt
      have E0 := HJ.out.2.1.below hb6 HJ.out.2.1.lt
      have Esi := HJ.out.2.2.1.below hb6
      have EB := HJ.out.2.2.2.1.trans (hb6.mono HJ.out.2.2.2.1.size)
      have EW := HJ.out.2.2.2.2.trans (hb6.mono HJ.out.2.2.2.2.size)
      obtain ⟨⟨c0, c1, c2⟩, f0, f1, f2⟩ := E1.facts3
      have HM := Lib.hid (And.intro E1 (And.intro E0 (And.intro Esi (And.intro EB EW))))
      clear E1 E0 Esi EB EW hb6
      gi_wp2_with fail
      have hw6 := HM.out.2.2.2.2.size
      refine ⟨((((keeps_below HM.out.2.2.2.2).trans (KeepsOthers.setCell _ _ _)).trans (KeepsOthers.setCell _ _ _)).trans (KeepsOthers.setCell _ _ _)).from _, ⟨?_, ?_⟩, ⟨?_, ?_, ?_, ?_⟩, ?_⟩
      · exact kb_set (kb_set (kb_set (kb_below HM.out.2.2.2.2 hsz (by omega)) (by simp) (by simp; omega) _) (by simp) (by simp; omega) _) (by simp) (by simp; omega) _
      · exact kb_set (kb_set (kb_set (kb_below HM.out.2.2.2.2 hsz (by omega)) (by simp) (by simp; omega) _) (by simp) (by simp; omega) _) (by simp) (by simp; omega) _
      · rw [habsL_snoc]; exact HM.out.1.set3
      · exact ((HM.out.2.1.other (by simp) _).other (by simp) _).other (by simp) _
      · exact ((((HI.out.2.2.1.below (HM.out.2.2.2.2.mono (by omega))).set HNE.out _).set HNE.out _).set HNE.out _)
      · simp [World.setCell]; omega
      · exact ((HM.out.2.2.2.1.setCell (by simp) _).setCell (by simp) _).setCell (by simp) _
    · rintro D ys W hD rfl ⟨⟨k1, k0, _, _⟩, kB⟩ hK
      obtain ⟨⟨c0, c1, c2⟩, f0, f1, f2⟩ := k1.facts3
      obtain ⟨⟨d0, d1⟩, g0, g1⟩ := k0.facts2
      have HKB := Lib.hid kB
      have HK0 := Lib.hid k0
      clear k1 k0 kB
      gi_wp2
      have hK' : (((W.setCell ⟨w.heap.size, 0, none⟩ (.int .u64 (habsL l s (List.range ((l.length + 1) / 2))).1)).setCell ⟨w.heap.size, 1, none⟩ (.int .u64 (habsL l s (List.range ((l.length + 1) / 2))).2.1))).heap[D]? = some (.deferred (some [])) :=
        (Below.heap_setCell _ _ _ D (by simp; omega)).trans ((Below.heap_setCell _ _ _ D (by simp; omega)).trans hK)
      refine ⟨by simp, .inl ⟨_, _, rfl, run_takeDeferred hK', ?_⟩⟩
      refine ⟨.agg #[.int .u64 (habsL l s (List.range ((l.length + 1) / 2))).1, .int .u64 (habsL l s (List.range ((l.length + 1) / 2))).2.1], ?_, ?_, ?_⟩
      · obtain ⟨⟨e0, e1⟩, _, _⟩ := ((HK0.out.set2 (x' := .int .u64 (habsL l s (List.range ((l.length + 1) / 2))).1) (y' := .int .u64 (habsL l s (List.range ((l.length + 1) / 2))).2.1)).put (show w.heap.size ≠ D by omega) (.deferred none)).facts2
        simp [results, Try.results68, go_sem, e0, e1]
      · rw [HT.out]; rfl
      · exact ((HKB.out.setCell (by simp) _).setCell (by simp) _).trans (belowK_b (w := w) (Nat.le_refl _) _ D _ _ (by omega) hK' rfl rfl)
    · rintro D cc pre W _ _ h _
      exact h.elim
    · exact OwnFrom.and (OwnFrom.and (Own.from (blk_own _ _ _) _) (OwnFrom.and (Own.from (blk_own _ _ (fun _ => #[.int .u64 0, .int .u64 0])) _) (OwnFrom.and (Own.from (si_own _ _ _ _) _) (fun _ _ _ _ hs hg _ => Nat.le_trans hs hg.size)))) (ownFrom_below (Nat.le_refl _) (by omega))
    · exact ⟨⟨b1, b0, hsi, by omega⟩, hBe⟩
end Go.Proofs.Ytippfhlljlfcnaa
