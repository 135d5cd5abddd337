/- Contracts of names: Labels. -/
import Derived.Test.YtcmkfomfmjgmpaaNamesE
namespace Go.Proofs.Ytcmkfomfmjgmpaa
open Go.ChangeShapes Go.WideShapes Go.ChangeAt Go.RowKit Go.Shelf Gs
set_option linter.unusedVariables false
attribute [local go_sem] Oper.semAt_some

/-- Texts in a slice. -/
def ST (w : World) (B : Nat) (A : Option Addr) (ls : List (List UInt8)) : Prop := ∀ j, (h : j < ls.length) → ∃ ad, A = some ad ∧ ad.block < B ∧ w.cell? (ad.add j) = some (.string ⟨ls[j].toArray⟩)
theorem ST.on {w w' : World} {A : Option Addr} {ls : List (List UInt8)} (h : ST w w.heap.size A ls) (hb : Below w.heap.size w w') : ST w' w'.heap.size A ls := fun j hj => by
  obtain ⟨ad, e, h1, h2⟩ := h j hj
  exact ⟨ad, e, Nat.lt_of_lt_of_le h1 hb.size, (hb.cell (by rw [block_of_add]; exact h1)).trans h2⟩
theorem st_own {w : World} {B g n cap : Nat} {ls : List (List UInt8)} (h : w.ownsRow B 9 1 (.slice (some ⟨g, 0, none⟩) n cap) n (ls.map encStr)) : ST w w.heap.size (some ⟨g, 0, none⟩) ls := fun j hj => by
  refine ⟨_, rfl, (h.lt g rfl).2, ?_⟩
  have hl : ls.length = n := by simpa using h.1
  have := h.cellAt j (by omega)
  rw [add_zero_off, this]
  simp [List.getElem?_eq_getElem hj, encStr]

theorem rev_any (g cap B n : Nat) (ls : List (List UInt8)) (hn : ls.length = n) (hm : n ≤ 9223372036854775807) (w : World) (h : w.ownsRow B 9 1 (.slice (some ⟨g, 0, none⟩) n cap) n (ls.map encStr)) :
    Calls Try.prog 36 #[.slice (some ⟨g, 0, none⟩) n cap] w fun e w' => e = .returned (.tuple #[]) ∧ w'.ownsRow B 9 1 (.slice (some ⟨g, 0, none⟩) n cap) n (ls.reverse.map encStr) ∧ (∀ b, b ≠ g → w'.heap[b]? = w.heap[b]?) ∧ (∀ C, C ≤ g → Below C w w') := by
  subst hn
  obtain ⟨g', cap', e', _, _, _, _, _, hH⟩ := Lib.holds_of_ownsRow h (by simp)
  injection e' with e1 _ e3
  injection e1 with e1
  injection e1 with e1
  subst e1; subst e3
  have K := Any.slices_Reverse_string revLays g 0 cap ls w hH hm
  refine K.mono ?_
  rintro e w' ⟨rfl, q, rfl⟩
  refine ⟨rfl, ?_, ?_, fun C hC => Lib.below_putRow (Below.refl _ _) hC⟩
  · have := Lib.ownsRow_putRow (ys := ls.reverse) (q := q) (k := ls.length) h (by simp) (Nat.le_refl _)
    rwa [List.take_of_length_le (by simp)] at this
  · intro b hb
    simp [Sort.putRow, Sort.mapBlock, Sort.ahead, Array.getElem?_modify, show g ≠ b by omega]

/-- 'out = append(out, ..)' with out in a box that lies below its row. -/
theorem box_appended {W w1 : World} {n₀ B : Nat} {t e : TypeId} {size : Nat} {v v' : Value} {k m : Nat} {xs ys : List Value} {tmp : Obj}
    (hv : Blk W B t #[v]) (hrow : W.ownsRow n₀ e size v k xs) (hn₀ : n₀ ≤ W.heap.size) (hB : B < n₀)
    (hown' : w1.ownsRow n₀ e size v' m ys) (hgrow : (W.alloc tmp).grownBy w1 v.ownBlock) :
    Blk w1 B t #[v] ∧ Blk (w1.setCell ⟨B, 0, none⟩ v') B t #[v'] ∧ (w1.setCell ⟨B, 0, none⟩ v').ownsRow n₀ e size v' m ys ∧ KeepsOthers W (w1.setCell ⟨B, 0, none⟩ v') ∧ (∀ b, b < n₀ → b ≠ B → (w1.setCell ⟨B, 0, none⟩ v').heap[b]? = W.heap[b]?) ∧ (∀ C, C ≤ B → Below C W (w1.setCell ⟨B, 0, none⟩ v')) := by
  have hlow : ∀ j, v.ownBlock = some j → n₀ ≤ j := own_ge hrow
  have hv1 : Blk w1 B t #[v] := (hgrow.block B (by simp; have := hv.lt; omega) (fun e' => by have := hlow B e'.symm; omega)).trans (hv.alloc tmp)
  refine ⟨hv1, hv1.set1, ownsRow_setCell_below hown' (by exact hB) _, ?_, ?_, ?_⟩
  · refine ((KeepsOthers.alloc W tmp).trans (KeepsOthers.of_grownBy hgrow fun j o ej hj => ?_)).trans (KeepsOthers.setCell _ _ _)
    rcases (hrow.alloc tmp).2 with ⟨rfl, _⟩ | ⟨g, cap, cur, rfl, _, hgb, _⟩
    · simp [Value.ownBlock] at ej
    · obtain rfl : g = j := by simpa [Value.ownBlock] using ej
      rw [hgb] at hj; cases hj; rfl
  · intro b hb hne
    rw [Below.heap_setCell w1 ⟨B, 0, none⟩ v' b hne, hgrow.block b (by simp; omega) (fun e' => by have := hlow b e'.symm; omega), Below.heap_alloc W tmp b (by omega)]
  · intro C hC
    exact (((Below.refl C W).alloc (by omega) tmp).grown hgrow (by simp; omega) fun j ej => by have := hlow j ej; omega).setCell hC v'

theorem lbls_rev (s : ByteArray) : ((List.range (cuts (bl s)).length).map (fun k => bl (lblS s k))).reverse = cuts (bl s) := by
  apply List.ext_getElem
  · simp
  · intro i h1 h2
    rw [List.getElem_reverse]
    simp only [List.length_map, List.length_range, List.getElem_map, List.getElem_range]
    rw [lblS_at, show (cuts (bl s)).length - 1 - ((cuts (bl s)).length - 1 - i) = i by omega, List.getElem?_eq_getElem h2]
    rfl

theorem own_lower {w : World} {base base' size n : Nat} {e : TypeId} {v : Value} {xs : List Value} (h : w.ownsRow base e size v n xs) (hb : base' ≤ base) : w.ownsRow base' e size v n xs :=
  ⟨h.1, h.2.imp id (fun ⟨g, cap, cur, a, b, c⟩ => ⟨g, cap, cur, a, Nat.le_trans hb b, c⟩)⟩

set_option maxRecDepth 100000 in
set_option maxHeartbeats 4000000 in
theorem Labels_go (s : ByteArray) (hn : nameB (bl s) = true) (w : World) :
    Calls Try.prog 18 #[.string s] w fun e w' => (∃ g c, e = .returned (.slice (some ⟨g, 0, none⟩) (cuts (bl s)).length c) ∧ w'.ownsRow w.heap.size 9 1 (.slice (some ⟨g, 0, none⟩) (cuts (bl s)).length c) (cuts (bl s)).length ((cuts (bl s)).map encStr)) ∧ Below w.heap.size w w' := by
  have CK := Lib.hid (Check_yes s hn)
  have hs64 : s.size ≤ 64 := by
    unfold nameB nameN at hn
    rw [Bool.and_eq_true, decide_eq_true_eq, bl_len] at hn
    exact hn.1
  have hc8 : (cuts (bl s)).length ≤ 8 := by
    unfold nameB nameN at hn
    rw [Bool.and_eq_true, Bool.and_eq_true, decide_eq_true_eq, decide_eq_true_eq] at hn
    exact hn.2.1
  obtain ⟨m, hm⟩ : ∃ m, (cuts (bl s)).length = m := ⟨_, rfl⟩
  have HM := Lib.hid hm
  have hm1 : 1 ≤ m := by rw [← hm]; exact List.length_pos_iff.2 (cuts_ne _)
  rw [hm] at hc8 ⊢
  clear hn hm
  obtain ⟨i0, hi, hz0, hz1, hz2⟩ := info_parts names_info
  have HI := Lib.hid (And.intro hi (And.intro hz0 (And.intro hz1 hz2)))
  clear hi hz0 hz1 hz2
  refine (callsIn_wide (n := 5)).1 ?_
  refine callsIn_of_wp_marks Try.func18 rfl trivial ?_ rfl
  simp only [Try.ntmps18, List.size_toArray, List.length_cons, List.length_nil, Nat.reduceAdd, Nat.reduceSub, Array.replicate_succ, Array.replicate_zero, List.push_toArray, List.append_toArray, List.nil_append, List.cons_append]
  gi_wp2_with fail
  refine ⟨trivial, ?_⟩
  refine (callsIn_wide.2 (CK.out _)).mono ?_
  rintro e w1 ⟨rfl, b⟩
  have B1 := Lib.hid b
  clear b
  gi_wp2_with fail
  refine ⟨trivial, ?_⟩
  refine (fromsF_in _ _ _).mono ?_
  rintro e W2 ⟨rfl, hW2⟩
  obtain ⟨b0, hb0⟩ : ∃ b0, w1.heap.size = b0 := ⟨_, rfl⟩
  have hX : Blk W2 b0 26 #[.slice none 0 0] := by rw [hW2, ← hb0]; exact (Blk.new_at _ _ _ rfl).alloc _
  have hS : Blk W2 (b0 + 1) 9 #[.string s] := by rw [hW2, ← hb0]; exact Blk.new_at _ _ _ (by simp)
  have hB : Below w.heap.size w W2 := by rw [hW2]; exact (B1.out.alloc B1.out.size _).alloc (by have := B1.out.size; simp; omega) _
  have hz2 : W2.heap.size = b0 + 2 := by rw [hW2, ← hb0]; simp
  have hwb : w.heap.size ≤ b0 := by rw [← hb0]; exact B1.out.size
  have HX := Lib.hid hX
  have HS := Lib.hid hS
  have HB := Lib.hid hB
  have HZ := Lib.hid hz2
  clear hX hS hB hz2
  gi_wp2_with fail
  rw [← hW2]
  clear hW2 hb0
  refine wpIn_rangeFunc_ownG rfl (by omega) (gf := 44) (lb := #[.pointer (some ⟨b0 + 1, 0, none⟩)]) rfl trivial (enters_of Try.func44 (by kernel_rfl) rfl)
    (froms_stops _ (by omega) (b0 + 1) 0 s (by omega) W2 (Nat.zero_le _) HS.out) KB.trans (KB.put (Nat.zero_le _) HS.out.lt) (Below.refl _ _) (fun _ => rfl)
    (fun pre W => (∃ v, Boxed W b0 26 v ∧ W.ownsRow (b0 + 2) 9 1 v pre.length (pre.map fun k => encStr (bl (lblS s k))) ∧ True) ∧ (Below w.heap.size w W ∧ b0 + 2 ≤ W.heap.size))
    (fun _ _ _ => False)
    (OwnFrom.and (Own.from (holdsRow_own (b0 + 2) b0 26 9 1 (fun pre : List Nat => pre.length) (fun pre : List Nat => pre.map fun k => encStr (bl (lblS s k))) (fun _ _ => True)) _) (OwnFrom.and (ownFrom_below (Nat.le_refl _) HB.out.size) (fun _ _ _ _ hs hg _ => Nat.le_trans hs hg.size)))
    (fun _ _ _ _ _ hs _ _ => hs)
    ⟨⟨_, HX.out, World.ownsRow_nil _ _ _ _, trivial⟩, HB.out, by rw [HZ.out]; exact Nat.le_refl _⟩
    (fun x => { tmps := #[.string s, undef, .slice none 0 0, .pointer (some ⟨b0, 0, none⟩), .string (lblS s x), .string s, .int .i64 0, .bool false, .string s, .func (.func 44) #[] #[.pointer (some ⟨b0 + 1, 0, none⟩)], .string (lblS s x), .string (topS s x), undef, undef, undef, undef, undef, undef, undef], defers := [] }) ?assign ?body ?done ?stop
  case assign =>
    intro lr x W3 K hK
    gi_wp2
    exact hK
  case stop =>
    rintro D c pre W _ _ h _
    exact h.elim
  case body =>
    rintro lr pre x W ⟨⟨v, hv, hrow, _⟩, hB3, hz3⟩ hlt
    have hc := Boxed.cell hv
    have HR := Lib.hid hrow
    have HB3 := Lib.hid hB3
    rw [HM.out] at hlt
    clear hrow hB3
    gi_wp2_with (gi_at_builtin; refine wpListIn_append_own _ rfl _ _ 26 rfl (b0 + 2) 9 i0 (.string ⟨#[]⟩) 1 16 Try.underlying26 HI.out.1 HI.out.2.1 HI.out.2.2.1 HI.out.2.2.2 rfl (by decide) _ _ _ rfl (HR.out.alloc _) ⟨W.heap.size, 0, none⟩ 1 1 [.string (lblS s x)] rfl rfl (cell_one_new _ _ _) (by simp [Value.oneCell']) (by unfold maxLen; omega) (by omega) (by simp; omega) ?_; intro v' w1' hown' hgrow _; obtain ⟨g', cap', rfl⟩ := ownsRow_succ hown'; obtain ⟨hv1, hv2, hr2, hk2, hk1, hb2⟩ := box_appended hv HR.out hz3 (by omega) hown' hgrow; have hc1 := hv1.cell 0; have hf1 := hv1.free 0; have hsz := hgrow.size)
    refine ⟨hk2.from _, ⟨hb2 0 (Nat.zero_le _), hk1 _ (by omega) (by omega)⟩, ⟨_, hv2, ?_, trivial⟩, HB3.out.trans (hb2 _ hwb), ?_⟩
    · rw [List.map_append, List.length_append]
      exact hr2
    · simp [World.setCell] at hsz ⊢; omega
  case done =>
    rintro D ys W hD rfl ⟨⟨v, hv, hrow, _⟩, hB3, hz3⟩ hK
    have hc := Boxed.cell hv
    rw [HM.out, List.length_range] at hrow
    obtain ⟨g, cap, rfl⟩ : ∃ g cap, v = .slice (some ⟨g, 0, none⟩) m cap := by
      obtain ⟨m', rfl⟩ : ∃ m', m = m' + 1 := ⟨m - 1, by omega⟩
      exact ownsRow_succ hrow
    have hgc : ∃ cs, W.heap[g]? = some (.cells cs 9) := by
      rcases hrow.2 with ⟨e, _⟩ | ⟨g', cap', cur, e, _, hgb, _⟩
      · cases e
      · injection e with e1
        injection e1 with e1
        injection e1 with e1
        subst e1
        exact ⟨_, hgb⟩
    have hDg : D ≠ g := by
      rintro rfl
      obtain ⟨cs, e⟩ := hgc
      rw [hK] at e; cases e
    have RV := Lib.hid (rev_any g cap (b0 + 2) m ((List.range m).map fun k => bl (lblS s k)) (by simp) (by omega) W (by rw [List.map_map]; exact hrow))
    have HL := Lib.hid (lbls_rev s)
    have HG := Lib.hid (hrow.lt g rfl)
    have HK := Lib.hid hK
    have HB3 := Lib.hid hB3
    have HV := Lib.hid hv
    rw [HM.out] at HL
    rw [HL.out] at RV
    clear hrow hK hB3 HL hv hgc
    gi_wp2_with fail
    refine ⟨trivial, ?_⟩
    refine (callsIn_wide.2 RV.out).mono ?_
    rintro e W5 ⟨rfl, hr5, hk5, hb5⟩
    have HR5 := Lib.hid hr5
    have HK5 := Lib.hid ((hk5 D hDg).trans HK.out)
    have HB5 := Lib.hid (HB3.out.trans (hb5 _ (by have := HG.out; omega)))
    have hv5 : Blk W5 b0 26 #[.slice (some ⟨g, 0, none⟩) m cap] := (hk5 b0 (by have := HG.out; omega)).trans HV.out
    have c5 := hv5.cell 0
    clear hr5 hk5 hb5 hv5 hc
    gi_wp2_with fail
    refine leaves_marks [D] _ (by simp) (fun D' h => by rw [List.mem_singleton] at h; subst h; exact HK5.out) (fun W' hs => ?_)
    refine ⟨.slice (some ⟨g, 0, none⟩) m cap, by simp [results, Try.results18, go_sem], ⟨g, cap, rfl, ?_⟩, ?_⟩
    · refine own_lower ?_ (show w.heap.size ≤ b0 + 2 by omega)
      exact (hs.own (fun D' h => by rw [List.mem_singleton] at h; subst h; exact HK5.out) HR5.out)
    · exact hs.below HB5.out (fun D' h => by rw [List.mem_singleton] at h; subst h; exact Nat.le_trans HB.out.size hD)
end Go.Proofs.Ytcmkfomfmjgmpaa
