/- Bytes read as an item: the document's own, of all bytes, and its Get. -/
import Derived.Test.YteafbfhojhpbgaaDerZc
import Derived.Test.YteafbfhojhpbgaaDerU
namespace Go.Proofs.Yteafbfhojhpbgaa
open Go.ChangeShapes Go.WideShapes Go.ChangeAt Go.RowKit Gs
set_option linter.unusedVariables false

theorem rdG_seq {d : Nat} {b ct : List Int} {n : Nat} (e : rawG b = (match rawL ct with | some l => .ok (.mk 48 [] l) n | none => .bad 71)) : rdG d b = SeqR d ct n := by
  unfold rdG SeqR
  rw [e]
  cases rawL ct <;> rfl
theorem rdG_bad {d : Nat} {b : List Int} {e : Int} (h : rawG b = .bad e) : rdG d b = .bad e := by unfold rdG; rw [h]
theorem read_any : ∀ d, d ≤ 8 → d ≠ 0 → ReadOf d
  | 0, _, h => absurd rfl h
  | q + 1, hd, _ => by
    intro xs hx o A m c hm h9 hmc hc ho w hs
    have IH : q ≠ 0 → ReadOf q := fun h => read_any q (by omega) h
    obtain ⟨b, hb⟩ : ∃ b, xs.drop o = b := ⟨_, rfl⟩
    have hbb : ∀ x ∈ b, 0 ≤ x ∧ x < 256 := fun x h => hx x (by rw [← hb] at h; exact List.mem_of_mem_drop h)
    rw [hb]
    obtain ⟨k, cc, e0, h0⟩ : ∃ k cc e0, hdS b = (k, cc, e0) := ⟨_, _, _, rfl⟩
    have hsz := hdS_size hbb
    rw [h0] at hsz
    simp only at hsz
    by_cases he : e0 = 0
    · subst he
      have ho' : (hdS b).2.2 = 0 := by rw [h0]
      have hok := hdS_ok ho'
      rw [h0] at hok
      simp only at hok
      by_cases h8 : 8192 < k + cc
      · have e : rawG b = .bad 71 := by
          rw [rawG, dif_pos ho', if_pos (by rw [h0]; exact h8)]
        rw [rdG_bad e]
        exact read_bad xs hx o b hb k cc 0 71 h0 (.inr (.inl ⟨rfl, h8, rfl⟩)) hsz _ hd A m c hm h9 ho w hs
      by_cases hmm : b.length < k + cc
      · have e : rawG b = .bad 70 := by
          rw [rawG, dif_pos ho', if_neg (by rw [h0]; exact h8), dif_pos (by rw [h0]; exact hmm)]
        rw [rdG_bad e]
        exact read_bad xs hx o b hb k cc 0 70 h0 (.inr (.inr ⟨rfl, h8, hmm, rfl⟩)) hsz _ hd A m c hm h9 ho w hs
      by_cases ht : b[0]?.getD 0 = 48
      · have e : rawG b = (match rawL ((b.drop k).take cc) with | some l => .ok (.mk 48 [] l) (k + cc) | none => .bad 71) := by
          rw [rawG, dif_pos ho', if_neg (by rw [h0]; exact h8), dif_neg (by rw [h0]; exact hmm), if_pos ht]
          simp only [h0]
          rfl
        rw [rdG_seq e]
        exact read_seq xs hx o b hb k cc h0 (by omega) ht (by omega) (by omega) q (by omega) IH A m c hm h9 hmc hc ho w hs
      · have e : rawG b = .ok (.mk (b[0]?.getD 0) ((b.drop k).take cc) []) (k + cc) := by
          rw [rawG, dif_pos ho', if_neg (by rw [h0]; exact h8), dif_neg (by rw [h0]; exact hmm), if_neg ht]
          simp only [h0]
        have e2 : rdG (q + 1) b = (if okB (b[0]?.getD 0) ((b.drop k).take cc) = true then .ok (.mk (b[0]?.getD 0) ((b.drop k).take cc) []) (k + cc) else .bad 71) := by
          unfold rdG
          rw [e]
          simp only
          rw [mayI_leaf (q + 1) (.mk (b[0]?.getD 0) ((b.drop k).take cc) []) ht]
          show (if (decide (1 ≤ q + 1) && (okB (b[0]?.getD 0) ((b.drop k).take cc) && decide (([] : List It).length = 0))) = true then _ else _) = _
          simp
        rw [e2]
        exact read_leaf xs hx o b hb k cc _ h0 (by omega) rfl hok.2.2.2 ht (by omega) (by omega) _ hd A m c hm h9 hmc hc ho w hs
    · have hne : ¬ (hdS b).2.2 = 0 := by rw [h0]; exact he
      have e : rawG b = .bad e0 := by rw [rawG, dif_neg hne, h0]
      rw [rdG_bad e]
      exact read_bad xs hx o b hb k cc e0 e0 h0 (.inl ⟨he, rfl⟩) hsz _ hd A m c hm h9 ho w hs

theorem getK_rd (k : Nat) (b : List Int) : getK k (rawG b) = (match rdG 8 b with | .bad e => .bad e | .ok x n => .ok x (k + n)) := by
  unfold rdG
  cases rawG b with
  | bad e => rfl
  | ok x n =>
    cases hm : mayI 8 x with
    | true => rw [getK_yes hm]; simp only [hm, if_true]
    | false => rw [getK_no hm]; simp only [hm, Bool.false_eq_true, if_false]
/-- What a call tells whose last steps hand on another's three results. -/
theorem res_of {b : List Int} {a : Int} {base : Nat} {e : Ending} {w : World} (ha : ¬ (a < 0 ∨ (b.length : Int) < a)) (h : ReadRes (rdG 8 (b.drop a.toNat)) a.toNat base e w) : GetRes (getP b a) base e w := by
  unfold getP
  rw [if_neg ha, getK_rd]
  cases hr : rdG 8 (b.drop a.toNat) with
  | bad e' => rw [hr] at h; exact h
  | ok x n => rw [hr] at h; exact h

set_option maxRecDepth 100000 in
set_option maxHeartbeats 8000000 in
theorem Get7_any (b : List Int) (hb : ∀ x ∈ b, 0 ≤ x ∧ x < 256) (hl : b.length ≤ 100000) (a : Int) (A : Option Addr) (c : Nat) (w : World) (hbc : b.length ≤ c) (hc : c ≤ maxLen) (hs : SI w w.heap.size .u8 A b) :
    Calls Try.prog 17 #[.slice A b.length c, .int .i64 a] w fun e w' => GetRes (getP b a) w.heap.size e w' ∧ Below w.heap.size w w' := by
  have D0 := Lib.hid ((Below.refl w.heap.size w).alloc (Nat.le_refl _) (.cells #[.int .i64 0, .slice none 0 0, .slice none 0 0] 25))
  have K0 := Lib.hid (Blk.new w 25 #[.int .i64 0, .slice none 0 0, .slice none 0 0])
  by_cases ha : a < 0 ∨ (b.length : Int) < a
  · rw [show getP b a = .bad 1 from if_pos ha]
    have j0 := K0.out.cell 0
    have j1 := K0.out.cell 1
    have j2 := K0.out.cell 2
    have f0 := K0.out.free 0
    have f1 := K0.out.free 1
    have f2 := K0.out.free 2
    clear hs hb hl hbc hc
    generalize b.length = m at *
    by_cases h : a < 0
    · have q : decide (a < 0) = true := decide_eq_true h
      clear ha h
      go_enter Try.func17, Try.ntmps17
      go_wp2_with fail
      have x0 := K0.out.cell 0
      have x1 := K0.out.cell 1
      have x2 := K0.out.cell 2
      refine bodyPost_ret (v := .tuple #[.agg #[.int .i64 0, .slice none 0 0, .slice none 0 0], .int .i64 0, .int .i64 1]) (by simp [results, Try.results17, go_sem, x0, x1, x2]) rfl ⟨rfl, ?_⟩
      exact D0.out
    · have q : decide (a < 0) = false := decide_eq_false h
      have q2 : decide ((m : Int) < a) = true := decide_eq_true (by omega)
      clear ha h
      go_enter Try.func17, Try.ntmps17
      go_wp2_with fail
      have x0 := K0.out.cell 0
      have x1 := K0.out.cell 1
      have x2 := K0.out.cell 2
      refine bodyPost_ret (v := .tuple #[.agg #[.int .i64 0, .slice none 0 0, .slice none 0 0], .int .i64 0, .int .i64 1]) (by simp [results, Try.results17, go_sem, x0, x1, x2]) rfl ⟨rfl, ?_⟩
      exact D0.out
  · have hR := Lib.hid (fun e W => res_of (b := b) (a := a) (base := (w.alloc (.cells #[.int .i64 0, .slice none 0 0, .slice none 0 0] 25)).heap.size) (e := e) (w := W) ha)
    have q : decide (a < 0) = false := decide_eq_false (by omega)
    have q2 : decide ((b.length : Int) < a) = false := decide_eq_false (by omega)
    obtain ⟨o, rfl⟩ : ∃ o : Nat, a = (o : Int) := ⟨a.toNat, by omega⟩
    have q3 : decide (b.length < o) = false := decide_eq_false (by omega)
    have PR := Lib.hid (read_any 8 (by omega) (by omega) b hb o A b.length c rfl (by omega) hbc hc (by omega) _ (hs.on D0.out))
    rw [Int.toNat_natCast] at hR
    rw [show ((8 : Nat) : Int) = 8 from rfl] at PR
    clear hs hb hl hbc hc ha
    generalize b.length = m at *
    go_enter Try.func17, Try.ntmps17
    go_wp2_with fail
    refine PR.out.mono ?_; rintro e w2 ⟨h, bb⟩
    have hg := hR.out e w2 h
    have B2 := Lib.hid (below_on D0.out bb)
    have K2 := Lib.hid (K0.out.below bb K0.out.lt)
    clear bb h hR
    have f0 := K2.out.free 0
    have f1 := K2.out.free 1
    have f2 := K2.out.free 2
    have j0 := K2.out.cell 0
    have j1 := K2.out.cell 1
    have j2 := K2.out.cell 2
    cases hgp : getP b (o : Int) with
    | bad k =>
      rw [hgp] at hg
      obtain rfl : _ = _ := hg
      go_wp2_with fail
      have hk2 := ((K2.out.set 0 (.int .i64 0)).set 1 (.slice none 0 0)).set 2 (.slice none 0 0)
      have x0 := hk2.cell 0
      have x1 := hk2.cell 1
      have x2 := hk2.cell 2
      refine bodyPost_ret (v := .tuple #[.agg #[.int .i64 0, .slice none 0 0, .slice none 0 0], .int .i64 0, .int .i64 k]) (by simp [results, Try.results17, go_sem, x0, x1, x2]) rfl ⟨by rw [hgp]; rfl, ?_⟩
      exact below_setR (below_setR (below_setR B2.out (Nat.le_refl _) _) (Nat.le_refl _) _) (Nat.le_refl _) _
    | ok x n =>
      rw [hgp] at hg
      obtain ⟨A1, c1, A2, c2, rfl, hit⟩ := hg
      have HIt := Lib.hid hit
      clear hit
      go_wp2_with fail
      have hk2 := ((K2.out.set 0 (.int .i64 x.tag)).set 1 (.slice A1 x.b.length c1)).set 2 (.slice A2 x.l.length c2)
      have x0 := hk2.cell 0
      have x1 := hk2.cell 1
      have x2 := hk2.cell 2
      refine bodyPost_ret (v := .tuple #[.agg #[.int .i64 x.tag, .slice A1 x.b.length c1, .slice A2 x.l.length c2], .int .i64 n, .int .i64 0]) (by simp [results, Try.results17, go_sem, x0, x1, x2]) rfl ⟨?_, ?_⟩
      · rw [hgp]
        refine ⟨A1, c1, A2, c2, rfl, (HIt.out.keep (fun p hp => ?_)).more (fun g hg => ⟨by have := hg.1; simp at this; omega, by simpa [World.setCell] using hg.2⟩)⟩
        have hpb := hp.1
        have hne : ∀ j, (⟨w.heap.size, j, none⟩ : Addr) ≠ p := fun j e => by rw [← e] at hpb; simp at hpb; omega
        rw [World.cell?_setCell_other _ _ _ _ (hne 2), World.cell?_setCell_other _ _ _ _ (hne 1), World.cell?_setCell_other _ _ _ _ (hne 0)]
      · exact below_setR (below_setR (below_setR B2.out (Nat.le_refl _) _) (Nat.le_refl _) _) (Nat.le_refl _) _
end Go.Proofs.Yteafbfhojhpbgaa
