/- The document's answers of names: texts cut at dots, names, stars. -/
import Derived.Test.YtcmkfomfmjgmpaaNamesF
namespace Go.Proofs.Ytcmkfomfmjgmpaa
open Go.ChangeShapes Go.WideShapes Go.ChangeAt Go.RowKit Go.Shelf Gs
set_option linter.unusedVariables false

theorem Labels_no (s : ByteArray) (hn : nameB (bl s) = false) (w : World) :
    Calls Try.prog 18 #[.string s] w fun e w' => e = .returned (.slice none 0 0) ∧ Below w.heap.size w w' := by
  have CK := Lib.hid (Check_no s hn)
  clear hn
  go_enter Try.func18, Try.ntmps18
  go_wp2_with fail
  refine (CK.out _).mono ?_; rintro e w1 ⟨rfl, b⟩
  go_wp2_with fail
  go_ret
  exact ⟨rfl, b⟩

/-- So far a text is cut: before k all is seen, from f on there was no dot. -/
def CutSt (l : List UInt8) (k f : Nat) (pre : List (List UInt8)) : Prop := f ≤ k ∧ k ≤ l.length ∧ cuts l = pre ++ cuts (l.drop f) ∧ 46 ∉ (l.drop f).take (k - f)
theorem cutSt_0 (l : List UInt8) : CutSt l 0 0 [] := ⟨Nat.le_refl _, Nat.zero_le _, by simp, by simp⟩
theorem cutSt_hit {l : List UInt8} {k f : Nat} {pre : List (List UInt8)} (h : CutSt l k f pre) (hk : k < l.length) (e : l[k] = 46) : CutSt l (k + 1) (k + 1) (pre ++ [(l.drop f).take (k - f)]) := by
  obtain ⟨h1, h2, h3, h4⟩ := h
  refine ⟨Nat.le_refl _, hk, ?_, by simp⟩
  have e2 : l.drop f = (l.drop f).take (k - f) ++ 46 :: l.drop (k + 1) := by
    have e3 : (l.drop f).drop (k - f) = 46 :: l.drop (k + 1) := by
      rw [List.drop_drop, show f + (k - f) = k by omega, List.drop_eq_getElem_cons hk, e]
    rw [← e3, List.take_append_drop]
  rw [h3]
  conv => lhs; rw [e2]
  rw [cuts_app h4]
  simp
theorem cutSt_miss {l : List UInt8} {k f : Nat} {pre : List (List UInt8)} (h : CutSt l k f pre) (hk : k < l.length) (e : l[k] ≠ 46) : CutSt l (k + 1) f pre := by
  obtain ⟨h1, h2, h3, h4⟩ := h
  refine ⟨by omega, hk, h3, ?_⟩
  rw [show k + 1 - f = (k - f) + 1 by omega, List.take_succ_eq_append_getElem (by rw [List.length_drop]; omega), List.mem_append, not_or]
  refine ⟨h4, ?_⟩
  rw [List.mem_singleton, List.getElem_drop]
  intro e2
  exact e (by rw [e2]; congr 1; omega)
theorem cutSt_end {l : List UInt8} {f : Nat} {pre : List (List UInt8)} (h : CutSt l l.length f pre) : cuts l = pre ++ [l.drop f] := by
  obtain ⟨h1, h2, h3, h4⟩ := h
  rw [List.take_of_length_le (by rw [List.length_drop]; omega)] at h4
  rw [h3, cuts_one h4]
theorem cutSt_len {l : List UInt8} {k f : Nat} {pre : List (List UInt8)} (h : CutSt l k f pre) : pre.length ≤ f := by
  obtain ⟨h1, h2, h3, h4⟩ := h
  have hc : ∀ l : List UInt8, ((cuts l).map List.length).sum + (cuts l).length = l.length + 1 := by
    intro l
    induction l with
    | nil => rfl
    | cons c l ih =>
      by_cases hc : c = 46
      · subst hc; rw [cuts_dot]; simp; omega
      · obtain ⟨d, t, e1, e2⟩ := cuts_cons hc l
        rw [e1] at ih; rw [e2]; simp at ih ⊢; omega
  have h5 := hc l
  have h6 := hc (l.drop f)
  rw [h3] at h5
  simp only [List.map_append, List.sum_append, List.length_append, List.length_drop] at h5 h6
  omega

/-- A row of texts that is owned. -/
def OwnT (w : World) (base : Nat) (v : Value) (ls : List (List UInt8)) : Prop := w.ownsRow base 9 1 v ls.length (ls.map encStr)

set_option maxRecDepth 100000 in
set_option maxHeartbeats 4000000 in
theorem cut_any11 (s : ByteArray) (hs : s.size ≤ 1000000) (w : World) :
    Calls Try.prog 37 #[.string s] w fun e w' => (∃ v, e = .returned v ∧ OwnT w' w.heap.size v (cuts (bl s))) ∧ Below w.heap.size w w' := by
  obtain ⟨i0, hi, hz0, hz1, hz2⟩ := info_parts names_info
  have HI := Lib.hid (And.intro hi (And.intro hz0 (And.intro hz1 hz2)))
  clear hi hz0 hz1 hz2
  go_enter Try.func37, Try.ntmps37
  go_wp2_with fail
  go_loopw [3, 4, 5] (fun v f i wr => ∃ (k g : Nat) (pre : List (List UInt8)), k ≤ s.size ∧ g ≤ k ∧ pre.length ≤ g ∧ f = .int .i64 (g : Int) ∧ i = .int .i64 (k : Int) ∧ Hid (CutSt (bl s) k g pre) ∧ OwnT wr w.heap.size v pre ∧ Below w.heap.size w wr) (fun _ _ i _ => s.size - (intOf i).toNat)
  case atStart => exact ⟨0, 0, [], Nat.zero_le _, Nat.le_refl _, Nat.le_refl _, rfl, rfl, Lib.hid (cutSt_0 _), World.ownsRow_nil _ _ _ _, Below.refl _ _⟩
  case round =>
    obtain ⟨k, g, pre, hk, hg, hp, rfl, rfl, HC, ho, hb⟩ := hrel
    have HO := Lib.hid ho
    have HB := Lib.hid hb
    have hbz := hb.size
    clear ho hb
    by_cases hlt : k < s.size
    · have hw0 : IntKind.i64.wrap ((k : Int) + 1) = (k : Int) + 1 := IntWalk.i64_in _ (by omega)
      by_cases hc : (s[k]'hlt).toNat = 46
      · have hc' : (((s[k]'hlt).toNat : Int) == 46) = true := by simp; omega
        have HE := Lib.hid (cutSt_hit HC.out (by rw [bl_len]; exact hlt) (by rw [bl_get s k hlt]; exact UInt8.toNat_inj.1 hc))
        have HL := Lib.hid (cutSt_len HE.out)
        have HX := Lib.hid (show encStr (((bl s).drop g).take (k - g)) = .string (s.extract g k) from by
          unfold encStr; congr 1; exact bl_inj (by rw [bl_mk, bl_ext]))
        clear hc
        have c1 : (0 : Int) ≤ (g : Int) := by omega
        have c2 : (g : Int) ≤ (k : Int) := by omega
        have c3 : (k : Int) ≤ (s.size : Int) := by omega
        obtain ⟨m, hm⟩ : ∃ m, pre.length = m := ⟨_, rfl⟩
        have HM := Lib.hid hm
        have HO2 : Hid (wr.ownsRow w.heap.size 9 1 _ m (pre.map encStr)) := Lib.hid (by rw [← hm]; exact HO.out)
        rw [hm] at hp
        clear hm
        go_wp2_with (at_builtin; refine wpList_append_own _ rfl _ _ 26 rfl w.heap.size 9 i0 (.string ⟨#[]⟩) 1 16 Try.underlying26 HI.out.1 HI.out.2.1 HI.out.2.2.1 HI.out.2.2.2 rfl (by decide) _ _ _ rfl (HO2.out.alloc _) ⟨wr.heap.size, 0, none⟩ 1 1 [.string (s.extract g k)] rfl rfl (cell_one_new _ _ _) (by simp [Value.oneCell']) (by unfold maxLen; omega) (by omega) (by simp; omega) ?_; intro v' w1 hown' hgrow _; have HO3 := Lib.hid hown'; have HG := Lib.hid hgrow; clear hown' hgrow)
        go_roundw
        case rel =>
          refine ⟨k + 1, k + 1, _, by omega, Nat.le_refl _, HL.out, rfl, by go_num, HE, ?_, ?_⟩
          · unfold OwnT
            rw [List.map_append, List.length_append, HM.out, List.map_singleton, HX.out]
            exact HO3.out
          · refine (HB.out.alloc HB.out.size _).grown HG.out (by have := HB.out.size; simp; omega) (fun g e => ?_)
            exact own_ge HO.out g e
        case measure => simp [intOf]; omega
      · have hc' : (((s[k]'hlt).toNat : Int) == 46) = false := by simp; omega
        have HE := Lib.hid (cutSt_miss HC.out (by rw [bl_len]; exact hlt) (by rw [bl_get s k hlt]; exact fun e => hc (by rw [e]; rfl)))
        clear hc
        go_wp2_with fail
        go_roundw
        case rel => exact ⟨k + 1, g, pre, by omega, by omega, hp, rfl, by go_num, HE, HO.out, HB.out⟩
        case measure => simp [intOf]; omega
    · obtain rfl : k = s.size := by omega
      have HE := Lib.hid (cutSt_end (l := bl s) (f := g) (pre := pre) (by rw [bl_len]; exact HC.out))
      have HX := Lib.hid (show encStr ((bl s).drop g) = .string (s.extract g s.size) from by
          unfold encStr; congr 1; exact bl_inj (by rw [bl_mk, bl_from]))
      have c1 : (0 : Int) ≤ (g : Int) := by omega
      have c3 : (g : Int) ≤ (s.size : Int) := by omega
      obtain ⟨m, hm⟩ : ∃ m, pre.length = m := ⟨_, rfl⟩
      have HM := Lib.hid hm
      have HO2 : Hid (wr.ownsRow w.heap.size 9 1 _ m (pre.map encStr)) := Lib.hid (by rw [← hm]; exact HO.out)
      rw [hm] at hp
      clear hm
      go_wp2_with (at_builtin; refine wpList_append_own _ rfl _ _ 26 rfl w.heap.size 9 i0 (.string ⟨#[]⟩) 1 16 Try.underlying26 HI.out.1 HI.out.2.1 HI.out.2.2.1 HI.out.2.2.2 rfl (by decide) _ _ _ rfl (HO2.out.alloc _) ⟨wr.heap.size, 0, none⟩ 1 1 [.string (s.extract g s.size)] rfl rfl (cell_one_new _ _ _) (by simp [Value.oneCell']) (by unfold maxLen; omega) (by omega) (by simp; omega) ?_; intro v' w1 hown' hgrow _; have HO3 := Lib.hid hown'; have HG := Lib.hid hgrow; clear hown' hgrow)
      go_ret
      refine ⟨⟨_, rfl, ?_⟩, ?_⟩
      · rw [HE.out]
        unfold OwnT
        rw [List.map_append, List.length_append, HM.out, List.map_singleton, HX.out]
        exact HO3.out
      · refine (HB.out.alloc HB.out.size _).grown HG.out (by have := HB.out.size; simp; omega) (fun g e => ?_)
        exact own_ge HO.out g e
end Go.Proofs.Ytcmkfomfmjgmpaa
