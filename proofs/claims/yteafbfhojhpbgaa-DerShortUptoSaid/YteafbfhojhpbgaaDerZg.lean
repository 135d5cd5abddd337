/- Bytes of an item that are cut short, plainly. -/
import Derived.Test.YteafbfhojhpbgaaDerU
namespace Go.Proofs.Yteafbfhojhpbgaa
open Go.ChangeShapes Go.WideShapes Go.ChangeAt Go.RowKit Gs
set_option linter.unusedVariables false
set_option maxRecDepth 10000

theorem rawG_bad {b : List Int} (h : hdS b = (0, 0, 70)) : rawG b = .bad 70 := by
  rw [rawG, dif_neg (by rw [h]; simp), h]
/-- The head alone, cut short, is short. -/
theorem hdR_cut (cc m : Nat) (hm : m < (lenB cc).length) (rest : List Int) : hdR ((lenB cc ++ rest).take m) = (0, 0, 70) := by
  unfold lenB at hm ⊢
  by_cases h1 : cc < 128
  · rw [if_pos h1] at hm ⊢
    have : m = 0 := by simp at hm; omega
    subst this
    rfl
  rw [if_neg h1] at hm ⊢
  by_cases h2 : cc < 256
  · rw [if_pos h2] at hm ⊢
    have : m = 0 ∨ m = 1 := by simp at hm; omega
    rcases this with rfl | rfl <;> rfl
  · rw [if_neg h2] at hm ⊢
    have : m = 0 ∨ m = 1 ∨ m = 2 := by simp at hm; omega
    rcases this with rfl | rfl | rfl <;> rfl
theorem rawG_cut {x : It} (hf : x.form = true) (hl : x.enc.length ≤ 8192) {n : Nat} (hn : n < x.enc.length) : rawG (x.enc.take n) = .bad 70 := by
  have htag := form_tag hf
  have hE : x.enc = x.tag :: (lenB x.cont ++ (x.b ++ encs x.l)) := by rw [enc_is, tag_mod htag]; rfl
  have hlen := enc_len x
  rcases n with _ | m
  · rw [List.take_zero]; exact rawG_bad rfl
  by_cases hm : m < (lenB x.cont).length
  · refine rawG_bad ?_
    rw [hE, List.take_succ_cons]
    show (if isTag x.tag = true then hdR _ else _) = _
    rw [if_pos htag]
    exact hdR_cut x.cont m hm _
  · have e : x.enc.take (m + 1) = x.tag :: (lenB x.cont ++ (x.b ++ encs x.l).take (m - (lenB x.cont).length)) := by
      rw [hE, List.take_succ_cons, List.take_append, List.take_of_length_le (by omega)]
    have h0 : hdS (x.enc.take (m + 1)) = (1 + (lenB x.cont).length, x.cont, 0) := by rw [e]; exact hdS_enc x.tag htag x.cont (by omega) _
    have ht : (x.enc.take (m + 1)).length = m + 1 := by rw [List.length_take]; omega
    rw [rawG, dif_pos (by rw [h0]), if_neg (by rw [h0]; simp only []; omega), dif_pos (by rw [h0, ht]; simp only []; omega)]
/-- Cut anywhere: it is short. -/
theorem get_cut {x : It} (hm : mayI 8 x = true) (hl : x.enc.length ≤ 8192) {n : Nat} (hn : n < x.enc.length) : getP (x.enc.take n) 0 = .bad 70 := by
  unfold getP
  rw [if_neg (by omega), show (0 : Int).toNat = 0 from rfl, List.drop_zero, rawG_cut ((may_iff 8 x).1 hm).1 hl hn]
  rfl
theorem rawG_seq (L : List Int) (n : Nat) (hL : L.length = n) (h1 : 1 ≤ n) (h2 : n ≤ 127) (hr : rawG L = .bad 70) : rawG ((48 : Int) :: (n : Int) :: L) = .bad 71 := by
  have h0 : hdS ((48 : Int) :: (n : Int) :: L) = (2, n, 0) := by
    have e : hdS ((48 : Int) :: (n : Int) :: L) = hdN (n : Int) L := by
      show (if isTag 48 = true then hdR ((n : Int) :: L) else (0, 0, 71)) = _
      rw [if_pos (show isTag 48 = true by decide)]
      rfl
    rw [e]
    unfold hdN
    rw [if_pos (by omega), Int.toNat_natCast]
  have hne : L ≠ [] := fun e => by rw [e] at hL; simp at hL; omega
  rw [rawG_go h0 (by omega) (by simp; omega)]
  have e : (((48 : Int) :: (n : Int) :: L).drop 2).take n = L := by
    show L.take n = _
    exact List.take_of_length_le (by omega)
  have e0 : ((48 : Int) :: (n : Int) :: L)[0]?.getD 0 = 48 := rfl
  rw [if_pos e0, e, rawL_cons hne, hr]
/-- Cut anywhere, within a sequence's length of their own: of no form. -/
theorem get_cut_seq {x : It} (hm : mayI 8 x = true) (hl : x.enc.length ≤ 8192) {n : Nat} (hn : n < x.enc.length) (h1 : 1 ≤ n) (h2 : n ≤ 127) : getP ([48, (n : Int)] ++ x.enc.take n) 0 = .bad 71 := by
  have e := rawG_seq (x.enc.take n) n (by rw [List.length_take]; omega) h1 h2 (rawG_cut ((may_iff 8 x).1 hm).1 hl hn)
  unfold getP
  rw [if_neg (by omega), show (0 : Int).toNat = 0 from rfl, List.drop_zero]
  show getK 0 (rawG ((48 : Int) :: (n : Int) :: x.enc.take n)) = _
  rw [e]
  rfl
end Go.Proofs.Yteafbfhojhpbgaa
