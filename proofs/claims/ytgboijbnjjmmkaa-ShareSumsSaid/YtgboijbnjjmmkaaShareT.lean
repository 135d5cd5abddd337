/- What package share tells of shares: their ids, whether all are below, public keys at a place. -/
import Derived.Test.YtgboijbnjjmmkaaShareR
import Derived.Laws.EntriesVeiled
namespace Go.Proofs.Ytgboijbnjjmmkaa
open Go.ChangeShapes Go.WideShapes Go.ChangeAt Go.RowKit Gs
set_option linter.unusedVariables false

theorem idsOf_any (A : Option Addr) (n c : Nat) (l : List (Int × Int)) (hn : l.length = n) (hl : n ≤ 1048576) (w : World) (hs : SS w w.heap.size A l) :
    Calls Try.prog 39 #[.slice A n c] w fun e w' => ∃ v', e = .returned v' ∧ OwnI w' w.heap.size v' (l.map Prod.fst) ∧ Below w.heap.size w w' := by
  have P := Lib.hid (throughI_any A n c l hn hl w hs)
  clear hn hs
  go_enter Try.func39, Try.ntmps39
  go_wp2_with fail
  refine P.out.mono ?_; rintro e w' ⟨v, rfl, ho, b⟩
  have HO := Lib.hid ho
  have HB := Lib.hid b
  clear ho b
  go_wp2_with fail
  go_ret
  exact ⟨_, rfl, HO.out, HB.out⟩

theorem allBelow_any (A : Option Addr) (n c : Nat) (l : List (Int × Int)) (hn : l.length = n) (hl : n ≤ 1048576) (hu : ∀ p ∈ l, 0 ≤ p.2 ∧ p.2 < 18446744073709551616) (w : World) (hs : SS w w.heap.size A l) :
    Calls Try.prog 40 #[.slice A n c, .func (.func 41) #[] #[]] w fun e w' => e = .returned (.bool (l.all fun p => decide (p.2 < 1152921504606845789))) ∧ Below w.heap.size w w' := by
  have D0 := Lib.hid ((Below.refl w.heap.size w).alloc (Nat.le_refl _) (.cells #[.func (.func 41) #[] #[]] 61))
  have HS := Lib.hid (hs.on D0.out)
  have K := Lib.hid ((Blk.new w 61 #[.func (.func 41) #[] #[]]).cell 0)
  have P := Lib.hid (fun W hs hB hw => throughB_any A n c l hn hl hu w.heap.size W hs hB hw)
  clear hn hs hu
  generalize (l.all fun p => decide (p.2 < 1152921504606845789)) = z at *
  go_enter Try.func40, Try.ntmps40
  go_wp2_with fail
  refine (P.out _ HS.out (by simp) K.out).mono ?_; rintro e w' ⟨rfl, b⟩
  have HB := Lib.hid (below_on D0.out b)
  clear b
  go_wp2_with fail
  go_ret
  exact ⟨rfl, HB.out⟩

theorem allIn_any (A : Option Addr) (n c : Nat) (l : List (Int × Int)) (hn : l.length = n) (hl : n ≤ 1048576) (hu : ∀ p ∈ l, 0 ≤ p.2 ∧ p.2 < 18446744073709551616) (w : World) (hs : SS w w.heap.size A l) :
    Calls Try.prog 40 #[.slice A n c, .func (.func 54) #[] #[]] w fun e w' => e = .returned (.bool (l.all fun p => qin p.2)) ∧ Below w.heap.size w w' := by
  have D0 := Lib.hid ((Below.refl w.heap.size w).alloc (Nat.le_refl _) (.cells #[.func (.func 54) #[] #[]] 61))
  have HS := Lib.hid (hs.on D0.out)
  have K := Lib.hid ((Blk.new w 61 #[.func (.func 54) #[] #[]]).cell 0)
  have P := Lib.hid (fun W hs hB hw => throughIn_any A n c l hn hl hu w.heap.size W hs hB hw)
  clear hn hs hu
  generalize (l.all fun p => qin p.2) = z at *
  go_enter Try.func40, Try.ntmps40
  go_wp2_with fail
  refine (P.out _ HS.out (by simp) K.out).mono ?_; rintro e w' ⟨rfl, b⟩
  have HB := Lib.hid (below_on D0.out b)
  clear b
  go_wp2_with fail
  go_ret
  exact ⟨rfl, HB.out⟩

/-- The closure of weights stands in a box. -/
theorem wbox_new {w w2 : World} {A : Option Addr} {n c : Nat} {ids : List Int} {pl : Int} (hn : ids.length = n) (hs : SI w w.heap.size .i64 A ids) (t1 t2 t3 : TypeId) (h : w2 = (w.alloc (.cells #[.slice A n c] t1)).alloc (.cells #[.int .i64 pl] t2)) :
    WBox (w2.alloc (.cells #[.func (.func 75) #[] #[.pointer (some ⟨w.heap.size, 0, none⟩), .pointer (some ⟨w.heap.size + 1, 0, none⟩)]] t3)) w2.heap.size w.heap.size (w.heap.size + 1) ids pl := by
  subst hn h
  have b1 : Below w.heap.size w (w.alloc (.cells #[.slice A ids.length c] t1)) := (Below.refl _ _).alloc (Nat.le_refl _) _
  refine ⟨by simp, by simp; omega, by simp, (Blk.new_at _ _ _ (by simp)).cell 0, (((Blk.new_at _ _ _ (by simp)).alloc _)).cell 0, A, c, ((((Blk.new_at _ _ _ rfl).alloc _)).alloc _).cell 0, ?_⟩
  exact hs.on (((b1.alloc (by simp) _)).alloc (by simp; omega) _)
theorem two_new {w w2 : World} {o1 o2 : Obj} (h : w2 = (w.alloc o1).alloc o2) : Below w.heap.size w w2 := by
  subst h; exact ((Below.refl w.heap.size w).alloc (Nat.le_refl _) o1).alloc (by simp) o2

theorem publicAt_any (A : Option Addr) (n c : Nat) (l : List (Int × Int)) (hn : l.length = n) (ids : List Int) (hids : l.map Prod.fst = ids) (hu : ∀ p ∈ l, 0 ≤ p.2 ∧ p.2 < 18446744073709551616) (hr : RightI ids) (i : Int) (i0 : 0 ≤ i) (i1 : i < 9223372036854775808) (w : World) (hs : SS w w.heap.size A l) :
    Calls Try.prog 55 #[.slice A n c, .int .i64 i] w fun e w' => e = .returned (.int .u64 (qat ids i l)) ∧ Below w.heap.size w w' := by
  have hl : n ≤ 1048576 := by have := hr.2.1; rw [← hids] at this; simp at this; omega
  have hm : ∀ p ∈ l, p.1 ∈ ids := fun p hp => by rw [← hids]; exact List.mem_map_of_mem hp
  have B0 := Lib.hid (Below.refl w.heap.size w)
  have HS := Lib.hid hs
  have P1 := Lib.hid (idsOf_any A n c l hn hl w hs)
  have HN := Lib.hid (show ids.length = n by rw [← hids, ← hn]; simp)
  rw [hids] at P1
  have P3 := Lib.hid (fun Bw Bi Bp W hs hw => throughQ_any A n c l hn hl hu Bw Bi Bp i ids i0 i1 hr hm W hs hw)
  clear hn hids hs hu hr hm
  go_enter Try.func55, Try.ntmps55
  go_wp2_with fail
  refine P1.out.mono ?_; rintro e w1 ⟨v, rfl, ho, b⟩
  obtain ⟨A', c', rfl, hc1, hc2, hs1, _⟩ := own_sliceI ho
  have HI1 := Lib.hid hs1
  have B1 := Lib.hid (below_on B0.out b)
  clear ho b hs1
  rw [HN.out] at hc1 ⊢
  go_wp2_with fail
  refine (weights_any A' n c' i w1).mono ?_; rintro e w2 ⟨rfl, hw2⟩
  have W0 := Lib.hid (fun t3 => wbox_new (c := c') (pl := i) HN.out HI1.out _ _ t3 hw2)
  have B2 := Lib.hid (below_on B1.out (two_new hw2))
  clear hw2
  go_wp2_with fail
  have B4 := Lib.hid (fun o => below_on B2.out ((Below.refl w2.heap.size w2).alloc (Nat.le_refl _) o))
  refine (P3.out _ _ _ _ (HS.out.on (B4.out _)) (W0.out _)).mono ?_; rintro e w3 ⟨rfl, b⟩
  have B3 := Lib.hid (below_on (B4.out _) b)
  clear b
  go_wp2_with fail
  go_ret
  exact ⟨rfl, B3.out⟩
end Go.Proofs.Ytgboijbnjjmmkaa
