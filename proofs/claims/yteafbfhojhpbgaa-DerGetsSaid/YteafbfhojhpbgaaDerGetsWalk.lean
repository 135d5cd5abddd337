/- The walk of the law DerGets. -/
import Derived.Test.YteafbfhojhpbgaaDerX
import Derived.Test.YteafbfhojhpbgaaDerZd
import Derived.Test.YteafbfhojhpbgaaDerZe
namespace Go.Proofs.Yteafbfhojhpbgaa
open Go.ChangeShapes Go.WideShapes Go.ChangeAt Go.RowKit Gs
set_option linter.unusedVariables false

theorem nbx (w : World) (o : Obj) : Below w.heap.size w (w.alloc o) := (Below.refl _ _).alloc (Nat.le_refl _) _
/-- Whatever is read is an item whose numbers fit. -/
theorem getP_wf {b : List Int} (hb : ∀ x ∈ b, 0 ≤ x ∧ x < 256) {a : Int} {x : It} {n : Nat} (h : getP b a = .ok x n) : x.wf := by
  unfold getP at h
  by_cases ha : a < 0 ∨ (b.length : Int) < a
  · rw [if_pos ha] at h; cases h
  · rw [if_neg ha] at h
    cases hr : rawG (b.drop a.toNat) with
    | bad e' => rw [hr] at h; cases h
    | ok y m =>
      rw [hr] at h
      cases hm : mayI 8 y with
      | false => rw [getK_no hm] at h; cases h
      | true =>
        rw [getK_yes hm] at h
        injection h with h1 h2
        subst h1
        exact ((raw_back _ (b.drop a.toNat) (Nat.le_refl _) (fun z hz => hb z (List.mem_of_mem_drop hz))).1 y m hr).2.2

set_option maxRecDepth 100000 in
set_option maxHeartbeats 8000000 in
theorem gets_walk7 (A : Option Addr) (c : Nat) (b : List Int) (a : Int) (w : World) (hs : SI w w.heap.size .u8 A b) (hl : b.length ≤ c) (hm : c ≤ maxLen) (hx : ∀ n ∈ b, (Lit.int .u8 n).wf = true) :
    Calls Try.prog 4 #[.slice A b.length c, .int .i64 a] w fun e w' => e = .returned (.bool true) ∧ Below w.heap.size w w' := by
  have hb : ∀ x ∈ b, 0 ≤ x ∧ x < 256 := fun x h => u8_wf (hx x h)
  have HS := Lib.hid hs
  by_cases h9 : 9000 < b.length
  · have q : decide ((9000 : Int) < (b.length : Int)) = true := decide_eq_true (by omega)
    clear hs hl hm hx hb h9
    generalize b.length = n at *
    go_enter Try.func4, Try.ntmps4
    go_wp2_with fail
    refine (live7 _).mono ?_; rintro _ w1 ⟨rfl, bb⟩
    have B1 := Lib.hid bb
    clear bb
    go_wp2_with fail
    go_ret
    exact ⟨rfl, B1.out⟩
  have q : decide ((9000 : Int) < (b.length : Int)) = false := decide_eq_false (by omega)
  have q' : decide (9000 < b.length) = false := decide_eq_false h9
  have PG := Lib.hid (fun W (h : SI W W.heap.size .u8 A b) => Get_any b hb (by omega) a A c W hl hm h)
  have PR := Lib.hid (fun W (h : SI W W.heap.size .u8 A b) => Get7_any b hb (by omega) a A c W hl hm h)
  cases hg : getP b a with
  | bad e =>
    rw [hg] at PG PR
    have SY := Lib.hid (fun W => sameYes_any (.mk 0 [] []) (by rw [It.wf]; exact ⟨⟨by omega, by omega⟩, fun x hx => by simp at hx, by rw [wfs]; trivial⟩) none 0 none 0 none 0 none 0 W ⟨Nat.le_refl _, by unfold maxLen; omega, fun j hj => absurd hj (Nat.not_lt_zero j), Nat.le_refl _, by unfold maxLen; omega, fun j hj => absurd hj (Nat.not_lt_zero j)⟩ ⟨Nat.le_refl _, by unfold maxLen; omega, fun j hj => absurd hj (Nat.not_lt_zero j), Nat.le_refl _, by unfold maxLen; omega, fun j hj => absurd hj (Nat.not_lt_zero j)⟩)
    have SY : Hid (∀ W : World, Calls Try.prog 18 #[.agg #[.int .i64 0, .slice none 0 0, .slice none 0 0], .agg #[.int .i64 0, .slice none 0 0, .slice none 0 0]] W fun e w' => e = .returned (.bool true) ∧ Below W.heap.size W w') := Lib.hid (fun W => SY.out W)
    clear hs hl hm hx hb h9 hg
    generalize b.length = n at *
    go_enter Try.func4, Try.ntmps4
    go_wp2_with fail
    refine (live7 _).mono ?_; rintro _ w1 ⟨rfl, bb⟩
    have B1 := Lib.hid bb
    clear bb
    go_wp2_with fail
    refine (PG.out _ (HS.out.on B1.out)).mono ?_; rintro _ w2 ⟨h, bb⟩
    obtain rfl : _ = _ := h
    have B2 := Lib.hid ((below_on B1.out bb).alloc (below_on B1.out bb).size (.cells #[.int .i64 0, .slice none 0 0, .slice none 0 0] 25))
    have X2 := Lib.hid (Blk.new w2 25 #[.int .i64 0, .slice none 0 0, .slice none 0 0])
    clear bb
    go_wp2_with fail
    refine (PR.out _ (HS.out.on B2.out)).mono ?_; rintro _ w3 ⟨h, bb⟩
    obtain rfl : _ = _ := h
    have B3 := Lib.hid ((below_on B2.out bb).alloc (below_on B2.out bb).size (.cells #[.int .i64 0, .slice none 0 0, .slice none 0 0] 25))
    have X3 := Lib.hid ((X2.out.below bb X2.out.lt).alloc (.cells #[.int .i64 0, .slice none 0 0, .slice none 0 0] 25))
    clear bb
    have x0 := X3.out.cell 0
    have x1 := X3.out.cell 1
    have x2 := X3.out.cell 2
    go_wp2_with fail
    refine (SY.out _).mono ?_; rintro _ w4 ⟨rfl, bb⟩
    have B4 := Lib.hid (below_on B3.out bb)
    clear bb
    go_wp2_with fail
    go_ret
    exact ⟨rfl, B4.out⟩
  | ok x n =>
    rw [hg] at PG PR
    have hwf := getP_wf hb hg
    have SY := Lib.hid (sameYes_any x hwf)
    unfold SameYes at SY
    clear hs hl hm hx hb h9 hg hwf
    generalize b.length = m at *
    go_enter Try.func4, Try.ntmps4
    go_wp2_with fail
    refine (live7 _).mono ?_; rintro _ w1 ⟨rfl, bb⟩
    have B1 := Lib.hid bb
    clear bb
    go_wp2_with fail
    refine (PG.out _ (HS.out.on B1.out)).mono ?_; rintro _ w2 ⟨⟨A1, c1, A2, c2, rfl, hit⟩, bb⟩
    have hir := hit.more (S' := (· < w2.heap.size)) (fun g hg => hg.2)
    obtain ⟨Ab, cb, Al, cl, e1, e2, hi⟩ := IR.of hir
    injection e1 with e1 _ e3
    injection e2 with e2 _ e4
    subst e1; subst e3; subst e2; subst e4
    have b2 := nbx w2 (.cells #[.int .i64 x.tag, .slice A1 x.b.length c1, .slice A2 x.l.length c2] 25)
    have B2 := Lib.hid (below_on (below_on B1.out bb) b2)
    have X2 := Lib.hid (Blk.new w2 25 #[.int .i64 x.tag, .slice A1 x.b.length c1, .slice A2 x.l.length c2])
    have I2 := Lib.hid (hi.on b2)
    clear bb b2 hit hir hi
    go_wp2_with fail
    refine (PR.out _ (HS.out.on B2.out)).mono ?_; rintro _ w3 ⟨⟨A3, c3, A4, c4, rfl, hit⟩, bb⟩
    have hir := hit.more (S' := (· < w3.heap.size)) (fun g hg => hg.2)
    obtain ⟨Ab, cb, Al, cl, e1, e2, hi⟩ := IR.of hir
    injection e1 with e1 _ e3
    injection e2 with e2 _ e4
    subst e1; subst e3; subst e2; subst e4
    have b3 := nbx w3 (.cells #[.int .i64 x.tag, .slice A3 x.b.length c3, .slice A4 x.l.length c4] 25)
    have B3 := Lib.hid (below_on (below_on B2.out bb) b3)
    have X3 := Lib.hid ((X2.out.below bb X2.out.lt).alloc (.cells #[.int .i64 x.tag, .slice A3 x.b.length c3, .slice A4 x.l.length c4] 25))
    have I3 := Lib.hid ((I2.out.on bb).on b3)
    have J3 := Lib.hid (hi.on b3)
    have P4 := Lib.hid (SY.out A1 c1 A2 c2 A3 c3 A4 c4 _ I3.out J3.out)
    clear bb b3 hit hir hi
    have x0 := X3.out.cell 0
    have x1 := X3.out.cell 1
    have x2 := X3.out.cell 2
    generalize x.tag = tg at *
    generalize x.b.length = m1 at *
    generalize x.l.length = m2 at *
    go_wp2_with fail
    refine P4.out.mono ?_; rintro _ w4 ⟨rfl, bb⟩
    have B4 := Lib.hid (below_on B3.out bb)
    clear bb
    go_wp2_with fail
    go_ret
    exact ⟨rfl, B4.out⟩
end Go.Proofs.Yteafbfhojhpbgaa
