/- An item's bytes, or why there are none: the program's own Put. -/
import Derived.Test.YteafbfhojhpbgaaDerI
namespace Go.Proofs.Yteafbfhojhpbgaa
open Go.ChangeShapes Go.WideShapes Go.ChangeAt Go.RowKit Gs
set_option linter.unusedVariables false

theorem put_any : ∀ x : It, x.wt ≤ 100000000 → PutOf x := it_ind fun x ih hx => put_from x hx (fun y hy => ih y hy (by have := wt_child hy; omega))

/-- What is put: bytes, or why there are none. -/
def putB (x : It) : List Int := if mayI 8 x = true then (if 8192 < x.enc.length then [] else x.enc) else []
def putE (x : It) : Int := if mayI 8 x = true then (if 8192 < x.enc.length then 2 else 0) else 1
theorem own_nilB (w : World) (B : Nat) : OwnB w B (.slice none 0 0) [] := ⟨rfl, .inl ⟨rfl, rfl⟩⟩

set_option maxRecDepth 100000 in
set_option maxHeartbeats 8000000 in
theorem Put_any (x : It) (hwf : x.wf) (hx : x.wt ≤ 100000000) (Ab : Option Addr) (cb : Nat) (Al : Option Addr) (cl : Nat) (w : World) (hi : IR w w.heap.size x Ab cb Al cl) :
    Calls Try.prog 14 #[.agg #[.int .i64 x.tag, .slice Ab x.b.length cb, .slice Al x.l.length cl]] w fun e w' => (∃ v, e = .returned (.tuple #[v, .int .i64 (putE x)]) ∧ OwnB w' w.heap.size v (putB x)) ∧ Below w.heap.size w w' := by
  have hew := enc_wt x
  have PM := Lib.hid (fun W (h : IR W W.heap.size x Ab cb Al cl) => mayBe_any 8 (Nat.le_refl _) x hwf Ab cb Al cl W h)
  have PS := Lib.hid (fun W (h : IR W W.heap.size x Ab cb Al cl) => sizeOf_any x hx Ab cb Al cl W h)
  have PP := Lib.hid (put_any x hx)
  have HI := Lib.hid hi
  have HX := Lib.hid hx
  have HE := Lib.hid (show putE x = (if mayI 8 x = true then (if 8192 < x.enc.length then 2 else 0) else 1) from rfl)
  have HB := Lib.hid (show putB x = (if mayI 8 x = true then (if 8192 < x.enc.length then [] else x.enc) else []) from rfl)
  unfold PutOf at PP
  generalize mayI 8 x = may at *
  obtain ⟨m, hm⟩ : ∃ m, x.b.length = m := ⟨_, rfl⟩
  obtain ⟨n, hn⟩ : ∃ n, x.l.length = n := ⟨_, rfl⟩
  rw [hm, hn] at PM PS PP ⊢
  clear hi hwf hx hm hn
  have D0 := Lib.hid ((Below.refl w.heap.size w).alloc (Nat.le_refl _) (.cells #[.int .i64 x.tag, .slice Ab m cb, .slice Al n cl] 25))
  have K0 := Lib.hid (Blk.new w 25 #[.int .i64 x.tag, .slice Ab m cb, .slice Al n cl])
  cases may with
  | false =>
    have e1 : putE x = 1 := HE.out
    have e2 : putB x = [] := HB.out
    rw [e1, e2]
    clear e1 e2 HE HB
    go_enter Try.func14, Try.ntmps14
    go_wp2_with fail
    refine (PM.out _ (HI.out.on D0.out)).mono ?_; rintro _ w2 ⟨rfl, b⟩
    have B2 := Lib.hid (below_on D0.out b)
    clear b
    go_wp2_with fail
    go_ret2
    exact ⟨⟨_, rfl, own_nilB _ _⟩, B2.out⟩
  | true =>
    by_cases hb : 8192 < x.enc.length
    · have e1 : putE x = 2 := HE.out.trans (if_pos hb)
      have e2 : putB x = [] := HB.out.trans (if_pos hb)
      have q : decide ((8192 : Int) < (x.enc.length : Int)) = true := decide_eq_true (by omega)
      rw [e1, e2]
      generalize (x.enc.length : Int) = z at *
      clear e1 e2 HE HB hb hew
      go_enter Try.func14, Try.ntmps14
      go_wp2_with fail
      refine (PM.out _ (HI.out.on D0.out)).mono ?_; rintro _ w2 ⟨rfl, b⟩
      have B2 := Lib.hid (below_on D0.out b)
      have K2 := Lib.hid (K0.out.below b K0.out.lt)
      clear b
      have k0 := K2.out.cell 0
      have k1 := K2.out.cell 1
      have k2 := K2.out.cell 2
      go_wp2_with fail
      refine (PS.out _ (HI.out.on B2.out)).mono ?_; rintro _ w3 ⟨rfl, b⟩
      have B3 := Lib.hid (below_on B2.out b)
      clear b k0 k1 k2
      go_wp2_with fail
      go_ret2
      exact ⟨⟨_, rfl, own_nilB _ _⟩, B3.out⟩
    · have e1 : putE x = 0 := HE.out.trans (if_neg hb)
      have e2 : putB x = x.enc := HB.out.trans (if_neg hb)
      have q : decide ((8192 : Int) < (x.enc.length : Int)) = false := decide_eq_false (by omega)
      rw [e1, e2]
      have HZ : x.enc.length ≤ 8192 := by omega
      obtain ⟨z, hz⟩ : ∃ z : Nat, x.enc.length = z := ⟨_, rfl⟩
      rw [hz] at PS q HZ
      clear e1 e2 HE HB hb hew hz
      go_enter Try.func14, Try.ntmps14
      go_wp2_with fail
      refine (PM.out _ (HI.out.on D0.out)).mono ?_; rintro _ w2 ⟨rfl, b⟩
      have B2 := Lib.hid (below_on D0.out b)
      have K2 := Lib.hid (K0.out.below b K0.out.lt)
      clear b
      have k0 := K2.out.cell 0
      have k1 := K2.out.cell 1
      have k2 := K2.out.cell 2
      go_wp2_with fail
      refine (PS.out _ (HI.out.on B2.out)).mono ?_; rintro _ w3 ⟨rfl, b⟩
      have B3 := Lib.hid (below_on B2.out b)
      have K3 := Lib.hid (K2.out.below b K2.out.lt)
      clear b k0 k1 k2
      have k0 := K3.out.cell 0
      have k1 := K3.out.cell 1
      have k2 := K3.out.cell 2
      obtain ⟨i0, hi, hz0, hz1, hz2⟩ := info_parts Try.info5
      obtain ⟨w4, hrun, r1, r2⟩ := run_make_own (P := Try.prog) w3.drew w3.heap.size 22 5 i0 (.int .u8 0) 1 Try.underlying22 hi hz0 hz1 .i64 .i64 z (by rw [hz2]; omega) (by unfold maxLen; omega) (Nat.le_refl _)
      have B4 := Lib.hid (((Below.refl w3.heap.size w3).drew).trans ((Below.refl w3.heap.size w3.drew).grown r2 (Nat.le_refl _) (by simp)))
      have HO4 := Lib.hid r1
      have K4 := K3.out.below B4.out K3.out.lt
      have m0 := K4.cell 0
      have m1 := K4.cell 1
      have m2 := K4.cell 2
      have P4 := Lib.hid (PP.out w3.heap.size _ [] Ab cb Al cl w4 (own_b HO4.out rfl rfl) B4.out.size (by have := HX.out; simp; omega) ((HI.out.on B3.out).below B4.out))
      have hgg : w3.drew.heap.size = w3.heap.size := rfl
      rw [hgg] at hrun P4
      clear hi hz0 hz1 hz2 r1 r2 PP PS PM K4 hgg
      go_wp2_with fail
      go_region_held_law (fun w' => w'.cell? ⟨w.heap.size, 0, none⟩ = some (.int .i64 x.tag) ∧ w'.cell? ⟨w.heap.size, 1, none⟩ = some (.slice Ab m cb) ∧ w'.cell? ⟨w.heap.size, 2, none⟩ = some (.slice Al n cl)) (first | exact ⟨by assumption, by assumption, by assumption⟩ | go_keep)
        (first | (go_at_call 45; refine P4.out.mono ?_; rintro _ w5 ⟨⟨v5, rfl, ho5⟩, b5⟩; have HO5 := Lib.hid ho5; have hW := B4.out.trans b5; have n0 := (hW.cell (p := ⟨w.heap.size, 0, none⟩) K3.out.lt).trans k0; have n1 := (hW.cell (p := ⟨w.heap.size, 1, none⟩) K3.out.lt).trans k1; have n2 := (hW.cell (p := ⟨w.heap.size, 2, none⟩) K3.out.lt).trans k2))
      all_goals
        go_wp2_with fail
        go_ret2
        exact ⟨⟨_, rfl, own_less (show OwnB _ _ _ x.enc by simpa using HO5.out) B3.out.size⟩, B3.out.trans (hW.mono B3.out.size)⟩
end Go.Proofs.Yteafbfhojhpbgaa
