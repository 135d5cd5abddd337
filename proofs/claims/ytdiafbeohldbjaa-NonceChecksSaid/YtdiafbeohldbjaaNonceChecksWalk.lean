/- The walk of NonceChecks. (Printed by tools/gen_nonce_laws.py.) -/
import Derived.Test.YtdiafbeohldbjaaNonceLive
namespace Go.Proofs.Ytdiafbeohldbjaa
open Go.ChangeShapes Go.WideShapes Go.ChangeAt Go.RowKit Gs
set_option linter.unusedVariables false
set_option linter.unusedSimpArgs false

set_option maxRecDepth 100000 in
set_option maxHeartbeats 8000000 in
theorem checks_walk21 (nx : Int) (A : Option Addr) (n c : Nat) (L : List (Int × Int)) (hn : L.length = n) (now : Int) (W : World) (hs : NS W W.heap.size A L) (hc : n ≤ c) (hm : c ≤ maxLen) :
    Calls Try.prog 3 #[fv nx A n c, .int .i64 now] W fun e w' => e = .returned (.bool true) ∧ Below W.heap.size W w' := by
  have hs0 := Lib.hid hs
  have hmx := Lib.hid (show n ≤ maxLen by omega)
  have hcap := Lib.hid (And.intro hc hm)
  have HN := Lib.hid hn
  clear hs hn
  by_cases h100 : n ≤ 100
  rotate_left 1
  · have h100d := Lib.hid (decide_eq_false h100)
    go_enter Try.func3, Try.ntmps3
    go_wp2_with fail
    have HB := Lib.hid (Below.refl W.heap.size W)
    have S0 := Lib.hid (hs0.out)
    have na := nb0 W (.cells #[.int .i64 nx, .slice A n c] 24)
    have HB := Lib.hid (below_on HB.out na)
    have S0 := Lib.hid (S0.out.on na)
    have X0 := Lib.hid (show Blk (W.alloc (.cells #[.int .i64 nx, .slice A n c] 24)) W.heap.size 24 #[.int .i64 nx, .slice A n c] from Blk.new_at _ _ _ rfl)
    clear na
    have LW := Lib.hid X0.out.lt
    refine (live21 _).mono ?_; rintro _ w1 ⟨rfl, b⟩
    have HB := Lib.hid (below_on HB.out b)
    have S0 := Lib.hid (S0.out.on b)
    have X0 := Lib.hid (X0.out.below b X0.out.lt)
    have LW := Lib.hid (lt_on LW.out b)
    clear b
    obtain ⟨⟨q0, q1⟩, q2, q3⟩ := X0.out.facts2
    go_wp2_with fail
    refine (Few_n nx A n c hmx.out _).mono ?_; rintro _ w2 ⟨rfl, b⟩
    have HB := Lib.hid (below_on HB.out b)
    have S0 := Lib.hid (S0.out.on b)
    have X0 := Lib.hid (X0.out.below b X0.out.lt)
    have LW := Lib.hid (lt_on LW.out b)
    clear b
    rw [h100d.out]
    clear q0 q1 q2 q3
    go_wp2_with fail
    go_ret
    exact ⟨rfl, HB.out⟩
  have h100d := Lib.hid (decide_eq_true h100)
  have hl : n ≤ 1048576 := by omega
  clear hm
  obtain ⟨r, hr⟩ : ∃ r, chkF nx L = r := ⟨_, rfl⟩
  obtain ⟨m, hm⟩ : ∃ m, (trimF now L).length = m := ⟨_, rfl⟩
  have hm1 : m ≤ 1048576 := by have := trim_le now L; rw [hm, HN.out] at this; omega
  have P1 := Lib.hid (fun W hs => Check_k nx A n c L HN.out hl r hr W hs)
  have P2 := Lib.hid (fun W hs => refCheck_k nx A n c L HN.out hl r hr W hs)
  have P3 := Lib.hid (fun W hs => Trim_k nx A n c L HN.out hl now _ m rfl hm W hs)
  have P4 := Lib.hid (fun W hs => refTrim_k nx A n c L HN.out hl now _ m rfl hm W hs)
  have P5 := Lib.hid (fun B1 d1 B2 d2 W hs hs' => Same_k nx B1 m d1 (trimF now L) hm hm1 B2 d2 W hs hs')
  clear hr hm
  go_enter Try.func3, Try.ntmps3
  go_wp2_with fail
  have HB := Lib.hid (Below.refl W.heap.size W)
  have S0 := Lib.hid (hs0.out)
  have na := nb0 W (.cells #[.int .i64 nx, .slice A n c] 24)
  have HB := Lib.hid (below_on HB.out na)
  have S0 := Lib.hid (S0.out.on na)
  have X0 := Lib.hid (show Blk (W.alloc (.cells #[.int .i64 nx, .slice A n c] 24)) W.heap.size 24 #[.int .i64 nx, .slice A n c] from Blk.new_at _ _ _ rfl)
  clear na
  have LW := Lib.hid X0.out.lt
  refine (live21 _).mono ?_; rintro _ w3 ⟨rfl, b⟩
  have HB := Lib.hid (below_on HB.out b)
  have S0 := Lib.hid (S0.out.on b)
  have X0 := Lib.hid (X0.out.below b X0.out.lt)
  have LW := Lib.hid (lt_on LW.out b)
  clear b
  obtain ⟨⟨q0, q1⟩, q2, q3⟩ := X0.out.facts2
  go_wp2_with fail
  refine (Few_n nx A n c hmx.out _).mono ?_; rintro _ w4 ⟨rfl, b⟩
  have HB := Lib.hid (below_on HB.out b)
  have S0 := Lib.hid (S0.out.on b)
  have X0 := Lib.hid (X0.out.below b X0.out.lt)
  have LW := Lib.hid (lt_on LW.out b)
  clear b
  rw [h100d.out]
  clear q0 q1 q2 q3
  obtain ⟨⟨q0, q1⟩, q2, q3⟩ := X0.out.facts2
  go_wp2_with fail
  have hW := (Below.refl w4.heap.size w4).drew
  have hlt := LW.out
  go_region_held_law (fun w' => w'.cell? ⟨W.heap.size, 0, none⟩ = some (.int .i64 nx) ∧ w'.cell? ⟨W.heap.size, 1, none⟩ = some (.slice A n c)) (first | exact ⟨by assumption, by assumption⟩ | go_keep)
    (first
      | (go_at_call 13; refine (P1.out _ (S0.out.on hW)).mono ?_; rintro _ wx ⟨rfl, b⟩; have hW := below_on hW b; have k0 := (hW.cell (p := ⟨W.heap.size, 0, none⟩) hlt).trans q0; have k1 := (hW.cell (p := ⟨W.heap.size, 1, none⟩) hlt).trans q1)
      | (go_at_call 14; refine (P2.out _ (S0.out.on hW)).mono ?_; rintro _ wx ⟨rfl, b⟩; have hW := below_on hW b; have k0 := (hW.cell (p := ⟨W.heap.size, 0, none⟩) hlt).trans q0; have k1 := (hW.cell (p := ⟨W.heap.size, 1, none⟩) hlt).trans q1)
      | (go_at_call 16; refine (P3.out _ (S0.out.on hW)).mono ?_; rintro _ wx ⟨B1, d1, rfl, _, t1, b⟩; have hW := below_on hW b; have k0 := (hW.cell (p := ⟨W.heap.size, 0, none⟩) hlt).trans q0; have k1 := (hW.cell (p := ⟨W.heap.size, 1, none⟩) hlt).trans q1)
      | (go_at_call 17; refine (P4.out _ (S0.out.on hW)).mono ?_; rintro _ wx ⟨B2, d2, rfl, _, t2, b⟩; have hW := below_on hW b; have t1 := t1.on b; have k0 := (hW.cell (p := ⟨W.heap.size, 0, none⟩) hlt).trans q0; have k1 := (hW.cell (p := ⟨W.heap.size, 1, none⟩) hlt).trans q1)
      | (go_at_call 15; refine (P5.out _ _ _ _ _ t1 t2).mono ?_; rintro _ wx ⟨rfl, b⟩; have hW := below_on hW b; have k0 := (hW.cell (p := ⟨W.heap.size, 0, none⟩) hlt).trans q0; have k1 := (hW.cell (p := ⟨W.heap.size, 1, none⟩) hlt).trans q1))
  go_wp2_with fail
  go_ret
  exact ⟨rfl, below_on HB.out hW⟩
end Go.Proofs.Ytdiafbeohldbjaa
