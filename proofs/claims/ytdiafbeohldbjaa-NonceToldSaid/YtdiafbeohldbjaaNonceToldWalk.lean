/- The walk of NonceTold. (Printed by tools/gen_nonce_laws.py.) -/
import Derived.Test.YtdiafbeohldbjaaNonceLive
import Derived.Test.YtdiafbeohldbjaaNonceLaw
namespace Go.Proofs.Ytdiafbeohldbjaa
open Go.ChangeShapes Go.WideShapes Go.ChangeAt Go.RowKit Gs
set_option linter.unusedVariables false
set_option linter.unusedSimpArgs false

set_option maxRecDepth 100000 in
set_option maxHeartbeats 8000000 in
theorem told_walk21 (nx : Int) (A : Option Addr) (n c : Nat) (L : List (Int × Int)) (hn : L.length = n) (now life th : Int) (W : World) (hs : NS W W.heap.size A L) (hc : n ≤ c) (hm : c ≤ maxLen) :
    Calls Try.prog 6 #[fv nx A n c, .int .i64 now, .int .i64 life, .int .i64 th] W fun e w' => e = .returned (.bool true) ∧ Below W.heap.size W w' := by
  have hs0 := Lib.hid hs
  have hmx := Lib.hid (show n ≤ maxLen by omega)
  have hcap := Lib.hid (And.intro hc hm)
  have HN := Lib.hid hn
  clear hs hn
  by_cases h100 : n ≤ 100
  rotate_left 1
  · have h100d := Lib.hid (decide_eq_false h100)
    go_enter Try.func6, Try.ntmps6
    go_wp2_with fail
    have HB := Lib.hid (Below.refl W.heap.size W)
    have S0 := Lib.hid (hs0.out)
    have na := nb0 W (.cells #[.int .i64 nx, .slice A n c] 24)
    have HB := Lib.hid (below_on HB.out na)
    have S0 := Lib.hid (S0.out.on na)
    have X0 := Lib.hid (show Blk (W.alloc (.cells #[.int .i64 nx, .slice A n c] 24)) W.heap.size 24 #[.int .i64 nx, .slice A n c] from Blk.new_at _ _ _ rfl)
    clear na
    have LW := Lib.hid X0.out.lt
    refine (live21 _).mono ?_; rintro _ w1 ⟨rfl, b⟩
    have HB := Lib.hid (below_on HB.out b)
    have S0 := Lib.hid (S0.out.on b)
    have X0 := Lib.hid (X0.out.below b X0.out.lt)
    have LW := Lib.hid (lt_on LW.out b)
    clear b
    obtain ⟨⟨q0, q1⟩, q2, q3⟩ := X0.out.facts2
    go_wp2_with fail
    refine (Few_n nx A n c hmx.out _).mono ?_; rintro _ w2 ⟨rfl, b⟩
    have HB := Lib.hid (below_on HB.out b)
    have S0 := Lib.hid (S0.out.on b)
    have X0 := Lib.hid (X0.out.below b X0.out.lt)
    have LW := Lib.hid (lt_on LW.out b)
    clear b
    rw [h100d.out]
    clear q0 q1 q2 q3
    go_wp2_with fail
    go_ret
    exact ⟨rfl, HB.out⟩
  have h100d := Lib.hid (decide_eq_true h100)
  have hl : n ≤ 1048576 := by omega
  clear hm
  rcases tell_cases nx L now life with ⟨hk, hask, hlen, hnx, ht⟩ | ⟨e, he, ht⟩
  rotate_left 1
  · have P1 := Lib.hid (fun W hs => Tell_k nx A n c L HN.out hl now life 0 [] 0 0 e ht rfl W hs)
    have hee : (e != 0) = true := by simpa using he
    clear ht he
    go_enter Try.func6, Try.ntmps6
    go_wp2_with fail
    have HB := Lib.hid (Below.refl W.heap.size W)
    have S0 := Lib.hid (hs0.out)
    have na := nb0 W (.cells #[.int .i64 nx, .slice A n c] 24)
    have HB := Lib.hid (below_on HB.out na)
    have S0 := Lib.hid (S0.out.on na)
    have X0 := Lib.hid (show Blk (W.alloc (.cells #[.int .i64 nx, .slice A n c] 24)) W.heap.size 24 #[.int .i64 nx, .slice A n c] from Blk.new_at _ _ _ rfl)
    clear na
    have LW := Lib.hid X0.out.lt
    refine (live21 _).mono ?_; rintro _ w3 ⟨rfl, b⟩
    have HB := Lib.hid (below_on HB.out b)
    have S0 := Lib.hid (S0.out.on b)
    have X0 := Lib.hid (X0.out.below b X0.out.lt)
    have LW := Lib.hid (lt_on LW.out b)
    clear b
    obtain ⟨⟨q0, q1⟩, q2, q3⟩ := X0.out.facts2
    go_wp2_with fail
    refine (Few_n nx A n c hmx.out _).mono ?_; rintro _ w4 ⟨rfl, b⟩
    have HB := Lib.hid (below_on HB.out b)
    have S0 := Lib.hid (S0.out.on b)
    have X0 := Lib.hid (X0.out.below b X0.out.lt)
    have LW := Lib.hid (lt_on LW.out b)
    clear b
    rw [h100d.out]
    clear q0 q1 q2 q3
    obtain ⟨⟨q0, q1⟩, q2, q3⟩ := X0.out.facts2
    go_wp2_with fail
    refine (P1.out _ S0.out).mono ?_; rintro _ w5 ⟨B1, d1, rfl, hcc, hns, b⟩
    have HB := Lib.hid (below_on HB.out b)
    have S0 := Lib.hid (S0.out.on b)
    have X0 := Lib.hid (X0.out.below b X0.out.lt)
    have LW := Lib.hid (lt_on LW.out b)
    have T1c := Lib.hid hcc
    have T1 := Lib.hid (hns)
    clear b hcc hns
    clear q0 q1 q2 q3
    go_wp2_with fail
    go_ret
    exact ⟨rfl, HB.out.alloc HB.out.size _⟩
  obtain ⟨t, hT⟩ : ∃ t, (trimF now L).length = t := ⟨_, rfl⟩
  have hlt : t ≤ 100 := by have := trim_le now L; rw [hT, HN.out] at this; omega
  have hnx0 := tm_iff.1 (chk_ok.1 hk).1
  have hak := ask_iff.1 hask
  have hX1 : (trimF now L ++ [(nx, now + life)]).length = t + 1 := by simp [hT]
  have hck := chk_tell hk hask hlen hnx
  have HL := Lib.hid (told_lt hk)
  have P1 := Lib.hid (fun W hs => Tell_k nx A n c L HN.out hl now life (nx + 1) _ (t + 1) nx 0 ht hX1 W hs)
  have P4 := Lib.hid (fun B d W hs => Check_k (nx + 1) B (t + 1) d _ hX1 (by omega) 0 hck W hs)
  have P5 := Lib.hid (fun W hs => Trim_k nx A n c L HN.out hl now _ t rfl hT W hs)
  have P6 := Lib.hid (fun B d W hs => back_k nx B t d (trimF now L) hT (by omega) (by omega) W hs)
  have P7 := Lib.hid (fun B1 d1 B2 d2 W hs hs' => Same_k (nx + 1) B1 t d1 (trimF now L) hT (by omega) B2 d2 W hs hs')
  by_cases hmay : 0 ≤ th ∧ th ≤ now + life
  · have P2 := Lib.hid (fun B d hcd W hs => Use_k (nx + 1) B (t + 1) d _ hX1 (by omega) nx th (nx + 1) (trimF now L) t 0 (told_use hk hask hlen hnx hmay) hT hcd W hs)
    have P3 := Lib.hid (fun B d hcd W hs => Use_k (nx + 1) B t d _ hT (by omega) nx th 0 [] 0 210 (told_twice hk hask hnx hmay) rfl hcd W hs)
    obtain ⟨hm1, hm2⟩ := hmay
    have g1 : decide (0 ≤ th) = true := decide_eq_true hm1
    have g2 : decide (th ≤ now + life) = true := decide_eq_true hm2
    clear ht hk hask hT hX1 hck hlen
    go_enter Try.func6, Try.ntmps6
    go_wp2_with fail
    have HB := Lib.hid (Below.refl W.heap.size W)
    have S0 := Lib.hid (hs0.out)
    have na := nb0 W (.cells #[.int .i64 nx, .slice A n c] 24)
    have HB := Lib.hid (below_on HB.out na)
    have S0 := Lib.hid (S0.out.on na)
    have X0 := Lib.hid (show Blk (W.alloc (.cells #[.int .i64 nx, .slice A n c] 24)) W.heap.size 24 #[.int .i64 nx, .slice A n c] from Blk.new_at _ _ _ rfl)
    clear na
    have LW := Lib.hid X0.out.lt
    refine (live21 _).mono ?_; rintro _ w6 ⟨rfl, b⟩
    have HB := Lib.hid (below_on HB.out b)
    have S0 := Lib.hid (S0.out.on b)
    have X0 := Lib.hid (X0.out.below b X0.out.lt)
    have LW := Lib.hid (lt_on LW.out b)
    clear b
    obtain ⟨⟨q0, q1⟩, q2, q3⟩ := X0.out.facts2
    go_wp2_with fail
    refine (Few_n nx A n c hmx.out _).mono ?_; rintro _ w7 ⟨rfl, b⟩
    have HB := Lib.hid (below_on HB.out b)
    have S0 := Lib.hid (S0.out.on b)
    have X0 := Lib.hid (X0.out.below b X0.out.lt)
    have LW := Lib.hid (lt_on LW.out b)
    clear b
    rw [h100d.out]
    clear q0 q1 q2 q3
    obtain ⟨⟨q0, q1⟩, q2, q3⟩ := X0.out.facts2
    go_wp2_with fail
    refine (P1.out _ S0.out).mono ?_; rintro _ w8 ⟨B1, d1, rfl, hcc, hns, b⟩
    have HB := Lib.hid (below_on HB.out b)
    have S0 := Lib.hid (S0.out.on b)
    have X0 := Lib.hid (X0.out.below b X0.out.lt)
    have LW := Lib.hid (lt_on LW.out b)
    have T1c := Lib.hid hcc
    have T1 := Lib.hid (hns)
    clear b hcc hns
    clear q0 q1 q2 q3
    have na := nb0 w8 (.cells #[.int .i64 (nx + 1), .slice B1 (t + 1) d1] 24)
    have HB := Lib.hid (below_on HB.out na)
    have S0 := Lib.hid (S0.out.on na)
    have X0 := Lib.hid (X0.out.below na X0.out.lt)
    have LW := Lib.hid (lt_on LW.out na)
    have T1 := Lib.hid (T1.out.on na)
    have Y1 := Lib.hid (show Blk (w8.alloc (.cells #[.int .i64 (nx + 1), .slice B1 (t + 1) d1] 24)) w8.heap.size 24 #[.int .i64 (nx + 1), .slice B1 (t + 1) d1] from Blk.new_at _ _ _ rfl)
    clear na
    obtain ⟨⟨q0, q1⟩, q2, q3⟩ := X0.out.facts2
    go_wp2_with fail
    go_loop [12] (fun i => ∃ k : Nat, k ≤ n ∧ i = .int .i64 k) (fun i => n - (intOf i).toNat)
    case atStart => exact ⟨0, by omega, rfl⟩
    case round =>
      obtain ⟨k, hk, rfl⟩ := hrel
      by_cases hlt' : k < n
      · have hltX : k < L.length := by rw [HN.out]; exact hlt'
        obtain ⟨ad, rfl, had, c0, c1⟩ := S0.out k hltX
        have hf := HL.out _ (List.getElem_mem hltX)
        generalize L[k].1 = u at c0 hf
        go_wp2_with fail
        go_round
        case rel => exact ⟨k + 1, by omega, by go_num⟩
        case measure => simp [intOf]; omega
      · obtain rfl : n = k := by omega
        obtain ⟨⟨y0, y1⟩, y2, y3⟩ := Y1.out.facts2
        go_wp2_with fail
        refine (P2.out _ _ T1c.out _ T1.out).mono ?_; rintro _ w9 ⟨B2, d2, rfl, hcc, hns, b⟩
        have HB := Lib.hid (below_on HB.out b)
        have S0 := Lib.hid (S0.out.on b)
        have X0 := Lib.hid (X0.out.below b X0.out.lt)
        have LW := Lib.hid (lt_on LW.out b)
        have T1 := Lib.hid (T1.out.on b)
        have Y1 := Lib.hid (Y1.out.below b Y1.out.lt)
        have T2c := Lib.hid hcc
        have T2 := Lib.hid (hns)
        clear b hcc hns
        clear q0 q1 q2 q3
        clear y0 y1 y2 y3
        have na := nb0 w9 (.cells #[.int .i64 (nx + 1), .slice B2 t d2] 24)
        have HB := Lib.hid (below_on HB.out na)
        have S0 := Lib.hid (S0.out.on na)
        have X0 := Lib.hid (X0.out.below na X0.out.lt)
        have LW := Lib.hid (lt_on LW.out na)
        have T1 := Lib.hid (T1.out.on na)
        have Y1 := Lib.hid (Y1.out.below na Y1.out.lt)
        have T2 := Lib.hid (T2.out.on na)
        have Y2 := Lib.hid (show Blk (w9.alloc (.cells #[.int .i64 (nx + 1), .slice B2 t d2] 24)) w9.heap.size 24 #[.int .i64 (nx + 1), .slice B2 t d2] from Blk.new_at _ _ _ rfl)
        clear na
        obtain ⟨⟨z0, z1⟩, z2, z3⟩ := Y2.out.facts2
        go_wp2_with fail
        refine (P3.out _ _ T2c.out _ T2.out).mono ?_; rintro _ w10 ⟨B3, d3, rfl, hcc, hns, b⟩
        have HB := Lib.hid (below_on HB.out b)
        have S0 := Lib.hid (S0.out.on b)
        have X0 := Lib.hid (X0.out.below b X0.out.lt)
        have LW := Lib.hid (lt_on LW.out b)
        have T1 := Lib.hid (T1.out.on b)
        have Y1 := Lib.hid (Y1.out.below b Y1.out.lt)
        have T2 := Lib.hid (T2.out.on b)
        have Y2 := Lib.hid (Y2.out.below b Y2.out.lt)
        have T3c := Lib.hid hcc
        have T3 := Lib.hid (hns)
        clear b hcc hns
        clear z0 z1 z2 z3
        have na := nb0 w10 (.cells #[.int .i64 0, .slice B3 0 d3] 24)
        have HB := Lib.hid (below_on HB.out na)
        have S0 := Lib.hid (S0.out.on na)
        have X0 := Lib.hid (X0.out.below na X0.out.lt)
        have LW := Lib.hid (lt_on LW.out na)
        have T1 := Lib.hid (T1.out.on na)
        have Y1 := Lib.hid (Y1.out.below na Y1.out.lt)
        have T2 := Lib.hid (T2.out.on na)
        have Y2 := Lib.hid (Y2.out.below na Y2.out.lt)
        have T3 := Lib.hid (T3.out.on na)
        have Y3 := Lib.hid (show Blk (w10.alloc (.cells #[.int .i64 0, .slice B3 0 d3] 24)) w10.heap.size 24 #[.int .i64 0, .slice B3 0 d3] from Blk.new_at _ _ _ rfl)
        clear na
        go_wp2_with fail
        generalize (w10.alloc (.cells #[.int .i64 0, .slice B3 0 d3] 24)) = w11 at HB S0 X0 LW T1 Y1 T2 Y2 T3 Y3 ⊢
        obtain ⟨⟨q0, q1⟩, q2, q3⟩ := X0.out.facts2
        obtain ⟨⟨y0, y1⟩, y2, y3⟩ := Y1.out.facts2
        obtain ⟨⟨z0, z1⟩, z2, z3⟩ := Y2.out.facts2
        have hW := (Below.refl w11.heap.size w11).drew
        have hw1 : IntKind.i64.wrap (nx + 1) = nx + 1 := IntWalk.i64_in _ (by omega)
        have l0 := X0.out.lt
        have l1 := Y1.out.lt
        have l2 := Y2.out.lt
        first | (go_region_held_law (fun w' => w'.cell? ⟨W.heap.size, 0, none⟩ = some (.int .i64 nx) ∧ w'.cell? ⟨W.heap.size, 1, none⟩ = some (.slice A n c) ∧ w'.cell? ⟨w8.heap.size, 0, none⟩ = some (.int .i64 (nx + 1)) ∧ w'.cell? ⟨w8.heap.size, 1, none⟩ = some (.slice B1 (t + 1) d1) ∧ w'.cell? ⟨w9.heap.size, 0, none⟩ = some (.int .i64 (nx + 1)) ∧ w'.cell? ⟨w9.heap.size, 1, none⟩ = some (.slice B2 t d2)) (first | exact ⟨by assumption, by assumption, by assumption, by assumption, by assumption, by assumption⟩ | go_keep)
          (first
            | (go_at_call 13; refine (P4.out _ _ _ (T1.out.on hW)).mono ?_; rintro _ wx ⟨rfl, b⟩; have hW := below_on hW b; have qx := (hW.cell (p := ⟨W.heap.size, 0, none⟩) l0).trans q0; have qy := (hW.cell (p := ⟨W.heap.size, 1, none⟩) l0).trans q1; have yx := (hW.cell (p := ⟨w8.heap.size, 0, none⟩) l1).trans y0; have yy := (hW.cell (p := ⟨w8.heap.size, 1, none⟩) l1).trans y1; have zx := (hW.cell (p := ⟨w9.heap.size, 0, none⟩) l2).trans z0; have zy := (hW.cell (p := ⟨w9.heap.size, 1, none⟩) l2).trans z1)
            | (go_at_call 16; refine (P5.out _ (S0.out.on hW)).mono ?_; rintro _ wx ⟨C1, f1, rfl, _, t1, b⟩; have hW := below_on hW b; have qx := (hW.cell (p := ⟨W.heap.size, 0, none⟩) l0).trans q0; have qy := (hW.cell (p := ⟨W.heap.size, 1, none⟩) l0).trans q1; have yx := (hW.cell (p := ⟨w8.heap.size, 0, none⟩) l1).trans y0; have yy := (hW.cell (p := ⟨w8.heap.size, 1, none⟩) l1).trans y1; have zx := (hW.cell (p := ⟨w9.heap.size, 0, none⟩) l2).trans z0; have zy := (hW.cell (p := ⟨w9.heap.size, 1, none⟩) l2).trans z1)
            | (go_at_call 22; refine (P6.out _ _ _ t1).mono ?_; rintro _ wx ⟨rfl, b⟩; have hW := below_on hW b; have t1 := t1.on b; have qx := (hW.cell (p := ⟨W.heap.size, 0, none⟩) l0).trans q0; have qy := (hW.cell (p := ⟨W.heap.size, 1, none⟩) l0).trans q1; have yx := (hW.cell (p := ⟨w8.heap.size, 0, none⟩) l1).trans y0; have yy := (hW.cell (p := ⟨w8.heap.size, 1, none⟩) l1).trans y1; have zx := (hW.cell (p := ⟨w9.heap.size, 0, none⟩) l2).trans z0; have zy := (hW.cell (p := ⟨w9.heap.size, 1, none⟩) l2).trans z1)
            | (go_at_call 15; refine (P7.out _ _ _ _ _ (T2.out.on hW) t1).mono ?_; rintro _ wx ⟨rfl, b⟩; have hW := below_on hW b; have qx := (hW.cell (p := ⟨W.heap.size, 0, none⟩) l0).trans q0; have qy := (hW.cell (p := ⟨W.heap.size, 1, none⟩) l0).trans q1; have yx := (hW.cell (p := ⟨w8.heap.size, 0, none⟩) l1).trans y0; have yy := (hW.cell (p := ⟨w8.heap.size, 1, none⟩) l1).trans y1; have zx := (hW.cell (p := ⟨w9.heap.size, 0, none⟩) l2).trans z0; have zy := (hW.cell (p := ⟨w9.heap.size, 1, none⟩) l2).trans z1))) | fail "x"
        go_wp2_with fail
        go_ret
        exact ⟨rfl, below_on HB.out hW⟩
  · obtain ⟨e2, he2, hu2⟩ := told_late hk hask hlen hnx hmay
    obtain ⟨e3, hu3⟩ := use_0 nx th
    have P2 := Lib.hid (fun B d hcd W hs => Use_k (nx + 1) B (t + 1) d _ hX1 (by omega) nx th 0 [] 0 e2 hu2 rfl hcd W hs)
    have P3 := Lib.hid (fun B d hcd W hs => Use_k 0 B 0 d [] rfl (by omega) nx th 0 [] 0 e3 hu3 rfl hcd W hs)
    have g0 : (e2 == 0) = false := by simpa using he2
    have g1 : (decide (0 ≤ th) && decide (th ≤ now + life)) = false := by rw [Bool.and_eq_false_iff]; by_cases h : 0 ≤ th <;> simp [h] <;> omega
    clear ht hk hask hT hX1 hck hlen hu2 hu3 he2
    by_cases hm1 : 0 ≤ th
    · have g2 : decide (0 ≤ th) = true := decide_eq_true hm1
      have g3 : decide (th ≤ now + life) = false := decide_eq_false (by omega)
      have g4 : decide (now + life < th) = true := decide_eq_true (by omega)
      have g5 : ¬ th ≤ now + life := by omega
      have g6 : now + life < th := by omega
      go_enter Try.func6, Try.ntmps6
      go_wp2_with fail
      have HB := Lib.hid (Below.refl W.heap.size W)
      have S0 := Lib.hid (hs0.out)
      have na := nb0 W (.cells #[.int .i64 nx, .slice A n c] 24)
      have HB := Lib.hid (below_on HB.out na)
      have S0 := Lib.hid (S0.out.on na)
      have X0 := Lib.hid (show Blk (W.alloc (.cells #[.int .i64 nx, .slice A n c] 24)) W.heap.size 24 #[.int .i64 nx, .slice A n c] from Blk.new_at _ _ _ rfl)
      clear na
      have LW := Lib.hid X0.out.lt
      refine (live21 _).mono ?_; rintro _ w12 ⟨rfl, b⟩
      have HB := Lib.hid (below_on HB.out b)
      have S0 := Lib.hid (S0.out.on b)
      have X0 := Lib.hid (X0.out.below b X0.out.lt)
      have LW := Lib.hid (lt_on LW.out b)
      clear b
      obtain ⟨⟨q0, q1⟩, q2, q3⟩ := X0.out.facts2
      go_wp2_with fail
      refine (Few_n nx A n c hmx.out _).mono ?_; rintro _ w13 ⟨rfl, b⟩
      have HB := Lib.hid (below_on HB.out b)
      have S0 := Lib.hid (S0.out.on b)
      have X0 := Lib.hid (X0.out.below b X0.out.lt)
      have LW := Lib.hid (lt_on LW.out b)
      clear b
      rw [h100d.out]
      clear q0 q1 q2 q3
      obtain ⟨⟨q0, q1⟩, q2, q3⟩ := X0.out.facts2
      go_wp2_with fail
      refine (P1.out _ S0.out).mono ?_; rintro _ w14 ⟨B1, d1, rfl, hcc, hns, b⟩
      have HB := Lib.hid (below_on HB.out b)
      have S0 := Lib.hid (S0.out.on b)
      have X0 := Lib.hid (X0.out.below b X0.out.lt)
      have LW := Lib.hid (lt_on LW.out b)
      have T1c := Lib.hid hcc
      have T1 := Lib.hid (hns)
      clear b hcc hns
      clear q0 q1 q2 q3
      have na := nb0 w14 (.cells #[.int .i64 (nx + 1), .slice B1 (t + 1) d1] 24)
      have HB := Lib.hid (below_on HB.out na)
      have S0 := Lib.hid (S0.out.on na)
      have X0 := Lib.hid (X0.out.below na X0.out.lt)
      have LW := Lib.hid (lt_on LW.out na)
      have T1 := Lib.hid (T1.out.on na)
      have Y1 := Lib.hid (show Blk (w14.alloc (.cells #[.int .i64 (nx + 1), .slice B1 (t + 1) d1] 24)) w14.heap.size 24 #[.int .i64 (nx + 1), .slice B1 (t + 1) d1] from Blk.new_at _ _ _ rfl)
      clear na
      obtain ⟨⟨q0, q1⟩, q2, q3⟩ := X0.out.facts2
      go_wp2_with fail
      go_loop [12] (fun i => ∃ k : Nat, k ≤ n ∧ i = .int .i64 k) (fun i => n - (intOf i).toNat)
      case atStart => exact ⟨0, by omega, rfl⟩
      case round =>
        obtain ⟨k, hk, rfl⟩ := hrel
        by_cases hlt' : k < n
        · have hltX : k < L.length := by rw [HN.out]; exact hlt'
          obtain ⟨ad, rfl, had, c0, c1⟩ := S0.out k hltX
          have hf := HL.out _ (List.getElem_mem hltX)
          generalize L[k].1 = u at c0 hf
          go_wp2_with fail
          go_round
          case rel => exact ⟨k + 1, by omega, by go_num⟩
          case measure => simp [intOf]; omega
        · obtain rfl : n = k := by omega
          obtain ⟨⟨y0, y1⟩, y2, y3⟩ := Y1.out.facts2
          go_wp2_with fail
          refine (P2.out _ _ T1c.out _ T1.out).mono ?_; rintro _ w15 ⟨B2, d2, rfl, hcc, hns, b⟩
          have HB := Lib.hid (below_on HB.out b)
          have S0 := Lib.hid (S0.out.on b)
          have X0 := Lib.hid (X0.out.below b X0.out.lt)
          have LW := Lib.hid (lt_on LW.out b)
          have T1 := Lib.hid (T1.out.on b)
          have Y1 := Lib.hid (Y1.out.below b Y1.out.lt)
          have T2c := Lib.hid hcc
          have T2 := Lib.hid (hns)
          clear b hcc hns
          clear q0 q1 q2 q3
          clear y0 y1 y2 y3
          have na := nb0 w15 (.cells #[.int .i64 0, .slice B2 0 d2] 24)
          have HB := Lib.hid (below_on HB.out na)
          have S0 := Lib.hid (S0.out.on na)
          have X0 := Lib.hid (X0.out.below na X0.out.lt)
          have LW := Lib.hid (lt_on LW.out na)
          have T1 := Lib.hid (T1.out.on na)
          have Y1 := Lib.hid (Y1.out.below na Y1.out.lt)
          have T2 := Lib.hid (T2.out.on na)
          have Y2 := Lib.hid (show Blk (w15.alloc (.cells #[.int .i64 0, .slice B2 0 d2] 24)) w15.heap.size 24 #[.int .i64 0, .slice B2 0 d2] from Blk.new_at _ _ _ rfl)
          clear na
          obtain ⟨⟨z0, z1⟩, z2, z3⟩ := Y2.out.facts2
          go_wp2_with fail
          refine (P3.out _ _ T2c.out _ T2.out).mono ?_; rintro _ w16 ⟨B3, d3, rfl, hcc, hns, b⟩
          have HB := Lib.hid (below_on HB.out b)
          have S0 := Lib.hid (S0.out.on b)
          have X0 := Lib.hid (X0.out.below b X0.out.lt)
          have LW := Lib.hid (lt_on LW.out b)
          have T1 := Lib.hid (T1.out.on b)
          have Y1 := Lib.hid (Y1.out.below b Y1.out.lt)
          have T2 := Lib.hid (T2.out.on b)
          have Y2 := Lib.hid (Y2.out.below b Y2.out.lt)
          have T3c := Lib.hid hcc
          have T3 := Lib.hid (hns)
          clear b hcc hns
          clear z0 z1 z2 z3
          have na := nb0 w16 (.cells #[.int .i64 0, .slice B3 0 d3] 24)
          have HB := Lib.hid (below_on HB.out na)
          have S0 := Lib.hid (S0.out.on na)
          have X0 := Lib.hid (X0.out.below na X0.out.lt)
          have LW := Lib.hid (lt_on LW.out na)
          have T1 := Lib.hid (T1.out.on na)
          have Y1 := Lib.hid (Y1.out.below na Y1.out.lt)
          have T2 := Lib.hid (T2.out.on na)
          have Y2 := Lib.hid (Y2.out.below na Y2.out.lt)
          have T3 := Lib.hid (T3.out.on na)
          have Y3 := Lib.hid (show Blk (w16.alloc (.cells #[.int .i64 0, .slice B3 0 d3] 24)) w16.heap.size 24 #[.int .i64 0, .slice B3 0 d3] from Blk.new_at _ _ _ rfl)
          clear na
          go_wp2_with fail
          generalize (w16.alloc (.cells #[.int .i64 0, .slice B3 0 d3] 24)) = w17 at HB S0 X0 LW T1 Y1 T2 Y2 T3 Y3 ⊢
          obtain ⟨⟨q0, q1⟩, q2, q3⟩ := X0.out.facts2
          obtain ⟨⟨y0, y1⟩, y2, y3⟩ := Y1.out.facts2
          obtain ⟨⟨z0, z1⟩, z2, z3⟩ := Y2.out.facts2
          have hW := (Below.refl w17.heap.size w17).drew
          have hw1 : IntKind.i64.wrap (nx + 1) = nx + 1 := IntWalk.i64_in _ (by omega)
          have l0 := X0.out.lt
          have l1 := Y1.out.lt
          have l2 := Y2.out.lt
          have hun : undef = Value.tuple #[] := rfl
          first | (go_loud (go_region_with
            (first
              | (go_at_call 13; refine (P4.out _ _ _ (T1.out.on hW)).mono ?_; rintro _ wx ⟨rfl, b⟩; have hW := below_on hW b; have qx := (hW.cell (p := ⟨W.heap.size, 0, none⟩) l0).trans q0; have qy := (hW.cell (p := ⟨W.heap.size, 1, none⟩) l0).trans q1; have yx := (hW.cell (p := ⟨w14.heap.size, 0, none⟩) l1).trans y0; have yy := (hW.cell (p := ⟨w14.heap.size, 1, none⟩) l1).trans y1; have zx := (hW.cell (p := ⟨w15.heap.size, 0, none⟩) l2).trans z0; have zy := (hW.cell (p := ⟨w15.heap.size, 1, none⟩) l2).trans z1))))  | fail "x"
          all_goals (try go_wp2_with fail)
          all_goals go_ret
          all_goals exact ⟨rfl, below_on HB.out hW⟩
    · have g2 : decide (0 ≤ th) = false := decide_eq_false hm1
      have g4 : decide (th < 0) = true := decide_eq_true (by omega)
      go_enter Try.func6, Try.ntmps6
      go_wp2_with fail
      have HB := Lib.hid (Below.refl W.heap.size W)
      have S0 := Lib.hid (hs0.out)
      have na := nb0 W (.cells #[.int .i64 nx, .slice A n c] 24)
      have HB := Lib.hid (below_on HB.out na)
      have S0 := Lib.hid (S0.out.on na)
      have X0 := Lib.hid (show Blk (W.alloc (.cells #[.int .i64 nx, .slice A n c] 24)) W.heap.size 24 #[.int .i64 nx, .slice A n c] from Blk.new_at _ _ _ rfl)
      clear na
      have LW := Lib.hid X0.out.lt
      refine (live21 _).mono ?_; rintro _ w18 ⟨rfl, b⟩
      have HB := Lib.hid (below_on HB.out b)
      have S0 := Lib.hid (S0.out.on b)
      have X0 := Lib.hid (X0.out.below b X0.out.lt)
      have LW := Lib.hid (lt_on LW.out b)
      clear b
      obtain ⟨⟨q0, q1⟩, q2, q3⟩ := X0.out.facts2
      go_wp2_with fail
      refine (Few_n nx A n c hmx.out _).mono ?_; rintro _ w19 ⟨rfl, b⟩
      have HB := Lib.hid (below_on HB.out b)
      have S0 := Lib.hid (S0.out.on b)
      have X0 := Lib.hid (X0.out.below b X0.out.lt)
      have LW := Lib.hid (lt_on LW.out b)
      clear b
      rw [h100d.out]
      clear q0 q1 q2 q3
      obtain ⟨⟨q0, q1⟩, q2, q3⟩ := X0.out.facts2
      go_wp2_with fail
      refine (P1.out _ S0.out).mono ?_; rintro _ w20 ⟨B1, d1, rfl, hcc, hns, b⟩
      have HB := Lib.hid (below_on HB.out b)
      have S0 := Lib.hid (S0.out.on b)
      have X0 := Lib.hid (X0.out.below b X0.out.lt)
      have LW := Lib.hid (lt_on LW.out b)
      have T1c := Lib.hid hcc
      have T1 := Lib.hid (hns)
      clear b hcc hns
      clear q0 q1 q2 q3
      have na := nb0 w20 (.cells #[.int .i64 (nx + 1), .slice B1 (t + 1) d1] 24)
      have HB := Lib.hid (below_on HB.out na)
      have S0 := Lib.hid (S0.out.on na)
      have X0 := Lib.hid (X0.out.below na X0.out.lt)
      have LW := Lib.hid (lt_on LW.out na)
      have T1 := Lib.hid (T1.out.on na)
      have Y1 := Lib.hid (show Blk (w20.alloc (.cells #[.int .i64 (nx + 1), .slice B1 (t + 1) d1] 24)) w20.heap.size 24 #[.int .i64 (nx + 1), .slice B1 (t + 1) d1] from Blk.new_at _ _ _ rfl)
      clear na
      obtain ⟨⟨q0, q1⟩, q2, q3⟩ := X0.out.facts2
      go_wp2_with fail
      go_loop [12] (fun i => ∃ k : Nat, k ≤ n ∧ i = .int .i64 k) (fun i => n - (intOf i).toNat)
      case atStart => exact ⟨0, by omega, rfl⟩
      case round =>
        obtain ⟨k, hk, rfl⟩ := hrel
        by_cases hlt' : k < n
        · have hltX : k < L.length := by rw [HN.out]; exact hlt'
          obtain ⟨ad, rfl, had, c0, c1⟩ := S0.out k hltX
          have hf := HL.out _ (List.getElem_mem hltX)
          generalize L[k].1 = u at c0 hf
          go_wp2_with fail
          go_round
          case rel => exact ⟨k + 1, by omega, by go_num⟩
          case measure => simp [intOf]; omega
        · obtain rfl : n = k := by omega
          obtain ⟨⟨y0, y1⟩, y2, y3⟩ := Y1.out.facts2
          go_wp2_with fail
          refine (P2.out _ _ T1c.out _ T1.out).mono ?_; rintro _ w21 ⟨B2, d2, rfl, hcc, hns, b⟩
          have HB := Lib.hid (below_on HB.out b)
          have S0 := Lib.hid (S0.out.on b)
          have X0 := Lib.hid (X0.out.below b X0.out.lt)
          have LW := Lib.hid (lt_on LW.out b)
          have T1 := Lib.hid (T1.out.on b)
          have Y1 := Lib.hid (Y1.out.below b Y1.out.lt)
          have T2c := Lib.hid hcc
          have T2 := Lib.hid (hns)
          clear b hcc hns
          clear q0 q1 q2 q3
          clear y0 y1 y2 y3
          have na := nb0 w21 (.cells #[.int .i64 0, .slice B2 0 d2] 24)
          have HB := Lib.hid (below_on HB.out na)
          have S0 := Lib.hid (S0.out.on na)
          have X0 := Lib.hid (X0.out.below na X0.out.lt)
          have LW := Lib.hid (lt_on LW.out na)
          have T1 := Lib.hid (T1.out.on na)
          have Y1 := Lib.hid (Y1.out.below na Y1.out.lt)
          have T2 := Lib.hid (T2.out.on na)
          have Y2 := Lib.hid (show Blk (w21.alloc (.cells #[.int .i64 0, .slice B2 0 d2] 24)) w21.heap.size 24 #[.int .i64 0, .slice B2 0 d2] from Blk.new_at _ _ _ rfl)
          clear na
          obtain ⟨⟨z0, z1⟩, z2, z3⟩ := Y2.out.facts2
          go_wp2_with fail
          refine (P3.out _ _ T2c.out _ T2.out).mono ?_; rintro _ w22 ⟨B3, d3, rfl, hcc, hns, b⟩
          have HB := Lib.hid (below_on HB.out b)
          have S0 := Lib.hid (S0.out.on b)
          have X0 := Lib.hid (X0.out.below b X0.out.lt)
          have LW := Lib.hid (lt_on LW.out b)
          have T1 := Lib.hid (T1.out.on b)
          have Y1 := Lib.hid (Y1.out.below b Y1.out.lt)
          have T2 := Lib.hid (T2.out.on b)
          have Y2 := Lib.hid (Y2.out.below b Y2.out.lt)
          have T3c := Lib.hid hcc
          have T3 := Lib.hid (hns)
          clear b hcc hns
          clear z0 z1 z2 z3
          have na := nb0 w22 (.cells #[.int .i64 0, .slice B3 0 d3] 24)
          have HB := Lib.hid (below_on HB.out na)
          have S0 := Lib.hid (S0.out.on na)
          have X0 := Lib.hid (X0.out.below na X0.out.lt)
          have LW := Lib.hid (lt_on LW.out na)
          have T1 := Lib.hid (T1.out.on na)
          have Y1 := Lib.hid (Y1.out.below na Y1.out.lt)
          have T2 := Lib.hid (T2.out.on na)
          have Y2 := Lib.hid (Y2.out.below na Y2.out.lt)
          have T3 := Lib.hid (T3.out.on na)
          have Y3 := Lib.hid (show Blk (w22.alloc (.cells #[.int .i64 0, .slice B3 0 d3] 24)) w22.heap.size 24 #[.int .i64 0, .slice B3 0 d3] from Blk.new_at _ _ _ rfl)
          clear na
          go_wp2_with fail
          generalize (w22.alloc (.cells #[.int .i64 0, .slice B3 0 d3] 24)) = w23 at HB S0 X0 LW T1 Y1 T2 Y2 T3 Y3 ⊢
          obtain ⟨⟨q0, q1⟩, q2, q3⟩ := X0.out.facts2
          obtain ⟨⟨y0, y1⟩, y2, y3⟩ := Y1.out.facts2
          obtain ⟨⟨z0, z1⟩, z2, z3⟩ := Y2.out.facts2
          have hW := (Below.refl w23.heap.size w23).drew
          have hw1 : IntKind.i64.wrap (nx + 1) = nx + 1 := IntWalk.i64_in _ (by omega)
          have l0 := X0.out.lt
          have l1 := Y1.out.lt
          have l2 := Y2.out.lt
          have hun : undef = Value.tuple #[] := rfl
          first | (go_loud (go_region_with
            (first
              | (go_at_call 13; refine (P4.out _ _ _ (T1.out.on hW)).mono ?_; rintro _ wx ⟨rfl, b⟩; have hW := below_on hW b; have qx := (hW.cell (p := ⟨W.heap.size, 0, none⟩) l0).trans q0; have qy := (hW.cell (p := ⟨W.heap.size, 1, none⟩) l0).trans q1; have yx := (hW.cell (p := ⟨w20.heap.size, 0, none⟩) l1).trans y0; have yy := (hW.cell (p := ⟨w20.heap.size, 1, none⟩) l1).trans y1; have zx := (hW.cell (p := ⟨w21.heap.size, 0, none⟩) l2).trans z0; have zy := (hW.cell (p := ⟨w21.heap.size, 1, none⟩) l2).trans z1))))  | fail "x"
          all_goals (try go_wp2_with fail)
          all_goals go_ret
          all_goals exact ⟨rfl, below_on HB.out hW⟩
end Go.Proofs.Ytdiafbeohldbjaa
