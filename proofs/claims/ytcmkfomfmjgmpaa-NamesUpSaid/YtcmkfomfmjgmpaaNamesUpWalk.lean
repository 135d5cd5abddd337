/- The walk of NamesUp. -/
import Derived.Test.YtcmkfomfmjgmpaaNamesM
import Derived.Deep.Cut
import Derived.Deep.RegionWith
import Derived.Deep.RegionHeldLaw
namespace Go.Proofs.Ytcmkfomfmjgmpaa
open Go.ChangeShapes Go.WideShapes Go.ChangeAt Go.RowKit Go.Shelf Gs
set_option linter.unusedVariables false

theorem own_cap {w : World} {B n cap : Nat} {a : Addr} {e : TypeId} {size : Nat} {xs : List Value} (h : w.ownsRow B e size (.slice (some a) n cap) n xs) : n ≤ cap := by
  rcases h.2 with ⟨e, _⟩ | ⟨g', cap', cur, e, _, _, h, _⟩
  · cases e
  · injection e with _ _ e3; rw [e3]; exact h
theorem st_tail {w : World} {B g : Nat} {c : List UInt8} {t : List (List UInt8)} (h : ST w B (some ⟨g, 0, none⟩) (c :: t)) : ST w B (some ⟨g, 1, none⟩) t := fun j hj => by
  obtain ⟨ad, e, hb, hc⟩ := h (j + 1) (by simp; omega)
  injection e with e
  subst e
  refine ⟨_, rfl, hb, ?_⟩
  rw [show (⟨g, 1, none⟩ : Addr).add j = (⟨g, 0, none⟩ : Addr).add (j + 1) by unfold Addr.add; by_cases h0 : j = 0 <;> simp [h0] <;> omega]
  rw [hc]; simp
theorem joinD_take {C : List (List UInt8)} {k : Nat} (h1 : 1 ≤ k) (hk : k < C.length) : joinD (C.take (k + 1)) = joinD (C.take k) ++ 46 :: C[k] := by
  rw [List.take_succ_eq_append_getElem hk, joinD_app (by intro e; rw [List.take_eq_nil_iff] at e; rcases e with e | e; omega; rw [e] at hk; simp at hk) (by simp)]
  rfl
theorem joinD_take_len (C : List (List UInt8)) (k : Nat) : (joinD (C.take k)).length ≤ (joinD C).length := by
  by_cases h1 : C.take k = []
  · rw [h1]; simp [joinD]
  · by_cases h2 : C.drop k = []
    · rw [List.drop_eq_nil_iff] at h2
      rw [List.take_of_length_le h2]; exact Nat.le_refl _
    · have := joinD_app h1 h2
      rw [List.take_append_drop] at this
      rw [this, List.length_append]; omega
theorem name_drop {l : List UInt8} (h : nameB l = true) {k : Nat} (hk : k < (cuts l).length) : nameB (joinD ((cuts l).drop k)) = true ∧ cuts (joinD ((cuts l).drop k)) = (cuts l).drop k := by
  have hn := cuts_none l
  have hd0 : (cuts l).drop k ≠ [] := by rw [ne_eq, List.drop_eq_nil_iff]; omega
  have hc : cuts (joinD ((cuts l).drop k)) = (cuts l).drop k := cuts_joinD hd0 (fun c hc => hn c (List.mem_of_mem_drop hc))
  refine ⟨?_, hc⟩
  by_cases h0 : k = 0
  · subst h0; rw [List.drop_zero, joinD_cuts]; exact h
  · exact (suf_name h (by
      have := (sufs_joinD (cuts_ne l) hn (joinD ((cuts l).drop k))).2 ⟨k, by omega, hk, rfl⟩
      rwa [joinD_cuts] at this)).1
theorem up_drop {l : List UInt8} (h : nameB l = true) {k : Nat} (hk : k < (cuts l).length) : upB (joinD ((cuts l).drop k)) = joinD ((cuts l).drop (k + 1)) := by
  obtain ⟨h1, h2⟩ := name_drop h hk
  unfold upB
  rw [if_pos h1]
  have e := List.drop_eq_getElem_cons hk
  have h46 : 46 ∉ (cuts l)[k] := cuts_none l _ (List.getElem_mem hk)
  rw [e]
  cases ht : (cuts l).drop (k + 1) with
  | nil => exact behind_one h46
  | cons d t => rw [joinD_cons _ (by simp), behind_app h46]

set_option maxRecDepth 100000 in
set_option maxHeartbeats 8000000 in
theorem up_walk11 (s : ByteArray) (W : World) : Calls Try.prog 8 #[.string s] W fun e w' => e = .returned (.bool true) ∧ Below W.heap.size W w' := by
  have A0 := Lib.hid live11
  by_cases hz : s.size ≤ 300
  rotate_left 1
  · have d1 : decide ((300 : Int) < (s.size : Int)) = true := decide_eq_true (by omega)
    clear hz
    have B := Lib.hid (Below.refl W.heap.size W)
    go_enter Try.func8, Try.ntmps8
    go_wp2_with fail
    refine (A0.out _).mono ?_; rintro e w_ ⟨rfl, b⟩; replace B := Lib.hid (bon B.out b); clear b
    go_wp2_with fail
    go_ret
    exact ⟨rfl, B.out⟩
  have d1 : decide ((300 : Int) < (s.size : Int)) = false := decide_eq_false (by omega)
  cases hnm : nameB (bl s)
  · have A2 := Lib.hid (Check_no s hnm)
    have A3 := Lib.hid (Labels_no s hnm)
    have A4 := Lib.hid (Up_is s ⟨#[]⟩ (by unfold upB; rw [hnm]; rfl))
    clear hnm hz
    have B := Lib.hid (Below.refl W.heap.size W)
    go_enter Try.func8, Try.ntmps8
    repeat (go_wp2_with fail; first
      | (with_reducible refine (A0.out _).mono ?_; rintro e w_ ⟨rfl, b⟩; replace B := Lib.hid (bon B.out b); clear b)
      | (with_reducible refine (A2.out _).mono ?_; rintro e w_ ⟨rfl, b⟩; replace B := Lib.hid (bon B.out b); clear b)
      | (with_reducible refine (A3.out _).mono ?_; rintro e w_ ⟨rfl, b⟩; replace B := Lib.hid (bon B.out b); clear b)
      | (with_reducible refine (A4.out _).mono ?_; rintro e w_ ⟨rfl, b⟩; replace B := Lib.hid (bon B.out b); clear b))
    go_wp2_with fail
    go_ret
    exact ⟨rfl, B.out⟩
  have A2 := Lib.hid (Check_yes s hnm)
  have HN := Lib.hid hnm
  obtain ⟨_, h64, h8⟩ := name_len hnm
  rw [bl_len] at h64
  have A3 := Lib.hid (Labels_go s hnm)
  have h1 := List.length_pos_iff.2 (cuts_ne (bl s))
  obtain ⟨m, hm⟩ : ∃ m, (cuts (bl s)).length = m := ⟨_, rfl⟩
  have HM := Lib.hid hm
  rw [hm] at A3 h8 h1
  have d2 : decide ((m : Int) < 1) = false := decide_eq_false (by omega)
  have d3 : decide ((8 : Int) < (m : Int)) = false := decide_eq_false (by omega)
  have U := Lib.hid (fun r => Up_any r)
  clear hnm hm
  have B := Lib.hid (Below.refl W.heap.size W)
  go_enter Try.func8, Try.ntmps8
  repeat (go_wp2_with fail; first
    | (with_reducible refine (A0.out _).mono ?_; rintro e w_ ⟨rfl, b⟩; replace B := Lib.hid (bon B.out b); clear b)
    | (with_reducible refine (A2.out _).mono ?_; rintro e w_ ⟨rfl, b⟩; replace B := Lib.hid (bon B.out b); clear b))
  go_wp2_with fail
  refine (A3.out _).mono ?_; rintro e w3 ⟨⟨g, c, rfl, ho⟩, b⟩; replace B := Lib.hid (bon B.out b)
  have hcap := own_cap ho
  have S1 := Lib.hid (st_own ho)
  have hc0 : w3.cell? ⟨g, 0, none⟩ = some (.string ⟨((cuts (bl s))[0]'(by rw [HM.out]; exact h1)).toArray⟩) := by
    obtain ⟨ad, e, _, h⟩ := S1.out 0 (by rw [HM.out]; exact h1)
    injection e with e; subst e
    rwa [add_zero_off] at h
  have E0 := Lib.hid (show joinD ((cuts (bl s)).take 1) = (cuts (bl s))[0]'(by rw [HM.out]; exact h1) by
    rw [List.take_succ_eq_append_getElem (by rw [HM.out]; exact h1), List.take_zero]; rfl)
  clear b ho A0 A2 A3
  go_wp2_with fail
  go_loopw [4, 5] (fun a i wr => ∃ (k : Nat) (r : ByteArray), 1 ≤ k ∧ k ≤ m ∧ a = .string r ∧ i = .int .i64 (k : Int) ∧ wr = w3 ∧ Hid (bl r = joinD ((cuts (bl s)).take k))) (fun _ i _ => m - (intOf i).toNat)
  case atStart => exact ⟨1, _, by omega, h1, rfl, rfl, rfl, Lib.hid ((bl_mk _).trans E0.out.symm)⟩
  case round =>
    obtain ⟨k, r, hk1, hk, rfl, rfl, rfl, HR⟩ := hrel
    clear hc0 E0
    by_cases hlt : k < m
    · have hkc : k < (cuts (bl s)).length := by rw [HM.out]; exact hlt
      obtain ⟨ad, e, _, hc⟩ := S1.out k hkc
      injection e with e; subst e
      rw [add_zero_off] at hc
      have HX := Lib.hid (show bl ((r ++ (⟨#[46]⟩ : ByteArray)) ++ ⟨((cuts (bl s))[k]).toArray⟩) = joinD ((cuts (bl s)).take (k + 1)) by
        rw [joinD_take hk1 hkc, ← HR.out]
        simp [bl])
      have hsz : (r ++ (⟨#[46]⟩ : ByteArray)).size + (⟨((cuts (bl s))[k]).toArray⟩ : ByteArray).size ≤ 64 := by
        have e2 := joinD_take_len (cuts (bl s)) (k + 1)
        rw [joinD_cuts, ← HX.out, bl_len, bl_len, ByteArray.size_append] at e2
        omega
      obtain ⟨z, hz⟩ : ∃ z, (⟨((cuts (bl s))[k]).toArray⟩ : ByteArray) = z := ⟨_, rfl⟩
      rw [hz] at hc HX hsz
      rw [ByteArray.size_append, show (⟨#[46]⟩ : ByteArray).size = 1 from rfl] at hsz
      have c1 : ¬ 9223372036854775807 < r.size + 1 := by omega
      have c2 : ¬ 9223372036854775807 < r.size + 1 + z.size := by omega
      clear hz hsz hkc
      go_wp2_with fail
      go_roundw
      case rel => exact ⟨k + 1, _, by omega, by omega, rfl, by go_num, trivial, HX⟩
      case measure => simp [intOf]; omega
    · obtain rfl : k = m := by omega
      obtain rfl : r = s := bl_inj (by
        have := HR.out
        rwa [List.take_of_length_le (by rw [HM.out]; exact Nat.le_refl _), joinD_cuts] at this)
      go_wp2_with fail
      refine (U.out _ _).mono ?_; rintro e w4 ⟨⟨t, rfl, ht⟩, b⟩
      replace B := Lib.hid (bon B.out b)
      replace S1 := Lib.hid (S1.out.on b)
      have HT := Lib.hid ht
      clear b ht
      go_upto_region 14 with fail
      by_cases hm1 : k = 1
      · have q0 : (r.toList != r.toList) = false := by simp
        have q1 : decide ((1 : Int) < (k : Int)) = false := decide_eq_false (by omega)
        clear hm1
        go_wp2_with fail
        go_quiet (fail)
        have B := Lib.hid (below_drewN B.out nq)
        go_wp2_with fail
        go_loopw [0, 7] (fun a i wr => ∃ (j : Nat) (r2 : ByteArray), j ≤ k ∧ a = .string r2 ∧ i = .int .i64 (j : Int) ∧ Below W.heap.size W wr ∧ Hid (bl r2 = joinD ((cuts (bl r)).drop j))) (fun _ i _ => k - (intOf i).toNat)
        case atStart => exact ⟨0, r, Nat.zero_le _, rfl, rfl, B.out, Lib.hid (by rw [List.drop_zero, joinD_cuts])⟩
        case round =>
          obtain ⟨j, r2, hj, rfl, rfl, hb, HR2⟩ := hrel
          have BR := Lib.hid hb
          clear hb
          by_cases hlt2 : j < k
          · have hjc : j < (cuts (bl r)).length := by rw [HM.out]; exact hlt2
            have h0 : bl r2 ≠ [] := by rw [HR2.out]; exact name_ne (name_drop HN.out hjc).1
            have q5 : r2.toList.isEmpty = false := by rw [isEmpty_bl]; exact decide_eq_false h0
            have q6 : ¬ r2.toList = [] := by rw [tl]; exact h0
            have HUP := Lib.hid (up_drop HN.out hjc)
            clear h0 hjc
            go_wp2_with fail
            refine (U.out _ _).mono ?_; rintro e w9 ⟨⟨t2, rfl, ht2⟩, b⟩
            have HT2 : Hid (bl t2 = joinD ((cuts (bl r)).drop (j + 1))) := Lib.hid (by rw [ht2, HR2.out]; exact HUP.out)
            have BR2 := Lib.hid (bon BR.out b)
            clear b ht2
            go_wp2_with fail
            go_roundw
            case rel => exact ⟨j + 1, t2, by omega, rfl, by go_num, BR2.out, HT2⟩
            case measure => simp [intOf]; omega
          · obtain rfl : j = k := by omega
            have h0 : bl r2 = [] := by
              rw [HR2.out, List.drop_of_length_le (by rw [HM.out]; exact Nat.le_refl _)]; rfl
            have q5 : r2.toList.isEmpty = true := by rw [isEmpty_bl]; exact decide_eq_true h0
            have q6 : r2.toList = [] := by rw [tl]; exact h0
            clear h0
            go_wp2_with fail
            go_ret
            exact ⟨rfl, BR.out⟩
      · have q0 : (r.toList != r.toList) = false := by simp
        have q1 : decide ((1 : Int) < (k : Int)) = true := decide_eq_true (by omega)
        have q2 : (1 : Int) ≤ (k : Int) := by omega
        have q3 : ¬ c = 1 := by omega
        obtain ⟨c0, t0, ht0⟩ : ∃ c0 t0, cuts (bl r) = c0 :: t0 := by
          cases hcc : cuts (bl r) with
          | nil => exact absurd hcc (cuts_ne _)
          | cons x t => exact ⟨x, t, rfl⟩
        have hlt0 : t0.length = k - 1 := by have := HM.out; rw [ht0] at this; simp at this; omega
        have hnt : nameB (bl t) = true ∧ cuts (bl t) = t0 ∧ bl t ∈ sufs (bl r) := by
          have e0 : bl t = joinD ((cuts (bl r)).drop 1) := by
            rw [HT.out]
            have := up_drop HN.out (k := 0) (by rw [HM.out]; omega)
            rwa [List.drop_zero, joinD_cuts] at this
          have h := name_drop HN.out (k := 1) (by rw [HM.out]; omega)
          rw [← e0, ht0] at h
          refine ⟨h.1, h.2, ?_⟩
          have := (sufs_joinD (cuts_ne (bl r)) (cuts_none (bl r)) (bl t)).2 ⟨1, by omega, by rw [HM.out]; omega, e0⟩
          rwa [joinD_cuts] at this
        have LB := Lib.hid (Labels_go t hnt.1)
        rw [hnt.2.1, hlt0] at LB
        have U1 := Lib.hid (Under_is r t true (by omega) (by unfold underB; rw [HN.out, show belowB (bl r) (bl t) = true from decide_eq_true hnt.2.2]; simp))
        have hlen := sufs_len hnt.2.2
        have U2 := Lib.hid (Under_is t r false (by rw [bl_len, bl_len] at hlen; omega) (by
          unfold underB
          rw [hnt.1, decide_eq_false (name_ne HN.out), decide_eq_false (fun e => by rw [e] at hlen; exact Nat.lt_irrefl _ hlen), show belowB (bl t) (bl r) = false from decide_eq_false (fun h => by have := sufs_len h; omega)]; rfl))
        have S1b := S1.out
        rw [ht0] at S1b
        have S1T := Lib.hid (st_tail S1b)
        clear S1b hnt hlen
        have SM := Lib.hid (fun (g2 c2 c3 B B' : Nat) (w : World) h h' => Same11_yes (some ⟨g2, 0, none⟩) (some ⟨g, 1, none⟩) c2 c3 t0 B B' w (by omega) h h')
        have SM := Lib.hid (fun (g2 c2 c3 B B' : Nat) (w : World) h h' => (SM.out g2 c2 c3 B B' w h h').mono (fun e w' hh => show _ ∧ Below w.heap.size w w' from ⟨hh.1, by obtain ⟨n, hn⟩ := hh.2; rw [hn]; exact below_drewN (Below.refl _ _) n⟩))
        rw [hlt0] at SM
        clear ht0 hlt0
        have S1T : Hid (ST w4.drew w4.drew.heap.size (some ⟨g, 1, none⟩) t0) := Lib.hid (S1T.out.on ((Below.refl _ _).drew))
        have B : Hid (Below W.heap.size W w4.drew) := Lib.hid B.out.drew
        go_region_held_law (fun _ => True) (first | exact trivial | go_keep) (first
          | (go_at_call 18; (with_reducible refine (LB.out _).mono ?_; rintro e w5 ⟨⟨g2, c2, rfl, ho⟩, b⟩; have B := Lib.hid (bon B.out b); have S1T := Lib.hid (S1T.out.on b); have S2 := Lib.hid (st_own ho); clear b ho))
          | (go_at_call 17; with_reducible refine (SM.out _ _ _ _ _ _ S2.out S1T.out).mono ?_; rintro e w6 ⟨rfl, b⟩; have B := Lib.hid (bon B.out b); clear b)
          | (go_at_call 23; with_reducible refine (U1.out _).mono ?_; rintro e w7 ⟨rfl, b⟩; have B := Lib.hid (bon B.out b); clear b; try dsimp only)
          | (go_at_call 23; with_reducible refine (U2.out _).mono ?_; rintro e w8 ⟨rfl, b⟩; have B := Lib.hid (bon B.out b); clear b; try dsimp only))
        go_wp2_with fail
        go_loopw [0, 7] (fun a i wr => ∃ (j : Nat) (r2 : ByteArray), j ≤ k ∧ a = .string r2 ∧ i = .int .i64 (j : Int) ∧ Below W.heap.size W wr ∧ Hid (bl r2 = joinD ((cuts (bl r)).drop j))) (fun _ i _ => k - (intOf i).toNat)
        case atStart => exact ⟨0, r, Nat.zero_le _, rfl, rfl, B.out, Lib.hid (by rw [List.drop_zero, joinD_cuts])⟩
        case round =>
          obtain ⟨j, r2, hj, rfl, rfl, hb, HR2⟩ := hrel
          have BR := Lib.hid hb
          clear hb
          by_cases hlt2 : j < k
          · have hjc : j < (cuts (bl r)).length := by rw [HM.out]; exact hlt2
            have h0 : bl r2 ≠ [] := by rw [HR2.out]; exact name_ne (name_drop HN.out hjc).1
            have q5 : r2.toList.isEmpty = false := by rw [isEmpty_bl]; exact decide_eq_false h0
            have q6 : ¬ r2.toList = [] := by rw [tl]; exact h0
            have HUP := Lib.hid (up_drop HN.out hjc)
            clear h0 hjc
            go_wp2_with fail
            refine (U.out _ _).mono ?_; rintro e w9 ⟨⟨t2, rfl, ht2⟩, b⟩
            have HT2 : Hid (bl t2 = joinD ((cuts (bl r)).drop (j + 1))) := Lib.hid (by rw [ht2, HR2.out]; exact HUP.out)
            have BR2 := Lib.hid (bon BR.out b)
            clear b ht2
            go_wp2_with fail
            go_roundw
            case rel => exact ⟨j + 1, t2, by omega, rfl, by go_num, BR2.out, HT2⟩
            case measure => simp [intOf]; omega
          · obtain rfl : j = k := by omega
            have h0 : bl r2 = [] := by
              rw [HR2.out, List.drop_of_length_le (by rw [HM.out]; exact Nat.le_refl _)]; rfl
            have q5 : r2.toList.isEmpty = true := by rw [isEmpty_bl]; exact decide_eq_true h0
            have q6 : r2.toList = [] := by rw [tl]; exact h0
            clear h0
            go_wp2_with fail
            go_ret
            exact ⟨rfl, BR.out⟩
end Go.Proofs.Ytcmkfomfmjgmpaa
