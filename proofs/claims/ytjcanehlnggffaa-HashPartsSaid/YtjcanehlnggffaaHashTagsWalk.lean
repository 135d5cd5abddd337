/- The walk of the law HashTags. -/
import Derived.Test.YtjcanehlnggffaaHashLive
import Derived.RegionTactic
import Derived.Deep.RegionHeld3
import Derived.Deep.DrawnRows
namespace Go.Proofs.Ytjcanehlnggffaa
open Go.ChangeShapes Go.WideShapes Go.ChangeAt Go.RowKit Gs
set_option linter.unusedVariables false
attribute [local go_sem ↓] Go.wp_at_zero Go.wp_at_succ

set_option maxHeartbeats 1000000 in
theorem few_any (s : ByteArray) (A : Option Addr) (c : Nat) (ps : List (List Int)) (b : Bool) (hb : b = decide (s.size + psz ps ≤ 400)) (hs : s.size ≤ 140737488351232) (hn : ps.length ≤ 140737488351232) (hp : ∀ p ∈ ps, p.length ≤ 140737488351232) (B : Nat) (w : World) (hsp : SP w B A ps) :
    Calls Try.prog 18 #[.string s, .slice A ps.length c] w fun e w' => e = .returned (.bool b) ∧ w = w' := by
  have HP := Lib.hid hsp
  have HB := Lib.hid hb
  have HL := Lib.hid hp
  clear hsp hb hp
  go_enter Try.func18, Try.ntmps18
  go_wp2_with fail
  go_loop [5, 6] (fun z i => ∃ k sz : Nat, k ≤ ps.length ∧ i = .int .i64 k ∧ z = .int .i64 (sz : Int) ∧ sz = s.size + psz (ps.take k) ∧ (1 ≤ k → sz ≤ 400)) (fun _ i => ps.length - (intOf i).toNat)
  case atStart => exact ⟨0, s.size, by omega, rfl, rfl, by simp [psz], by omega⟩
  case round =>
    obtain ⟨k, sz, hk, rfl, rfl, hsz, h1⟩ := hrel
    have hszb : sz ≤ 140737488351232 := by
      by_cases h : 1 ≤ k
      · have := h1 h; omega
      · have : k = 0 := by omega
        subst this
        simp [psz] at hsz
        omega
    by_cases hlt : k < ps.length
    · obtain ⟨ad, rfl, had, A', c', hc, _, _, _⟩ := HP.out k hlt
      have hpl := HL.out _ (List.getElem_mem hlt)
      have HS := Lib.hid (psz_take ps k hlt)
      have hle := psz_le ps (k + 1)
      rw [HS.out] at hle
      by_cases hg : sz + 4 + ps[k].length ≤ 400
      · have HZ := Lib.hid hsz
        have hg' : ¬ (400 : Int) < (sz : Int) + 4 + ps[k].length := by omega
        clear hsz hle h1
        go_wp2_with fail
        go_round
        case rel => exact ⟨k + 1, sz + 4 + ps[k].length, by omega, by go_num, congrArg (Value.int .i64) (by omega), by rw [HS.out, HZ.out]; omega, fun _ => hg⟩
        case measure => simp [intOf]; omega
      · have HF : Hid (b = false) := by rw [Hid, HB.out]; exact decide_eq_false (by omega)
        have hg' : (400 : Int) < (sz : Int) + 4 + ps[k].length := by omega
        clear hsz hle h1
        go_wp2_with fail
        go_ret
        exact ⟨by rw [HF.out]; rfl, rfl⟩
    · have hk' : k = ps.length := by omega
      have ht : ps.take k = ps := List.take_of_length_le (by omega)
      rw [ht] at hsz
      by_cases hg : sz ≤ 400
      · have HF : Hid (b = true) := by rw [Hid, HB.out]; exact decide_eq_true (by omega)
        clear hsz h1 ht hk'
        go_wp2_with fail
        go_ret
        exact ⟨by rw [HF.out]; exact congrArg (fun b => Ending.returned (Value.bool b)) (decide_eq_true (by omega)), rfl⟩
      · have HF : Hid (b = false) := by rw [Hid, HB.out]; exact decide_eq_false (by omega)
        clear hsz h1 ht hk'
        go_wp2_with fail
        go_ret
        exact ⟨by rw [HF.out]; exact congrArg (fun b => Ending.returned (Value.bool b)) (decide_eq_false (by omega)), rfl⟩
theorem psz_count : ∀ ps : List (List Int), 4 * ps.length ≤ psz ps
  | [] => by simp [psz]
  | p :: r => by have := psz_count r; simp [psz]; omega

set_option maxHeartbeats 4000000 in
theorem tags_walk (s : ByteArray) (A : Option Addr) (c : Nat) (ps : List (List Int)) (a0 a1 b0 b1 : Int) [IsU a0] [IsU a1] [IsU b0] [IsU b1] (hs : s.size ≤ 140737488351232) (hn : ps.length ≤ 140737488351232) (hp : ∀ p ∈ ps, p.length ≤ 140737488351232 ∧ ∀ x ∈ p, 0 ≤ x ∧ x < 256) (w : World) (hsp : SP w w.heap.size A ps) :
    Calls Try.prog 5 #[.string s, .slice A ps.length c, .agg #[.int .u64 a0, .int .u64 a1], .agg #[.int .u64 b0, .int .u64 b1]] w fun e w' => e = .returned (.bool true) ∧ Below w.heap.size w w' := by
  have HP := Lib.hid hsp
  have HH := Lib.hid hp
  have HC := Lib.hid (psz_count ps)
  have n2 := eq2_same
  clear hsp hp
  by_cases hf : s.size + psz ps ≤ 400
  · go_enter Try.func5, Try.ntmps5
    go_wp2_with fail
    refine (live_any _).mono ?_
    rintro e w1 ⟨rfl, hb1⟩
    have Q0 := Lib.hid (((Blk.new_at w 29 #[.int .u64 a0, .int .u64 a1] rfl).alloc (.cells #[.int .u64 b0, .int .u64 b1] 29)).below hb1 (by simp; omega))
    have Q1 := Lib.hid ((Blk.new_at (w.alloc (.cells #[.int .u64 a0, .int .u64 a1] 29)) (g := w.heap.size + 1) 29 #[.int .u64 b0, .int .u64 b1] (by simp)).below hb1 (by simp))
    have HB1 := Lib.hid ((((Below.refl _ _).alloc (Nat.le_refl _) _).alloc (by simp) _).trans (hb1.mono (by simp; omega)))
    have lt1 := Q1.out.lt
    clear hb1
    go_wp2_with fail
    refine (few_any s A c ps true (decide_eq_true hf).symm hs hn (fun p h => (HH.out p h).1) _ _ (HP.out.on HB1.out)).mono ?_
    rintro e w2 ⟨rfl, rfl⟩
    obtain ⟨⟨c0, c1⟩, _, _⟩ := Q0.out.facts2
    obtain ⟨⟨c2, c3⟩, _, _⟩ := Q1.out.facts2
    have hd : w1.heap.size ≤ w1.drew.heap.size := Nat.le_refl _
    have hpl : ps.length ≤ 400 := by have := HC.out; omega
    go_wp2_with fail
    go_region_held3 (fun w' => w'.cell? ⟨w.heap.size, 0, none⟩ = some (.int .u64 a0) ∧ w'.cell? ⟨w.heap.size, 1, none⟩ = some (.int .u64 a1) ∧ w'.cell? ⟨w.heap.size + 1, 0, none⟩ = some (.int .u64 b0) ∧ w'.cell? ⟨w.heap.size + 1, 1, none⟩ = some (.int .u64 b1)) (first | exact ⟨by assumption, by assumption, by assumption, by assumption⟩ | go_keep)
      (first
        | (go_at_call 19; refine (Tagged_any s A c ps (fun p h => (HH.out p h).2) (by omega) (by omega) _ (HP.out.on HB1.out.drew)).mono ?_; rintro e w3 ⟨rfl, hb⟩; have hW := (Below.refl w1.heap.size w1).drew.trans (hb.mono (by omega)); have k0 := (hW.cell (p := ⟨w.heap.size, 0, none⟩) (show w.heap.size < _ by omega)).trans c0; have k1 := (hW.cell (p := ⟨w.heap.size, 1, none⟩) (show w.heap.size < _ by omega)).trans c1; have k2 := (hW.cell (p := ⟨w.heap.size + 1, 0, none⟩) lt1).trans c2; have k3 := (hW.cell (p := ⟨w.heap.size + 1, 1, none⟩) lt1).trans c3)
        | (go_at_call 20; refine (refTagged_any s A c ps (fun p h => (HH.out p h).2) (by omega) (by omega) _ (HP.out.on (HB1.out.trans (hW.mono HB1.out.size)))).mono ?_; rintro e w3 ⟨rfl, hb⟩; have hW := hW.trans (hb.mono hW.size); have k0 := (hW.cell (p := ⟨w.heap.size, 0, none⟩) (show w.heap.size < _ by omega)).trans c0; have k1 := (hW.cell (p := ⟨w.heap.size, 1, none⟩) (show w.heap.size < _ by omega)).trans c1; have k2 := (hW.cell (p := ⟨w.heap.size + 1, 0, none⟩) lt1).trans c2; have k3 := (hW.cell (p := ⟨w.heap.size + 1, 1, none⟩) lt1).trans c3)
        | (go_at_call 21; refine (Pair_any _ _ _ _ _).mono ?_; rintro e w3 ⟨rfl, hb⟩; have hW := hW.trans (hb.mono hW.size); have k0 := (hW.cell (p := ⟨w.heap.size, 0, none⟩) (show w.heap.size < _ by omega)).trans c0; have k1 := (hW.cell (p := ⟨w.heap.size, 1, none⟩) (show w.heap.size < _ by omega)).trans c1; have k2 := (hW.cell (p := ⟨w.heap.size + 1, 0, none⟩) lt1).trans c2; have k3 := (hW.cell (p := ⟨w.heap.size + 1, 1, none⟩) lt1).trans c3)
        | (go_at_call 22; refine (refPair_any _ _ _ _ _).mono ?_; rintro e w3 ⟨rfl, hb⟩; have hW := hW.trans (hb.mono hW.size); have k0 := (hW.cell (p := ⟨w.heap.size, 0, none⟩) (show w.heap.size < _ by omega)).trans c0; have k1 := (hW.cell (p := ⟨w.heap.size, 1, none⟩) (show w.heap.size < _ by omega)).trans c1; have k2 := (hW.cell (p := ⟨w.heap.size + 1, 0, none⟩) lt1).trans c2; have k3 := (hW.cell (p := ⟨w.heap.size + 1, 1, none⟩) lt1).trans c3))
    all_goals
      go_wp2_with fail
      go_ret
      exact ⟨rfl, HB1.out.trans (hW.mono HB1.out.size)⟩
  · go_enter Try.func5, Try.ntmps5
    go_wp2_with fail
    refine (live_any _).mono ?_
    rintro e w1 ⟨rfl, hb1⟩
    have HB1 := Lib.hid ((((Below.refl _ _).alloc (Nat.le_refl _) _).alloc (by simp) _).trans (hb1.mono (by simp; omega)))
    clear hb1
    go_wp2_with fail
    refine (few_any s A c ps false (decide_eq_false hf).symm hs hn (fun p h => (HH.out p h).1) _ _ (HP.out.on HB1.out)).mono ?_
    rintro e w2 ⟨rfl, rfl⟩
    go_wp2_with fail
    go_ret
    exact ⟨rfl, HB1.out⟩
end Go.Proofs.Ytjcanehlnggffaa
