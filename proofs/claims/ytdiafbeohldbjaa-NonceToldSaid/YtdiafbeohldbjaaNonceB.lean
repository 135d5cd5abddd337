/- Contracts of nonce: a time, whether a fence may be (the program's, and the document's). -/
import Derived.Test.YtdiafbeohldbjaaNonceA
import Derived.IntWalk
namespace Go.Proofs.Ytdiafbeohldbjaa
open Go.ChangeShapes Go.WideShapes Go.ChangeAt Go.RowKit Gs
set_option linter.unusedVariables false

theorem isTime_any (t : Int) (w : World) : Calls Try.prog 23 #[.int .i64 t] w fun e w' => e = .returned (.bool (tm t)) ∧ w = w' := by
  by_cases h0 : 0 ≤ t
  · by_cases h1 : t ≤ 1099511627776
    · rw [show tm t = true from tm_iff.2 ⟨h0, h1⟩]
      have a := decide_eq_true h0; have b := decide_eq_true h1
      go_enter Try.func23, Try.ntmps23
      go_wp2
      go_ret
      exact ⟨by simp_all, rfl⟩
    · rw [show tm t = false from tm_no.2 (by omega)]
      go_enter Try.func23, Try.ntmps23
      go_wp2
      go_ret
      exact ⟨by simp_all, rfl⟩
  · rw [show tm t = false from tm_no.2 (by omega)]
    go_enter Try.func23, Try.ntmps23
    go_wp2
    go_ret
    exact ⟨by simp_all, rfl⟩
theorem time_any (t : Int) (w : World) : Calls Try.prog 24 #[.int .i64 t] w fun e w' => e = .returned (.bool (tm t)) ∧ w = w' := by
  by_cases h0 : 0 ≤ t
  · by_cases h1 : t ≤ 1099511627776
    · rw [show tm t = true from tm_iff.2 ⟨h0, h1⟩]
      go_enter Try.func24, Try.ntmps24
      go_wp2
      go_ret
      exact ⟨by simp_all, rfl⟩
    · rw [show tm t = false from tm_no.2 (by omega)]
      go_enter Try.func24, Try.ntmps24
      go_wp2
      go_ret
      exact ⟨by simp_all, rfl⟩
  · rw [show tm t = false from tm_no.2 (by omega)]
    go_enter Try.func24, Try.ntmps24
    go_wp2
    go_ret
    exact ⟨by simp_all, rfl⟩

/-- A fence as a value. -/
abbrev fv (nx : Int) (A : Option Addr) (n c : Nat) : Value := .agg #[.int .i64 nx, .slice A n c]

set_option maxHeartbeats 2000000 in
theorem Check_any (nx : Int) (A : Option Addr) (c : Nat) (L : List (Int × Int)) (hl : L.length ≤ 70368744177664) (w : World) (hs : NS w w.heap.size A L) :
    Calls Try.prog 13 #[fv nx A L.length c] w fun e w' => e = .returned (.int .i64 (chkF nx L)) ∧ Below w.heap.size w w' := by
  have HS := Lib.hid hs
  clear hs
  by_cases hx : tm nx = true
  · have HX := Lib.hid hx
    have hx' := tm_iff.1 hx
    clear hx
    have P := Lib.hid (isTime_any nx)
    rw [HX.out] at P
    go_enter Try.func13, Try.ntmps13
    go_wp2_with fail
    refine (P.out _).mono ?_; rintro e w1 ⟨rfl, rfl⟩
    go_wp2_with fail
    go_loopw [3, 13] (fun a i wr => ∃ (k : Nat) (b : Int), k ≤ L.length ∧ i = .int .i64 k ∧ a = .int .i64 b ∧ 0 ≤ b ∧ b ≤ 1099511627776 ∧ okF nx b (L.drop k) = okF nx 0 L ∧ Below w.heap.size w wr ∧ wr.cell? ⟨w.heap.size, 0, none⟩ = some (.int .i64 nx) ∧ wr.cell? ⟨w.heap.size, 1, none⟩ = some (.slice A L.length c)) (fun _ i _ => L.length - (intOf i).toNat)
    case atStart => exact ⟨0, 0, by omega, rfl, rfl, by omega, by omega, by simp, (Below.refl _ _).alloc (Nat.le_refl _) _, by simp, by simp⟩
    case round =>
      obtain ⟨k, b, hk, rfl, rfl, hb0, hb1, hok, hb, hc, c2⟩ := hrel
      have HB := Lib.hid hb
      have HK := Lib.hid hok
      have hsz : w.heap.size < wr.heap.size := cell_lt hc
      clear hb hok
      by_cases hlt : k < L.length
      · obtain ⟨ad, rfl, had, c0, c1⟩ := (HS.out.below HB.out) k hlt
        have HD := Lib.hid (okF_drop (nx := nx) k hlt b)
        have HT := Lib.hid (fun w => isTime_any L[k].2 w)
        generalize L[k].1 = n, L[k].2 = u at c0 c1 HD HT
        have hbad : (¬ (b ≤ n ∧ n < nx ∧ tm u = true)) → chkF nx L = 1 := fun h => chk_bad (.inr (by rw [← HK.out, HD.out]; simp; intro h1 h2 h3; exact absurd ⟨h1, h2, h3⟩ h))
        have HBAD := Lib.hid hbad
        clear hbad
        have Bw := Lib.hid (HB.out.alloc HB.out.size (.cells #[.int .i64 n, .int .i64 u] 41))
        by_cases h1 : b ≤ n
        · by_cases h2 : n < nx
          · cases h3 : tm u with
            | true =>
              rw [h3] at HT
              have HN := Lib.hid (show okF nx (n + 1) (L.drop (k + 1)) = okF nx 0 L by rw [← HK.out, HD.out, h3, decide_eq_true h1, decide_eq_true h2]; rfl)
              clear h3
              go_wp2_with fail
              refine (HT.out _).mono ?_; rintro e w1 ⟨rfl, rfl⟩
              go_wp2_with fail
              go_roundw
              case rel => exact ⟨k + 1, n + 1, by omega, by go_num, by first | rfl | go_num, by omega, by omega, HN.out, Bw.out, (World.cell?_alloc_lt _ _ _ hsz).trans hc, (World.cell?_alloc_lt _ _ _ hsz).trans c2⟩
              case measure => simp [intOf]; omega
            | false =>
              rw [h3] at HT
              have HE := Lib.hid (HBAD.out (fun h => by rw [h3] at h; exact absurd h.2.2 (by decide)))
              clear h3
              go_wp2_with fail
              refine (HT.out _).mono ?_; rintro e w1 ⟨rfl, rfl⟩
              go_wp2_with fail
              go_ret
              exact ⟨by rw [HE.out]; rfl, Bw.out⟩
          · have HE := Lib.hid (HBAD.out (fun h => h2 h.2.1))
            go_wp2_with fail
            go_ret
            exact ⟨by rw [HE.out]; rfl, Bw.out⟩
        · have HE := Lib.hid (HBAD.out (fun h => h1 h.1))
          go_wp2_with fail
          go_ret
          exact ⟨by rw [HE.out]; rfl, Bw.out⟩
      · obtain rfl : k = L.length := by omega
        have HG := Lib.hid (chk_good (L := L) HX.out (by rw [← HK.out, List.drop_length]; rfl))
        by_cases h64 : 64 < L.length
        · rw [if_pos h64] at HG
          go_wp2_with fail
          go_ret
          exact ⟨by rw [HG.out]; rfl, HB.out⟩
        · rw [if_neg h64] at HG
          go_wp2_with fail
          go_ret
          exact ⟨by rw [HG.out]; rfl, HB.out⟩
  · have HX := Lib.hid (chk_bad (nx := nx) (L := L) (.inl (by simpa using hx)))
    have P := Lib.hid (isTime_any nx)
    rw [Bool.eq_false_iff.2 hx] at P
    clear hx
    go_enter Try.func13, Try.ntmps13
    go_wp2_with fail
    refine (P.out _).mono ?_; rintro e w1 ⟨rfl, rfl⟩
    go_wp2_with fail
    go_ret
    exact ⟨by rw [HX.out]; rfl, (Below.refl _ _).alloc (Nat.le_refl _) _⟩

/-- The least number that may stand at place k. -/
def lowF (L : List (Int × Int)) : Nat → Int
  | 0 => 0
  | k + 1 => (L[k]?.getD (0, 0)).1 + 1
theorem lowF_succ {L : List (Int × Int)} (k : Nat) (h : k < L.length) : lowF L (k + 1) = L[k].1 + 1 := by simp [lowF, h]

set_option maxHeartbeats 4000000 in
theorem refCheck_any (nx : Int) (A : Option Addr) (c : Nat) (L : List (Int × Int)) (hl : L.length ≤ 70368744177664) (w : World) (hs : NS w w.heap.size A L) :
    Calls Try.prog 14 #[fv nx A L.length c] w fun e w' => e = .returned (.int .i64 (chkF nx L)) ∧ Below w.heap.size w w' := by
  have HS := Lib.hid hs
  clear hs
  by_cases hx : tm nx = true
  · have HX := Lib.hid hx
    have hx' := tm_iff.1 hx
    clear hx
    have P := Lib.hid (time_any nx)
    rw [HX.out] at P
    go_enter Try.func14, Try.ntmps14
    go_wp2_with fail
    refine (P.out _).mono ?_; rintro e w1 ⟨rfl, rfl⟩
    go_wp2_with fail
    go_loopw [3] (fun i wr => ∃ (k : Nat), k ≤ L.length ∧ i = .int .i64 k ∧ 0 ≤ lowF L k ∧ okF nx (lowF L k) (L.drop k) = okF nx 0 L ∧ Below w.heap.size w wr ∧ wr.cell? ⟨w.heap.size, 0, none⟩ = some (.int .i64 nx) ∧ wr.cell? ⟨w.heap.size, 1, none⟩ = some (.slice A L.length c)) (fun i _ => L.length - (intOf i).toNat)
    case atStart => exact ⟨0, by omega, rfl, by simp [lowF], by simp [lowF], (Below.refl _ _).alloc (Nat.le_refl _) _, by simp, by simp⟩
    case round =>
      obtain ⟨k, hk, rfl, hlo, hok, hb, hc, c2⟩ := hrel
      have HB := Lib.hid hb
      have HK := Lib.hid hok
      have HLo := Lib.hid hlo
      have hsz : w.heap.size < wr.heap.size := cell_lt hc
      clear hb hok hlo
      by_cases hlt : k < L.length
      · obtain ⟨ad, rfl, had, c0, c1⟩ := (HS.out.below HB.out) k hlt
        have HD := Lib.hid (okF_drop (nx := nx) k hlt (lowF L k))
        have HT := Lib.hid (fun w => time_any L[k].2 w)
        have HU := Lib.hid (lowF_succ k hlt)
        generalize L[k].1 = n, L[k].2 = u at c0 c1 HD HT HU
        have HBAD := Lib.hid (fun (h : ¬ (lowF L k ≤ n ∧ n < nx ∧ tm u = true)) => (chk_bad (.inr (by rw [← HK.out, HD.out]; simp; intro h1 h2 h3; exact absurd ⟨h1, h2, h3⟩ h)) : chkF nx L = 1))
        have Bw := Lib.hid (HB.out.alloc HB.out.size (.cells #[.int .i64 n, .int .i64 u] 41))
        have e0 := (World.cell?_alloc_lt wr (.cells #[.int .i64 n, .int .i64 u] 41) _ hsz).trans hc
        have e1 := (World.cell?_alloc_lt wr (.cells #[.int .i64 n, .int .i64 u] 41) _ hsz).trans c2
        by_cases h0 : 0 ≤ n
        · have g0 : decide (n < 0) = false := decide_eq_false (by omega)
          by_cases h2 : n < nx
          · have g2 : decide (nx ≤ n) = false := decide_eq_false (by omega)
            cases h3 : tm u with
            | true =>
              rw [h3] at HT
              by_cases hk0 : 0 < k
              · obtain ⟨m, hm⟩ : ∃ m, k = m + 1 := ⟨k - 1, by omega⟩
                obtain ⟨ad', e', -, d0, -⟩ := (HS.out.below HB.out) m (by omega)
                cases e'
                have HV := Lib.hid (lowF_succ m (by omega : m < L.length))
                generalize L[m].1 = n0 at d0 HV
                have d1 := (World.cell?_alloc_lt wr (.cells #[.int .i64 n, .int .i64 u] 41) _ (show (ad.add (m * 2)).block < wr.heap.size by rw [block_of_add]; omega)).trans d0
                have hml : m < L.length := by omega
                have hw1 : IntKind.i64.wrap ((k : Int) - 1) = (m : Int) := by rw [show (k : Int) - 1 = (m : Int) by omega]; exact IntWalk.i64_in _ (by omega)
                have g3 : decide (0 < k) = true := decide_eq_true hk0
                have g4 : decide (0 < (k : Int)) = true := decide_eq_true (by omega)
                have HM := Lib.hid hm
                clear hm
                by_cases h5 : n ≤ n0
                · have g5 : decide (n ≤ n0) = true := decide_eq_true h5
                  have HE := Lib.hid (HBAD.out (fun h => by rw [HM.out, HV.out] at h; omega))
                  clear h3
                  go_wp2_with fail
                  go_quiet ((go_at_call 24; exact quiet_eq (HT.out _)))
                  go_wp2_with fail
                  go_ret
                  exact ⟨by rw [HE.out]; rfl, below_drewN Bw.out _⟩
                · have g5 : decide (n ≤ n0) = false := decide_eq_false h5
                  have hlo0 : lowF L k ≤ n := by rw [HM.out, HV.out]; omega
                  have HN := Lib.hid (show okF nx (n + 1) (L.drop (k + 1)) = okF nx 0 L by rw [← HK.out, HD.out, h3, decide_eq_true hlo0, decide_eq_true h2]; rfl)
                  clear h3 hlo0
                  go_wp2_with fail
                  go_quiet ((go_at_call 24; exact quiet_eq (HT.out _)))
                  go_wp2_with fail
                  go_roundw
                  case rel => exact ⟨k + 1, by omega, by go_num, by rw [HU.out]; omega, by rw [HU.out]; exact HN.out, below_drewN Bw.out _, e0, e1⟩
                  case measure => simp [intOf]; omega
              · have hlo0 : lowF L k ≤ n := by
                  obtain rfl : k = 0 := by omega
                  simpa [lowF] using h0
                have HN := Lib.hid (show okF nx (n + 1) (L.drop (k + 1)) = okF nx 0 L by rw [← HK.out, HD.out, h3, decide_eq_true hlo0, decide_eq_true h2]; rfl)
                clear hlo0
                clear h3
                have g3 : decide (0 < k) = false := decide_eq_false hk0
                have g4 : decide (0 < (k : Int)) = false := decide_eq_false (by omega)
                go_wp2_with fail
                go_quiet ((go_at_call 24; exact quiet_eq (HT.out _)))
                go_wp2_with fail
                go_roundw
                case rel => exact ⟨k + 1, by omega, by go_num, by rw [HU.out]; omega, by rw [HU.out]; exact HN.out, below_drewN Bw.out _, e0, e1⟩
                case measure => simp [intOf]; omega
            | false =>
              rw [h3] at HT
              have HE := Lib.hid (HBAD.out (fun h => by rw [h3] at h; exact absurd h.2.2 (by decide)))
              clear h3
              go_wp2_with fail
              go_quiet ((go_at_call 24; exact quiet_eq (HT.out _)))
              go_wp2_with fail
              go_ret
              exact ⟨by rw [HE.out]; rfl, below_drewN Bw.out _⟩
          · have HE := Lib.hid (HBAD.out (fun h => h2 h.2.1))
            have g2 : decide (nx ≤ n) = true := decide_eq_true (by omega)
            go_wp2_with fail
            go_quiet ((go_at_call 24; exact quiet_eq (HT.out _)))
            go_wp2_with fail
            go_ret
            exact ⟨by rw [HE.out]; rfl, below_drewN Bw.out _⟩
        · have HE := Lib.hid (HBAD.out (fun h => h0 (by have := HLo.out; omega)))
          have g0 : decide (n < 0) = true := decide_eq_true (by omega)
          go_wp2_with fail
          go_quiet ((go_at_call 24; exact quiet_eq (HT.out _)))
          go_wp2_with fail
          go_ret
          exact ⟨by rw [HE.out]; rfl, below_drewN Bw.out _⟩
      · obtain rfl : k = L.length := by omega
        have HG := Lib.hid (chk_good (L := L) HX.out (by rw [← HK.out, List.drop_length]; rfl))
        by_cases h64 : 64 < L.length
        · rw [if_pos h64] at HG
          go_wp2_with fail
          go_ret
          exact ⟨by rw [HG.out]; rfl, HB.out⟩
        · rw [if_neg h64] at HG
          go_wp2_with fail
          go_ret
          exact ⟨by rw [HG.out]; rfl, HB.out⟩
  · have HX := Lib.hid (chk_bad (nx := nx) (L := L) (.inl (by simpa using hx)))
    have P := Lib.hid (time_any nx)
    rw [Bool.eq_false_iff.2 hx] at P
    clear hx
    go_enter Try.func14, Try.ntmps14
    go_wp2_with fail
    refine (P.out _).mono ?_; rintro e w1 ⟨rfl, rfl⟩
    go_wp2_with fail
    go_ret
    exact ⟨by rw [HX.out]; rfl, (Below.refl _ _).alloc (Nat.le_refl _) _⟩
end Go.Proofs.Ytdiafbeohldbjaa
