/- What package quorum tells of commitments: whether they may be, whether they are enough, what is challenged. -/
import Derived.Test.YtlannmedefjfhaaGreatQuorumF
namespace Go.Proofs.YtlannmedefjfhaaGreat
open Go.ChangeShapes Go.WideShapes Go.ChangeAt Go.RowKit Gs
set_option linter.unusedVariables false

/-- A round as a value. -/
def roundV (T N K : Int) (A : Option Addr) (n c : Nat) (M : Option Addr) (m cm : Nat) (D : Option Addr) (d cd : Nat) : Value := .agg #[.int .i64 T, .int .i64 N, .int .u64 K, .slice A n c, .slice M m cm, .slice D d cd]
/-- Shares that came in: what does not change. -/
structure ShFix (c : Nat) (l : List (Int × Int)) : Prop where
  len : l.length ≤ 1048576
  cap : l.length ≤ c
  max : c ≤ maxLen
  u : ∀ p ∈ l, 0 ≤ p.2 ∧ p.2 < 18446744073709551616
structure ByFix (c : Nat) (xs : List Int) : Prop where
  len : xs.length ≤ 1000
  cap : xs.length ≤ c
  max : c ≤ maxLen
  u : ∀ x ∈ xs, 0 ≤ x ∧ x < 256

theorem chal1_any (p : Int × Int) (w : World) :
    Calls Tryz.prog 109 #[.agg #[.int .i64 p.1, .int .u64 p.2]] w fun e w' => e = .returned (.int .u64 p.2) ∧ Below w.heap.size w w' := by
  have D0 := Lib.hid ((Below.refl w.heap.size w).alloc (Nat.le_refl _) (.cells #[.int .i64 p.1, .int .u64 p.2] 37))
  go_enter Tryz.func109, Tryz.ntmps109
  go_wp2_with fail
  go_ret
  exact ⟨rfl, D0.out⟩

set_option maxRecDepth 100000 in
set_option maxHeartbeats 4000000 in
theorem chal_any (T N K : Int) [IsU K] (A : Option Addr) (n c : Nat) (M : Option Addr) (cm : Nat) (ms : List Int) (D : Option Addr) (cd : Nat) (cs : List (Int × Int)) (hc : ShFix cd cs) (hm : ByFix cm ms) (w : World) (h1 : SI w w.heap.size .u8 M ms) (h2 : SS w w.heap.size D cs) :
    Calls Tryz.prog 57 #[roundV T N K A n c M ms.length cm D cs.length cd] w fun e w' => e = .returned (.int .u64 (chalF K ms cs)) ∧ Below w.heap.size w w' := by
  unfold roundV
  have D0 := Lib.hid ((Below.refl w.heap.size w).alloc (Nat.le_refl _) (.cells #[.int .i64 T, .int .i64 N, .int .u64 K, .slice A n c, .slice M ms.length cm, .slice D cs.length cd] 77))
  have KB := Blk.new w 77 #[.int .i64 T, .int .i64 N, .int .u64 K, .slice A n c, .slice M ms.length cm, .slice D cs.length cd]
  have k2 := KB.cell 2
  have k4 := KB.cell 4
  have HM := Lib.hid (h1.on D0.out)
  have HC := Lib.hid (h2.on D0.out)
  have P1 := Lib.hid (fun W (h : SS W W.heap.size D cs) => each_nums 109 (runs_in Tryz.func109 (by kernel_rfl) rfl) #[] D cs.length cd cs rfl hc.len Prod.snd W h (fun p _ W' _ => chal1_any p W'))
  have HL := Lib.hid (show (cs.map Prod.snd).length = cs.length by simp)
  have P2 := Lib.hid (fun A c W h => product_any6 A cs.length c (cs.map Prod.snd) HL.out hc.len (fun x hx => by
    obtain ⟨p, hp, rfl⟩ := List.mem_map.1 hx
    exact ⟨(hc.u p hp).1, (hc.u p hp).2⟩) W h)
  have P3 := Lib.hid (fun W h => Challenge_any (qprod (cs.map Prod.snd)) K M cm ms hm.u hm.len hm.cap hm.max W h)
  have HQ := Lib.hid (show chalF K ms cs = schal (qprod (cs.map Prod.snd)) K ms from rfl)
  rw [← HQ.out] at P3
  clear KB h1 h2 hc hm HQ
  generalize cs.map Prod.snd = zs at *
  generalize chalF K ms cs = ch at *
  go_enter Tryz.func57, Tryz.ntmps57
  go_wp2_with fail
  refine (P1.out _ HC.out).mono ?_; rintro e w1 ⟨v, rfl, ho, b⟩
  obtain ⟨A1, c1, rfl, hc1, hm1, hs1⟩ := own_slice ho
  rw [HL.out]
  have HS1 := Lib.hid hs1
  have e2 := (b.cell (p := ⟨w.heap.size, 2, none⟩) (by simp)).trans k2
  have e4 := (b.cell (p := ⟨w.heap.size, 4, none⟩) (by simp)).trans k4
  have HM1 := Lib.hid (HM.out.on b)
  have B1 := Lib.hid (below_on D0.out b)
  have hz1 : w.heap.size < w1.heap.size := by have := b.size; simp at this; omega
  clear ho b hs1 hc1 hm1 k2 k4
  go_wp2_with fail
  have hd : w1.heap.size ≤ w1.drew.heap.size := Nat.le_refl _
  go_region_held_law (fun w' => w'.cell? ⟨w.heap.size, 2, none⟩ = some (.int .u64 K) ∧ w'.cell? ⟨w.heap.size, 4, none⟩ = some (.slice M ms.length cm)) (first | exact ⟨by assumption, by assumption⟩ | go_keep)
    (first
      | (go_at_call 98; refine (P2.out _ _ _ (HS1.out.on ((Below.refl _ _).drew))).mono ?_; rintro e w5 ⟨rfl, b5⟩; have hW := (Below.refl w1.heap.size w1).drew.trans (b5.mono (by omega)); have k2' := (hW.cell (p := ⟨w.heap.size, 2, none⟩) hz1).trans e2; have k4' := (hW.cell (p := ⟨w.heap.size, 4, none⟩) hz1).trans e4)
      | (go_at_call 74; refine (P3.out _ (HM1.out.on hW)).mono ?_; rintro e w5 ⟨rfl, b5⟩; have hW := hW.trans (b5.mono hW.size); have k2' := (hW.cell (p := ⟨w.heap.size, 2, none⟩) hz1).trans e2; have k4' := (hW.cell (p := ⟨w.heap.size, 4, none⟩) hz1).trans e4))
  have HX := Lib.hid (B1.out.trans (hW.mono B1.out.size))
  clear hW k2' k4' e2 e4
  go_wp2_with fail
  go_ret
  exact ⟨by simp, HX.out⟩

theorem crewMay_any (T N K : Int) [IsU K] (A : Option Addr) (c : Nat) (ps : List (Int × Int)) (hp : ShFix c ps) (M : Option Addr) (m cm : Nat) (D : Option Addr) (d cd : Nat) (w : World) (hs : SS w w.heap.size A ps) :
    Calls Tryz.prog 52 #[roundV T N K A ps.length c M m cm D d cd] w fun e w' => e = .returned (.int .i64 (crewF T N K ps)) ∧ Below w.heap.size w w' := by
  unfold roundV
  have D0 := Lib.hid ((Below.refl w.heap.size w).alloc (Nat.le_refl _) (.cells #[.int .i64 T, .int .i64 N, .int .u64 K, .slice A ps.length c, .slice M m cm, .slice D d cd] 77))
  have P := Lib.hid (fun W h => Check_any6 T N K A c ps hp.len hp.cap hp.max hp.u (crewF T N K ps) (crewF_is T N K ps) W h)
  have HS := Lib.hid hs
  clear hs hp
  unfold crewV at P
  generalize crewF T N K ps = ce at *
  go_enter Tryz.func52, Tryz.ntmps52
  go_wp2_with fail
  refine (P.out _ (HS.out.on D0.out)).mono ?_; rintro e w1 ⟨rfl, b⟩
  have B1 := Lib.hid (below_on D0.out b)
  clear b
  go_wp2_with fail
  go_ret
  exact ⟨rfl, B1.out⟩

theorem enough_any (T N K : Int) (A : Option Addr) (n c : Nat) (M : Option Addr) (m cm : Nat) (D : Option Addr) (cd : Nat) (cs : List (Int × Int)) (hl : cs.length ≤ 1048576) (w : World) :
    Calls Tryz.prog 54 #[roundV T N K A n c M m cm D cs.length cd] w fun e w' => e = .returned (.int .i64 (enoughF T cs)) ∧ Below w.heap.size w w' := by
  unfold roundV
  have D0 := Lib.hid ((Below.refl w.heap.size w).alloc (Nat.le_refl _) (.cells #[.int .i64 T, .int .i64 N, .int .u64 K, .slice A n c, .slice M m cm, .slice D cs.length cd] 77))
  by_cases h : (cs.length : Int) < T
  · have HE := Lib.hid (show enoughF T cs = 50 from if_pos h)
    rw [HE.out]
    go_enter Tryz.func54, Tryz.ntmps54
    go_wp2_with fail
    go_ret
    exact ⟨rfl, D0.out⟩
  · have HE := Lib.hid (show enoughF T cs = 0 from if_neg h)
    rw [HE.out]
    go_enter Tryz.func54, Tryz.ntmps54
    go_wp2_with fail
    go_ret
    exact ⟨rfl, D0.out⟩

/-- What stands ahead: each one greater than the last one, none greater than N. -/
theorem comm_step {N : Int} {cs : List (Int × Int)} (k : Nat) (hk : k < cs.length) (h0 : CommitsOk N (cs.take k)) {last : Int} (hl : last = if h : k = 0 then 0 else (cs[k - 1]'(by omega)).1) (h1 : last < cs[k].1) (h2 : cs[k].1 ≤ N) (h3 : qin cs[k].2 = true) : CommitsOk N (cs.take (k + 1)) := by
  intro i hi
  rw [List.length_take] at hi
  have hg : ∀ j (h : j < (cs.take (k + 1)).length), (cs.take (k + 1))[j] = cs[j]'(by rw [List.length_take] at h; omega) := fun j h => List.getElem_take
  have h0' : ∀ i (h : i < k), (1 ≤ (cs[i]'(by omega)).1 ∧ (cs[i]'(by omega)).1 ≤ N ∧ qin (cs[i]'(by omega)).2 = true) ∧ ∀ j (g : j < i), (cs[j]'(by omega)).1 < (cs[i]'(by omega)).1 := fun i h => by
    have hh := h0 i (by rw [List.length_take]; omega)
    simp only [List.getElem_take] at hh
    exact hh
  by_cases e : i = k
  · subst e
    rw [hg]
    have hpos : 0 ≤ last := by
      by_cases z : i = 0
      · rw [dif_pos z] at hl; omega
      · rw [dif_neg z] at hl; have := (h0' (i - 1) (by omega)).1.1; omega
    refine ⟨⟨by omega, h2, h3⟩, fun j g => ?_⟩
    rw [hg]
    have z : ¬ i = 0 := by omega
    rw [dif_neg z] at hl
    by_cases e2 : j = i - 1
    · subst e2; omega
    · have := (h0' (i - 1) (by omega)).2 j (by omega); omega
  · rw [hg]
    have hh := h0' i (by omega)
    exact ⟨hh.1, fun j g => by rw [hg]; exact hh.2 j g⟩
theorem comm_low {N : Int} {cs : List (Int × Int)} (k : Nat) (hk : k < cs.length) {last : Int} (hl : last = if h : k = 0 then 0 else (cs[k - 1]'(by omega)).1) (h : cs[k].1 ≤ last ∨ N < cs[k].1 ∨ qin cs[k].2 = false) : ¬ CommitsOk N cs := fun hc => by
  have h1 := hc k hk
  rcases h with h | h | h
  · by_cases z : k = 0
    · rw [dif_pos z] at hl; have := h1.1.1; omega
    · rw [dif_neg z] at hl
      have := h1.2 (k - 1) (by omega); omega
  · have := h1.1.2.1; omega
  · rw [h1.1.2.2] at h; cases h
theorem comm_none {N : Int} {cs : List (Int × Int)} : CommitsOk N (cs.take 0) := fun i h => by simp at h
theorem comm_all {N : Int} {cs : List (Int × Int)} (h : CommitsOk N (cs.take cs.length)) : CommitsOk N cs := by rwa [List.take_length] at h

set_option maxRecDepth 100000 in
set_option maxHeartbeats 4000000 in
theorem commits_any (T N K : Int) (A : Option Addr) (n c : Nat) (M : Option Addr) (m cm : Nat) (D : Option Addr) (cd : Nat) (cs : List (Int × Int)) (hc : ShFix cd cs) (w : World) (hs : SS w w.heap.size D cs) :
    Calls Tryz.prog 53 #[roundV T N K A n c M m cm D cs.length cd] w fun e w' => e = .returned (.int .i64 (commF N cs)) ∧ Below w.heap.size w w' := by
  unfold roundV
  have D0 := Lib.hid ((Below.refl w.heap.size w).alloc (Nat.le_refl _) (.cells #[.int .i64 T, .int .i64 N, .int .u64 K, .slice A n c, .slice M m cm, .slice D cs.length cd] 77))
  have KB := Blk.new w 77 #[.int .i64 T, .int .i64 N, .int .u64 K, .slice A n c, .slice M m cm, .slice D cs.length cd]
  have k1 := KB.cell 1
  have HS := Lib.hid hs
  have HU := Lib.hid hc.u
  have hl := hc.len
  clear hs hc KB
  go_enter Tryz.func53, Tryz.ntmps53
  go_wp2_with fail
  refine wp_named (fun W => W.cell? ⟨w.heap.size, 1, none⟩ = some (.int .i64 N) ∧ Below w.heap.size w W ∧ w.heap.size < W.heap.size) ⟨k1, D0.out, by simp⟩ ?_
  clear k1 D0
  rintro W0 ⟨k1, hD, hw0⟩
  have D0 := Lib.hid hD
  clear hD
  go_loopw [3, 9] (fun last i wr => ∃ (k : Nat) (z : Int), k ≤ cs.length ∧ i = .int .i64 k ∧ last = .int .i64 z ∧ (∃ hk : k ≤ cs.length, z = if h : k = 0 then 0 else (cs[k - 1]'(by omega)).1) ∧ CommitsOk N (cs.take k) ∧ Below W0.heap.size W0 wr) (fun _ i _ => cs.length - (intOf i).toNat)
  case atStart => exact ⟨0, 0, by omega, rfl, rfl, ⟨by omega, by simp⟩, comm_none, Below.refl _ _⟩
  case round =>
    obtain ⟨k, z, hk, rfl, rfl, ⟨_, hz0⟩, h0, hb⟩ := hrel
    have HB := Lib.hid hb
    have HZ := Lib.hid hz0
    have H0 := Lib.hid h0
    have hz := hb.size
    have d1 := (hb.cell (p := ⟨w.heap.size, 1, none⟩) hw0).trans k1
    clear hb hz0 h0
    by_cases hlt : k < cs.length
    · obtain ⟨ad, rfl, had, c0, c1⟩ := ((HS.out.on D0.out).below HB.out) k hlt
      have hx := HU.out cs[k] (List.getElem_mem hlt)
      haveI : IsU cs[k].2 := ⟨hx.1, hx.2⟩
      have PI := Lib.hid (In_q cs[k].2)
      have HY := Lib.hid (fun a b g => comm_step k hlt H0.out HZ.out a b g)
      have HN := Lib.hid (fun g => comm_low (N := N) k hlt HZ.out g)
      have HL := Lib.hid (show cs[k].1 = if h : k + 1 = 0 then 0 else (cs[k + 1 - 1]'(by omega)).1 by simp)
      have HF := Lib.hid (fun (g : ¬ CommitsOk N cs) => (show commF N cs = 1 from if_neg g))
      clear hx
      generalize cs[k].1 = x1 at *
      generalize cs[k].2 = x2 at *
      have B2 := Lib.hid (HB.out.alloc hz (.cells #[.int .i64 x1, .int .u64 x2] 37))
      have hlw : w.heap.size < wr.heap.size := by omega
      have hne : w.heap.size ≠ wr.heap.size := by omega
      by_cases h1 : x1 ≤ z
      · have HE := Lib.hid (HF.out (HN.out (.inl h1)))
        clear HY HN HF HL
        go_wp2_with fail
        go_ret
        exact ⟨by rw [HE.out]; rfl, D0.out.trans (B2.out.mono (by omega))⟩
      by_cases h2 : N < x1
      · have HE := Lib.hid (HF.out (HN.out (.inr (.inl h2))))
        clear HY HN HF HL
        go_wp2_with fail
        go_ret
        exact ⟨by rw [HE.out]; rfl, D0.out.trans (B2.out.mono (by omega))⟩
      by_cases h3 : qin x2 = true
      · have HY2 := Lib.hid (HY.out (by omega) (by omega) h3)
        rw [h3] at PI
        clear HY HN HF h3
        go_wp2_with fail
        refine (PI.out _).mono ?_; rintro e w3 ⟨rfl, b⟩
        have hk3 := (Blk.new wr 37 #[.int .i64 x1, .int .u64 x2]).below b (by simp)
        have e0 := hk3.cell 0
        have B3 := Lib.hid (B2.out.trans (b.mono (by simp; omega)))
        clear b hk3
        go_wp2_with fail
        go_roundw
        case rel => exact ⟨k + 1, x1, by omega, by go_num, rfl, ⟨by omega, HL.out⟩, HY2.out, B3.out⟩
        case measure => simp [intOf]; omega
      · have HE := Lib.hid (HF.out (HN.out (.inr (.inr (Bool.eq_false_iff.2 h3)))))
        rw [Bool.eq_false_iff.2 h3] at PI
        clear HY HN HF HL h3
        go_wp2_with fail
        refine (PI.out _).mono ?_; rintro e w3 ⟨rfl, b⟩
        have B3 := Lib.hid (B2.out.trans (b.mono (by simp; omega)))
        clear b
        go_wp2_with fail
        go_ret
        exact ⟨by rw [HE.out]; rfl, D0.out.trans (B3.out.mono (by omega))⟩
    · obtain rfl : k = cs.length := by omega
      have HE := Lib.hid (show commF N cs = 0 from if_pos (comm_all H0.out))
      go_wp2_with fail
      go_ret
      exact ⟨by rw [HE.out]; rfl, D0.out.trans (HB.out.mono (by omega))⟩
end Go.Proofs.YtlannmedefjfhaaGreat
