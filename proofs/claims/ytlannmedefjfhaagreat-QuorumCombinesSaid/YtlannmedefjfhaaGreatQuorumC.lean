/- What package quorum does inside: whether a crew may be, whether its parts and its key fit. -/
import Derived.Test.YtlannmedefjfhaaGreatQuorumB
namespace Go.Proofs.YtlannmedefjfhaaGreat
open Go.ChangeShapes Go.WideShapes Go.ChangeAt Go.RowKit Gs
set_option linter.unusedVariables false

/-- A crew as a value. -/
def crewV (T N K : Int) (A : Option Addr) (n c : Nat) : Value := .agg #[.int .i64 T, .int .i64 N, .int .u64 K, .slice A n c]

set_option maxRecDepth 100000 in
set_option maxHeartbeats 4000000 in
theorem cmay_any (T N K : Int) [IsU K] (A : Option Addr) (c : Nat) (ps : List (Int × Int)) (hl : ps.length ≤ 1048576) (hu : ∀ p ∈ ps, 0 ≤ p.2 ∧ p.2 < 18446744073709551616) (w : World) (hs : SS w w.heap.size A ps) :
    Calls Tryz.prog 42 #[crewV T N K A ps.length c] w fun e w' => (∃ b : Int, e = .returned (.int .i64 b) ∧ ((b = 0 ∧ CrewOk T N K ps) ∨ (b = 1 ∧ ¬ CrewOk T N K ps))) ∧ Below w.heap.size w w' := by
  have D0 := Lib.hid ((Below.refl w.heap.size w).alloc (Nat.le_refl _) (.cells #[.int .i64 T, .int .i64 N, .int .u64 K, .slice A ps.length c] 66))
  have P := Lib.hid (In_q K)
  have HS := Lib.hid hs
  have HU := Lib.hid hu
  clear hs hu
  unfold crewV
  by_cases h1 : T < 1
  · go_enter Tryz.func42, Tryz.ntmps42
    go_wp2_with fail
    go_ret
    exact ⟨⟨1, rfl, .inr ⟨rfl, fun h => by have := h.1; omega⟩⟩, D0.out⟩
  by_cases h2 : N < T
  · go_enter Tryz.func42, Tryz.ntmps42
    go_wp2_with fail
    go_ret
    exact ⟨⟨1, rfl, .inr ⟨rfl, fun h => by have := h.2.1; omega⟩⟩, D0.out⟩
  by_cases h3 : 7 < N
  · go_enter Tryz.func42, Tryz.ntmps42
    go_wp2_with fail
    go_ret
    exact ⟨⟨1, rfl, .inr ⟨rfl, fun h => by have := h.2.2.1; omega⟩⟩, D0.out⟩
  by_cases h4 : qin K = true
  · have H4 := Lib.hid h4
    rw [h4] at P
    clear h4
    by_cases h5 : (ps.length : Int) = N
    · have q1 : decide (T < 1) = false := decide_eq_false h1
      have q2 : decide (N < T) = false := decide_eq_false h2
      have q3 : decide (7 < N) = false := decide_eq_false h3
      have q5 : ((ps.length : Int) != N) = false := by simp [h5]
      have H5 := Lib.hid h5
      clear h5
      go_enter Tryz.func42, Tryz.ntmps42
      go_wp2_with fail
      refine (P.out _).mono ?_; rintro e w1 ⟨rfl, b⟩
      have K1 := (Blk.new w 66 #[.int .i64 T, .int .i64 N, .int .u64 K, .slice A ps.length c]).below b (by simp)
      have B1 := Lib.hid (below_on D0.out b)
      have c1 := K1.cell 1
      have c3 := K1.cell 3
      have hz1 := B1.out.size
      clear b K1
      go_wp2_with fail
      go_loopw [37] (fun i wr => ∃ k : Nat, k ≤ ps.length ∧ i = .int .i64 k ∧ (∀ i (h : i < ps.length), i < k → ps[i].1 = (i : Int) + 1 ∧ qin ps[i].2 = true) ∧ Below w1.heap.size w1 wr) (fun i _ => ps.length - (intOf i).toNat)
      case atStart => exact ⟨0, by omega, rfl, fun i g h => by omega, Below.refl _ _⟩
      case round =>
        obtain ⟨k, hk, rfl, h0, hb⟩ := hrel
        have HB := Lib.hid hb
        have H0 := Lib.hid h0
        have hz := hb.size
        clear hb h0
        by_cases hlt : k < ps.length
        · obtain ⟨ad, rfl, had, d0, d1⟩ := ((HS.out.below B1.out).below (HB.out.mono hz1)) k hlt
          have hx := HU.out ps[k] (List.getElem_mem hlt)
          haveI : IsU ps[k].2 := ⟨hx.1, hx.2⟩
          have PI := Lib.hid (In_q ps[k].2)
          have B2 := Lib.hid ((Below.refl wr.heap.size wr).alloc (Nat.le_refl _) (.cells #[.int .i64 ps[k].1, .int .u64 ps[k].2] 37))
          have HN := Lib.hid (fun (z : ¬ (ps[k].1 = (k : Int) + 1 ∧ qin ps[k].2 = true)) => (show ¬ CrewOk T N K ps from fun h => z (h.2.2.2.2.2 k hlt)))
          have HY := Lib.hid (fun (z : ps[k].1 = (k : Int) + 1 ∧ qin ps[k].2 = true) => (show ∀ i (h : i < ps.length), i < k + 1 → ps[i].1 = (i : Int) + 1 ∧ qin ps[i].2 = true from fun i h g => by
            by_cases e : i = k
            · subst e; exact z
            · exact H0.out i h (by omega)))
          have HB2 := Lib.hid (HB.out.trans (B2.out.mono hz))
          clear hx
          generalize ps[k].1 = i1 at *
          generalize ps[k].2 = x1 at *
          by_cases hi : i1 = (k : Int) + 1
          · have hq : (i1 != (k : Int) + 1) = false := by simp [hi]
            by_cases hx : qin x1 = true
            · have HY2 := Lib.hid (HY.out ⟨hi, hx⟩)
              rw [hx] at PI
              clear HY HN hi hx
              go_wp2_with fail
              refine (PI.out _).mono ?_; rintro e w3 ⟨rfl, b⟩
              have B3 := Lib.hid (HB2.out.trans (b.mono (by have := HB2.out.size; simp; omega)))
              clear b
              go_wp2_with fail
              go_roundw
              case rel => exact ⟨k + 1, by omega, by go_num, HY2.out, B3.out⟩
              case measure => simp [intOf]; omega
            · have HN2 := Lib.hid (HN.out (fun h => hx h.2))
              rw [Bool.eq_false_iff.2 hx] at PI
              clear HY HN hi hx
              go_wp2_with fail
              refine (PI.out _).mono ?_; rintro e w3 ⟨rfl, b⟩
              have B3 := Lib.hid (HB2.out.trans (b.mono (by have := HB2.out.size; simp; omega)))
              clear b
              go_wp2_with fail
              go_ret
              exact ⟨⟨1, rfl, .inr ⟨rfl, HN2.out⟩⟩, B1.out.trans (B3.out.mono hz1)⟩
          · have hq : (i1 != (k : Int) + 1) = true := by simp [hi]
            have HN2 := Lib.hid (HN.out (fun h => hi h.1))
            clear HY HN hi
            go_wp2_with fail
            go_ret
            exact ⟨⟨1, rfl, .inr ⟨rfl, HN2.out⟩⟩, B1.out.trans (HB2.out.mono hz1)⟩
        · obtain rfl : k = ps.length := by omega
          have HY := Lib.hid (show CrewOk T N K ps from ⟨by omega, by omega, by omega, H4.out, H5.out, fun i h => H0.out i h h⟩)
          go_wp2_with fail
          go_ret
          exact ⟨⟨0, rfl, .inl ⟨rfl, HY.out⟩⟩, B1.out.trans (HB.out.mono hz1)⟩
    · have q5 : ((ps.length : Int) != N) = true := by simp [h5]
      have H5 := Lib.hid (show ¬ CrewOk T N K ps from fun h => h5 h.2.2.2.2.1)
      clear h5
      go_enter Tryz.func42, Tryz.ntmps42
      go_wp2_with fail
      refine (P.out _).mono ?_; rintro e w1 ⟨rfl, b⟩
      have K1 := (Blk.new w 66 #[.int .i64 T, .int .i64 N, .int .u64 K, .slice A ps.length c]).below b (by simp)
      have B1 := Lib.hid (below_on D0.out b)
      have c1 := K1.cell 1
      have c3 := K1.cell 3
      clear b K1
      go_wp2_with fail
      go_ret
      exact ⟨⟨1, rfl, .inr ⟨rfl, H5.out⟩⟩, B1.out⟩
  · have H4 := Lib.hid (show ¬ CrewOk T N K ps from fun h => h4 h.2.2.2.1)
    rw [Bool.eq_false_iff.2 h4] at P
    clear h4
    go_enter Tryz.func42, Tryz.ntmps42
    go_wp2_with fail
    refine (P.out _).mono ?_; rintro e w1 ⟨rfl, b⟩
    have B1 := Lib.hid (below_on D0.out b)
    clear b
    go_wp2_with fail
    go_ret
    exact ⟨⟨1, rfl, .inr ⟨rfl, H4.out⟩⟩, B1.out⟩

theorem crew_check {T N K : Int} {ps : List (Int × Int)} (h : CrewOk T N K ps) {e : Ending} (hc : CheckE T (ps.map Prod.fst) ps e) : (Fits T.toNat (ps.map Prod.fst) ps → e = .returned (.int .i64 0)) ∧ (¬ Fits T.toNat (ps.map Prod.fst) ps → e = .returned (.int .i64 60)) := by
  have hb : ¬ BadArg T (ps.map Prod.fst) := by
    unfold BadArg
    rintro (g | g | ⟨_, g⟩)
    · have := h.1; omega
    · have := h.2.1; have := h.2.2.1; omega
    · exact g (crew_right h)
  have hl : ¬ (ps.length : Int) < T := by have := h.2.1; have := h.2.2.2.2.1; omega
  exact ⟨hc.ok hb (crew_grp h) hl, hc.part hb (crew_grp h) hl⟩

theorem partsFit_any (T N K : Int) (A : Option Addr) (c : Nat) (ps : List (Int × Int)) (hlc : ps.length ≤ c) (hm : c ≤ maxLen) (hu : ∀ p ∈ ps, 0 ≤ p.2 ∧ p.2 < 18446744073709551616) (h : CrewOk T N K ps) (w : World) (hs : SS w w.heap.size A ps) :
    Calls Tryz.prog 43 #[crewV T N K A ps.length c] w fun e w' => ((Fits T.toNat (ps.map Prod.fst) ps → e = .returned (.int .i64 0)) ∧ (¬ Fits T.toNat (ps.map Prod.fst) ps → e = .returned (.int .i64 60))) ∧ Below w.heap.size w w' := by
  have hl : ps.length ≤ 7 := by have := h.2.2.1; have := h.2.2.2.2.1; omega
  have D0 := Lib.hid ((Below.refl w.heap.size w).alloc (Nat.le_refl _) (.cells #[.int .i64 T, .int .i64 N, .int .u64 K, .slice A ps.length c] 66))
  have P := Lib.hid (Check_any5 T A c ps _ rfl (by omega) hlc hm hu _ (hs.on D0.out))
  have H := Lib.hid h
  unfold crewV
  clear hu hs h hlc hm
  have hF : ∃ n : Int, (∀ e, CheckE T (ps.map Prod.fst) ps e → e = .returned (.int .i64 n)) ∧ (Fits T.toNat (ps.map Prod.fst) ps → n = 0) ∧ (¬ Fits T.toNat (ps.map Prod.fst) ps → n = 60) := by
    by_cases g : Fits T.toNat (ps.map Prod.fst) ps
    · exact ⟨0, fun e he => (crew_check H.out he).1 g, fun _ => rfl, fun g' => absurd g g'⟩
    · exact ⟨60, fun e he => (crew_check H.out he).2 g, fun g' => absurd g' g, fun _ => rfl⟩
  obtain ⟨n, h1, h2, h3⟩ := hF
  have H1 := Lib.hid (And.intro h1 (And.intro h2 h3))
  clear h1 h2 h3
  go_enter Tryz.func43, Tryz.ntmps43
  go_wp2_with fail
  refine P.out.mono ?_; rintro e w1 ⟨he, b⟩
  obtain rfl := H1.out.1 e he
  have B1 := Lib.hid (below_on D0.out b)
  clear b he
  go_wp2_with fail
  go_ret
  exact ⟨⟨fun g => by rw [H1.out.2.1 g]; rfl, fun g => by rw [H1.out.2.2 g]; rfl⟩, B1.out⟩
end Go.Proofs.YtlannmedefjfhaaGreat
