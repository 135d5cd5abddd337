/- The walk of the law QuorumHolds. -/
import Derived.Test.YtlannmedefjfhaaGreatQuorumX
namespace Go.Proofs.YtlannmedefjfhaaGreat
open Go.ChangeShapes Go.WideShapes Go.ChangeAt Go.RowKit Gs
set_option linter.unusedVariables false

/-- Of a signer just one part is right. -/
theorem holds_part {T N K : Int} {ps cs : List (Int × Int)} {ms : List Int} {i a : Int} (ha : Rb a) :
    (cpartF T N K ps ms cs (i, a) = 0 ∧ cpartF T N K ps ms cs (i, radd a 1) = 60) ∨ (cpartF T N K ps ms cs (i, a) ≠ 0 ∧ (cpartF T N K ps ms cs (i, a) = 60 ∨ cpartF T N K ps ms cs (i, a) = cpartF T N K ps ms cs (i, radd a 1))) := by
  unfold cpartF
  by_cases h : headF T N K ps cs = 0
  · rw [if_pos h, if_pos h]
    rcases partF_vals (chalF K ms cs) ps cs (i, a) with g | g | g
    · exact .inl ⟨g, other_part ha (radd_bound _ _) g (radd_ne ha (by decide))⟩
    · refine .inr ⟨by omega, .inr ?_⟩
      rw [g]
      refine (partF_out (fun g2 => ?_)).symm
      have h3 : ¬ (i ∈ cs.map Prod.fst ∧ a < 1152921504606845789) := fun g3 => by
        by_cases g4 : PartFits (chalF K ms cs) (cs.map Prod.fst) ps (cAt cs i) (i, a)
        · rw [partF_yes g3 g4] at g; omega
        · rw [partF_no g3 g4] at g; omega
      exact h3 ⟨g2.1, ha.2⟩
    · exact .inr ⟨by omega, .inl g⟩
  · rw [if_neg h, if_neg h]
    exact .inr ⟨h, .inr rfl⟩

set_option maxRecDepth 100000 in
set_option maxHeartbeats 4000000 in
theorem holds_walk6 (T N K : Int) [IsU K] (A : Option Addr) (n c : Nat) (ps : List (Int × Int)) (hpn : ps.length = n) (A1 : Option Addr) (c1 : Nat) (xs1 : List Int) (A2 : Option Addr) (n2 c2 : Nat) (l2 : List (Int × Int)) (hn2 : l2.length = n2) (a i : Int) [IsU a] (w : World) (hs0 : SS w w.heap.size A ps) (hl0 : n ≤ c) (hm0 : c ≤ maxLen) (hu0 : ∀ p ∈ ps, 0 ≤ p.2 ∧ p.2 < 18446744073709551616) (hs1 : SI w w.heap.size .u8 A1 xs1) (hl1 : xs1.length ≤ c1) (hm1 : c1 ≤ maxLen) (hx1 : ∀ n ∈ xs1, (Lit.int .u8 n).wf = true) (hs2 : SS w w.heap.size A2 l2) (hl2 : n2 ≤ c2) (hm2 : c2 ≤ maxLen) (hu2 : ∀ p ∈ l2, 0 ≤ p.2 ∧ p.2 < 18446744073709551616) :
    Calls Tryz.prog 10 #[.agg #[.int .i64 T, .int .i64 N, .int .u64 K, .slice A n c], .slice A1 xs1.length c1, .slice A2 n2 c2, .int .u64 a, .int .i64 i] w fun e w' => e = .returned (.bool true) ∧ Below w.heap.size w w' := by
  have D0 := Lib.hid ((Below.refl w.heap.size w).alloc (Nat.le_refl _) (.cells #[.int .i64 T, .int .i64 N, .int .u64 K, .slice A n c] 26))
  have KC := Lib.hid (Blk.new w 26 #[.int .i64 T, .int .i64 N, .int .u64 K, .slice A n c])
  have S0 := Lib.hid hs0
  have S1 := Lib.hid hs1
  have S2 := Lib.hid hs2
  have ha0 : 0 ≤ a := (inferInstance : IsU a).1
  by_cases hfew : n ≤ 20 ∧ n2 ≤ 20 ∧ xs1.length ≤ 200
  · have PF := Lib.hid (fun W => few6 T N K A n c A2 n2 c2 A1 xs1.length c1 W true (decide_eq_true hfew))
    unfold crewV at PF
    by_cases h3 : a < 1152921504606845789
    · have q3 : decide (1152921504606845789 ≤ a) = false := decide_eq_false (by omega)
      have hp : ShFix c ps := ⟨by omega, by omega, hm0, hu0⟩
      have hc : ShFix c2 l2 := ⟨by omega, by omega, hm2, hu2⟩
      have hm : ByFix c1 xs1 := ⟨by omega, hl1, hm1, fun n hn => u8_wf (hx1 n hn)⟩
      have hrb := radd_bound a 1
      have HI2 : IsU ((i, radd a 1) : Int × Int).2 := ⟨hrb.1, by show radd a 1 < _; omega⟩
      have HI1 : IsU ((i, a) : Int × Int).2 := (inferInstance : IsU a)
      have PC := Lib.hid (fun W a1 a2 a3 => CheckPart_any T N K A c ps hp A1 c1 xs1 hm A2 c2 l2 hc (i, a) W a1 a2 a3)
      have PD := Lib.hid (fun W a1 a2 a3 => CheckPart_any T N K A c ps hp A1 c1 xs1 hm A2 c2 l2 hc (i, radd a 1) W a1 a2 a3)
      have HH := Lib.hid (holds_part (T := T) (N := N) (K := K) (ps := ps) (cs := l2) (ms := xs1) (i := i) (a := a) ⟨ha0, h3⟩)
      have PA := Lib.hid (fun W => (AddR_r a 1 W).mono fun r w' h => (⟨h.1, h.2 ▸ Below.refl W.heap.size W⟩ : r = .returned (.int .u64 (radd a 1)) ∧ Below W.heap.size W w'))
      unfold crewV at PC PD
      rw [hpn, hn2] at PC PD
      simp only [] at PC PD
      clear hs0 hs1 hs2 hp hc hm hx1 hu0 hu2 hfew hpn hn2 HI1 HI2 hrb
      generalize cpartF T N K ps xs1 l2 (i, a) = e1 at *
      generalize cpartF T N K ps xs1 l2 (i, radd a 1) = e2 at *
      generalize radd a 1 = a' at *
      go_enter Tryz.func10, Tryz.ntmps10
      go_wp2_with fail
      refine (live6 _).mono ?_; rintro _ w1 ⟨rfl, b⟩
      have B1 := Lib.hid (below_on D0.out b)
      have kc1 := KC.out.below b KC.out.lt
      have KC1 := Lib.hid kc1
      have k0 := kc1.cell 0
      have k1 := kc1.cell 1
      have k2 := kc1.cell 2
      have k3 := kc1.cell 3
      clear b kc1 KC D0
      go_wp2_with fail
      refine (PF.out _).mono ?_; rintro _ w2 ⟨rfl, b⟩
      have B2 := Lib.hid (below_on B1.out b)
      have kc2 := KC1.out.below b KC1.out.lt
      have KC2 := Lib.hid kc2
      clear b k0 k1 k2 k3
      have k0 := kc2.cell 0
      have k1 := kc2.cell 1
      have k2 := kc2.cell 2
      have k3 := kc2.cell 3
      clear kc2 KC1 B1
      go_wp2_with fail
      refine (PC.out _ (S0.out.on B2.out) (S1.out.on B2.out) (S2.out.on B2.out)).mono ?_; rintro _ w3 ⟨rfl, b⟩
      have B3 := Lib.hid (below_on B2.out b)
      have kc3 := KC2.out.below b KC2.out.lt
      have hz3 := kc3.lt
      clear b k0 k1 k2 k3 KC2 B2
      have k0 := kc3.cell 0
      have k1 := kc3.cell 1
      have k2 := kc3.cell 2
      have k3 := kc3.cell 3
      clear kc3
      go_wp2_with fail
      have hW : Below w3.heap.size w3 w3.drew := (Below.refl w3.heap.size w3).drew
      go_cut [13] (fun s13 wx => s13 = .int .i64 e2 ∧ Below w3.heap.size w3 wx)
      case first =>
        go_region_held_law (fun w' => w'.cell? ⟨w.heap.size, 0, none⟩ = some (.int .i64 T) ∧ w'.cell? ⟨w.heap.size, 1, none⟩ = some (.int .i64 N) ∧ w'.cell? ⟨w.heap.size, 2, none⟩ = some (.int .u64 K) ∧ w'.cell? ⟨w.heap.size, 3, none⟩ = some (.slice A n c)) (first | exact ⟨by assumption, by assumption, by assumption, by assumption⟩ | go_keep)
          (first
            | (go_at_call 30; refine (PA.out _).mono ?_; rintro _ w4 ⟨rfl, bb⟩; have hW := below_on hW bb; have c0 := (hW.cell (p := ⟨w.heap.size, 0, none⟩) hz3).trans k0; have c1 := (hW.cell (p := ⟨w.heap.size, 1, none⟩) hz3).trans k1; have c2 := (hW.cell (p := ⟨w.heap.size, 2, none⟩) hz3).trans k2; have c3 := (hW.cell (p := ⟨w.heap.size, 3, none⟩) hz3).trans k3)
            | (go_at_call 24; refine (PD.out _ (S0.out.on (below_on B3.out hW)) (S1.out.on (below_on B3.out hW)) (S2.out.on (below_on B3.out hW))).mono ?_; rintro _ w5 ⟨rfl, bb⟩; have hW := below_on hW bb; have c0 := (hW.cell (p := ⟨w.heap.size, 0, none⟩) hz3).trans k0; have c1 := (hW.cell (p := ⟨w.heap.size, 1, none⟩) hz3).trans k1; have c2 := (hW.cell (p := ⟨w.heap.size, 2, none⟩) hz3).trans k2; have c3 := (hW.cell (p := ⟨w.heap.size, 3, none⟩) hz3).trans k3))
        all_goals
          clear c0 c1 c2 c3 k0 k1 k2 k3
          go_wp2_with fail
          go_meet
          exact ⟨rfl, hW⟩
      case rest =>
        obtain ⟨rfl, hX⟩ := hcut
        have BX := Lib.hid (below_on B3.out hX)
        clear hX hW k0 k1 k2 k3
        rcases HH.out with ⟨rfl, rfl⟩ | ⟨h1, h2⟩
        · go_wp2_with fail
          go_ret
          exact ⟨rfl, BX.out⟩
        · have z1 : (e1 == 0) = false := by simpa using h1
          by_cases h5 : e1 = 60
          · subst h5
            go_wp2_with fail
            go_ret
            exact ⟨rfl, BX.out⟩
          · have z2 : (e1 == 60) = false := by simpa using h5
            have z3 : e1 = e2 := by rcases h2 with h2 | h2; exact absurd h2 h5; exact h2
            subst z3
            have z4 : (e1 == e1) = true := by simp
            clear h1 h2 h5
            go_wp2_with fail
            go_ret
            exact ⟨by rfl, BX.out⟩
    · have q3 : decide (1152921504606845789 ≤ a) = true := decide_eq_true (by omega)
      clear hs0 hs1 hs2 hx1 hu0 hu2 hfew h3
      go_enter Tryz.func10, Tryz.ntmps10
      go_wp2_with fail
      refine (live6 _).mono ?_; rintro _ w1 ⟨rfl, b⟩
      have B1 := Lib.hid (below_on D0.out b)
      have kc1 := KC.out.below b KC.out.lt
      have KC1 := Lib.hid kc1
      have k0 := kc1.cell 0
      have k1 := kc1.cell 1
      have k2 := kc1.cell 2
      have k3 := kc1.cell 3
      clear b kc1 KC D0
      go_wp2_with fail
      refine (PF.out _).mono ?_; rintro _ w2 ⟨rfl, b⟩
      have B2 := Lib.hid (below_on B1.out b)
      have kc2 := KC1.out.below b KC1.out.lt
      have KC2 := Lib.hid kc2
      clear b k0 k1 k2 k3
      have k0 := kc2.cell 0
      have k1 := kc2.cell 1
      have k2 := kc2.cell 2
      have k3 := kc2.cell 3
      clear kc2 KC1 B1
      go_wp2_with fail
      go_ret
      exact ⟨rfl, B2.out⟩
  · have PF := Lib.hid (fun W => few6 T N K A n c A2 n2 c2 A1 xs1.length c1 W false (decide_eq_false hfew))
    unfold crewV at PF
    clear hs0 hs1 hs2 hx1 hu0 hu2 hfew
    go_enter Tryz.func10, Tryz.ntmps10
    go_wp2_with fail
    refine (live6 _).mono ?_; rintro _ w1 ⟨rfl, b⟩
    have B1 := Lib.hid (below_on D0.out b)
    have kc1 := KC.out.below b KC.out.lt
    have KC1 := Lib.hid kc1
    have k0 := kc1.cell 0
    have k1 := kc1.cell 1
    have k2 := kc1.cell 2
    have k3 := kc1.cell 3
    clear b kc1 KC D0
    go_wp2_with fail
    refine (PF.out _).mono ?_; rintro _ w2 ⟨rfl, b⟩
    have B2 := Lib.hid (below_on B1.out b)
    have kc2 := KC1.out.below b KC1.out.lt
    have KC2 := Lib.hid kc2
    clear b k0 k1 k2 k3
    have k0 := kc2.cell 0
    have k1 := kc2.cell 1
    have k2 := kc2.cell 2
    have k3 := kc2.cell 3
    clear kc2 KC1 B1
    go_wp2_with fail
    go_ret
    exact ⟨rfl, B2.out⟩
end Go.Proofs.YtlannmedefjfhaaGreat
