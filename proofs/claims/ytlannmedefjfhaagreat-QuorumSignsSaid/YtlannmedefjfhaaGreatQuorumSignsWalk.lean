/- The walk of the law QuorumSigns. -/
import Derived.Test.YtlannmedefjfhaaGreatQuorumX
namespace Go.Proofs.YtlannmedefjfhaaGreat
open Go.ChangeShapes Go.WideShapes Go.ChangeAt Go.RowKit Gs
set_option linter.unusedVariables false

set_option maxRecDepth 100000 in
set_option maxHeartbeats 4000000 in
theorem signs_walk6 (T N K : Int) [IsU K] (A : Option Addr) (n c : Nat) (ps : List (Int × Int)) (hpn : ps.length = n) (A1 : Option Addr) (c1 : Nat) (xs1 : List Int) (A2 : Option Addr) (n2 c2 : Nat) (l2 : List (Int × Int)) (hn2 : l2.length = n2) (A3 : Option Addr) (n3 c3 : Nat) (l3 : List (Int × Int)) (hn3 : l3.length = n3) (w : World) (hs0 : SS w w.heap.size A ps) (hl0 : n ≤ c) (hm0 : c ≤ maxLen) (hu0 : ∀ p ∈ ps, 0 ≤ p.2 ∧ p.2 < 18446744073709551616) (hs1 : SI w w.heap.size .u8 A1 xs1) (hl1 : xs1.length ≤ c1) (hm1 : c1 ≤ maxLen) (hx1 : ∀ n ∈ xs1, (Lit.int .u8 n).wf = true) (hs2 : SS w w.heap.size A2 l2) (hl2 : n2 ≤ c2) (hm2 : c2 ≤ maxLen) (hu2 : ∀ p ∈ l2, 0 ≤ p.2 ∧ p.2 < 18446744073709551616) (hs3 : SS w w.heap.size A3 l3) (hl3 : n3 ≤ c3) (hm3 : c3 ≤ maxLen) (hu3 : ∀ p ∈ l3, 0 ≤ p.2 ∧ p.2 < 18446744073709551616) :
    Calls Tryz.prog 7 #[.agg #[.int .i64 T, .int .i64 N, .int .u64 K, .slice A n c], .slice A1 xs1.length c1, .slice A2 n2 c2, .slice A3 n3 c3] w fun e w' => e = .returned (.bool true) ∧ Below w.heap.size w w' := by
  have D0 := Lib.hid ((Below.refl w.heap.size w).alloc (Nat.le_refl _) (.cells #[.int .i64 T, .int .i64 N, .int .u64 K, .slice A n c] 26))
  have KC := Lib.hid (Blk.new w 26 #[.int .i64 T, .int .i64 N, .int .u64 K, .slice A n c])
  have S0 := Lib.hid hs0
  have S1 := Lib.hid hs1
  have S2 := Lib.hid hs2
  have S3 := Lib.hid hs3
  by_cases hfew : n ≤ 20 ∧ n2 ≤ 20 ∧ xs1.length ≤ 200
  · have PF := Lib.hid (fun W => few6 T N K A n c A2 n2 c2 A1 xs1.length c1 W true (decide_eq_true hfew))
    unfold crewV at PF
    by_cases h3 : n3 ≤ 20
    · have q3 : decide (20 < (n3 : Int)) = false := decide_eq_false (by omega)
      have hp : ShFix c ps := ⟨by omega, by omega, hm0, hu0⟩
      have hc : ShFix c2 l2 := ⟨by omega, by omega, hm2, hu2⟩
      have hl : ShFix c3 l3 := ⟨by omega, by omega, hm3, hu3⟩
      have hm : ByFix c1 xs1 := ⟨by omega, hl1, hm1, fun n hn => u8_wf (hx1 n hn)⟩
      have PC := Lib.hid (fun W a1 a2 a3 a4 => Combine_any T N K A c ps hp A1 c1 xs1 hm A2 c2 l2 hc A3 c3 l3 hl W a1 a2 a3 a4)
      have HS1 := Lib.hid (fun (h : combF T N K ps xs1 l2 l3 ≠ 0) => (show combS T N K ps xs1 l2 l3 = (0, 0) from if_neg h))
      have HS2 := Lib.hid (fun (h : combF T N K ps xs1 l2 l3 = 0) => (show combS T N K ps xs1 l2 l3 = (chalF K xs1 l2, rsum (l3.map Prod.snd)) from if_pos h))
      have HK := Lib.hid (fun (h : combF T N K ps xs1 l2 l3 = 0) => comb_chk (fun p hp => (hu3 p hp).1) h)
      have PK := Lib.hid (fun W a1 => Check_any K (chalF K xs1 l2) (rsum (l3.map Prod.snd)) A1 c1 xs1 hm.u hm.len hm.cap hm.max W a1)
      unfold crewV at PC
      rw [hpn, hn2, hn3] at PC
      clear hs0 hs1 hs2 hs3 hp hc hl hm hx1 hu0 hu2 hu3 hfew hpn hn2 hn3
      generalize combF T N K ps xs1 l2 l3 = cf at *
      generalize combS T N K ps xs1 l2 l3 = cs at *
      by_cases hcf : cf = 0
      · subst hcf
        rw [HS2.out rfl] at PC
        rw [HK.out rfl] at PK
        clear HS1 HS2 HK
        generalize chalF K xs1 l2 = ch at *
        generalize rsum (l3.map Prod.snd) = rs at *
        go_enter Tryz.func7, Tryz.ntmps7
        go_wp2_with fail
        refine (live6 _).mono ?_; rintro _ w1 ⟨rfl, b⟩
        have B1 := Lib.hid (below_on D0.out b)
        have kc1 := KC.out.below b KC.out.lt
        have KC1 := Lib.hid kc1
        have k0 := kc1.cell 0
        have k1 := kc1.cell 1
        have k2 := kc1.cell 2
        have k3 := kc1.cell 3
        clear b kc1 KC D0
        go_wp2_with fail
        refine (PF.out _).mono ?_; rintro _ w2 ⟨rfl, b⟩
        have B2 := Lib.hid (below_on B1.out b)
        have kc2 := KC1.out.below b KC1.out.lt
        have KC2 := Lib.hid kc2
        clear b k0 k1 k2 k3
        have k0 := kc2.cell 0
        have k1 := kc2.cell 1
        have k2 := kc2.cell 2
        have k3 := kc2.cell 3
        clear kc2 KC1 B1
        go_wp2_with fail
        refine (PC.out _ (S0.out.on B2.out) (S1.out.on B2.out) (S2.out.on B2.out) (S3.out.on B2.out)).mono ?_; rintro _ w3 ⟨rfl, b⟩
        have B3 := Lib.hid (below_on B2.out b)
        have kc3 := (KC2.out.below b KC2.out.lt).alloc (.cells #[.int .u64 ch, .int .u64 rs] 45)
        have hlt := (KC2.out.below b KC2.out.lt).lt
        clear b k0 k1 k2 k3
        have k2 := kc3.cell 2
        have s0 := (Blk.new w3 45 #[.int .u64 ch, .int .u64 rs]).cell 0
        have s1 := (Blk.new w3 45 #[.int .u64 ch, .int .u64 rs]).cell 1
        clear kc3
        go_wp2_with fail
        refine (PK.out _ (S1.out.on (B3.out.alloc B3.out.size _))).mono ?_; rintro _ w4 ⟨rfl, b⟩
        have B4 := Lib.hid (below_on (B3.out.alloc B3.out.size _) b)
        clear b
        go_wp2_with fail
        go_ret
        exact ⟨rfl, B4.out⟩
      · have hq : (cf != 0) = true := by simpa using hcf
        rw [HS1.out hcf] at PC
        clear HS1 HS2 HK hcf
        go_enter Tryz.func7, Tryz.ntmps7
        go_wp2_with fail
        refine (live6 _).mono ?_; rintro _ w1 ⟨rfl, b⟩
        have B1 := Lib.hid (below_on D0.out b)
        have kc1 := KC.out.below b KC.out.lt
        have KC1 := Lib.hid kc1
        have k0 := kc1.cell 0
        have k1 := kc1.cell 1
        have k2 := kc1.cell 2
        have k3 := kc1.cell 3
        clear b kc1 KC D0
        go_wp2_with fail
        refine (PF.out _).mono ?_; rintro _ w2 ⟨rfl, b⟩
        have B2 := Lib.hid (below_on B1.out b)
        have kc2 := KC1.out.below b KC1.out.lt
        have KC2 := Lib.hid kc2
        clear b k0 k1 k2 k3
        have k0 := kc2.cell 0
        have k1 := kc2.cell 1
        have k2 := kc2.cell 2
        have k3 := kc2.cell 3
        clear kc2 KC1 B1
        go_wp2_with fail
        refine (PC.out _ (S0.out.on B2.out) (S1.out.on B2.out) (S2.out.on B2.out) (S3.out.on B2.out)).mono ?_; rintro _ w3 ⟨rfl, b⟩
        have B3 := Lib.hid (below_on B2.out b)
        clear b k0 k1 k2 k3
        have s0 := (Blk.new w3 45 #[.int .u64 0, .int .u64 0]).cell 0
        have s1 := (Blk.new w3 45 #[.int .u64 0, .int .u64 0]).cell 1
        go_wp2_with fail
        go_ret
        exact ⟨rfl, B3.out.alloc B3.out.size _⟩
    · have q3 : decide (20 < (n3 : Int)) = true := decide_eq_true (by omega)
      clear hs0 hs1 hs2 hs3 hx1 hu0 hu2 hu3 hfew h3
      go_enter Tryz.func7, Tryz.ntmps7
      go_wp2_with fail
      refine (live6 _).mono ?_; rintro _ w1 ⟨rfl, b⟩
      have B1 := Lib.hid (below_on D0.out b)
      have kc1 := KC.out.below b KC.out.lt
      have KC1 := Lib.hid kc1
      have k0 := kc1.cell 0
      have k1 := kc1.cell 1
      have k2 := kc1.cell 2
      have k3 := kc1.cell 3
      clear b kc1 KC D0
      go_wp2_with fail
      refine (PF.out _).mono ?_; rintro _ w2 ⟨rfl, b⟩
      have B2 := Lib.hid (below_on B1.out b)
      have kc2 := KC1.out.below b KC1.out.lt
      have KC2 := Lib.hid kc2
      clear b k0 k1 k2 k3
      have k0 := kc2.cell 0
      have k1 := kc2.cell 1
      have k2 := kc2.cell 2
      have k3 := kc2.cell 3
      clear kc2 KC1 B1
      go_wp2_with fail
      go_ret
      exact ⟨rfl, B2.out⟩
  · have PF := Lib.hid (fun W => few6 T N K A n c A2 n2 c2 A1 xs1.length c1 W false (decide_eq_false hfew))
    unfold crewV at PF
    clear hs0 hs1 hs2 hs3 hx1 hu0 hu2 hu3 hfew
    go_enter Tryz.func7, Tryz.ntmps7
    go_wp2_with fail
    refine (live6 _).mono ?_; rintro _ w1 ⟨rfl, b⟩
    have B1 := Lib.hid (below_on D0.out b)
    have kc1 := KC.out.below b KC.out.lt
    have KC1 := Lib.hid kc1
    have k0 := kc1.cell 0
    have k1 := kc1.cell 1
    have k2 := kc1.cell 2
    have k3 := kc1.cell 3
    clear b kc1 KC D0
    go_wp2_with fail
    refine (PF.out _).mono ?_; rintro _ w2 ⟨rfl, b⟩
    have B2 := Lib.hid (below_on B1.out b)
    have kc2 := KC1.out.below b KC1.out.lt
    have KC2 := Lib.hid kc2
    clear b k0 k1 k2 k3
    have k0 := kc2.cell 0
    have k1 := kc2.cell 1
    have k2 := kc2.cell 2
    have k3 := kc2.cell 3
    clear kc2 KC1 B1
    go_wp2_with fail
    go_ret
    exact ⟨rfl, B2.out⟩
end Go.Proofs.YtlannmedefjfhaaGreat
