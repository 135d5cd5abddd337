/- The walk of the law QuorumCombines. -/
import Derived.Test.YtlannmedefjfhaaGreatQuorumR9
import Derived.Test.YtlannmedefjfhaaGreatQuorumX
namespace Go.Proofs.YtlannmedefjfhaaGreat
open Go.ChangeShapes Go.WideShapes Go.ChangeAt Go.RowKit Gs
set_option linter.unusedVariables false

set_option maxRecDepth 100000 in
set_option maxHeartbeats 4000000 in
theorem combines_walk6 (T N K : Int) [IsU K] (A : Option Addr) (n c : Nat) (ps : List (Int × Int)) (hpn : ps.length = n) (A1 : Option Addr) (c1 : Nat) (xs1 : List Int) (A2 : Option Addr) (n2 c2 : Nat) (l2 : List (Int × Int)) (hn2 : l2.length = n2) (A3 : Option Addr) (n3 c3 : Nat) (l3 : List (Int × Int)) (hn3 : l3.length = n3) (w : World) (hs0 : SS w w.heap.size A ps) (hl0 : n ≤ c) (hm0 : c ≤ maxLen) (hu0 : ∀ p ∈ ps, 0 ≤ p.2 ∧ p.2 < 18446744073709551616) (hs1 : SI w w.heap.size .u8 A1 xs1) (hl1 : xs1.length ≤ c1) (hm1 : c1 ≤ maxLen) (hx1 : ∀ n ∈ xs1, (Lit.int .u8 n).wf = true) (hs2 : SS w w.heap.size A2 l2) (hl2 : n2 ≤ c2) (hm2 : c2 ≤ maxLen) (hu2 : ∀ p ∈ l2, 0 ≤ p.2 ∧ p.2 < 18446744073709551616) (hs3 : SS w w.heap.size A3 l3) (hl3 : n3 ≤ c3) (hm3 : c3 ≤ maxLen) (hu3 : ∀ p ∈ l3, 0 ≤ p.2 ∧ p.2 < 18446744073709551616) :
    Calls Tryz.prog 6 #[.agg #[.int .i64 T, .int .i64 N, .int .u64 K, .slice A n c], .slice A1 xs1.length c1, .slice A2 n2 c2, .slice A3 n3 c3] w fun e w' => e = .returned (.bool true) ∧ Below w.heap.size w w' := by
  have D0 := Lib.hid ((Below.refl w.heap.size w).alloc (Nat.le_refl _) (.cells #[.int .i64 T, .int .i64 N, .int .u64 K, .slice A n c] 26))
  have KC := Lib.hid (Blk.new w 26 #[.int .i64 T, .int .i64 N, .int .u64 K, .slice A n c])
  have S0 := Lib.hid hs0
  have S1 := Lib.hid hs1
  have S2 := Lib.hid hs2
  have S3 := Lib.hid hs3
  by_cases hfew : n ≤ 20 ∧ n2 ≤ 20 ∧ xs1.length ≤ 200
  · have PF := Lib.hid (fun W => few6 T N K A n c A2 n2 c2 A1 xs1.length c1 W true (decide_eq_true hfew))
    unfold crewV at PF
    by_cases h3 : n3 ≤ 20
    · have q3 : decide (20 < (n3 : Int)) = false := decide_eq_false (by omega)
      have hp : ShFix c ps := ⟨by omega, by omega, hm0, hu0⟩
      have hc : ShFix c2 l2 := ⟨by omega, by omega, hm2, hu2⟩
      have hl : ShFix c3 l3 := ⟨by omega, by omega, hm3, hu3⟩
      have hm : ByFix c1 xs1 := ⟨by omega, hl1, hm1, fun n hn => u8_wf (hx1 n hn)⟩
      have PC := Lib.hid (fun W a1 a2 a3 a4 => Combine_any T N K A c ps hp A1 c1 xs1 hm A2 c2 l2 hc A3 c3 l3 hl W a1 a2 a3 a4)
      have PD := Lib.hid (fun W a1 a2 a3 a4 => Combine6_any T N K A c ps hp A1 c1 xs1 hm A2 c2 l2 hc A3 c3 l3 hl W a1 a2 a3 a4)
      unfold crewV at PC PD
      rw [hpn, hn2, hn3] at PC PD
      clear hs0 hs1 hs2 hs3 hp hc hl hm hx1 hu0 hu2 hu3 hfew hpn hn2 hn3
      generalize combS T N K ps xs1 l2 l3 = y at *
      generalize combF T N K ps xs1 l2 l3 = e at *
      have b1 : (y.1 == y.1) = true := by simp
      have b2 : (y.2 == y.2) = true := by simp
      have b3 : (e == e) = true := by simp
      go_enter Tryz.func6, Tryz.ntmps6
      go_wp2_with fail
      refine (live6 _).mono ?_; rintro _ w1 ⟨rfl, b⟩
      have B1 := Lib.hid (below_on D0.out b)
      have KC1 := Lib.hid (KC.out.below b KC.out.lt)
      have k0 := KC1.out.cell 0
      have k1 := KC1.out.cell 1
      have k2 := KC1.out.cell 2
      have k3 := KC1.out.cell 3
      clear b
      go_wp2_with fail
      refine (PF.out _).mono ?_; rintro _ w2 ⟨rfl, b⟩
      have B2 := Lib.hid (below_on B1.out b)
      have KC2 := Lib.hid (KC1.out.below b KC1.out.lt)
      clear b k0 k1 k2 k3
      have k0 := KC2.out.cell 0
      have k1 := KC2.out.cell 1
      have k2 := KC2.out.cell 2
      have k3 := KC2.out.cell 3
      go_wp2_with fail
      refine (PC.out _ (S0.out.on B2.out) (S1.out.on B2.out) (S2.out.on B2.out) (S3.out.on B2.out)).mono ?_; rintro _ w3 ⟨rfl, b⟩
      have KY := Lib.hid (Blk.new w3 45 #[.int .u64 y.1, .int .u64 y.2])
      have b := b.alloc b.size (.cells #[.int .u64 y.1, .int .u64 y.2] 45)
      have B3 := Lib.hid (below_on B2.out b)
      have KC3 := Lib.hid (KC2.out.below b KC2.out.lt)
      clear b k0 k1 k2 k3
      have k0 := KC3.out.cell 0
      have k1 := KC3.out.cell 1
      have k2 := KC3.out.cell 2
      have k3 := KC3.out.cell 3
      go_wp2_with fail
      refine (PD.out _ (S0.out.on B3.out) (S1.out.on B3.out) (S2.out.on B3.out) (S3.out.on B3.out)).mono ?_; rintro _ w4 ⟨rfl, b⟩
      have KZ := Lib.hid (Blk.new w4 45 #[.int .u64 y.1, .int .u64 y.2])
      have b := b.alloc b.size (.cells #[.int .u64 y.1, .int .u64 y.2] 45)
      have B4 := Lib.hid (below_on B3.out b)
      have KY4 := Lib.hid (KY.out.below b KY.out.lt)
      clear b k0 k1 k2 k3
      have s0 := KY4.out.cell 0
      have s1 := KY4.out.cell 1
      have t0 := KZ.out.cell 0
      have t1 := KZ.out.cell 1
      go_wp2_with fail
      go_ret
      exact ⟨by first | rfl | simp, B4.out⟩
    · have q3 : decide (20 < (n3 : Int)) = true := decide_eq_true (by omega)
      clear hs0 hs1 hs2 hs3 hx1 hu0 hu2 hu3 hfew h3
      go_enter Tryz.func6, Tryz.ntmps6
      go_wp2_with fail
      refine (live6 _).mono ?_; rintro _ w1 ⟨rfl, b⟩
      have B1 := Lib.hid (below_on D0.out b)
      have kc1 := KC.out.below b KC.out.lt
      have KC1 := Lib.hid kc1
      have k0 := kc1.cell 0
      have k1 := kc1.cell 1
      have k2 := kc1.cell 2
      have k3 := kc1.cell 3
      clear b kc1 KC D0
      go_wp2_with fail
      refine (PF.out _).mono ?_; rintro _ w2 ⟨rfl, b⟩
      have B2 := Lib.hid (below_on B1.out b)
      have kc2 := KC1.out.below b KC1.out.lt
      have KC2 := Lib.hid kc2
      clear b k0 k1 k2 k3
      have k0 := kc2.cell 0
      have k1 := kc2.cell 1
      have k2 := kc2.cell 2
      have k3 := kc2.cell 3
      clear kc2 KC1 B1
      go_wp2_with fail
      go_ret
      exact ⟨rfl, B2.out⟩
  · have PF := Lib.hid (fun W => few6 T N K A n c A2 n2 c2 A1 xs1.length c1 W false (decide_eq_false hfew))
    unfold crewV at PF
    clear hs0 hs1 hs2 hs3 hx1 hu0 hu2 hu3 hfew
    go_enter Tryz.func6, Tryz.ntmps6
    go_wp2_with fail
    refine (live6 _).mono ?_; rintro _ w1 ⟨rfl, b⟩
    have B1 := Lib.hid (below_on D0.out b)
    have kc1 := KC.out.below b KC.out.lt
    have KC1 := Lib.hid kc1
    have k0 := kc1.cell 0
    have k1 := kc1.cell 1
    have k2 := kc1.cell 2
    have k3 := kc1.cell 3
    clear b kc1 KC D0
    go_wp2_with fail
    refine (PF.out _).mono ?_; rintro _ w2 ⟨rfl, b⟩
    have B2 := Lib.hid (below_on B1.out b)
    have kc2 := KC1.out.below b KC1.out.lt
    have KC2 := Lib.hid kc2
    clear b k0 k1 k2 k3
    have k0 := kc2.cell 0
    have k1 := kc2.cell 1
    have k2 := kc2.cell 2
    have k3 := kc2.cell 3
    clear kc2 KC1 B1
    go_wp2_with fail
    go_ret
    exact ⟨rfl, B2.out⟩
end Go.Proofs.YtlannmedefjfhaaGreat
