/- The contract of the law's own 'undone'. -/
import Derived.Test.YtjcanehlnggffaaHashLive
import Derived.Test.YtjcanehlnggffaaHashTurn
import Derived.BigQuiet
namespace Go.Proofs.Ytjcanehlnggffaa
open Go.ChangeShapes Go.WideShapes Go.ChangeAt Go.RowKit Gs
set_option linter.unusedVariables false

theorem kc_wrap (r i : Nat) (m : Int) (hm : m = ((3 * r + i + 1 : Nat) : Int)) (hr : r < 8) (hi : i < 3) : IntKind.u64.wrap (IntKind.u64.wrap (IntKind.u64.wrap (m * m) * m) + 7) = kc r i := by
  have hk := kc_bound r i hr hi
  have e0 : kc r i = m * m * m + 7 := by rw [hm]; unfold kc; push_cast; rfl
  have h0 : m ≤ 24 := by omega
  have h1 : m * m ≤ 24 * 24 := Int.mul_le_mul h0 h0 (by omega) (by omega)
  have h2 : 0 ≤ m * m := Int.mul_nonneg (by omega) (by omega)
  have h3 : 0 ≤ m * m * m := Int.mul_nonneg h2 (by omega)
  rw [e0] at hk ⊢
  rw [IntWalk.u64_in (m * m) (by omega), IntWalk.u64_in (m * m * m) (by omega), IntWalk.u64_in _ (by omega)]

theorem toNat_root : (1763291712928118903 : Int).toNat = rootN := by decide +kernel
theorem Pow_root (a : Int) [IsU a] (w : World) : Calls Try.prog 50 #[.int .u64 a, .int .u64 1763291712928118903] w fun e w' => e = .returned (.int .u64 (fpow a rootN)) ∧ w = w' := by
  have h := Pow_any a 1763291712928118903 IsU.lo IsU.hi (by omega) (by omega) w
  rw [toNat_root] at h
  exact h
instance (a b c : Int) : IsU (uall a b c) := IsU.of (fmul_el _ _).u64

set_option maxHeartbeats 2000000 in
theorem undone_any (r : Nat) (hr : r < 8) (a b c : Int) [IsU a] [IsU b] [IsU c] (w : World) :
    Calls Try.prog 29 #[.agg #[.int .u64 a, .int .u64 b, .int .u64 c], .int .i64 r] w fun e w' =>
      e = .returned (.agg #[.int .u64 (und r (a, b, c)).1, .int .u64 (und r (a, b, c)).2.1, .int .u64 (und r (a, b, c)).2.2]) ∧ Below w.heap.size w w' := by
  have hk0 : IntKind.u64.wrap (IntKind.u64.wrap (IntKind.u64.wrap ((3 * (r : Int) + 1) * (3 * (r : Int) + 1)) * (3 * (r : Int) + 1)) + 7) = kc r 0 := kc_wrap r 0 (3 * (r : Int) + 1) (by push_cast; omega) hr (by omega)
  have u0 := kc_bound r 0 hr (by omega)
  haveI : IsU (kc r 0) := ⟨u0.1, by omega⟩
  have hk1 : IntKind.u64.wrap (IntKind.u64.wrap (IntKind.u64.wrap ((3 * (r : Int) + 1 + 1) * (3 * (r : Int) + 1 + 1)) * (3 * (r : Int) + 1 + 1)) + 7) = kc r 1 := kc_wrap r 1 (3 * (r : Int) + 1 + 1) (by push_cast; omega) hr (by omega)
  have u1 := kc_bound r 1 hr (by omega)
  haveI : IsU (kc r 1) := ⟨u1.1, by omega⟩
  have hk2 : IntKind.u64.wrap (IntKind.u64.wrap (IntKind.u64.wrap ((3 * (r : Int) + 2 + 1) * (3 * (r : Int) + 2 + 1)) * (3 * (r : Int) + 2 + 1)) + 7) = kc r 2 := kc_wrap r 2 (3 * (r : Int) + 2 + 1) (by push_cast; omega) hr (by omega)
  have u2 := kc_bound r 2 hr (by omega)
  haveI : IsU (kc r 2) := ⟨u2.1, by omega⟩
  clear u0 u1 u2
  have HQ := Lib.hid (show fmul (finv 4) (fadd (fadd a b) c) = uall a b c from rfl)
  go_enter Try.func29, Try.ntmps29
  go_wp2_with fail
  refine (Inv_ok 4 (by omega) (by omega) four_ne _).mono ?_; rintro e w' ⟨rfl, rfl⟩
  go_wp2_with fail
  refine wp_named (fun w2 => Blk w2 w.heap.size 23 #[.int .u64 a, .int .u64 b, .int .u64 c] ∧ Blk w2 (w.heap.size + 1) 23 #[.int .u64 0, .int .u64 0, .int .u64 0] ∧ Below w.heap.size w w2) ⟨(Blk.new_at _ _ _ rfl).alloc _, Blk.new_at _ _ _ (by simp), ((Below.refl _ _).alloc (Nat.le_refl _) _).alloc (by simp) _⟩ ?_
  rintro w2 ⟨q0, q1, qB⟩
  obtain ⟨⟨c0, c1, c2⟩, _, _, _⟩ := q0.facts3
  have Q0 := Lib.hid q0
  have Q1 := Lib.hid q1
  have QB := Lib.hid qB
  have lt2 := q1.lt
  clear q0 q1 qB
  go_quiet ((first | (go_at_call 31; exact quiet_eq (Add_i _ _ _)) | (go_at_call 48; exact quiet_eq (Mul_i _ _ _))))
  rw [HQ.out]
  go_wp2_with fail
  refine wp_named (fun w3 => Blk w3 w2.heap.size 23 #[.int .u64 0, .int .u64 0, .int .u64 0] ∧ Blk w3 w.heap.size 23 #[.int .u64 a, .int .u64 b, .int .u64 c] ∧ Blk w3 (w.heap.size + 1) 23 #[.int .u64 0, .int .u64 0, .int .u64 0] ∧ Below w.heap.size w w3) ?_ ?_
  · exact ⟨Blk.new_at _ _ _ (by simp), ((Q0.out.drewN _).alloc _), ((Q1.out.drewN _).alloc _), (below_drewN QB.out _).alloc (by simp; exact QB.out.size) _⟩
  rintro w3 ⟨p2, p0, p1, pB⟩
  clear c0 c1 c2
  obtain ⟨⟨c0, c1, c2⟩, _, _, _⟩ := p0.facts3
  obtain ⟨⟨d0, d1, d2⟩, e0, e1, e2⟩ := p2.facts3
  obtain ⟨⟨f0, f1, f2⟩, g0, g1, g2⟩ := p1.facts3
  have PB := Lib.hid pB
  clear p0 p1 p2 pB
  refine wp_loop_rounds 4 ?_
  rw [rounds_succ]
  go_wp2_with fail
  refine (Sub_i a (uall a b c) _).mono ?_; rintro e w' ⟨rfl, rfl⟩
  go_wp2_with fail
  refine (Pow_root (fsub a (uall a b c)) _).mono ?_; rintro e w' ⟨rfl, rfl⟩
  go_wp2_with fail
  refine (Sub_i (fpow (fsub a (uall a b c)) rootN) (kc r 0) _).mono ?_; rintro e w' ⟨rfl, rfl⟩
  go_wp2_with fail
  rw [rounds_succ]
  go_wp2_with fail
  refine (Sub_i b (uall a b c) _).mono ?_; rintro e w' ⟨rfl, rfl⟩
  go_wp2_with fail
  refine (Pow_root (fsub b (uall a b c)) _).mono ?_; rintro e w' ⟨rfl, rfl⟩
  go_wp2_with fail
  refine (Sub_i (fpow (fsub b (uall a b c)) rootN) (kc r 1) _).mono ?_; rintro e w' ⟨rfl, rfl⟩
  go_wp2_with fail
  rw [rounds_succ]
  go_wp2_with fail
  refine (Sub_i c (uall a b c) _).mono ?_; rintro e w' ⟨rfl, rfl⟩
  go_wp2_with fail
  refine (Pow_root (fsub c (uall a b c)) _).mono ?_; rintro e w' ⟨rfl, rfl⟩
  go_wp2_with fail
  refine (Sub_i (fpow (fsub c (uall a b c)) rootN) (kc r 2) _).mono ?_; rintro e w' ⟨rfl, rfl⟩
  go_wp2_with fail
  rw [rounds_succ]
  go_wp2_with fail
  refine bodyPost_ret (v := .agg #[.int .u64 (fsub (fpow (fsub a (uall a b c)) rootN) (kc r 0)), .int .u64 (fsub (fpow (fsub b (uall a b c)) rootN) (kc r 1)), .int .u64 (fsub (fpow (fsub c (uall a b c)) rootN) (kc r 2))]) (by simp [results, Try.results29, go_sem, f0, f1, f2]) rfl ⟨rfl, ?_⟩
  have hw2 : w.heap.size ≤ w2.heap.size := by omega
  exact Below.setCell (Below.setCell (Below.setCell (Below.setCell (Below.setCell (Below.setCell PB.out hw2 _) hw2 _) hw2 _) (by simp) _) (by simp) _) (by simp) _
end Go.Proofs.Ytjcanehlnggffaa
