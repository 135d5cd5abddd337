/- Contracts of the functions of package field on numbers and on slices of numbers, and of the plain answers beside them. -/
import Derived.Test.YtippfhlljlfcnaaRows
import Derived.Test.YtippfhlljlfcnaaFieldMath
import Derived.WalkKit
import Derived.ProofKit
import Derived.OpenShut
import Derived.IntWalk
import Derived.Laws.BitsAllLaws
import Derived.Laws.MathBits
import Derived.Lib.Hide
import Derived.BigQuiet
import Derived.Deep.QuietTactic
import Derived.Deep.Draws
import Derived.Below
namespace Go.Proofs.Ytippfhlljlfcnaa
open Go.ChangeShapes Go.WideShapes Go.ChangeAt Go.RowKit Gs
set_option linter.unusedVariables false

theorem ret_u64 {a b : Int} (h : a = b) : Ending.returned (.int .u64 a) = .returned (.int .u64 b) := by rw [h]

theorem and_p (a : Int) (h0 : 0 ≤ a) (h1 : a < 18446744073709551616) : bits .and .u64 a 2305843009213693951 = a % 2305843009213693952 := by
  rw [u64_and a _ h0 h1 (by omega) (by omega)]
  have : (2305843009213693951 : Int).toNat = 2 ^ 61 - 1 := by decide +kernel
  rw [this, Nat.and_two_pow_sub_one_eq_mod]
  omega

theorem reduce_any (a : Int) (h0 : 0 ≤ a) (h1 : a < 18446744073709551616) (w : World) :
    Calls Try.prog 92 #[.int .u64 a] w fun e w' => e = .returned (.int .u64 (fred a)) ∧ w = w' := by
  have e1 := and_p a h0 h1
  have e2 : IntKind.u64.wrap (a % 2305843009213693952 + a / 2305843009213693952) = a % 2305843009213693952 + a / 2305843009213693952 := IntWalk.u64_in _ (by omega)
  go_enter Try.func92, Try.ntmps92
  go_wp2
  · go_ret
    exact ⟨ret_u64 (by unfold fred PP; omega), rfl⟩
  · go_ret
    exact ⟨ret_u64 (by unfold fred PP; omega), rfl⟩

theorem Add_any (a b : Int) (h0 : 0 ≤ a) (h1 : a < 18446744073709551616) (k0 : 0 ≤ b) (k1 : b < 18446744073709551616) (w : World) :
    Calls Try.prog 83 #[.int .u64 a, .int .u64 b] w fun e w' => e = .returned (.int .u64 (fadd a b)) ∧ w = w' := by
  have ba := (fred_el a).u64
  have bb := (fred_el b).u64
  have la := (fred_el a).2
  have lb := (fred_el b).2
  have e1 : fred (fred a + fred b) = fadd a b := by unfold fred fadd; rw [Int.emod_add_emod, Int.add_emod_emod]
  unfold PP U64 at *
  have e2 : IntKind.u64.wrap (fred a + fred b) = fred a + fred b := IntWalk.u64_in _ (by omega)
  go_enter Try.func83, Try.ntmps83
  go_wp2_with fail
  refine (reduce_any _ h0 h1 _).mono ?_; rintro e w' ⟨rfl, rfl⟩
  go_wp2_with fail
  refine (reduce_any _ k0 k1 _).mono ?_; rintro e w' ⟨rfl, rfl⟩
  go_wp2_with fail
  refine (reduce_any _ (by omega) (by omega) _).mono ?_; rintro e w' ⟨rfl, rfl⟩
  go_wp2
  go_ret
  exact ⟨rfl, rfl⟩

theorem Mul64_any (a b : Int) (h0 : 0 ≤ a) (h1 : a < 18446744073709551616) (k0 : 0 ≤ b) (k1 : b < 18446744073709551616) (w : World) :
    Calls Try.prog 59 #[.int .u64 a, .int .u64 b] w fun e w' => e = .returned (.tuple #[.int .u64 (a * b / 18446744073709551616), .int .u64 (a * b % 18446744073709551616)]) ∧ w = w' := by
  have m := mul64_arith a b h0 h1 k0 k1
  have m1 := and_low32 a h0 h1
  have m2 := and_low32 b k0 k1
  have M := Lib.hid m
  clear m
  go_enter Try.func59, Try.ntmps59
  go_wp2
  simp (disch := omega) only [and_low32, IntKind.wrap_u64]
  rw [M.out]
  go_ret2
  exact ⟨rfl, rfl⟩

theorem or_high (a b : Int) (h0 : 0 ≤ a) (h1 : a * 8 < 18446744073709551616) (k0 : 0 ≤ b) (k1 : b < 8) : bits .or .u64 (a * 8) b = a * 8 + b := by
  obtain ⟨n, rfl⟩ := Int.eq_ofNat_of_zero_le h0
  obtain ⟨m, rfl⟩ := Int.eq_ofNat_of_zero_le k0
  have e1 : (n : Int) * 8 = ((n * 8 : Nat) : Int) := by omega
  rw [e1, u64_or_nat _ _ (by omega) (by omega)]
  have := Nat.shiftLeft_add_eq_or_of_lt (a := n) (i := 3) (b := m) (by omega)
  rw [Nat.shiftLeft_eq] at this
  rw [show n * 8 = n * 2 ^ 3 from rfl, ← this]
  omega

theorem Mul_any (a b : Int) (h0 : 0 ≤ a) (h1 : a < 18446744073709551616) (k0 : 0 ≤ b) (k1 : b < 18446744073709551616) (w : World) :
    Calls Try.prog 93 #[.int .u64 a, .int .u64 b] w fun e w' => e = .returned (.int .u64 (fmul a b)) ∧ w = w' := by
  have ba := (fred_el a).u64
  have bb := (fred_el b).u64
  have la := (fred_el a).2
  have lb := (fred_el b).2
  have e1 : fred (fred a * fred b / 18446744073709551616 * 8 + fred a * fred b % 18446744073709551616 / 2305843009213693952 + fred a * fred b % 2305843009213693952) = fmul a b := by
    rw [← fmul_red]; unfold fmul
    generalize fred a * fred b = x
    unfold fred PP; omega
  have p0 : 0 ≤ fred a * fred b := Int.mul_nonneg ba.1 bb.1
  unfold PP U64 at *
  have p1 : fred a * fred b ≤ 2305843009213693951 * 2305843009213693951 := Int.mul_le_mul (by omega) (by omega) bb.1 (by omega)
  have e2 : IntKind.u64.wrap (fred a * fred b / 18446744073709551616 * 8) = fred a * fred b / 18446744073709551616 * 8 := IntWalk.u64_in _ (by omega)
  have e3 := or_high (fred a * fred b / 18446744073709551616) (fred a * fred b % 18446744073709551616 / 2305843009213693952) (by omega) (by omega) (by omega) (by omega)
  have e4 := and_p (fred a * fred b % 18446744073709551616) (by omega) (by omega)
  have e5 : IntKind.u64.wrap (fred a * fred b / 18446744073709551616 * 8 + fred a * fred b % 18446744073709551616 / 2305843009213693952 + fred a * fred b % 18446744073709551616 % 2305843009213693952) = fred a * fred b / 18446744073709551616 * 8 + fred a * fred b % 18446744073709551616 / 2305843009213693952 + fred a * fred b % 18446744073709551616 % 2305843009213693952 := IntWalk.u64_in _ (by omega)
  go_enter Try.func93, Try.ntmps93
  go_wp2_with fail
  refine (reduce_any _ h0 h1 _).mono ?_; rintro e w' ⟨rfl, rfl⟩
  go_wp2_with fail
  refine (reduce_any _ k0 k1 _).mono ?_; rintro e w' ⟨rfl, rfl⟩
  go_wp2_with fail
  refine (Mul64_any _ _ ba.1 ba.2 bb.1 bb.2 _).mono ?_; rintro e w' ⟨rfl, rfl⟩
  go_wp2_with fail
  refine (reduce_any _ (by omega) (by omega) _).mono ?_; rintro e w' ⟨rfl, rfl⟩
  go_wp2
  go_ret
  exact ⟨rfl, rfl⟩

theorem and_1 (n : Int) (h0 : 0 ≤ n) (h : n < 18446744073709551616) : bits .and .u64 n 1 = n % 2 := by
  rw [u64_and n 1 h0 h (by omega) (by omega)]
  have : (1 : Int).toNat = 2 ^ 1 - 1 := rfl
  rw [this, Nat.and_two_pow_sub_one_eq_mod]; omega

theorem Pow_any (a n : Int) (h0 : 0 ≤ a) (h1 : a < 18446744073709551616) (k0 : 0 ≤ n) (k1 : n < 18446744073709551616) (w : World) :
    Calls Try.prog 87 #[.int .u64 a, .int .u64 n] w fun e w' => e = .returned (.int .u64 (fpow a n.toNat)) ∧ w = w' := by
  have hs := powInv_start a n.toNat
  have HS := Lib.hid hs; clear hs
  go_enter Try.func87, Try.ntmps87
  go_wp2
  go_loop [0, 1, 5] (fun x m p => ∃ (x' p' m' : Int), 0 ≤ x' ∧ x' < 18446744073709551616 ∧ 0 ≤ m' ∧ m' < 18446744073709551616 ∧ El p' ∧ powInv a n.toNat p' x' m'.toNat ∧ x = .int .u64 x' ∧ m = .int .u64 m' ∧ p = .int .u64 p') (fun _ m _ => (intOf m).toNat)
  case atStart => exact ⟨a, 1, n, h0, h1, k0, k1, by unfold El PP; omega, HS.out, rfl, rfl, rfl⟩
  case round =>
    obtain ⟨x, p, m, hx0, hx1, hm0, hm, hp, hi, rfl, rfl, rfl⟩ := hrel
    have hpu := hp.u64
    have hmx := (fmul_el x x).u64
    have hmp := fmul_el p x
    unfold U64 at *
    have hz : m ≤ 0 ∨ 0 < m := by omega
    rcases hz with hz | hz
    · have hm00 : m.toNat = 0 := by omega
      rw [hm00] at hi
      have he := powInv_end hi hp
      have HE := Lib.hid he
      clear he hi hm00
      go_wp2
      go_ret
      exact ⟨ret_u64 HE.out, rfl⟩
    · have hd : (m / 2).toNat = m.toNat / 2 := by omega
      have ho : m % 2 = 0 ∨ m % 2 = 1 := by omega
      rcases ho with ho | ho
      · have hi' := powInv_even hi (by omega)
        rw [← hd] at hi'
        have HI := Lib.hid hi'
        have a1 : bits .and .u64 m 1 = 0 := by rw [and_1 m hm0 hm, ho]
        clear hi hi' ho hd
        go_wp2_with fail
        refine (Mul_any _ _ hx0 hx1 hx0 hx1 _).mono ?_; rintro e w' ⟨rfl, rfl⟩
        go_wp2
        go_round
        case rel => exact ⟨_, _, _, hmx.1, hmx.2, by omega, by omega, hp, HI.out, rfl, rfl, rfl⟩
        case measure => simp [intOf]; omega
      · have hi' := powInv_odd hi (by omega)
        rw [← hd] at hi'
        have HI := Lib.hid hi'
        have a1 : bits .and .u64 m 1 = 1 := by rw [and_1 m hm0 hm, ho]
        clear hi hi' ho hd
        go_wp2_with fail
        refine (Mul_any _ _ hpu.1 hpu.2 hx0 hx1 _).mono ?_; rintro e w' ⟨rfl, rfl⟩
        go_wp2_with fail
        refine (Mul_any _ _ hx0 hx1 hx0 hx1 _).mono ?_; rintro e w' ⟨rfl, rfl⟩
        go_wp2
        go_round
        case rel => exact ⟨_, _, _, hmx.1, hmx.2, by omega, by omega, hmp, HI.out, rfl, rfl, rfl⟩
        case measure => simp [intOf]; omega

theorem toNat_expI : (2305843009213693949 : Int).toNat = expI := by decide +kernel

theorem refAdd_any (a b : Int) (h0 : 0 ≤ a) (h1 : a < 18446744073709551616) (k0 : 0 ≤ b) (k1 : b < 18446744073709551616) (w : World) :
    Calls Try.prog 63 #[.int .u64 a, .int .u64 b] w fun e w' => e = .returned (.int .u64 (fadd a b)) ∧ w = w' := by
  go_enter Try.func63, Try.ntmps63
  go_wp2
  go_ret
  exact ⟨ret_u64 (by unfold fadd PP; omega), rfl⟩

theorem refMul_any (a b : Int) (h0 : 0 ≤ a) (h1 : a < 18446744073709551616) (k0 : 0 ≤ b) (k1 : b < 18446744073709551616) (w : World) :
    Calls Try.prog 85 #[.int .u64 a, .int .u64 b] w fun e w' => e = .returned (.int .u64 (fmul a b)) ∧ w = w' := by
  have HS := Lib.hid (mulInv_start a b (fred b).toNat (by have := (fred_el b).1; omega))
  have ea : a % 2305843009213693951 = fred a := rfl
  have eb : b % 2305843009213693951 = fred b := rfl
  have la := fred_el a
  have lb := fred_el b
  have ua := la.u64
  have ub := lb.u64
  unfold U64 at ua ub
  go_enter Try.func85, Try.ntmps85
  go_wp2
  go_loop [0, 1, 5] (fun x m p => ∃ (x' p' m' : Int), El x' ∧ 0 ≤ m' ∧ m' < 18446744073709551616 ∧ El p' ∧ mulInv a b p' x' m'.toNat ∧ x = .int .u64 x' ∧ m = .int .u64 m' ∧ p = .int .u64 p') (fun _ m _ => (intOf m).toNat)
  case atStart => exact ⟨fred a, 0, fred b, la, ub.1, ub.2, by unfold El PP; omega, HS.out, rfl, rfl, rfl⟩
  case round =>
    obtain ⟨x, p, m, hx, hm0, hm, hp, hi, rfl, rfl, rfl⟩ := hrel
    have hpu := hp.u64
    have hxu := hx.u64
    have hxx := fadd_el x x
    have hpx := fadd_el p x
    unfold U64 at *
    clear ea eb
    have hz : m ≤ 0 ∨ 0 < m := by omega
    rcases hz with hz | hz
    · have hm00 : m.toNat = 0 := by omega
      rw [hm00] at hi
      have HE := Lib.hid (mulInv_end hi hp)
      clear hi hm00
      go_wp2
      go_ret
      exact ⟨ret_u64 HE.out, rfl⟩
    · have hd : (m / 2).toNat = m.toNat / 2 := by omega
      have ho : m % 2 = 0 ∨ m % 2 = 1 := by omega
      rcases ho with ho | ho
      · have hi' := mulInv_even hi (by omega)
        rw [← hd] at hi'
        have HI := Lib.hid hi'
        have a1 : (m % 2 == 1) = false := by rw [ho]; rfl
        clear hi hi' ho hd
        go_wp2_with fail
        refine (refAdd_any _ _ hxu.1 hxu.2 hxu.1 hxu.2 _).mono ?_; rintro e w' ⟨rfl, rfl⟩
        go_wp2
        go_round
        case rel => exact ⟨_, _, _, hxx, by omega, by omega, hp, HI.out, rfl, rfl, rfl⟩
        case measure => simp [intOf]; omega
      · have hi' := mulInv_odd hi (by omega)
        rw [← hd] at hi'
        have HI := Lib.hid hi'
        have a1 : (m % 2 == 1) = true := by rw [ho]; rfl
        clear hi hi' ho hd
        go_wp2_with fail
        refine (refAdd_any _ _ hpu.1 hpu.2 hxu.1 hxu.2 _).mono ?_; rintro e w' ⟨rfl, rfl⟩
        go_wp2_with fail
        refine (refAdd_any _ _ hxu.1 hxu.2 hxu.1 hxu.2 _).mono ?_; rintro e w' ⟨rfl, rfl⟩
        go_wp2
        go_round
        case rel => exact ⟨_, _, _, hxx, by omega, by omega, hpx, HI.out, rfl, rfl, rfl⟩
        case measure => simp [intOf]; omega

/-- The slice '.slice A xs.length c' holds the numbers xs, and lies below block B. -/
def SI (w : World) (B : Nat) (k : IntKind) (A : Option Addr) (xs : List Int) : Prop :=
  ∀ j, j < xs.length → ∃ ad, A = some ad ∧ ad.block < B ∧ w.cell? (ad.add j) = some (.int k (xs[j]?.getD 0))

theorem or_low (a x : Int) (n : Nat) (h0 : 0 ≤ a) (h1 : a < 2 ^ n) (x0 : 0 ≤ x) (x1 : x < 256) (hn : n ≤ 48) :
    bits .or .u64 a (IntKind.u64.wrap (x * 2 ^ n)) = a + 2 ^ n * x := by
  have p : (2 : Int) ^ n ≤ 2 ^ 48 := by exact_mod_cast Nat.pow_le_pow_right (show 0 < 2 by omega) hn
  have p0 : (0 : Int) < 2 ^ n := Int.pow_pos (by omega)
  have e48 : (2 : Int) ^ 48 = 281474976710656 := by decide
  have m1 : x * 2 ^ n ≤ 255 * 281474976710656 := Int.mul_le_mul (by omega) (by omega) (by omega) (by omega)
  have m0 : 0 ≤ x * 2 ^ n := Int.mul_nonneg x0 (by omega)
  rw [IntWalk.u64_in _ (by omega)]
  obtain ⟨a, rfl⟩ := Int.eq_ofNat_of_zero_le h0
  obtain ⟨x, rfl⟩ := Int.eq_ofNat_of_zero_le x0
  have hb : a < 2 ^ n := by exact_mod_cast h1
  have e1 : (x : Int) * 2 ^ n = ((x * 2 ^ n : Nat) : Int) := by push_cast; rfl
  rw [e1] at m1 ⊢
  rw [u64_or_nat _ _ (by omega) (by omega)]
  have := Nat.shiftLeft_add_eq_or_of_lt hb x
  rw [Nat.shiftLeft_eq] at this
  rw [Nat.or_comm, ← this]
  push_cast
  rw [Int.mul_comm]; omega

theorem number_any (A : Option Addr) (c : Nat) (xs : List Int) (hx : ∀ x ∈ xs, 0 ≤ x ∧ x < 256) (h7 : xs.length ≤ 7) (B : Nat) (w : World) (hs : SI w B .u8 A xs) :
    Calls Try.prog 91 #[.slice A xs.length c] w fun e w' => e = .returned (.int .u64 (num xs)) ∧ w = w' := by
  have HX := Lib.hid hx
  have HS := Lib.hid hs
  clear hx hs
  go_enter Try.func91, Try.ntmps91
  go_wp2
  go_loop [3, 8] (fun n i => ∃ k : Nat, k ≤ xs.length ∧ i = .int .i64 k ∧ n = .int .u64 (num (xs.take k))) (fun _ i => xs.length - (intOf i).toNat)
  case atStart => exact ⟨0, by omega, rfl, by simp [num]⟩
  case round =>
    obtain ⟨k, hk, rfl, rfl⟩ := hrel
    by_cases hlt : k < xs.length
    · obtain ⟨ad, rfl, hb, hc⟩ := HS.out k hlt
      have hn := num_lt (xs.take k) (fun x h => HX.out x (List.mem_of_mem_take h)) 
      have hxk := HX.out (xs[k]) (List.getElem_mem hlt)
      have ek : (xs.take k).length = k := by simp; omega
      rw [ek] at hn
      have ho := or_low _ _ _ hn.1 hn.2 hxk.1 hxk.2 (show 8 * k ≤ 48 by omega)
      have es : num (xs.take (k + 1)) = num (xs.take k) + 2 ^ (8 * k) * xs[k] := by
        rw [List.take_succ_eq_append_getElem hlt, num_append, ek]; simp [num]
      have ES := Lib.hid es
      have HN := Lib.hid hn
      clear es ek hn
      simp only [List.getElem?_eq_getElem hlt, Option.getD_some] at hc
      go_wp2
      go_round
      case rel => exact ⟨k + 1, by omega, by go_num, by rw [ES.out]⟩
      case measure => simp [intOf]; omega
    · have he : xs.take k = xs := List.take_of_length_le (by omega)
      have HE := Lib.hid he
      clear he
      go_wp2
      go_ret
      exact ⟨ret_u64 (by rw [HE.out]), rfl⟩

/-- A contract that leaves the world alone, inside a region that is walked once. -/
theorem quiet_eq {P : Program} {f : FuncId} {args : Array Value} {w : World} {n : Nat} {v : Value}
    (h : Calls P f args (w.drewN n) fun e w' => e = .returned v ∧ w.drewN n = w') : Calls P f args (w.drewN n) fun e w'' => e = .returned v ∧ ∃ m, w'' = w.drewN m :=
  h.mono fun _ _ ⟨he, hm⟩ => ⟨he, n, hm.symm⟩

def Dr (w w' : World) : Prop := ∃ n, w' = w.drewN n
theorem Dr.refl (w : World) : Dr w w := ⟨0, rfl⟩
theorem Dr.drewN {w w' : World} (h : Dr w w') (n : Nat) : Dr w (w'.drewN n) := by obtain ⟨m, rfl⟩ := h; exact ⟨m + n, by rw [World.drewN_drewN]⟩
theorem Dr.cell {w w' : World} (h : Dr w w') {a : Addr} {v : Value} (hc : w.cell? a = some v) : w'.cell? a = some v := by obtain ⟨m, rfl⟩ := h; exact hc
theorem Dr.si {w w' : World} (h : Dr w w') {B : Nat} {k : IntKind} {A : Option Addr} {xs : List Int} (hs : SI w B k A xs) : SI w' B k A xs := by obtain ⟨m, rfl⟩ := h; exact hs

end Go.Proofs.Ytippfhlljlfcnaa
