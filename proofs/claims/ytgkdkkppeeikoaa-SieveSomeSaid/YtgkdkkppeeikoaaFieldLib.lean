/- Several texts of one kind, one behind the other: FieldA, FieldB, FieldC, FieldD, Blk. -/
import Derived.Test.YtgkdkkppeeikoaaRows
import Derived.Test.YtgkdkkppeeikoaaPlain
import Derived.WalkKit
import Derived.ProofKit
import Derived.OpenShut
import Derived.IntWalk
import Derived.Laws.BitsAllLaws
import Derived.Laws.MathBits
import Derived.Lib.Hide
import Derived.BigQuiet
import Derived.Deep.QuietTactic
import Derived.Deep.Draws
import Derived.Below
import Derived.Maps.AppendAt
import Derived.Laws.OwnMore
import Derived.RangeFuncNested
import Derived.RangeFuncBound
import Derived.RangeFuncCalls
import Derived.RangeFuncLeaves
import Derived.RangeFuncBox
import Derived.Shelf.Abstract
import Derived.Shelf.RegionOpen
import Derived.OwnWalkIn
import Derived.TacticsInMore
import Derived.LoopNIn
import Derived.LoopIn
import Derived.ChangeSame
import Derived.ShutString
import Derived.ChangeOld
import Derived.Deep.AppendLies
import Derived.RegionTactic
import Derived.OwnWalk
import Derived.StillTailTactics
/- Contracts of the functions of package field on numbers and on slices of numbers, and of the plain answers beside them. -/
namespace Go.Proofs.Ytgkdkkppeeikoaa
open Go.ChangeShapes Go.WideShapes Go.ChangeAt Go.RowKit Gs
set_option linter.unusedVariables false

theorem ret_u64 {a b : Int} (h : a = b) : Ending.returned (.int .u64 a) = .returned (.int .u64 b) := by rw [h]

theorem and_p (a : Int) (h0 : 0 ≤ a) (h1 : a < 18446744073709551616) : bits .and .u64 a 2305843009213693951 = a % 2305843009213693952 := by
  rw [u64_and a _ h0 h1 (by omega) (by omega)]
  have : (2305843009213693951 : Int).toNat = 2 ^ 61 - 1 := by decide +kernel
  rw [this, Nat.and_two_pow_sub_one_eq_mod]
  omega

theorem reduce_any (a : Int) (h0 : 0 ≤ a) (h1 : a < 18446744073709551616) (w : World) :
    Calls Try.prog 54 #[.int .u64 a] w fun e w' => e = .returned (.int .u64 (fred a)) ∧ w = w' := by
  have e1 := and_p a h0 h1
  have e2 : IntKind.u64.wrap (a % 2305843009213693952 + a / 2305843009213693952) = a % 2305843009213693952 + a / 2305843009213693952 := IntWalk.u64_in _ (by omega)
  go_enter Try.func54, Try.ntmps54
  go_wp2
  · go_ret
    exact ⟨ret_u64 (by unfold fred PP; omega), rfl⟩
  · go_ret
    exact ⟨ret_u64 (by unfold fred PP; omega), rfl⟩

theorem Add_any (a b : Int) (h0 : 0 ≤ a) (h1 : a < 18446744073709551616) (k0 : 0 ≤ b) (k1 : b < 18446744073709551616) (w : World) :
    Calls Try.prog 46 #[.int .u64 a, .int .u64 b] w fun e w' => e = .returned (.int .u64 (fadd a b)) ∧ w = w' := by
  have ba := (fred_el a).u64
  have bb := (fred_el b).u64
  have la := (fred_el a).2
  have lb := (fred_el b).2
  have e1 : fred (fred a + fred b) = fadd a b := by unfold fred fadd; rw [Int.emod_add_emod, Int.add_emod_emod]
  unfold PP U64 at *
  have e2 : IntKind.u64.wrap (fred a + fred b) = fred a + fred b := IntWalk.u64_in _ (by omega)
  go_enter Try.func46, Try.ntmps46
  go_wp2_with fail
  refine (reduce_any _ h0 h1 _).mono ?_; rintro e w' ⟨rfl, rfl⟩
  go_wp2_with fail
  refine (reduce_any _ k0 k1 _).mono ?_; rintro e w' ⟨rfl, rfl⟩
  go_wp2_with fail
  refine (reduce_any _ (by omega) (by omega) _).mono ?_; rintro e w' ⟨rfl, rfl⟩
  go_wp2
  go_ret
  exact ⟨rfl, rfl⟩

theorem Mul64_any (a b : Int) (h0 : 0 ≤ a) (h1 : a < 18446744073709551616) (k0 : 0 ≤ b) (k1 : b < 18446744073709551616) (w : World) :
    Calls Try.prog 57 #[.int .u64 a, .int .u64 b] w fun e w' => e = .returned (.tuple #[.int .u64 (a * b / 18446744073709551616), .int .u64 (a * b % 18446744073709551616)]) ∧ w = w' := by
  have m := mul64_arith a b h0 h1 k0 k1
  have m1 := and_low32 a h0 h1
  have m2 := and_low32 b k0 k1
  have M := Lib.hid m
  clear m
  go_enter Try.func57, Try.ntmps57
  go_wp2
  simp (disch := omega) only [and_low32, IntKind.wrap_u64]
  rw [M.out]
  go_ret2
  exact ⟨rfl, rfl⟩

theorem or_high (a b : Int) (h0 : 0 ≤ a) (h1 : a * 8 < 18446744073709551616) (k0 : 0 ≤ b) (k1 : b < 8) : bits .or .u64 (a * 8) b = a * 8 + b := by
  obtain ⟨n, rfl⟩ := Int.eq_ofNat_of_zero_le h0
  obtain ⟨m, rfl⟩ := Int.eq_ofNat_of_zero_le k0
  have e1 : (n : Int) * 8 = ((n * 8 : Nat) : Int) := by omega
  rw [e1, u64_or_nat _ _ (by omega) (by omega)]
  have := Nat.shiftLeft_add_eq_or_of_lt (a := n) (i := 3) (b := m) (by omega)
  rw [Nat.shiftLeft_eq] at this
  rw [show n * 8 = n * 2 ^ 3 from rfl, ← this]
  omega

theorem Mul_any (a b : Int) (h0 : 0 ≤ a) (h1 : a < 18446744073709551616) (k0 : 0 ≤ b) (k1 : b < 18446744073709551616) (w : World) :
    Calls Try.prog 56 #[.int .u64 a, .int .u64 b] w fun e w' => e = .returned (.int .u64 (fmul a b)) ∧ w = w' := by
  have ba := (fred_el a).u64
  have bb := (fred_el b).u64
  have la := (fred_el a).2
  have lb := (fred_el b).2
  have e1 : fred (fred a * fred b / 18446744073709551616 * 8 + fred a * fred b % 18446744073709551616 / 2305843009213693952 + fred a * fred b % 2305843009213693952) = fmul a b := by
    rw [← fmul_red]; unfold fmul
    generalize fred a * fred b = x
    unfold fred PP; omega
  have p0 : 0 ≤ fred a * fred b := Int.mul_nonneg ba.1 bb.1
  unfold PP U64 at *
  have p1 : fred a * fred b ≤ 2305843009213693951 * 2305843009213693951 := Int.mul_le_mul (by omega) (by omega) bb.1 (by omega)
  have e2 : IntKind.u64.wrap (fred a * fred b / 18446744073709551616 * 8) = fred a * fred b / 18446744073709551616 * 8 := IntWalk.u64_in _ (by omega)
  have e3 := or_high (fred a * fred b / 18446744073709551616) (fred a * fred b % 18446744073709551616 / 2305843009213693952) (by omega) (by omega) (by omega) (by omega)
  have e4 := and_p (fred a * fred b % 18446744073709551616) (by omega) (by omega)
  have e5 : IntKind.u64.wrap (fred a * fred b / 18446744073709551616 * 8 + fred a * fred b % 18446744073709551616 / 2305843009213693952 + fred a * fred b % 18446744073709551616 % 2305843009213693952) = fred a * fred b / 18446744073709551616 * 8 + fred a * fred b % 18446744073709551616 / 2305843009213693952 + fred a * fred b % 18446744073709551616 % 2305843009213693952 := IntWalk.u64_in _ (by omega)
  go_enter Try.func56, Try.ntmps56
  go_wp2_with fail
  refine (reduce_any _ h0 h1 _).mono ?_; rintro e w' ⟨rfl, rfl⟩
  go_wp2_with fail
  refine (reduce_any _ k0 k1 _).mono ?_; rintro e w' ⟨rfl, rfl⟩
  go_wp2_with fail
  refine (Mul64_any _ _ ba.1 ba.2 bb.1 bb.2 _).mono ?_; rintro e w' ⟨rfl, rfl⟩
  go_wp2_with fail
  refine (reduce_any _ (by omega) (by omega) _).mono ?_; rintro e w' ⟨rfl, rfl⟩
  go_wp2
  go_ret
  exact ⟨rfl, rfl⟩

theorem and_1 (n : Int) (h0 : 0 ≤ n) (h : n < 18446744073709551616) : bits .and .u64 n 1 = n % 2 := by
  rw [u64_and n 1 h0 h (by omega) (by omega)]
  have : (1 : Int).toNat = 2 ^ 1 - 1 := rfl
  rw [this, Nat.and_two_pow_sub_one_eq_mod]; omega

theorem Pow_any (a n : Int) (h0 : 0 ≤ a) (h1 : a < 18446744073709551616) (k0 : 0 ≤ n) (k1 : n < 18446744073709551616) (w : World) :
    Calls Try.prog 49 #[.int .u64 a, .int .u64 n] w fun e w' => e = .returned (.int .u64 (fpow a n.toNat)) ∧ w = w' := by
  have hs := powInv_start a n.toNat
  have HS := Lib.hid hs; clear hs
  go_enter Try.func49, Try.ntmps49
  go_wp2
  go_loop [0, 1, 5] (fun x m p => ∃ (x' p' m' : Int), 0 ≤ x' ∧ x' < 18446744073709551616 ∧ 0 ≤ m' ∧ m' < 18446744073709551616 ∧ El p' ∧ powInv a n.toNat p' x' m'.toNat ∧ x = .int .u64 x' ∧ m = .int .u64 m' ∧ p = .int .u64 p') (fun _ m _ => (intOf m).toNat)
  case atStart => exact ⟨a, 1, n, h0, h1, k0, k1, by unfold El PP; omega, HS.out, rfl, rfl, rfl⟩
  case round =>
    obtain ⟨x, p, m, hx0, hx1, hm0, hm, hp, hi, rfl, rfl, rfl⟩ := hrel
    have hpu := hp.u64
    have hmx := (fmul_el x x).u64
    have hmp := fmul_el p x
    unfold U64 at *
    have hz : m ≤ 0 ∨ 0 < m := by omega
    rcases hz with hz | hz
    · have hm00 : m.toNat = 0 := by omega
      rw [hm00] at hi
      have he := powInv_end hi hp
      have HE := Lib.hid he
      clear he hi hm00
      go_wp2
      go_ret
      exact ⟨ret_u64 HE.out, rfl⟩
    · have hd : (m / 2).toNat = m.toNat / 2 := by omega
      have ho : m % 2 = 0 ∨ m % 2 = 1 := by omega
      rcases ho with ho | ho
      · have hi' := powInv_even hi (by omega)
        rw [← hd] at hi'
        have HI := Lib.hid hi'
        have a1 : bits .and .u64 m 1 = 0 := by rw [and_1 m hm0 hm, ho]
        clear hi hi' ho hd
        go_wp2_with fail
        refine (Mul_any _ _ hx0 hx1 hx0 hx1 _).mono ?_; rintro e w' ⟨rfl, rfl⟩
        go_wp2
        go_round
        case rel => exact ⟨_, _, _, hmx.1, hmx.2, by omega, by omega, hp, HI.out, rfl, rfl, rfl⟩
        case measure => simp [intOf]; omega
      · have hi' := powInv_odd hi (by omega)
        rw [← hd] at hi'
        have HI := Lib.hid hi'
        have a1 : bits .and .u64 m 1 = 1 := by rw [and_1 m hm0 hm, ho]
        clear hi hi' ho hd
        go_wp2_with fail
        refine (Mul_any _ _ hpu.1 hpu.2 hx0 hx1 _).mono ?_; rintro e w' ⟨rfl, rfl⟩
        go_wp2_with fail
        refine (Mul_any _ _ hx0 hx1 hx0 hx1 _).mono ?_; rintro e w' ⟨rfl, rfl⟩
        go_wp2
        go_round
        case rel => exact ⟨_, _, _, hmx.1, hmx.2, by omega, by omega, hmp, HI.out, rfl, rfl, rfl⟩
        case measure => simp [intOf]; omega

theorem toNat_expI : (2305843009213693949 : Int).toNat = expI := by decide +kernel

/-- The slice '.slice A xs.length c' holds the numbers xs, and lies below block B. -/
def SI (w : World) (B : Nat) (k : IntKind) (A : Option Addr) (xs : List Int) : Prop :=
  ∀ j, j < xs.length → ∃ ad, A = some ad ∧ ad.block < B ∧ w.cell? (ad.add j) = some (.int k (xs[j]?.getD 0))

theorem or_low (a x : Int) (n : Nat) (h0 : 0 ≤ a) (h1 : a < 2 ^ n) (x0 : 0 ≤ x) (x1 : x < 256) (hn : n ≤ 48) :
    bits .or .u64 a (IntKind.u64.wrap (x * 2 ^ n)) = a + 2 ^ n * x := by
  have p : (2 : Int) ^ n ≤ 2 ^ 48 := by exact_mod_cast Nat.pow_le_pow_right (show 0 < 2 by omega) hn
  have p0 : (0 : Int) < 2 ^ n := Int.pow_pos (by omega)
  have e48 : (2 : Int) ^ 48 = 281474976710656 := by decide
  have m1 : x * 2 ^ n ≤ 255 * 281474976710656 := Int.mul_le_mul (by omega) (by omega) (by omega) (by omega)
  have m0 : 0 ≤ x * 2 ^ n := Int.mul_nonneg x0 (by omega)
  rw [IntWalk.u64_in _ (by omega)]
  obtain ⟨a, rfl⟩ := Int.eq_ofNat_of_zero_le h0
  obtain ⟨x, rfl⟩ := Int.eq_ofNat_of_zero_le x0
  have hb : a < 2 ^ n := by exact_mod_cast h1
  have e1 : (x : Int) * 2 ^ n = ((x * 2 ^ n : Nat) : Int) := by push_cast; rfl
  rw [e1] at m1 ⊢
  rw [u64_or_nat _ _ (by omega) (by omega)]
  have := Nat.shiftLeft_add_eq_or_of_lt hb x
  rw [Nat.shiftLeft_eq] at this
  rw [Nat.or_comm, ← this]
  push_cast
  rw [Int.mul_comm]; omega

theorem number_any (A : Option Addr) (c : Nat) (xs : List Int) (hx : ∀ x ∈ xs, 0 ≤ x ∧ x < 256) (h7 : xs.length ≤ 7) (B : Nat) (w : World) (hs : SI w B .u8 A xs) :
    Calls Try.prog 53 #[.slice A xs.length c] w fun e w' => e = .returned (.int .u64 (num xs)) ∧ w = w' := by
  have HX := Lib.hid hx
  have HS := Lib.hid hs
  clear hx hs
  go_enter Try.func53, Try.ntmps53
  go_wp2
  go_loop [3, 8] (fun n i => ∃ k : Nat, k ≤ xs.length ∧ i = .int .i64 k ∧ n = .int .u64 (num (xs.take k))) (fun _ i => xs.length - (intOf i).toNat)
  case atStart => exact ⟨0, by omega, rfl, by simp [num]⟩
  case round =>
    obtain ⟨k, hk, rfl, rfl⟩ := hrel
    by_cases hlt : k < xs.length
    · obtain ⟨ad, rfl, hb, hc⟩ := HS.out k hlt
      have hn := num_lt (xs.take k) (fun x h => HX.out x (List.mem_of_mem_take h)) 
      have hxk := HX.out (xs[k]) (List.getElem_mem hlt)
      have ek : (xs.take k).length = k := by simp; omega
      rw [ek] at hn
      have ho := or_low _ _ _ hn.1 hn.2 hxk.1 hxk.2 (show 8 * k ≤ 48 by omega)
      have es : num (xs.take (k + 1)) = num (xs.take k) + 2 ^ (8 * k) * xs[k] := by
        rw [List.take_succ_eq_append_getElem hlt, num_append, ek]; simp [num]
      have ES := Lib.hid es
      have HN := Lib.hid hn
      clear es ek hn
      simp only [List.getElem?_eq_getElem hlt, Option.getD_some] at hc
      go_wp2
      go_round
      case rel => exact ⟨k + 1, by omega, by go_num, by rw [ES.out]⟩
      case measure => simp [intOf]; omega
    · have he : xs.take k = xs := List.take_of_length_le (by omega)
      have HE := Lib.hid he
      clear he
      go_wp2
      go_ret
      exact ⟨ret_u64 (by rw [HE.out]), rfl⟩

/-- A contract that leaves the world alone, inside a region that is walked once. -/
theorem quiet_eq {P : Program} {f : FuncId} {args : Array Value} {w : World} {n : Nat} {v : Value}
    (h : Calls P f args (w.drewN n) fun e w' => e = .returned v ∧ w.drewN n = w') : Calls P f args (w.drewN n) fun e w'' => e = .returned v ∧ ∃ m, w'' = w.drewN m :=
  h.mono fun _ _ ⟨he, hm⟩ => ⟨he, n, hm.symm⟩

def Dr (w w' : World) : Prop := ∃ n, w' = w.drewN n
theorem Dr.refl (w : World) : Dr w w := ⟨0, rfl⟩
theorem Dr.drewN {w w' : World} (h : Dr w w') (n : Nat) : Dr w (w'.drewN n) := by obtain ⟨m, rfl⟩ := h; exact ⟨m + n, by rw [World.drewN_drewN]⟩
theorem Dr.cell {w w' : World} (h : Dr w w') {a : Addr} {v : Value} (hc : w.cell? a = some v) : w'.cell? a = some v := by obtain ⟨m, rfl⟩ := h; exact hc
theorem Dr.si {w w' : World} (h : Dr w w') {B : Nat} {k : IntKind} {A : Option Addr} {xs : List Int} (hs : SI w B k A xs) : SI w' B k A xs := by obtain ⟨m, rfl⟩ := h; exact hs

end Go.Proofs.Ytgkdkkppeeikoaa

/- The plain answer of the elements that bytes are. -/
namespace Go.Proofs.Ytgkdkkppeeikoaa
open Go.ChangeShapes Go.WideShapes Go.ChangeAt Go.RowKit Gs
set_option linter.unusedVariables false

theorem block_of_add (a : Addr) (n : Nat) : (a.add n).block = a.block := by unfold Addr.add; split <;> rfl
theorem SI.keep {w w' : World} {B : Nat} {k : IntKind} {A : Option Addr} {xs : List Int} (h : SI w B k A xs) (hk : ∀ p : Addr, p.block < B → w'.cell? p = w.cell? p) : SI w' B k A xs := fun j hj => by
  obtain ⟨ad, e, hb, hc⟩ := h j hj
  exact ⟨ad, e, hb, (hk _ (by rw [block_of_add]; exact hb)).trans hc⟩
theorem SI.more {w : World} {B B' : Nat} {k : IntKind} {A : Option Addr} {xs : List Int} (h : SI w B k A xs) (hB : B ≤ B') : SI w B' k A xs := fun j hj => by
  obtain ⟨ad, e, hb, hc⟩ := h j hj
  exact ⟨ad, e, by omega, hc⟩
theorem SI.below {w w' : World} {B : Nat} {k : IntKind} {A : Option Addr} {xs : List Int} (h : SI w B k A xs) (hb : Below B w w') : SI w' B k A xs := h.keep fun _ hp => hb.cell hp

theorem Try.info54 : (Try.prog.info? 54).map (fun i => (i.zero, i.size, i.bytes)) = some (some (.int .u64 0), 1, 8) := by kernel_rfl

/-- What a call has made: the slice value v owns the numbers xs, in blocks from B on. -/
def OwnU (w : World) (B : Nat) (v : Value) (xs : List Int) : Prop := w.ownsRow B 54 1 v xs.length (xs.map (Value.int .u64))

theorem own_step {w : World} {B n : Nat} {v : Value} {xs : List Int} {j : Nat} {vs : List Value} (h : w.ownsRow B 54 1 v n vs) (hn : n = (fofTo xs j).length + 1) (hv : vs = (fofTo xs j).map (Value.int .u64) ++ [.int .u64 (elm xs j)]) : OwnU w B v (fofTo xs (j + 1)) := by
  subst hn hv
  unfold OwnU
  rw [fofTo_succ, List.length_append, List.map_append]
  exact h
theorem below_step {w wr w1 : World} {v : Value} {n : Nat} {vs : List Value} {o : Obj} (hB : Below w.heap.size w wr) (ho : wr.ownsRow w.heap.size 54 1 v n vs) (hg : (wr.alloc o).grownBy w1 v.ownBlock) : Below w.heap.size w w1 := by
  refine (hB.alloc hB.size o).grown hg (by have := hB.size; simp; omega) ?_
  intro k hk
  rcases ho.2 with ⟨rfl, _⟩ | ⟨g, cap, cur, rfl, hb, _⟩
  · simp [Value.ownBlock] at hk
  · simp [Value.ownBlock] at hk; omega

end Go.Proofs.Ytgkdkkppeeikoaa

/- The elements that bytes are, by a range over a function. -/
namespace Go.Proofs.Ytgkdkkppeeikoaa
open Go.ChangeShapes Go.WideShapes Go.ChangeAt Go.RowKit Go.Shelf Gs
set_option linter.unusedVariables false

attribute [local go_sem] Oper.semAt_some

theorem add_of_add (a : Addr) (i j : Nat) : (a.add i).add j = a.add (i + j) := by
  unfold Addr.add
  by_cases hi : i = 0 <;> by_cases hj : j = 0 <;> simp [hi, hj, Nat.add_assoc]

theorem SI.part {w : World} {B : Nat} {k : IntKind} {ad : Addr} {xs : List Int} (h : SI w B k (some ad) xs) (i n : Nat) (hn : i + n ≤ xs.length) : SI w B k (some (ad.add i)) ((xs.drop i).take n) := fun j hj => by
  have hj' : j < n := by rw [List.length_take] at hj; omega
  obtain ⟨ad', e, hb, hc⟩ := h (i + j) (by omega)
  cases e
  refine ⟨_, rfl, by rw [block_of_add]; exact hb, ?_⟩
  rw [add_of_add, hc, List.getElem?_take_of_lt hj', List.getElem?_drop]

theorem number_len (A : Option Addr) (n c : Nat) (v : Int) (xs : List Int) (hn : xs.length = n) (hv : num xs = v) (hx : ∀ x ∈ xs, 0 ≤ x ∧ x < 256) (h7 : n ≤ 7) (B : Nat) (w : World) (hs : SI w B .u8 A xs) :
    Calls Try.prog 53 #[.slice A n c] w fun e w' => e = .returned (.int .u64 v) ∧ w = w' := by
  subst hn hv; exact number_any A c xs hx h7 B w hs

/-- What lay below block n₀, and block Bs, is as it was. -/
def KB (n₀ Bs : Nat) (W W' : World) : Prop := Below n₀ W W' ∧ W'.heap[Bs]? = W.heap[Bs]?
theorem KB.refl (n₀ Bs : Nat) (W : World) : KB n₀ Bs W W := ⟨Below.refl _ _, rfl⟩
theorem KB.trans {n₀ Bs : Nat} {A B C : World} (h : KB n₀ Bs A B) (k : KB n₀ Bs B C) : KB n₀ Bs A C := ⟨h.1.trans k.1, k.2.trans h.2⟩
theorem KB.put {n₀ Bs : Nat} {w : World} (hn : n₀ ≤ w.heap.size) (hb : Bs < w.heap.size) (W : World) (l : Nat) (o o' : Obj) (hl : w.heap.size ≤ l) (h : W.heap[l]? = some o) (h1 : o.isCells = false) (h2 : o.isWalk = false) : KB n₀ Bs W (W.putObj l o') :=
  ⟨belowK_b hn W l o o' hl h h1 h2, (grownBy_putObj' W l o').block Bs (by have := (Array.getElem?_eq_some_iff.1 h).1; omega) (fun e => by cases e; omega)⟩

set_option maxRecDepth 100000 in
set_option maxHeartbeats 1000000 in
theorem each_in (n : Nat) (hn : 1 ≤ n) (l Bs n₀ : Nat) (A : Option Addr) (c : Nat) (xs : List Int) (hx : ∀ x ∈ xs, 0 ≤ x ∧ x < 256) (hl : xs.length ≤ 70368744177664) (hcap : xs.length ≤ c) (J Jx : List Int → World → Prop)
    (hY : ∀ pre x W, J pre W → pre.length < (xs.length + 6) / 7 → YieldAt Fence.wide (n - 1) Try.prog l #[.int .u64 x] W fun e W' =>
      (e = .returned (.bool true) ∧ J (pre ++ [x]) W' ∧ KB n₀ Bs W W') ∨ (e = .returned (.bool false) ∧ Jx (pre ++ [x]) W'))
    (W : World) (hBs : W.cell? ⟨Bs, 0, none⟩ = some (.slice A xs.length c)) (hs : SI W n₀ .u8 A xs) (h0 : J [] W) :
    CallsIn Fence.wide n Try.prog 52 #[.func (.yield l) #[] #[], .pointer (some ⟨Bs, 0, none⟩)] W fun e W' => (∃ v, e = .returned v) ∧
      ((∃ ys, ys = fof xs ∧ J ys W') ∨ (∃ pre, (∃ k, k ≤ (xs.length + 6) / 7 ∧ pre = fofTo xs k) ∧ Jx pre W')) := by
  have HX := Lib.hid hx
  have HS := Lib.hid hs
  have HY := Lib.hid hY
  clear hx hs hY
  refine callsIn_of_wp Try.func52 rfl trivial ?_ rfl
  simp only [Try.ntmps52, List.size_toArray, List.length_cons, List.length_nil, Nat.reduceAdd, Nat.reduceSub, Array.replicate_succ, Array.replicate_zero, List.push_toArray, List.append_toArray, List.nil_append, List.cons_append]
  gi_wp2
  gi_loopw [3] (fun i wr => ∃ j : Nat, 7 * j < xs.length + 7 ∧ i = .int .i64 ((7 * j : Nat) : Int) ∧ J (fofTo xs j) wr ∧ KB n₀ Bs W wr)
    (fun i _ => xs.length + 7 - (intOf i).toNat)
  case atStart => exact ⟨0, by omega, rfl, h0, KB.refl _ _ _⟩
  case round =>
    obtain ⟨j, hj, rfl, hJs, hnx⟩ := hrel
    have hBw : wr.cell? ⟨Bs, 0, none⟩ = some (.slice A xs.length c) := (World.cell?_of_block (a := ⟨Bs, 0, none⟩) hnx.2).trans hBs
    have HN := Lib.hid hnx
    clear hnx
    by_cases hlt : 7 * j < xs.length
    · obtain ⟨ad, rfl, hb, _⟩ := HS.out (7 * j) hlt
      obtain ⟨fn, tmps, assign, body, hy, hR⟩ := HY.out _ (elm xs j) wr hJs (by rw [fofTo_length]; omega)
      have HR := Lib.hid hR
      have HJ := Lib.hid hJs
      clear hR hJs
      have HP := Lib.hid ((HS.out.below HN.out.1).part (7 * j) (min 7 (xs.length - 7 * j)) (by omega))
      have HV := Lib.hid (show num ((xs.drop (7 * j)).take (min 7 (xs.length - 7 * j))) = elm xs j from by
        by_cases h : 7 ≤ xs.length - 7 * j
        · rw [Nat.min_eq_left h]; rfl
        · rw [Nat.min_eq_right (by omega)]; exact elm_part xs j _ (by omega) (by omega))
      have HL := Lib.hid (show ((xs.drop (7 * j)).take (min 7 (xs.length - 7 * j))).length = min 7 (xs.length - 7 * j) from by simp)
      have HZ := Lib.hid (show ∀ x ∈ (xs.drop (7 * j)).take (min 7 (xs.length - 7 * j)), 0 ≤ x ∧ x < 256 from fun x h => HX.out x (List.mem_of_mem_drop (List.mem_of_mem_take h)))
      by_cases h7 : 7 * j + 7 ≤ xs.length
      all_goals
        gi_wp2_with fail
        refine ⟨trivial, ?_⟩
        refine (callsIn_wide.2 (number_len _ _ _ _ _ (by rw [HL.out]; omega) HV.out HZ.out (by omega) _ _ HP.out)).mono ?_
        rintro e w' ⟨rfl, rfl⟩
        gi_wp2
        refine HR.out.mono ?_
        rintro e W3 (⟨rfl, hJ3, hk3⟩ | ⟨rfl, hJx3⟩)
        · gi_wp2
          go_roundw
          case rel => exact ⟨j + 1, by omega, by go_num, by rw [fofTo_succ]; exact hJ3, HN.out.trans hk3⟩
          case measure => simp [intOf]; omega
        · gi_wp2
          refine bodyPost_ret (results_none rfl _ _ _) rfl ?_
          exact ⟨⟨_, rfl⟩, .inr ⟨_, ⟨j + 1, by omega, (fofTo_succ _ _).symm⟩, hJx3⟩⟩
    · have hm : j = (xs.length + 6) / 7 := by omega
      have HM := Lib.hid hm
      clear hm
      gi_wp2
      go_end0
      exact ⟨⟨_, rfl⟩, .inl ⟨_, by rw [HM.out, fof_eq], hJs⟩⟩

theorem each_stops (n : Nat) (hn : 1 ≤ n) (Bs n₀ : Nat) (A : Option Addr) (c : Nat) (xs : List Int) (hx : ∀ x ∈ xs, 0 ≤ x ∧ x < 256) (hl : xs.length ≤ 70368744177664) (hcap : xs.length ≤ c) (w : World) (hBs : Bs < w.heap.size) (hn₀ : n₀ ≤ w.heap.size)
    (hc : w.cell? ⟨Bs, 0, none⟩ = some (.slice A xs.length c)) (hs : SI w n₀ .u8 A xs) :
    SeqStopsK Fence.wide n Try.prog 52 #[.pointer (some ⟨Bs, 0, none⟩)] (fun x : Int => #[Value.int .u64 x]) (KB n₀ Bs) (fun ys => ys = fof xs) (fun pre => ∃ k, k ≤ (xs.length + 6) / 7 ∧ pre = fofTo xs k) ((xs.length + 6) / 7) w := fun l J Jx W hW _ _ hY h0 =>
  each_in n hn l Bs n₀ A c xs hx hl hcap J Jx hY W ((hW.cell (p := ⟨Bs, 0, none⟩) hBs).trans hc) (hs.below (hW.mono hn₀)) h0

set_option maxHeartbeats 1000000 in
theorem elements_in (n : Nat) (A : Option Addr) (m c : Nat) (w : World) :
    CallsIn Fence.wide n Try.prog 43 #[.slice A m c] w fun e w' => e = .returned (.func (.func 52) #[] #[.pointer (some ⟨w.heap.size, 0, none⟩)]) ∧ w' = w.alloc (.cells #[.slice A m c] 24) := by
  refine callsIn_of_wp Try.func43 rfl trivial ?_ rfl
  simp only [Try.ntmps43, List.size_toArray, List.length_cons, List.length_nil, Nat.reduceAdd, Nat.reduceSub, Array.replicate_succ, Array.replicate_zero, List.push_toArray, List.append_toArray, List.nil_append, List.cons_append]
  gi_wp2
  go_ret
  exact ⟨rfl, rfl⟩

set_option maxRecDepth 100000 in
set_option maxHeartbeats 2000000 in
theorem Of_any (A : Option Addr) (c : Nat) (xs : List Int) (hx : ∀ x ∈ xs, 0 ≤ x ∧ x < 256) (hl : xs.length ≤ 70368744177664) (hcap : xs.length ≤ c) (w : World) (hs : SI w w.heap.size .u8 A xs) :
    Calls Try.prog 38 #[.slice A xs.length c] w fun e w' => ∃ v, e = .returned v ∧ OwnU w' w.heap.size v (fof xs) ∧ Below w.heap.size w w' := by
  have HX := Lib.hid hx
  have HS := Lib.hid hs
  clear hx hs
  obtain ⟨i0, hi, hz0, hz1, hz2⟩ := info_parts Try.info54
  have HI := Lib.hid (And.intro hi (And.intro hz0 (And.intro hz1 hz2)))
  clear hi hz0 hz1 hz2
  refine (callsIn_wide (n := 5)).1 ?_
  refine callsIn_of_wp_marks Try.func38 rfl trivial ?_ rfl
  simp only [Try.ntmps38, List.size_toArray, List.length_cons, List.length_nil, Nat.reduceAdd, Nat.reduceSub, Array.replicate_succ, Array.replicate_zero, List.push_toArray, List.append_toArray, List.nil_append, List.cons_append]
  gi_wp2_with (first
    | (gi_at_make; refine wpListIn_make_own _ rfl _ _ 71 rfl w.heap.size 54 i0 (.int .u64 0) 1 Try.underlying71 HI.out.1 HI.out.2.1 HI.out.2.2.1 _ _ _ ((xs.length + 6) / 7) rfl rfl (by omega) (by rw [HI.out.2.2.2]; omega) (by unfold maxLen; omega) (Nat.le_refl _) ?_; intro w1 hown1 hgrow1; have HO1 := Lib.hid hown1; have HG1 := Lib.hid hgrow1; clear hown1 hgrow1)
    | (refine ⟨trivial, ?_⟩; gi_at_call 43; refine (elements_in _ _ _ _ _).mono ?_; rintro e w' ⟨rfl, rfl⟩))
  have hB1 : Below w.heap.size w w1 := (Below.refl _ _).grown HG1.out (Nat.le_refl _) (by simp)
  have hz1 := hB1.size
  have hown1 := HO1.out
  obtain ⟨W1, hW1⟩ : ∃ W1, w1.alloc (.cells #[.slice (some ⟨w.heap.size, 0, none⟩) 0 ((xs.length + 6) / 7)] 71) = W1 := ⟨_, rfl⟩
  have bO : Boxed W1 w1.heap.size 71 (.slice (some ⟨w.heap.size, 0, none⟩) 0 ((xs.length + 6) / 7)) := by rw [← hW1]; exact Boxed.new w1 71 _
  have hrow1 : W1.ownsRow w.heap.size 54 1 (.slice (some ⟨w.heap.size, 0, none⟩) 0 ((xs.length + 6) / 7)) 0 [] := by rw [← hW1]; exact hown1.alloc _
  have hs1 : W1.heap.size = w1.heap.size + 1 := by rw [← hW1]; simp
  have hB2 : Below w.heap.size w W1 := by rw [← hW1]; exact hB1.alloc hz1 _
  rw [hW1]
  have bN := Boxed.new W1 24 (.slice A xs.length c)
  have hB0 : Below w.heap.size w (W1.alloc (.cells #[.slice A xs.length c] 24)) := hB2.alloc hB2.size _
  rw [← hs1]
  have hlt1 : w1.heap.size < W1.heap.size := by omega
  clear hs1
  refine wpIn_rangeFunc_ownG rfl (by omega) (gf := 52) (lb := #[.pointer (some ⟨W1.heap.size, 0, none⟩)]) rfl trivial (enters_of Try.func52 (by kernel_rfl) rfl)
    (each_stops _ (by omega) W1.heap.size w.heap.size A c xs HX.out hl hcap _ (by simp) (by simp; omega) bN.cell (HS.out.below hB0)) KB.trans (KB.put (by simp; omega) (by simp)) (Below.refl _ _) (fun _ => rfl)
    (fun pre W => (∃ v, Boxed W w1.heap.size 71 v ∧ W.ownsRow w.heap.size 54 1 v pre.length (pre.map (Value.int .u64)) ∧ True) ∧ (Boxed W W1.heap.size 24 (.slice A xs.length c) ∧ Below w.heap.size w W))
    (fun _ _ _ => False)
    (OwnFrom.and (Own.from (holdsRow_own w.heap.size w1.heap.size 71 54 1 (fun pre : List Int => pre.length) (fun pre : List Int => pre.map (Value.int .u64)) (fun _ _ => True)) _) (OwnFrom.and (Own.from (boxed_own _ _ _) _) (ownFrom_below (Nat.le_refl _) (by simp; omega))))
    (fun _ _ _ _ _ hs _ _ => hs)
    ⟨⟨_, bO.alloc _, hrow1.alloc _, trivial⟩, bN, hB0⟩
    (fun x => { tmps := #[.slice A xs.length c, undef, .slice none 0 0, .pointer (some ⟨w1.heap.size, 0, none⟩), .int .u64 x, .slice A xs.length c,
          .int .i64 xs.length, .int .i64 (xs.length + 7), .int .i64 (xs.length + 7 - 1), .int .i64 ((xs.length + 7 - 1) / 7),
          .slice (some ⟨w.heap.size, 0, none⟩) 0 ((xs.length + 6) / 7), .slice A xs.length c,
          .func (.func 52) #[] #[.pointer (some ⟨W1.heap.size, 0, none⟩)], .int .u64 x, undef, undef, undef, undef, undef], defers := [] }) ?assign ?body ?done ?stop
  case assign =>
    intro l x W K hK
    gi_wp2
    exact hK
  case body =>
    rintro l pre x W ⟨⟨v, hv, hrow, _⟩, hbs, hB⟩ hlt
    have hc := hv.cell
    have HR := Lib.hid hrow
    have HB := Lib.hid hB
    clear hrow hB
    gi_wp2_with (gi_at_builtin; refine wpListIn_append_own _ rfl _ _ 71 rfl w.heap.size 54 i0 (.int .u64 0) 1 8 Try.underlying71 HI.out.1 HI.out.2.1 HI.out.2.2.1 HI.out.2.2.2 rfl (by decide) _ _ _ rfl (HR.out.alloc _) ⟨W.heap.size, 0, none⟩ 1 1 [.int .u64 x] rfl rfl (cell_one_new _ _ _) (by simp [Value.oneCell']) (by unfold maxLen; omega) (by omega) (by have := HB.out.size; simp; omega) ?_; intro v' w1' hown' hgrow _; obtain ⟨g', cap', rfl⟩ := ownsRow_succ hown'; obtain ⟨hv1, hv2, hr2, hk2, hb2⟩ := hv.appended (by decide) HR.out HB.out.size (by omega) hown' hgrow; have hc1 := hv1.cell; have hf1 := hv1.frozen; have hbs' := ((hbs.alloc _).kept hgrow (hbs.not_row (by decide) HR.out)).other (show W1.heap.size ≠ w1.heap.size by omega) (.slice (some ⟨g', 0, none⟩) (pre.length + 1) cap'))
    exact ⟨hk2.from _, ⟨hb2, hbs'.trans hbs.symm⟩, ⟨_, hv2, by simpa using hr2, trivial⟩, hbs', HB.out.trans hb2⟩
  case done =>
    rintro D ys W hD rfl ⟨⟨v, hv, hrow, _⟩, _, hB⟩ hK
    have hc := hv.cell
    gi_wp2
    refine ⟨by simp, .inl ⟨_, _, rfl, run_takeDeferred hK, ?_⟩⟩
    exact ⟨_, results_tmp rfl _ _ _, v, rfl, ownsRow_putObj hrow _ hK rfl, hB.trans (belowK_b (w := w) (Nat.le_refl _) W D _ _ (by simp at hD; omega) hK rfl rfl)⟩
  case stop =>
    rintro D c pre W _ _ h _
    exact h.elim
end Go.Proofs.Ytgkdkkppeeikoaa

/- The chapter's examples hold, and what the laws' walks share. -/
namespace Go.Proofs.Ytgkdkkppeeikoaa
open Go.ChangeShapes Go.WideShapes Go.ChangeAt Go.RowKit Gs
set_option linter.unusedVariables false

theorem add_zero_off (g j : Nat) : (⟨g, 0, none⟩ : Addr).add j = ⟨g, j, none⟩ := by
  unfold Addr.add; by_cases h : j = 0 <;> simp [h]

theorem own_slice {w : World} {B : Nat} {v : Value} {xs : List Int} (h : OwnU w B v xs) : ∃ A c, v = .slice A xs.length c ∧ xs.length ≤ c ∧ c ≤ maxLen ∧ SI w w.heap.size .u64 A xs := by
  rcases h.2 with ⟨rfl, h0⟩ | ⟨g, cap, cur, rfl, hb, hg, hn, hc, _, _⟩
  · rw [h0]
    exact ⟨none, 0, rfl, Nat.le_refl _, by unfold maxLen; omega, fun j hj => by omega⟩
  · refine ⟨some ⟨g, 0, none⟩, cap, rfl, hn, hc, fun j hj => ⟨_, rfl, (Array.getElem?_eq_some_iff.1 hg).1, ?_⟩⟩
    refine h.cells (g := g) rfl j _ ?_
    rw [List.getElem?_map, List.getElem?_eq_getElem hj]; rfl

theorem SI_block {w : World} {g B : Nat} {k : IntKind} {t : TypeId} {fr : Nat × Nat} {xs : List Int} {cs : Array Value} (h : w.heap[g]? = some (.cells cs t fr)) (hcs : cs = (xs.map (Value.int k)).toArray) (hb : g < B) : SI w B k (some ⟨g, 0, none⟩) xs := fun j hj => by
  refine ⟨_, rfl, hb, ?_⟩
  rw [add_zero_off, cell_of_row w g j cs t fr h, hcs]
  simp [List.getElem?_eq_getElem hj]

theorem SI_new (w : World) {B : Nat} {k : IntKind} {t : TypeId} {xs : List Int} {cs : Array Value} (hcs : cs = (xs.map (Value.int k)).toArray) (hB : w.heap.size < B) {g : Nat} (hg : g = w.heap.size) : SI (w.alloc (.cells cs t)) B k (some ⟨g, 0, none⟩) xs := by
  subst hg; exact SI_block (World.alloc_heap_new w _) hcs hB

theorem fof_live : fof [1, 0, 0, 0, 0, 0, 0, 2] = [1, 2] := by decide +kernel

theorem finv_two : finv 2 = 1152921504606846976 := (inv_unique (by decide +kernel) (by unfold El PP; omega)).symm

theorem below_drewN {B : Nat} {w w' : World} (h : Below B w w') (n : Nat) : Below B w (w'.drewN n) := by
  induction n with
  | zero => exact h
  | succ n ih => exact ih.drew

/-- a has 64 bits: found by its form. -/
class IsU (a : Int) : Prop where
  lo : 0 ≤ a
  hi : a < 18446744073709551616
theorem IsU.of {a : Int} (h : U64 a) : IsU a := ⟨h.1, h.2⟩
instance (a b : Int) : IsU (fadd a b) := IsU.of (fadd_el a b).u64
instance (a b : Int) : IsU (fsub a b) := IsU.of (fsub_el a b).u64
instance (a b : Int) : IsU (fmul a b) := IsU.of (fmul_el a b).u64
instance (a : Int) (n : Nat) : IsU (fpow a n) := IsU.of (fpow_el a n).u64
instance (a : Int) : IsU (fred a) := IsU.of (fred_el a).u64
instance (a : Int) : IsU (finv a) := IsU.of (finv_el a).u64
instance (x : Int) (l : List Int) : IsU (feval x l) := IsU.of (feval_el x l).u64
instance : IsU 0 := ⟨by omega, by omega⟩
instance : IsU 1 := ⟨by omega, by omega⟩
theorem isU_wf {a : Int} (h : (Lit.int .u64 a).wf = true) : IsU a := by
  have : 0 ≤ a ∧ a ≤ 18446744073709551615 := by simpa [Lit.wf, IntKind.min, IntKind.max, IntKind.signed, IntKind.bits] using h
  exact ⟨this.1, by omega⟩

theorem Add_i (a b : Int) [IsU a] [IsU b] (w : World) : Calls Try.prog 46 #[.int .u64 a, .int .u64 b] w fun e w' => e = .returned (.int .u64 (fadd a b)) ∧ w = w' :=
  Add_any a b IsU.lo IsU.hi IsU.lo IsU.hi w
theorem Mul_i (a b : Int) [IsU a] [IsU b] (w : World) : Calls Try.prog 56 #[.int .u64 a, .int .u64 b] w fun e w' => e = .returned (.int .u64 (fmul a b)) ∧ w = w' :=
  Mul_any a b IsU.lo IsU.hi IsU.lo IsU.hi w
theorem Pow_i (a n : Int) [IsU a] [IsU n] (w : World) : Calls Try.prog 49 #[.int .u64 a, .int .u64 n] w fun e w' => e = .returned (.int .u64 (fpow a n.toNat)) ∧ w = w' :=
  Pow_any a n IsU.lo IsU.hi IsU.lo IsU.hi w
theorem toNat_expF : (2305843009213693950 : Int).toNat = expF := by decide +kernel

theorem Pow_F (a : Int) [IsU a] (w : World) : Calls Try.prog 49 #[.int .u64 a, .int .u64 2305843009213693950] w fun e w' => e = .returned (.int .u64 (fpow a expF)) ∧ w = w' := by
  have h := Pow_any a 2305843009213693950 IsU.lo IsU.hi (by omega) (by omega) w
  rw [toNat_expF] at h
  exact h
theorem Pow_I (a : Int) [IsU a] (w : World) : Calls Try.prog 49 #[.int .u64 a, .int .u64 2305843009213693949] w fun e w' => e = .returned (.int .u64 (finv a)) ∧ w = w' := by
  have h := Pow_any a 2305843009213693949 IsU.lo IsU.hi (by omega) (by omega) w
  rw [toNat_expI] at h
  exact h
theorem Pow_n (a n : Int) (k : Nat) (hk : n.toNat = k) [IsU a] [IsU n] (w : World) : Calls Try.prog 49 #[.int .u64 a, .int .u64 n] w fun e w' => e = .returned (.int .u64 (fpow a k)) ∧ w = w' := by
  subst hk; exact Pow_i a n w


/-- A slice of integers that came in: nil, or a row of 'cap' cells that hold the numbers 'zs'. -/
def IsRow (k : IntKind) (w : World) (a : Option Addr) (len cap : Nat) (zs : List Int) : Prop :=
  (a = none ∧ len = 0 ∧ cap = 0 ∧ zs = []) ∨
  ∃ x, a = some x ∧ len ≤ cap ∧ cap ≤ maxLen ∧ zs.length = cap ∧ (∀ i, i < zs.length → w.cell? (x.add i) = some (.int k (zs.getD i 0))) ∧ ∀ n ∈ zs, (Lit.int k n).wf = true

theorem cell_lt {w : World} {a : Addr} {v : Value} (h : w.cell? a = some v) : a.block < w.heap.size := by
  rcases Nat.lt_or_ge a.block w.heap.size with hlt | hge
  · exact hlt
  · unfold World.cell? at h; rw [Array.getElem?_eq_none hge] at h; cases h

theorem row_si {k : IntKind} {w : World} {a : Option Addr} {len cap : Nat} {zs : List Int} (h : IsRow k w a len cap zs) :
    ∃ xs : List Int, xs.length = len ∧ len ≤ cap ∧ cap ≤ maxLen ∧ SI w w.heap.size k a xs ∧ ∀ n ∈ xs, (Lit.int k n).wf = true := by
  rcases h with ⟨rfl, rfl, rfl, rfl⟩ | ⟨x, rfl, hl, hm, hz, hc, hw⟩
  · exact ⟨[], rfl, Nat.le_refl _, by unfold maxLen; omega, fun j hj => by simp at hj, fun n hn => by simp at hn⟩
  · refine ⟨zs.take len, by simp; omega, hl, hm, fun j hj => ?_, fun n hn => hw n (List.mem_of_mem_take hn)⟩
    have hj' : j < len := by simp at hj; omega
    have := hc j (by omega)
    refine ⟨x, rfl, by have := cell_lt this; rwa [block_of_add] at this, ?_⟩
    rw [this, List.getElem?_take_of_lt hj', List.getD_eq_getElem?_getD]

theorem u8_wf {n : Int} (h : (Lit.int .u8 n).wf = true) : 0 ≤ n ∧ n < 256 := by
  have : 0 ≤ n ∧ n ≤ 255 := by simpa [Lit.wf, IntKind.min, IntKind.max, IntKind.signed, IntKind.bits] using h
  omega
theorem u64_wf {n : Int} (h : (Lit.int .u64 n).wf = true) : 0 ≤ n ∧ n < 18446744073709551616 := by
  have : 0 ≤ n ∧ n ≤ 18446744073709551615 := by simpa [Lit.wf, IntKind.min, IntKind.max, IntKind.signed, IntKind.bits] using h
  omega
theorem SI.on {w w' : World} {k : IntKind} {A : Option Addr} {xs : List Int} (h : SI w w.heap.size k A xs) (hb : Below w.heap.size w w') : SI w' w'.heap.size k A xs := (h.below hb).more hb.size


theorem madeCells_u64 (n : Nat) : (madeCells (Value.int .u64 0).cells (n * 1)).toList = (List.replicate n (0 : Int)).map (Value.int .u64) := by
  rw [Nat.mul_one, List.map_replicate]
  have h : (fun x : Nat => [Value.int IntKind.u64 0][x % 1]?.getD default) = fun _ => Value.int IntKind.u64 0 := by
    funext x; rw [Nat.mod_one]; rfl
  simp [madeCells, Value.cells, h]
  rw [List.map_const', List.length_range]

theorem own_made {w : World} {B g n : Nat} (h : w.ownsRow B 54 1 (.slice (some ⟨g, 0, none⟩) n n) n (madeCells (Value.int .u64 0).cells (n * 1)).toList) : OwnU w B (.slice (some ⟨g, 0, none⟩) n n) (List.replicate n 0) := by
  unfold OwnU
  rw [List.length_replicate, ← madeCells_u64]
  exact h
theorem own_set {w : World} {B g n c : Nat} {xs : List Int} (h : OwnU w B (.slice (some ⟨g, 0, none⟩) n c) xs) (hn : xs.length = n) (k : Nat) (y : Int) :
    OwnU (w.setCell ⟨g, k, none⟩ (.int .u64 y)) B (.slice (some ⟨g, 0, none⟩) n c) (xs.set k y) := by
  subst hn
  unfold OwnU at *
  rw [List.length_set, List.map_set]
  exact (h.stored k _).1
theorem own_at {w : World} {B g n c : Nat} {xs : List Int} (h : OwnU w B (.slice (some ⟨g, 0, none⟩) n c) xs) (hn : xs.length = n) (k : Nat) (hk : k < n) :
    ∃ y, w.cell? ⟨g, k, none⟩ = some (.int .u64 y) ∧ xs[k]? = some y ∧ w.frozen? ⟨g, k, none⟩ = false ∧ B ≤ g := by
  subst hn
  refine ⟨xs[k], ?_, List.getElem?_eq_getElem hk, World.ownsRow.frozenAt h k, ?_⟩
  · rw [World.ownsRow.cellAt h k (by omega), List.getElem?_map, List.getElem?_eq_getElem hk]; rfl
  · rcases h.2 with ⟨h', _⟩ | ⟨g', cap', cur, h', hb, _⟩
    · simp at h'
    · simp only [Value.slice.injEq, Option.some.injEq, Addr.mk.injEq, and_true, true_and] at h'
      omega

theorem own_si {w : World} {B n c : Nat} {A : Option Addr} {xs : List Int} (h : OwnU w B (.slice A n c) xs) : SI w w.heap.size .u64 A xs := by
  obtain ⟨A', c', e, _, _, hs⟩ := own_slice h
  cases e
  exact hs

def Reads (w : World) (B size : Nat) (A : Option Addr) (n : Nat) (xs : List Value) : Prop :=
  xs.length = n * size ∧ (0 < n → ∃ ad, A = some ad ∧ ad.block < B ∧ ∀ j u, xs[j]? = some u → w.cell? (ad.add j) = some u)

section
variable {w w' : World} {B B' size n : Nat} {A : Option Addr} {xs : List Value}
theorem Reads.none_ : Reads w B size A 0 [] := ⟨by simp, fun h => absurd h (by omega)⟩
theorem Reads.at_ {k : Nat} (h : Reads w B 1 A n xs) (hk : k < n) : ∃ ad u, A = some ad ∧ ad.block < B ∧ xs[k]? = some u ∧ w.cell? (ad.add k) = some u := by
  obtain ⟨ad, e, hb, hc⟩ := h.2 (by omega)
  have hl : k < xs.length := by have := h.1; omega
  exact ⟨ad, xs[k], e, hb, List.getElem?_eq_getElem hl, hc k _ (List.getElem?_eq_getElem hl)⟩
theorem Reads.keep (h : Reads w B size A n xs) (hk : ∀ p : Addr, p.block < B → w'.cell? p = w.cell? p) : Reads w' B size A n xs :=
  ⟨h.1, fun hn => by
    obtain ⟨ad, e, hb, hc⟩ := h.2 hn
    exact ⟨ad, e, hb, fun j u hu => (hk _ (by rw [block_of_add]; exact hb)).trans (hc j u hu)⟩⟩
theorem Reads.more (h : Reads w B size A n xs) (hB : B ≤ B') : Reads w B' size A n xs :=
  ⟨h.1, fun hn => by
    obtain ⟨ad, e, hb, hc⟩ := h.2 hn
    exact ⟨ad, e, by omega, hc⟩⟩
theorem Reads.below (h : Reads w B size A n xs) (hb : Below B w w') : Reads w' B size A n xs := h.keep fun _ hp => hb.cell hp
theorem Reads.drew (h : Reads w B size A n xs) : Reads w.drew B size A n xs := h
theorem Reads.drewN (h : Reads w B size A n xs) (k : Nat) : Reads (w.drewN k) B size A n xs := h
theorem Reads.alloc (h : Reads w B size A n xs) (hB : B ≤ w.heap.size) (o : Obj) : Reads (w.alloc o) B size A n xs := h.keep fun p hp => World.cell?_alloc_lt w o p (by omega)
theorem Reads.setCell (h : Reads w B size A n xs) {p : Addr} (hB : B ≤ p.block) (u : Value) : Reads (w.setCell p u) B size A n xs :=
  h.keep fun q hq => World.cell?_setCell_other w p q u (fun e => by subst e; omega)
theorem Reads.grown (h : Reads w B size A n xs) {row : Option Nat} (hg : w.grownBy w' row) (hB : B ≤ w.heap.size) (hr : ∀ g, row = some g → B ≤ g) : Reads w' B size A n xs :=
  h.keep fun p hp => World.cell?_of_block (hg.block p.block (by omega) (fun e => by have := hr _ e.symm; omega))
theorem Reads.cut (h : Reads w B size A n xs) {k cap : Nat} (hk : k ≤ n) (hc : n ≤ cap) :
    Reads w B size (if cap = k then A else A.map (·.add (k * size))) (n - k) (xs.drop (k * size)) := by
  refine ⟨by rw [List.length_drop, h.1, Nat.sub_mul], fun hn => ?_⟩
  obtain ⟨ad, rfl, hb, hcell⟩ := h.2 (by omega)
  rw [if_neg (by omega)]
  refine ⟨ad.add (k * size), rfl, by rw [block_of_add]; exact hb, fun j u hu => ?_⟩
  rw [add_of_add]
  exact hcell _ u (by rw [← hu, List.getElem?_drop])
theorem Reads.of_own {base : Nat} {e : TypeId} {c : Nat} (h : w.ownsRow base e size (.slice A n c) n xs) : Reads w w.heap.size size A n xs := by
  refine ⟨h.1, fun hn => ?_⟩
  obtain ⟨g, cap, hv, _, hlt⟩ := h.form hn
  have hA : A = some ⟨g, 0, none⟩ := by injection hv
  subst hA
  exact ⟨_, rfl, hlt, h.cells (g := g) rfl⟩
end
section
variable {P : Program} (w : World)

theorem run_append_of_nil (base : Nat) (t ty e : TypeId) (i : TypeInfo) (size : Nat) (ht : P.underlying t = some (.slice e)) (hi : P.info? e = some i)
    (v : Value) (n : Nat) (xs : List Value) (hown : w.ownsRow base e size v n xs) (c : Nat) : (Builtin.append_ #[t, t] ty #[v, .slice none 0 c]).run P w = .ok v w := by
  rcases hown.2 with ⟨rfl, rfl⟩ | ⟨g, cap, cur, rfl, _, _, hnc, _⟩
  · simp [Builtin.append_, run_underlying ht, sizeOf, typeInfo, hi, Builtin.lenOf, Builtin.firstCells]
  · simp [Builtin.append_, run_underlying ht, sizeOf, typeInfo, hi, Builtin.lenOf, Builtin.firstCells, hnc, storeCells]

theorem run_append_any (base : Nat) (t ty e : TypeId) (i : TypeInfo) (z : Value) (size bytes : Nat) (ht : P.underlying t = some (.slice e)) (hi : P.info? e = some i) (hz : i.zero = some z)
    (hsize : i.size = size) (hby : i.bytes = bytes) (hzs : z.cells.size = size) (hsz : 0 < size)
    (v : Value) (n : Nat) (xs : List Value) (hown : w.ownsRow base e size v n xs)
    (B : Nat) (A : Option Addr) (m c : Nat) (news : List Value) (hr : Reads w B size A m news) (h1 : ∀ u ∈ news, u.oneCell' = true)
    (h63 : n + m ≤ maxLen) (hbytes : (n + m) * bytes ≤ 140737488355328) (hbase : base ≤ w.heap.size) :
    ∃ v' w', (Builtin.append_ #[t, t] ty #[v, .slice A m c]).run P w = .ok v' w' ∧ w'.ownsRow base e size v' (n + m) (xs ++ news) ∧ w.grownBy w' v.ownBlock ∧
      (v'.ownBlock = v.ownBlock ∨ v'.ownBlock = some w.heap.size) := by
  rcases A with _ | ad
  · have hm : m = 0 := by
      rcases Nat.eq_zero_or_pos m with h0 | h0
      · exact h0
      · obtain ⟨ad, h, _⟩ := hr.2 h0
        cases h
    subst hm
    have hn : news = [] := List.eq_nil_of_length_eq_zero (by simpa using hr.1)
    subst hn
    exact ⟨v, w, run_append_of_nil w base t ty e i size ht hi v n xs hown c, by simpa using hown, World.grownBy.refl w _, .inl rfl⟩
  · have hcells : ∀ j u, news[j]? = some u → w.cell? (ad.add j) = some u := by
      intro j u hu
      rcases Nat.eq_zero_or_pos m with h0 | h0
      · subst h0
        have hn : news = [] := List.eq_nil_of_length_eq_zero (by simpa using hr.1)
        subst hn
        simp at hu
      · obtain ⟨ad', h, _, hc⟩ := hr.2 h0
        injection h with h
        subst h
        exact hc j u hu
    obtain ⟨v', w', hrun, h2, h3, _, h5⟩ := run_append_own_at (P := P) w base t ty e i z size bytes ht hi hz hsize hby hzs hsz v n xs hown ad m c news hr.1 hcells h1 h63 hbytes hbase
    exact ⟨v', w', hrun, h2, h3, h5⟩

theorem wp_append_any {o : Oper} {a : Act} {K : Act → World → Prop} {Q : Exit → Act → World → Prop} (s x : Operand) (t : TypeId)
    (ho : o.op = .call { callee := .builtin .append, args := #[s, x], argTypes := #[t, t] })
    (base : Nat) (e : TypeId) (i : TypeInfo) (z : Value) (size bytes : Nat) (ht : P.underlying t = some (.slice e)) (hi : P.info? e = some i) (hz : i.zero = some z)
    (hsize : i.size = size) (hby : i.bytes = bytes) (hzs : z.cells.size = size) (hsz : 0 < size)
    (v : Value) (n : Nat) (xs : List Value) (hs : a.eval s = v) (hown : w.ownsRow base e size v n xs)
    (B : Nat) (A : Option Addr) (m c : Nat) (news : List Value) (hx : a.eval x = .slice A m c) (hr : Reads w B size A m news) (h1 : ∀ u ∈ news, u.oneCell' = true)
    (h63 : n + m ≤ maxLen) (hbytes : (n + m) * bytes ≤ 140737488355328) (hbase : base ≤ w.heap.size)
    (h : ∀ v' w', w'.ownsRow base e size v' (n + m) (xs ++ news) → w.grownBy w' v.ownBlock → (v'.ownBlock = v.ownBlock ∨ v'.ownBlock = some w.heap.size) → K (a.put o.dst v') w') : o.wp P a w K Q := by
  obtain ⟨v', w', hrun, h2, h3, h4⟩ := run_append_any (P := P) w base t o.type e i z size bytes ht hi hz hsize hby hzs hsz v n xs hown B A m c news hr h1 h63 hbytes hbase
  unfold Oper.wp execOp
  simp only [ho, resolve, invoke, builtin, Sem.run_bind, Sem.run_pure, Result.andThen_ok, List.map_toArray, List.map_cons, List.map_nil, hs, hx, hrun]
  exact h v' w' h2 h3 h4

theorem wpList_append_any {ops : Array Oper} {rest : List Oper} {o : Oper} {a : Act} {Q : Exit → Act → World → Prop} (hgd : o.guard = none) (s x : Operand) (t : TypeId)
    (ho : o.op = .call { callee := .builtin .append, args := #[s, x], argTypes := #[t, t] })
    (base : Nat) (e : TypeId) (i : TypeInfo) (z : Value) (size bytes : Nat) (ht : P.underlying t = some (.slice e)) (hi : P.info? e = some i) (hz : i.zero = some z)
    (hsize : i.size = size) (hby : i.bytes = bytes) (hzs : z.cells.size = size) (hsz : 0 < size)
    (v : Value) (n : Nat) (xs : List Value) (hs : a.eval s = v) (hown : w.ownsRow base e size v n xs)
    (B : Nat) (A : Option Addr) (m c : Nat) (news : List Value) (hx : a.eval x = .slice A m c) (hr : Reads w B size A m news) (h1 : ∀ u ∈ news, u.oneCell' = true)
    (h63 : n + m ≤ maxLen) (hbytes : (n + m) * bytes ≤ 140737488355328) (hbase : base ≤ w.heap.size)
    (h : ∀ v' w', w'.ownsRow base e size v' (n + m) (xs ++ news) → w.grownBy w' v.ownBlock → (v'.ownBlock = v.ownBlock ∨ v'.ownBlock = some w.heap.size) → wpList P ops Q rest (a.put o.dst v') w') : wpList P ops Q (o :: rest) a w :=
  wpList_plain hgd fun _ hK => wp_append_any w s x t ho base e i z size bytes ht hi hz hsize hby hzs hsz v n xs hs hown B A m c news hx hr h1 h63 hbytes hbase fun v' w' h2 h3 h4 => hK _ _ (h v' w' h2 h3 h4)

end

theorem reads_si {w : World} {B : Nat} {k : IntKind} {A : Option Addr} {xs : List Int} (h : SI w B k A xs) : Reads w B 1 A xs.length (xs.map (Value.int k)) := by
  refine ⟨by simp, fun hn => ?_⟩
  obtain ⟨ad, e, hb, _⟩ := h 0 hn
  refine ⟨ad, e, hb, fun j u hu => ?_⟩
  have hj : j < xs.length := by
    rcases Nat.lt_or_ge j xs.length with h1 | h1
    · exact h1
    · rw [List.getElem?_eq_none (by simpa using h1)] at hu; cases hu
  obtain ⟨ad', e', _, hc⟩ := h j hj
  rw [e] at e'
  cases e'
  rw [hc]
  rw [List.getElem?_map, List.getElem?_eq_getElem hj] at hu
  simpa [List.getElem?_eq_getElem hj] using hu
theorem one_u64 (xs : List Int) : ∀ u ∈ xs.map (Value.int .u64), u.oneCell' = true := by
  intro u hu
  obtain ⟨z, _, rfl⟩ := List.mem_map.1 hu
  rfl

theorem own_below {a w : World} {B : Nat} {e : TypeId} {size n : Nat} {v : Value} {xs : List Value} (h : a.ownsRow B e size v n xs) (hb : Below a.heap.size a w) : w.ownsRow B e size v n xs :=
  h.kept (row := none) ⟨hb.os, hb.tape, hb.output, hb.size, fun i hi _ => hb.block i hi⟩ (by cases hv : v.ownBlock <;> simp)
theorem own_ge {w : World} {B : Nat} {e : TypeId} {size n : Nat} {v : Value} {xs : List Value} (h : w.ownsRow B e size v n xs) : ∀ k, v.ownBlock = some k → B ≤ k := by
  intro k hk
  rcases h.2 with ⟨rfl, _⟩ | ⟨g, cap, cur, rfl, hb, _⟩
  · simp [Value.ownBlock] at hk
  · simp [Value.ownBlock] at hk; omega
theorem own_empty (w : World) {B g : Nat} (hB : B ≤ g) (hg : g = w.heap.size) : (w.alloc (.cells #[] 54)).ownsRow B 54 1 (.slice (some ⟨g, 0, none⟩) 0 0) 0 [] := by
  subst hg
  exact ⟨rfl, .inr ⟨_, 0, #[], rfl, hB, World.alloc_heap_new w _, Nat.le_refl _, by unfold maxLen; omega, rfl, rfl⟩⟩
theorem own_u {w : World} {B n : Nat} {v : Value} {xs : List Int} {vs : List Value} (h : w.ownsRow B 54 1 v n vs) (hn : n = xs.length) (hv : vs = xs.map (Value.int .u64)) : OwnU w B v xs := by
  subst hn hv; exact h
theorem SI.take_ {w : World} {B : Nat} {k : IntKind} {A : Option Addr} {xs : List Int} (h : SI w B k A xs) (n : Nat) : SI w B k A (xs.take n) := fun j hj => by
  have hj' : j < n ∧ j < xs.length := by rw [List.length_take] at hj; omega
  obtain ⟨ad, e, hb, hc⟩ := h j hj'.2
  exact ⟨ad, e, hb, by rw [hc, List.getElem?_take_of_lt hj'.1]⟩
theorem SI.cut {w : World} {B : Nat} {k : IntKind} {A : Option Addr} {xs : List Int} (h : SI w B k A xs) (n : Nat) {cap : Nat} (hc : xs.length ≤ cap) : SI w B k (if cap = n then A else A.map (·.add n)) (xs.drop n) := fun j hj => by
  have hj' : n + j < xs.length := by rw [List.length_drop] at hj; omega
  obtain ⟨ad, rfl, hb, hcell⟩ := h (n + j) hj'
  refine ⟨ad.add n, by rw [if_neg (by omega)]; rfl, by rw [block_of_add]; exact hb, ?_⟩
  rw [add_of_add, hcell, List.getElem?_drop]
theorem Of_len (A : Option Addr) (n c : Nat) (xs : List Int) (hn : xs.length = n) (hx : ∀ x ∈ xs, 0 ≤ x ∧ x < 256) (hl : n ≤ 70368744177664) (hcap : n ≤ c) (w : World) (hs : SI w w.heap.size .u8 A xs) :
    Calls Try.prog 38 #[.slice A n c] w fun e w' => ∃ v, e = .returned v ∧ OwnU w' w.heap.size v (fof xs) ∧ Below w.heap.size w w' := by
  subst hn; exact Of_any A c xs hx hl hcap w hs

theorem i64_and_mask (n : Int) : bits .and .i64 n 65535 = n % 65536 := by
  have h127 : (BitVec.ofInt 64 65535).toNat = 2 ^ 16 - 1 := by decide
  have key : (BitVec.ofInt 64 n &&& BitVec.ofInt 64 65535).toNat = (n % ((2 ^ 64 : Nat) : Int)).toNat % 2 ^ 16 := by
    rw [BitVec.toNat_and, BitVec.toNat_ofInt, h127, Nat.and_two_pow_sub_one_eq_mod]
  show IntKind.i64.wrap ((BitVec.ofInt 64 n &&& BitVec.ofInt 64 65535).toNat : Nat) = n % 65536
  rw [key, IntKind.wrap_i64]
  omega

theorem cell_far {w : World} {p q : Addr} {u v : Value} (h : w.cell? q = some v) (hne : q.block ≠ p.block) : (w.setCell p u).cell? q = some v :=
  (World.cell?_setCell_other w p q u (fun e => hne (by rw [e]))).trans h
theorem cell_near {w : World} {p : Addr} {u v : Value} (h : w.cell? p = some v) : (w.setCell p u).cell? p = some u :=
  World.cell?_setCell_same' _ _ _ (by rw [h]; rfl)
theorem block_add_ne {a : Addr} {n b : Nat} (h : a.block < b) : (a.add n).block ≠ b := by rw [block_of_add]; omega
theorem own_one (w : World) (z : Int) {B g : Nat} (hB : B ≤ g) (hg : g = w.heap.size) : (w.alloc (.cells #[.int .u64 z] 54)).ownsRow B 54 1 (.slice (some ⟨g, 0, none⟩) 1 1) 1 [.int .u64 z] := by
  subst hg
  exact ⟨rfl, .inr ⟨_, 1, #[.int .u64 z], rfl, hB, World.alloc_heap_new w _, Nat.le_refl _, by unfold maxLen; omega, rfl, rfl⟩⟩
theorem isU_fred (a : Int) : IsU (fred a) := inferInstance
theorem Add_s (a b : Int) [IsU a] [IsU b] (w : World) : Calls Try.prog 46 #[.int .u64 a, .int .u64 b] w fun e w' => e = .returned (.int .u64 (fadd a b)) ∧ w' = w :=
  (Add_i a b w).mono fun _ _ h => ⟨h.1, h.2.symm⟩


section
variable {H : Type} {enc : TypeId × Value → H} {P : Program}
theorem post_of_below {f : Func} {s : ChangeSpec} {apart fresh handsOn again : Bool} {W W' : World} {args : Array Value} {v : Value} {ds gs : List (DataW H)} {before pa pv : List MemPlace}
    (hW : DataW.Whole enc P f.params.toList s.vars apart W args.toList ds gs before)
    (hres : ∀ (b : Nat) (sp : Nat → Bool) (hd : Bool), DataW.TrodAll enc P W' b sp hd f.resultTypes.toList (v.resultList f.resultTypes.size) (s.fn H (ds ++ gs)).results [])
    (hargs : ∀ sp : Nat → Bool, (∀ p ∈ before, sp p.block = true) → DataW.TrodAll enc P W' 0 sp true f.params.toList args.toList (s.fn H (ds ++ gs)).args pa)
    (hvars : ∀ sp : Nat → Bool, (∀ p ∈ before, sp p.block = true) → DataW.TrodVars enc P W' sp s.vars (s.fn H (ds ++ gs)).vars pv)
    (hps : before = pa ++ pv) (hb : Below W.heap.size W W')
    (hok : ∀ (j : Nat) (t : TypeId) (r : Value), f.resultTypes[j]? = some t → (v.resultList f.resultTypes.size)[j]? = some r → Value.okWide P W' .any 0 t r) :
    s.post enc P f apart fresh handsOn again W args v W' := by
  have hlt : ∀ p ∈ before, p.block < W.heap.size := fun p hp => hW.lt p hp
  have hold : ∀ p ∈ before, (fun b => decide (b < W.heap.size)) p.block = true := fun p hp => by simpa using hlt p hp
  refine ⟨ds, gs, before, [], pa, pv, hW, hres _ _ _, hargs _ hold, hvars _ hold, World.keptBut_mono (fun p hp => ⟨hp, ?_⟩) (hb.frame (· ∈ before)), fun _ => ?_⟩
  · rw [hps, List.mem_append] at hp
    exact Or.inr hp
  · obtain ⟨_, _, _, _, _, hz, hn⟩ := hW
    refine ⟨hok, _, _, ([] ++ pa) ++ pv, ⟨[] ++ pa, pv, trodAll_append (hargs _ (fun _ _ => rfl)) (hres _ _ _), hvars _ (fun _ _ => rfl), rfl, ?_, ?_⟩, ?_⟩
    · intro b off hp
      have hin : MemPlace.cell b off ∈ before := by rw [hps]; simpa using hp
      rw [hb.frozen (hlt _ hin)]
      exact hz b off hin
    · intro ha
      have := hn ha
      rw [hps] at this
      simpa using this
    · intro p hp _
      rw [hps]
      simpa using hp
end
end Go.Proofs.Ytgkdkkppeeikoaa

/- A block that is known whole: its cells, its marks, what stores and calls leave of it; a world under a new name. -/
namespace Go.Proofs.Ytgkdkkppeeikoaa
open Go.ChangeShapes Go.WideShapes Go.ChangeAt Go.RowKit Gs
set_option linter.unusedVariables false

theorem bcell {W w1 : World} (hb : Below W.heap.size W w1) : (∀ b o, b < W.heap.size → w1.cell? ⟨b, o, none⟩ = W.cell? ⟨b, o, none⟩) ∧ (∀ b o, b < W.heap.size → w1.frozen? ⟨b, o, none⟩ = W.frozen? ⟨b, o, none⟩) :=
  ⟨fun b o h => hb.cell (p := ⟨b, o, none⟩) h, fun b o h => hb.frozen (p := ⟨b, o, none⟩) h⟩

/-- The world under a new name, with what is known of it. -/
theorem wp_named {P : Program} {c : Code} {K : Exit → Act → World → Prop} {a : Act} {W : World} (Q : World → Prop) (hQ : Q W) (h : ∀ w2, Q w2 → Code.wp P c K a w2) : Code.wp P c K a W := h W hQ

/-- Block g holds the cells cs, and they may be written. -/
def Blk (w : World) (g : Nat) (t : TypeId) (cs : Array Value) : Prop := w.heap[g]? = some (.cells cs t (0, 0))
section
variable {w w' : World} {g : Nat} {t : TypeId} {cs : Array Value}
theorem Blk.lt (h : Blk w g t cs) : g < w.heap.size := (Array.getElem?_eq_some_iff.1 h).1
theorem Blk.cell (h : Blk w g t cs) (i : Nat) : w.cell? ⟨g, i, none⟩ = cs[i]? := by
  unfold Blk at h; simp [World.cell?, h]
theorem Blk.free (h : Blk w g t cs) (i : Nat) : w.frozen? ⟨g, i, none⟩ = false := by
  unfold Blk at h; simp [World.frozen?, h]
theorem Blk.new (w : World) (t : TypeId) (cs : Array Value) : Blk (w.alloc (.cells cs t)) w.heap.size t cs := World.alloc_heap_new w _
theorem Blk.new_at (w : World) (t : TypeId) (cs : Array Value) (hg : g = w.heap.size) : Blk (w.alloc (.cells cs t)) g t cs := by subst hg; exact Blk.new w t cs
theorem Blk.alloc (h : Blk w g t cs) (o : Obj) : Blk (w.alloc o) g t cs := (Below.heap_alloc w o g h.lt).trans h
theorem Blk.drew (h : Blk w g t cs) : Blk w.drew g t cs := h
theorem Blk.drewN (h : Blk w g t cs) (n : Nat) : Blk (w.drewN n) g t cs := h
theorem Blk.other (h : Blk w g t cs) {a : Addr} (ha : g ≠ a.block) (v : Value) : Blk (w.setCell a v) g t cs := (Below.heap_setCell w a v g ha).trans h
theorem Blk.below (h : Blk w g t cs) {B : Nat} (hb : Below B w w') (hg : g < B) : Blk w' g t cs := (hb.block g hg).trans h
theorem Blk.set (h : Blk w g t cs) (i : Nat) (v : Value) : Blk (w.setCell ⟨g, i, none⟩ v) g t (cs.setIfInBounds i v) := by
  unfold Blk at *
  have hlt := (Array.getElem?_eq_some_iff.1 h).1
  simp only [World.setCell, Array.getElem?_modify]
  simp [h]
theorem Blk.set3 {x y z x' y' z' : Value} (h : Blk w g t #[x, y, z]) : Blk (((w.setCell ⟨g, 0, none⟩ x').setCell ⟨g, 1, none⟩ y').setCell ⟨g, 2, none⟩ z') g t #[x', y', z'] := ((h.set 0 x').set 1 y').set 2 z'
theorem Blk.set2 {x y x' y' : Value} (h : Blk w g t #[x, y]) : Blk ((w.setCell ⟨g, 0, none⟩ x').setCell ⟨g, 1, none⟩ y') g t #[x', y'] := (h.set 0 x').set 1 y'
theorem Blk.set1 {x x' : Value} (h : Blk w g t #[x]) : Blk (w.setCell ⟨g, 0, none⟩ x') g t #[x'] := h.set 0 x'
theorem Blk.facts3 {x y z : Value} (h : Blk w g t #[x, y, z]) : (w.cell? ⟨g, 0, none⟩ = some x ∧ w.cell? ⟨g, 1, none⟩ = some y ∧ w.cell? ⟨g, 2, none⟩ = some z) ∧ w.frozen? ⟨g, 0, none⟩ = false ∧ w.frozen? ⟨g, 1, none⟩ = false ∧ w.frozen? ⟨g, 2, none⟩ = false :=
  ⟨⟨h.cell 0, h.cell 1, h.cell 2⟩, h.free 0, h.free 1, h.free 2⟩
theorem Blk.facts2 {x y : Value} (h : Blk w g t #[x, y]) : (w.cell? ⟨g, 0, none⟩ = some x ∧ w.cell? ⟨g, 1, none⟩ = some y) ∧ w.frozen? ⟨g, 0, none⟩ = false ∧ w.frozen? ⟨g, 1, none⟩ = false :=
  ⟨⟨h.cell 0, h.cell 1⟩, h.free 0, h.free 1⟩
theorem Blk.facts1 {x : Value} (h : Blk w g t #[x]) : w.cell? ⟨g, 0, none⟩ = some x ∧ w.frozen? ⟨g, 0, none⟩ = false := ⟨h.cell 0, h.free 0⟩
end
end Go.Proofs.Ytgkdkkppeeikoaa
