/- Contracts of the hash: numbers as bytes. -/
import Derived.Test.YtippfhlljlfcnaaHashD
import Derived.Test.YtippfhlljlfcnaaHashBytes
import Derived.RegionTactic
import Derived.Deep.RegionHeld3
import Derived.Deep.DrawnRows
namespace Go.Proofs.Ytippfhlljlfcnaa
open Go.ChangeShapes Go.WideShapes Go.ChangeAt Go.RowKit Gs
set_option linter.unusedVariables false

theorem Try.info5 : (Try.prog.info? 5).map (fun i => (i.zero, i.size, i.bytes)) = some (some (.int .u8 0), 1, 1) := by kernel_rfl

/-- What a call has made: the slice value v owns the bytes xs, in blocks from B on. -/
def OwnB (w : World) (B : Nat) (v : Value) (xs : List Int) : Prop := w.ownsRow B 5 1 v xs.length (xs.map (Value.int .u8))
theorem Blk.grown {w w' : World} {g : Nat} {t : TypeId} {cs : Array Value} {row : Option Nat} (h : Blk w g t cs) (hg : w.grownBy w' row) (hr : some g ≠ row) : Blk w' g t cs := (hg.block g h.lt hr).trans h
theorem own_b {w : World} {B n : Nat} {v : Value} {xs : List Int} {vs : List Value} (h : w.ownsRow B 5 1 v n vs) (hn : n = xs.length) (hv : vs = xs.map (Value.int .u8)) : OwnB w B v xs := by
  subst hn hv; exact h
theorem own_sliceB {w : World} {B : Nat} {v : Value} {xs : List Int} (h : OwnB w B v xs) : ∃ A c, v = .slice A xs.length c ∧ xs.length ≤ c ∧ c ≤ maxLen ∧ SI w w.heap.size .u8 A xs ∧ ∀ ad, A = some ad → B ≤ ad.block := by
  have hge := own_ge h
  rcases h.2 with ⟨rfl, h0⟩ | ⟨g, cap, cur, rfl, hb, hg, hn, hc, _, _⟩
  · rw [h0]
    exact ⟨none, 0, rfl, Nat.le_refl _, by unfold maxLen; omega, fun j hj => by omega, fun ad e => by cases e⟩
  · refine ⟨some ⟨g, 0, none⟩, cap, rfl, hn, hc, fun j hj => ⟨_, rfl, (Array.getElem?_eq_some_iff.1 hg).1, ?_⟩, fun ad e => by cases e; exact hge _ rfl⟩
    refine h.cells (g := g) rfl j _ ?_
    rw [List.getElem?_map, List.getElem?_eq_getElem hj]; rfl

set_option maxHeartbeats 1000000 in
theorem putNumber_any (v : Value) (xs : List Int) (n : Int) [IsU n] (size : Nat) (hs : size ≤ 8) (base : Nat) (w : World) (hown : OwnB w base v xs) (hbase : base ≤ w.heap.size) (hlen : xs.length ≤ 70368744177664) :
    Calls Try.prog 67 #[v, .int .u64 n, .int .i64 size] w fun e w' => ∃ v', e = .returned v' ∧ OwnB w' base v' (xs ++ be n size) ∧ Below base w w' := by
  have HO := Lib.hid hown
  clear hown
  obtain ⟨i0, hi, hz0, hz1, hz2⟩ := info_parts Try.info5
  have HI := Lib.hid (And.intro hi (And.intro hz0 (And.intro hz1 hz2)))
  clear hi hz0 hz1 hz2
  go_enter Try.func67, Try.ntmps67
  go_wp2_with fail
  go_loopw [0, 9] (fun b i wr => ∃ k : Nat, k ≤ size ∧ i = .int .i64 k ∧ OwnB wr base b (xs ++ (be n size).take k) ∧ Below base w wr) (fun _ i _ => size - (intOf i).toNat)
  case atStart => exact ⟨0, by omega, rfl, by simpa using HO.out, Below.refl _ _⟩
  case round =>
    obtain ⟨k, hk, rfl, ho, hb⟩ := hrel
    have HO' := Lib.hid ho
    have HB := Lib.hid hb
    clear ho hb
    by_cases hlt : k < size
    · have HBy := Lib.hid (be_take n size k hlt)
      have HLen := Lib.hid (show (xs ++ (be n size).take k).length = xs.length + k by rw [List.length_append, List.length_take, be_length, Nat.min_eq_left hk])
      go_wp2_with (at_builtin; refine wpList_append_own _ rfl _ _ 22 rfl base 5 i0 (.int .u8 0) 1 1 Try.underlying22 HI.out.1 HI.out.2.1 HI.out.2.2.1 HI.out.2.2.2 rfl (by decide) _ _ _ rfl (HO'.out.alloc _) ⟨wr.heap.size, 0, none⟩ 1 1 [.int .u8 (n / 2 ^ (8 * (size - 1 - k)) % 256)] rfl rfl (cell_one_new _ _ _) (by simp [Value.oneCell']) (by rw [HLen.out]; unfold maxLen; omega) (by rw [HLen.out]; omega) (by have := HB.out.size; simp; omega) ?_; intro v' w1 hown' hgrow _; have HO2 := Lib.hid hown'; have HG := Lib.hid hgrow; clear hown' hgrow)
      go_roundw
      case rel =>
        refine ⟨k + 1, by omega, by go_num, ?_, ?_⟩
        · rw [HBy.out, ← List.append_assoc]
          exact own_b HO2.out (by simp; omega) (by simp [byt])
        · refine (HB.out.alloc (Nat.le_trans hbase HB.out.size) _).grown HG.out (by have := HB.out.size; simp; omega) (fun g e => ?_)
          exact own_ge HO'.out g e
      case measure => simp [intOf]; omega
    · obtain rfl : k = size := by omega
      have HA := Lib.hid (be_all n k)
      go_wp2_with fail
      go_ret
      exact ⟨_, rfl, by have h := HO'.out; rwa [HA.out] at h, HB.out⟩

theorem putNumber_1 (v : Value) (xs : List Int) (n : Int) [IsU n] (base : Nat) (w : World) (hown : OwnB w base v xs) (hbase : base ≤ w.heap.size) (hlen : xs.length ≤ 70368744177664) :
    Calls Try.prog 67 #[v, .int .u64 n, .int .i64 1] w fun e w' => ∃ v', e = .returned v' ∧ OwnB w' base v' (xs ++ be n 1) ∧ Below base w w' := by
  have h := putNumber_any v xs n 1 (by omega) base w hown hbase hlen
  simpa using h
theorem putNumber_4 (v : Value) (xs : List Int) (n : Int) [IsU n] (base : Nat) (w : World) (hown : OwnB w base v xs) (hbase : base ≤ w.heap.size) (hlen : xs.length ≤ 70368744177664) :
    Calls Try.prog 67 #[v, .int .u64 n, .int .i64 4] w fun e w' => ∃ v', e = .returned v' ∧ OwnB w' base v' (xs ++ be n 4) ∧ Below base w w' := by
  have h := putNumber_any v xs n 4 (by omega) base w hown hbase hlen
  simpa using h
theorem putNumber_8 (v : Value) (xs : List Int) (n : Int) [IsU n] (base : Nat) (w : World) (hown : OwnB w base v xs) (hbase : base ≤ w.heap.size) (hlen : xs.length ≤ 70368744177664) :
    Calls Try.prog 67 #[v, .int .u64 n, .int .i64 8] w fun e w' => ∃ v', e = .returned v' ∧ OwnB w' base v' (xs ++ be n 8) ∧ Below base w w' := by
  have h := putNumber_any v xs n 8 (by omega) base w hown hbase hlen
  simpa using h

set_option maxHeartbeats 1000000 in
theorem Eight_any (n : Int) [IsU n] (w : World) :
    Calls Try.prog 65 #[.int .u64 n] w fun e w' => ∃ v', e = .returned v' ∧ OwnB w' w.heap.size v' (be n 8) ∧ Below w.heap.size w w' := by
  obtain ⟨i0, hi, hz0, hz1, hz2⟩ := info_parts Try.info5
  have HI := Lib.hid (And.intro hi (And.intro hz0 (And.intro hz1 hz2)))
  clear hi hz0 hz1 hz2
  go_enter Try.func65, Try.ntmps65
  go_wp2_with fail
  go_loopw [3, 4] (fun b i wr => ∃ k : Nat, k ≤ 8 ∧ i = .int .i64 (7 - (k : Int)) ∧ OwnB wr w.heap.size b ((be n 8).take k) ∧ Below w.heap.size w wr) (fun _ i _ => (intOf i + 1).toNat)
  case atStart => exact ⟨0, by omega, rfl, World.ownsRow_nil _ _ _ _, Below.refl _ _⟩
  case round =>
    obtain ⟨k, hk, rfl, ho, hb⟩ := hrel
    have HO' := Lib.hid ho
    have HB := Lib.hid hb
    clear ho hb
    by_cases hlt : k < 8
    · have HBy := Lib.hid (be_take n 8 k hlt)
      have HLen := Lib.hid (show ((be n 8).take k).length = k by rw [List.length_take, be_length, Nat.min_eq_left hk])
      obtain ⟨j, hj⟩ : ∃ j : Nat, j = 7 - k := ⟨_, rfl⟩
      have hjj : (7 : Int) - (k : Int) = j := by omega
      have hj7 : j ≤ 7 := by omega
      have HJ := Lib.hid (show 8 - 1 - k = j by omega)
      have HJ2 := Lib.hid (show (7 : Int) - ((k + 1 : Nat) : Int) = (j : Int) - 1 by omega)
      clear hj
      rw [hjj]
      have HJJ := Lib.hid hjj
      clear hjj
      go_wp2_with (at_builtin; refine wpList_append_own _ rfl _ _ 22 rfl w.heap.size 5 i0 (.int .u8 0) 1 1 Try.underlying22 HI.out.1 HI.out.2.1 HI.out.2.2.1 HI.out.2.2.2 rfl (by decide) _ _ _ rfl (HO'.out.alloc _) ⟨wr.heap.size, 0, none⟩ 1 1 [.int .u8 (n / 2 ^ (8 * j) % 256)] rfl rfl (cell_one_new _ _ _) (by simp [Value.oneCell']) (by rw [HLen.out]; unfold maxLen; omega) (by rw [HLen.out]; omega) (by have := HB.out.size; simp; omega) ?_; intro v' w1 hown' hgrow _; have HO2 := Lib.hid hown'; have HG := Lib.hid hgrow; clear hown' hgrow)
      go_roundw
      case rel =>
        refine ⟨k + 1, by omega, by rw [HJ2.out], ?_, ?_⟩
        · rw [HBy.out, HJ.out]
          exact own_b HO2.out (by simp) (by simp [byt])
        · refine (HB.out.alloc HB.out.size _).grown HG.out (by have := HB.out.size; simp; omega) (fun g e => ?_)
          exact own_ge HO'.out g e
      case measure => simp [intOf]
    · obtain rfl : k = 8 := by omega
      have HA := Lib.hid (be_all n 8)
      go_wp2_with fail
      go_ret
      exact ⟨_, rfl, by have h := HO'.out; rwa [HA.out] at h, HB.out⟩

end Go.Proofs.Ytippfhlljlfcnaa
