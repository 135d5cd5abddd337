/- Contracts of names: Up; a row of texts, turned about; Labels. -/
import Derived.Test.YtcmkfomfmjgmpaaNamesD
import Derived.Lib.Bytealg
import Derived.Shelf.Slices.ReverseS
import Derived.Lib.OwnBridge
namespace Go.Proofs.Ytcmkfomfmjgmpaa
open Go.ChangeShapes Go.WideShapes Go.ChangeAt Go.RowKit Go.Shelf Gs
set_option linter.unusedVariables false

/-- The first dot's place, or -1. -/
theorem idx_one {l : List UInt8} (h : 46 ∉ l) : Lib.indexByte l 46 = -1 := by
  induction l with
  | nil => rfl
  | cons x c ih =>
    have hx : x ≠ 46 := fun e => h (by rw [e]; exact List.mem_cons_self ..)
    have hc : 46 ∉ c := fun e => h (List.mem_cons_of_mem _ e)
    unfold Lib.indexByte
    rw [ih hc, if_neg (by simpa using hx)]
    rfl
theorem idx_app {c : List UInt8} (h : 46 ∉ c) (r : List UInt8) : Lib.indexByte (c ++ 46 :: r) 46 = (c.length : Int) := by
  induction c with
  | nil => rfl
  | cons x c ih =>
    have hx : x ≠ 46 := fun e => h (by rw [e]; exact List.mem_cons_self ..)
    have hc : 46 ∉ c := fun e => h (List.mem_cons_of_mem _ e)
    rw [List.cons_append]
    unfold Lib.indexByte
    rw [ih hc, if_neg (by simpa using hx), if_neg (by first | (simp; done) | (simp; omega))]
    simp
theorem indexByte_any (s : ByteArray) (w : World) :
    Calls Try.prog 54 #[.string s, .int .u8 46] w fun e w' => e = .returned (.int .i64 (Lib.indexByte (bl s) 46)) ∧ w = w' := by
  go_enter Try.func54, Try.ntmps54
  go_wp2
  rw [run_callFunc_extern Try.func58 (by kernel_rfl) (by kernel_rfl) (by kernel_rfl) (e := Extern.BytealgIndexByte.indexByte) (by kernel_rfl), Lib.run_indexByteString]
  simp only [Result.andThen]
  rw [Oper.upon_value]
  go_wp2
  go_ret
  exact ⟨rfl, rfl⟩
theorem index_any (s : ByteArray) (w : World) :
    Calls Try.prog 51 #[.string s, .string ⟨#[46]⟩] w fun e w' => e = .returned (.int .i64 (Lib.indexByte (bl s) 46)) ∧ w = w' := by
  by_cases h : s.toList = [46]
  · have h1 : ([46] == s.toList) = true := by rw [h]; rfl
    have h2 : bl s = [46] := by rw [← tl, h]
    rw [h2]
    clear h h2
    go_enter Try.func51, Try.ntmps51
    go_wp2_with fail
    go_ret
    exact ⟨rfl, rfl⟩
  · have h1 : ([46] == s.toList) = false := by rw [beq_eq_false_iff_ne]; exact fun e => h e.symm
    clear h
    have P := Lib.hid (indexByte_any s)
    go_enter Try.func51, Try.ntmps51
    go_wp2_with fail
    refine (P.out _).mono ?_; rintro e w1 ⟨rfl, rfl⟩
    go_wp2_with fail
    go_ret
    exact ⟨rfl, rfl⟩
/-- What stands ahead of the first dot, and behind it. -/
theorem cutLite_any (s : ByteArray) (hs : s.size ≤ 1000000) (w : World) :
    Calls Try.prog 46 #[.string s, .string ⟨#[46]⟩] w fun e w' => (∃ a t c, e = .returned (.tuple #[.string a, .string t, .bool c]) ∧ bl t = behind (bl s)) ∧ Below w.heap.size w w' := by
  have P := Lib.hid (index_any s)
  rcases text_cases (bl s) with h | ⟨c, r, h, hc⟩
  · have HE := Lib.hid (behind_one h)
    rw [idx_one h] at P
    clear h
    go_enter Try.func46, Try.ntmps46
    go_wp2_with fail
    refine (P.out _).mono ?_; rintro e w1 ⟨rfl, rfl⟩
    go_wp2_with fail
    go_ret3
    exact ⟨⟨_, _, _, rfl, by rw [HE.out]; rfl⟩, Below.refl _ _⟩
  · have HE := Lib.hid (show bl (s.extract (c.length + 1) s.size) = behind (bl s) by rw [bl_from, h, behind_app hc]; simp)
    rw [h, idx_app hc] at P
    have hl : s.size = c.length + 1 + r.length := by rw [← bl_len, h, List.length_append, List.length_cons]; omega
    obtain ⟨n, hn⟩ : ∃ n, c.length = n := ⟨_, rfl⟩
    rw [hn] at P HE hl
    clear h hc hn
    have c1 : (0 : Int) ≤ ↑n := by omega
    have c2 : (↑n : Int) ≤ ↑s.size := by omega
    have c3 : (0 : Int) ≤ ↑n + 1 := by omega
    have c4 : (↑n + 1 : Int) ≤ ↑s.size := by omega
    have c5 : ((n : Int) + 1).toNat = n + 1 := by omega
    have hw0 : IntKind.i64.wrap ((n : Int) + 1) = (n : Int) + 1 := IntWalk.i64_in _ (by omega)
    clear hl
    go_enter Try.func46, Try.ntmps46
    go_wp2_with fail
    refine (P.out _).mono ?_; rintro e w1 ⟨rfl, rfl⟩
    go_wp2_with fail
    have mixed : Try.prog.follows .mixedOrders = true := by kernel_rfl
    go_region_o
    go_wp2
    go_ret3
    exact ⟨⟨_, _, _, rfl, HE.out⟩, (Below.refl _ _).drew⟩
theorem cut_any (s : ByteArray) (hs : s.size ≤ 1000000) (w : World) :
    Calls Try.prog 38 #[.string s, .string ⟨#[46]⟩] w fun e w' => (∃ a t c, e = .returned (.tuple #[.string a, .string t, .bool c]) ∧ bl t = behind (bl s)) ∧ Below w.heap.size w w' := by
  have P := Lib.hid (cutLite_any s hs)
  go_enter Try.func38, Try.ntmps38
  go_wp2_with fail
  refine (P.out _).mono ?_; rintro e w1 ⟨⟨a, t, c, rfl, h⟩, b⟩
  go_wp2_with fail
  go_ret3
  exact ⟨⟨_, _, _, rfl, h⟩, b⟩
theorem Up_any (s : ByteArray) (w : World) :
    Calls Try.prog 20 #[.string s] w fun e w' => (∃ t, e = .returned (.string t) ∧ bl t = upB (bl s)) ∧ Below w.heap.size w w' := by
  cases hn : nameB (bl s)
  · have C := Lib.hid (Check_no s hn)
    have HE := Lib.hid (show upB (bl s) = [] by unfold upB; rw [hn]; rfl)
    clear hn
    go_enter Try.func20, Try.ntmps20
    go_wp2_with fail
    refine (C.out _).mono ?_; rintro e w1 ⟨rfl, b⟩
    go_wp2_with fail
    go_ret
    exact ⟨⟨_, rfl, by rw [HE.out]; rfl⟩, b⟩
  · have C := Lib.hid (Check_yes s hn)
    have HE := Lib.hid (show upB (bl s) = behind (bl s) by unfold upB; rw [hn]; rfl)
    have hs64 : s.size ≤ 64 := by
      unfold nameB nameN at hn
      rw [Bool.and_eq_true, decide_eq_true_eq, bl_len] at hn
      exact hn.1
    have CU := Lib.hid (cut_any s (by omega))
    clear hn
    go_enter Try.func20, Try.ntmps20
    go_wp2_with fail
    refine (C.out _).mono ?_; rintro e w1 ⟨rfl, b⟩
    have B := Lib.hid b
    clear b
    go_wp2_with fail
    refine (CU.out _).mono ?_; rintro e w2 ⟨⟨a, t, c, rfl, h⟩, b⟩
    go_wp2_with fail
    go_ret
    exact ⟨⟨_, rfl, by rw [HE.out]; exact h⟩, bon B.out b⟩

theorem names_info : (Try.prog.info? 9).map (fun i => (i.zero, i.size, i.bytes)) = some (some (.string ⟨#[]⟩), 1, 16) := by kernel_rfl
/-- This program's numbers of what slices.Reverse is made of. -/
def revRen : Ren := ⟨fun | 17 => 36 | n => n, fun | 0 => 0 | 3 => 3 | 4 => 4 | 9 => 9 | 24 => 26 | n => n, fun n => n⟩
theorem revLays : Lays2.n17 Try.prog revRen := {
  mixed := by kernel_rfl
  f17 := by kernel_rfl
  t0 := by kernel_rfl
  a0 := run_isAgg_plain (show Try.prog.underlying 0 = some (.tuple #[]) by kernel_rfl) rfl
  z0 := Try.sizeOf0
  v0 := Try.zeroValue0
  t3 := Try.underlying3
  a3 := Try.isAgg3
  z3 := Try.sizeOf3
  v3 := Try.zeroValue3
  t4 := Try.underlying4
  a4 := Try.isAgg4
  z4 := Try.sizeOf4
  v4 := Try.zeroValue4
  t9 := Try.underlying9
  a9 := Try.isAgg9
  z9 := Try.sizeOf9
  v9 := Try.zeroValue9
  t24 := Try.underlying26
  a24 := Try.isAgg26
  z24 := Try.sizeOf26
  v24 := Try.zeroValue26 }
end Go.Proofs.Ytcmkfomfmjgmpaa
