/- What package quorum does inside: a number's bytes, what is told of each share, products, weights. -/
import Derived.Test.YtlannmedefjfhaaGreatQuorumPlains
import Derived.Test.YtlannmedefjfhaaGreatShareLib3
import Derived.Test.YtlannmedefjfhaaGreatSignLib
namespace Go.Proofs.YtlannmedefjfhaaGreat
open Go.ChangeShapes Go.WideShapes Go.ChangeAt Go.RowKit Gs
set_option linter.unusedVariables false

/-- A call of that function enters its body. -/
theorem runs_in {f : FuncId} {fn : Func} {c : Code} (hf : Tryz.prog.funcs[f]? = some fn) (hname : (fn.name == "runtime.NumGoroutine") = false) (hb : fn.body = some c) (args : Array Value) (w : World) : (callFunc f args).run Tryz.prog w = .ok (.enter f args) w := by
  have h1 : fn.name ≠ "runtime.NumGoroutine" := by simpa using hname
  simp [callFunc, hf, h1, hb]

set_option maxHeartbeats 2000000 in
theorem qbytes_any (n : Int) [IsU n] (w : World) :
    Calls Tryz.prog 104 #[.int .u64 n] w fun e w' => ∃ v', e = .returned v' ∧ OwnB w' w.heap.size v' (be n 8) ∧ Below w.heap.size w w' := by
  obtain ⟨i0, hi, hz0, hz1, hz2⟩ := info_parts Tryz.info5
  have HI := Lib.hid (And.intro hi (And.intro hz0 (And.intro hz1 hz2)))
  clear hi hz0 hz1 hz2
  go_enter Tryz.func104, Tryz.ntmps104
  go_wp2_with (at_make; refine wpList_make_own _ rfl _ _ 22 rfl w.heap.size 5 i0 (.int .u8 0) 1 Tryz.underlying22 HI.out.1 HI.out.2.1 HI.out.2.2.1 _ _ _ 8 rfl rfl (by omega) (by rw [HI.out.2.2.2]; omega) (by unfold maxLen; omega) (by simp) ?_; intro w1 hown1 hgrow1; have HO1 := Lib.hid hown1; have HG1 := Lib.hid ((Below.refl w.heap.size w).grown hgrow1 (Nat.le_refl _) (by simp)); clear hown1 hgrow1)
  go_loopw [3, 6] (fun b i wr => ∃ k : Nat, k ≤ 8 ∧ i = .int .i64 k ∧ OwnB wr w.heap.size b ((be n 8).take k) ∧ Below w.heap.size w wr) (fun _ i _ => 8 - (intOf i).toNat)
  case atStart => exact ⟨0, by omega, rfl, own_b HO1.out rfl rfl, HG1.out⟩
  case round =>
    obtain ⟨k, hk, rfl, ho, hb⟩ := hrel
    have HO' := Lib.hid ho
    have HB := Lib.hid hb
    have hz := hb.size
    clear ho hb
    by_cases hlt : k < 8
    · have HBy := Lib.hid (be_take n 8 k hlt)
      have HLen := Lib.hid (show ((be n 8).take k).length = k by rw [List.length_take, be_length, Nat.min_eq_left hk])
      go_wp2_with (at_builtin; refine wpList_append_own _ rfl _ _ 22 rfl w.heap.size 5 i0 (.int .u8 0) 1 1 Tryz.underlying22 HI.out.1 HI.out.2.1 HI.out.2.2.1 HI.out.2.2.2 rfl (by decide) _ _ _ rfl (HO'.out.alloc _) ⟨wr.heap.size, 0, none⟩ 1 1 [.int .u8 (n / 2 ^ (8 * (7 - k)) % 256)] rfl rfl (cell_one_new _ _ _) (by simp [Value.oneCell']) (by rw [HLen.out]; unfold maxLen; omega) (by rw [HLen.out]; omega) (by simp; omega) ?_; intro v' w1 hown' hgrow _; have HO2 := Lib.hid hown'; have HG := Lib.hid hgrow; clear hown' hgrow)
      go_roundw
      case rel =>
        refine ⟨k + 1, by omega, by go_num, ?_, ?_⟩
        · rw [HBy.out]
          exact own_b HO2.out (by simp <;> omega) (by simp [byt])
        · refine (HB.out.alloc hz _).grown HG.out (by simp; omega) (fun g e => ?_)
          exact own_ge HO'.out g e
      case measure => simp [intOf]; omega
    · obtain rfl : k = 8 := by omega
      have HA := Lib.hid (be_all n 8)
      go_wp2_with fail
      go_ret
      exact ⟨_, rfl, by have h := HO'.out; rwa [HA.out] at h, HB.out⟩

theorem id_any (p : Int × Int) (w : World) :
    Calls Tryz.prog 69 #[.agg #[.int .i64 p.1, .int .u64 p.2]] w fun e w' => e = .returned (.int .i64 p.1) ∧ Below w.heap.size w w' := by
  have D0 := Lib.hid ((Below.refl w.heap.size w).alloc (Nat.le_refl _) (.cells #[.int .i64 p.1, .int .u64 p.2] 37))
  go_enter Tryz.func69, Tryz.ntmps69
  go_wp2_with fail
  go_ret
  exact ⟨rfl, D0.out⟩

set_option maxHeartbeats 2000000 in
theorem each_ids (A : Option Addr) (n c : Nat) (l : List (Int × Int)) (hn : l.length = n) (hl : n ≤ 1048576) (w : World) (hs : SS w w.heap.size A l) :
    Calls Tryz.prog 68 #[.slice A n c, .func (.func 69) #[] #[]] w fun e w' => ∃ v', e = .returned v' ∧ OwnI w' w.heap.size v' (l.map Prod.fst) ∧ Below w.heap.size w w' := by
  subst hn
  have HS := Lib.hid hs
  clear hs
  obtain ⟨i0, hi, hz0, hz1, hz2⟩ := info_parts Tryz.info3
  have HI := Lib.hid (And.intro hi (And.intro hz0 (And.intro hz1 hz2)))
  clear hi hz0 hz1 hz2
  go_enter Tryz.func68, Tryz.ntmps68
  go_wp2_with (at_make; refine wpList_make_own _ rfl _ _ 85 rfl w.heap.size 3 i0 (.int .i64 0) 1 Tryz.underlying85 HI.out.1 HI.out.2.1 HI.out.2.2.1 _ _ _ l.length rfl rfl (by omega) (by rw [HI.out.2.2.2]; omega) (by unfold maxLen; omega) (by simp) ?_; intro w1 hown1 hgrow1; have HO1 := Lib.hid hown1; have HG1 := Lib.hid ((Below.refl w.heap.size w).grown hgrow1 (Nat.le_refl _) (by simp)); clear hown1 hgrow1)
  go_loopw [5, 13] (fun b i wr => ∃ k : Nat, k ≤ l.length ∧ i = .int .i64 k ∧ OwnI wr w.heap.size b ((l.map Prod.fst).take k) ∧ Below w.heap.size w wr) (fun _ i _ => l.length - (intOf i).toNat)
  case atStart => exact ⟨0, by omega, rfl, own_i HO1.out rfl rfl, HG1.out⟩
  case round =>
    obtain ⟨k, hk, rfl, ho, hb⟩ := hrel
    have HO := Lib.hid ho
    have HB := Lib.hid hb
    have hz := hb.size
    clear ho hb
    by_cases hlt : k < l.length
    · obtain ⟨ad, rfl, had, c0, c1⟩ := (HS.out.below HB.out) k hlt
      have B1 := Lib.hid ((Below.refl wr.heap.size wr).alloc (Nat.le_refl _) (.cells #[.int .i64 l[k].1, .int .u64 l[k].2] 37))
      have HLen := Lib.hid (show ((l.map Prod.fst).take k).length = k by rw [List.length_take, List.length_map, Nat.min_eq_left hk])
      have HT := Lib.hid (show (l.map Prod.fst).take (k + 1) = (l.map Prod.fst).take k ++ [l[k].1] by rw [List.take_succ_eq_append_getElem (by simpa using hlt)]; simp)
      have P := Lib.hid (id_any l[k])
      generalize l[k].1 = x at *
      go_wp2_with fail
      refine (P.out _).mono ?_; rintro e w2 ⟨rfl, b⟩
      have B2 := Lib.hid (below_on B1.out b)
      have HO2 := Lib.hid (own_below HO.out B2.out)
      have hz2 := B2.out.size
      clear b c0 c1
      go_wp2_with (at_builtin; refine wpList_append_own _ rfl _ _ 85 rfl w.heap.size 3 i0 (.int .i64 0) 1 8 Tryz.underlying85 HI.out.1 HI.out.2.1 HI.out.2.2.1 HI.out.2.2.2 rfl (by decide) _ _ _ rfl (HO2.out.alloc _) ⟨w2.heap.size, 0, none⟩ 1 1 [.int .i64 x] rfl rfl (cell_one_new _ _ _) (by simp [Value.oneCell']) (by rw [HLen.out]; unfold maxLen; omega) (by rw [HLen.out]; omega) (by simp; omega) ?_; intro v' w3 hown' hgrow _; have HO3 := Lib.hid hown'; have HG := Lib.hid hgrow; clear hown' hgrow)
      go_roundw
      case rel =>
        refine ⟨k + 1, by omega, by go_num, ?_, ?_⟩
        · rw [HT.out]; exact own_i HO3.out (by simp) (by simp)
        · refine ((HB.out.trans (B2.out.mono hz)).alloc (by omega) _).grown HG.out (by simp; omega) (fun g e => ?_)
          exact own_ge HO.out g e
      case measure => simp [intOf]; omega
    · obtain rfl : k = l.length := by omega
      have HA := Lib.hid (show (l.map Prod.fst).take l.length = l.map Prod.fst by rw [List.take_of_length_le (by simp)])
      go_wp2_with fail
      go_ret
      exact ⟨_, rfl, by have h := HO.out; rwa [HA.out] at h, HB.out⟩

set_option maxRecDepth 100000 in
set_option maxHeartbeats 2000000 in
theorem each_nums (f : FuncId) (hrun : ∀ args w, (callFunc f args).run Tryz.prog w = .ok (.enter f args) w) (cap : Array Value) (A : Option Addr) (n c : Nat) (l : List (Int × Int)) (hn : l.length = n) (hl : n ≤ 1048576) (g : Int × Int → Int) (w : World) (hs : SS w w.heap.size A l)
    (hf : ∀ p ∈ l, ∀ W, Below w.heap.size w W → Calls Tryz.prog f (#[.agg #[.int .i64 p.1, .int .u64 p.2]] ++ cap) W fun e w' => e = .returned (.int .u64 (g p)) ∧ Below W.heap.size W w') :
    Calls Tryz.prog 96 #[.slice A n c, .func (.func f) #[] cap] w fun e w' => ∃ v', e = .returned v' ∧ OwnU w' w.heap.size v' (l.map g) ∧ Below w.heap.size w w' := by
  subst hn
  have HS := Lib.hid hs
  have HF := Lib.hid hf
  clear hs hf
  obtain ⟨i0, hi, hz0, hz1, hz2⟩ := info_parts Tryz.info23
  have HI := Lib.hid (And.intro hi (And.intro hz0 (And.intro hz1 hz2)))
  clear hi hz0 hz1 hz2
  go_enter Tryz.func96, Tryz.ntmps96
  go_wp2_with (at_make; refine wpList_make_own _ rfl _ _ 101 rfl w.heap.size 23 i0 (.int .u64 0) 1 Tryz.underlying101 HI.out.1 HI.out.2.1 HI.out.2.2.1 _ _ _ l.length rfl rfl (by omega) (by rw [HI.out.2.2.2]; omega) (by unfold maxLen; omega) (by simp) ?_; intro w1 hown1 hgrow1; have HO1 := Lib.hid hown1; have HG1 := Lib.hid ((Below.refl w.heap.size w).grown hgrow1 (Nat.le_refl _) (by simp)); clear hown1 hgrow1)
  go_loopw [5, 13] (fun b i wr => ∃ k : Nat, k ≤ l.length ∧ i = .int .i64 k ∧ OwnU wr w.heap.size b ((l.map g).take k) ∧ Below w.heap.size w wr) (fun _ i _ => l.length - (intOf i).toNat)
  case atStart => exact ⟨0, by omega, rfl, own_u HO1.out rfl rfl, HG1.out⟩
  case round =>
    obtain ⟨k, hk, rfl, ho, hb⟩ := hrel
    have HO := Lib.hid ho
    have HB := Lib.hid hb
    have hz := hb.size
    clear ho hb
    by_cases hlt : k < l.length
    · obtain ⟨ad, rfl, had, c0, c1⟩ := (HS.out.below HB.out) k hlt
      have B1 := Lib.hid ((Below.refl wr.heap.size wr).alloc (Nat.le_refl _) (.cells #[.int .i64 l[k].1, .int .u64 l[k].2] 37))
      have HLen := Lib.hid (show ((l.map g).take k).length = k by rw [List.length_take, List.length_map, Nat.min_eq_left hk])
      have HT := Lib.hid (show (l.map g).take (k + 1) = (l.map g).take k ++ [g l[k]] by rw [List.take_succ_eq_append_getElem (by simpa using hlt)]; simp)
      have P := Lib.hid (HF.out l[k] (List.getElem_mem hlt) _ (HB.out.trans (B1.out.mono hz)))
      generalize g l[k] = x at *
      go_wp2_with fail
      refine P.out.mono ?_; rintro e w2 ⟨rfl, b⟩
      have B2 := Lib.hid (below_on B1.out b)
      have HO2 := Lib.hid (own_below HO.out B2.out)
      have hz2 := B2.out.size
      clear b c0 c1
      go_wp2_with (at_builtin; refine wpList_append_own _ rfl _ _ 101 rfl w.heap.size 23 i0 (.int .u64 0) 1 8 Tryz.underlying101 HI.out.1 HI.out.2.1 HI.out.2.2.1 HI.out.2.2.2 rfl (by decide) _ _ _ rfl (HO2.out.alloc _) ⟨w2.heap.size, 0, none⟩ 1 1 [.int .u64 x] rfl rfl (cell_one_new _ _ _) (by simp [Value.oneCell']) (by rw [HLen.out]; unfold maxLen; omega) (by rw [HLen.out]; omega) (by simp; omega) ?_; intro v' w3 hown' hgrow _; have HO3 := Lib.hid hown'; have HG := Lib.hid hgrow; clear hown' hgrow)
      go_roundw
      case rel =>
        refine ⟨k + 1, by omega, by go_num, ?_, ?_⟩
        · rw [HT.out]; exact own_u HO3.out (by simp) (by simp)
        · refine ((HB.out.trans (B2.out.mono hz)).alloc (by omega) _).grown HG.out (by simp; omega) (fun g e => ?_)
          exact own_ge HO.out g e
      case measure => simp [intOf]; omega
    · obtain rfl : k = l.length := by omega
      have HA := Lib.hid (show (l.map g).take l.length = l.map g by rw [List.take_of_length_le (by simp)])
      go_wp2_with fail
      go_ret
      exact ⟨_, rfl, by have h := HO.out; rwa [HA.out] at h, HB.out⟩

set_option maxHeartbeats 2000000 in
theorem product_any6 (A : Option Addr) (n c : Nat) (xs : List Int) (hn : xs.length = n) (hl : n ≤ 1048576) (hu : ∀ x ∈ xs, IsU x) (w : World) (hs : SI w w.heap.size .u64 A xs) :
    Calls Tryz.prog 98 #[.slice A n c] w fun e w' => e = .returned (.int .u64 (qprod xs)) ∧ Below w.heap.size w w' := by
  subst hn
  have HS := Lib.hid hs
  have HU := Lib.hid hu
  clear hs hu
  go_enter Tryz.func98, Tryz.ntmps98
  go_wp2_with fail
  go_loopw [3, 8] (fun b i wr => ∃ k : Nat, k ≤ xs.length ∧ i = .int .i64 k ∧ b = .int .u64 (qprod (xs.take k)) ∧ Below w.heap.size w wr) (fun _ i _ => xs.length - (intOf i).toNat)
  case atStart => exact ⟨0, by omega, rfl, rfl, Below.refl _ _⟩
  case round =>
    obtain ⟨k, hk, rfl, rfl, hb⟩ := hrel
    have HB := Lib.hid hb
    have hz := hb.size
    clear hb
    by_cases hlt : k < xs.length
    · obtain ⟨ad, rfl, had, c0⟩ := si_at (HS.out.below HB.out) k hlt
      haveI := HU.out xs[k] (List.getElem_mem hlt)
      have P := Lib.hid (Mul_q (qprod (xs.take k)) xs[k])
      have HT := Lib.hid (show qprod (xs.take (k + 1)) = qmul (qprod (xs.take k)) xs[k] by unfold qprod; rw [List.take_succ_eq_append_getElem hlt, List.foldl_append]; rfl)
      go_wp2_with fail
      refine (P.out _).mono ?_; rintro e w2 ⟨rfl, b⟩
      have B2 := Lib.hid (HB.out.trans (b.mono hz))
      clear b
      go_wp2_with fail
      go_roundw
      case rel => exact ⟨k + 1, by omega, by go_num, by rw [HT.out], B2.out⟩
      case measure => simp [intOf]; omega
    · obtain rfl : k = xs.length := by omega
      have HA := Lib.hid (List.take_length (l := xs))
      rw [HA.out]
      go_wp2_with fail
      go_ret
      exact ⟨rfl, HB.out⟩
end Go.Proofs.YtlannmedefjfhaaGreat
