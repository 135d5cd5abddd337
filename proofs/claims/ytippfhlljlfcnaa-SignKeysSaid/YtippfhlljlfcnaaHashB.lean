/- Contracts of the hash: what is soaked up, chunk by chunk. -/
import Derived.Test.YtippfhlljlfcnaaHashA
import Derived.RangeFuncNested
import Derived.RangeFuncBound
import Derived.RangeFuncCalls
import Derived.RangeFuncLeaves
import Derived.RangeFuncBox
import Derived.Shelf.Abstract
import Derived.Shelf.RegionOpen
import Derived.TacticsInMore
import Derived.LoopNIn
import Derived.LoopIn
import Derived.RegionIn
namespace Go.Proofs.Ytippfhlljlfcnaa
open Go.ChangeShapes Go.WideShapes Go.ChangeAt Go.RowKit Go.Shelf Gs
set_option linter.unusedVariables false

theorem soak1_in (A : Option Addr) (c : Nat) (xs : List Int) (hx : ∀ x ∈ xs, 0 ≤ x ∧ x < 18446744073709551616) (hl : xs.length ≤ 9223372036854775807) (k : Nat) (hk : k < xs.length) (x : Int) [IsU x] (ad : Addr) (B : Nat) (w : World) (hc : w.cell? ad = some (.slice A xs.length c)) (hs : SI w B .u64 A xs) :
    Calls Try.prog 82 #[.int .i64 k, .int .u64 x, .pointer (some ad)] w fun e w' => e = .returned (.int .u64 (fadd x xs[k])) ∧ w = w' := by
  obtain ⟨a0, rfl, _, hcell⟩ := hs k hk
  rw [List.getElem?_eq_getElem hk] at hcell
  simp only [Option.getD_some] at hcell
  have hxk := hx _ (List.getElem_mem hk)
  haveI : IsU xs[k] := ⟨hxk.1, hxk.2⟩
  clear hs hx hxk
  go_enter Try.func82, Try.ntmps82
  go_wp2_with fail
  refine (Add_i _ _ _).mono ?_; rintro e w' ⟨rfl, rfl⟩
  go_wp2_with fail
  go_ret
  exact ⟨rfl, rfl⟩

theorem soak1_out (A : Option Addr) (n c : Nat) (k : Nat) (hk : n ≤ k) (hk1 : k < 3) (x : Int) (ad : Addr) (w : World) (hc : w.cell? ad = some (.slice A n c)) :
    Calls Try.prog 82 #[.int .i64 k, .int .u64 x, .pointer (some ad)] w fun e w' => e = .returned (.int .u64 x) ∧ w = w' := by
  go_enter Try.func82, Try.ntmps82
  go_wp2_with fail
  go_ret
  exact ⟨rfl, rfl⟩

set_option maxHeartbeats 1000000 in
theorem soak_any (a b c : Int) [IsU a] [IsU b] [IsU c] (A : Option Addr) (n cc : Nat) (xs : List Int) (hn : xs.length = n) (h2 : n ≤ 2) (hx : ∀ x ∈ xs, 0 ≤ x ∧ x < 18446744073709551616) (w : World) (hs : SI w w.heap.size .u64 A xs) :
    Calls Try.prog 75 #[.agg #[.int .u64 a, .int .u64 b, .int .u64 c], .slice A n cc] w fun e w' =>
      e = .returned (.agg #[.int .u64 (sk a xs[0]?), .int .u64 (sk b xs[1]?), .int .u64 c]) ∧ Below w.heap.size w w' := by
  subst hn
  have HS := Lib.hid hs
  have HX := Lib.hid hx
  clear hs hx
  have key : ∀ y0 y1 : Int, y0 = sk a xs[0]? → y1 = sk b xs[1]? → Calls Try.prog 75 #[.agg #[.int .u64 a, .int .u64 b, .int .u64 c], .slice A xs.length cc] w fun e w' =>
      e = .returned (.agg #[.int .u64 y0, .int .u64 y1, .int .u64 c]) ∧ Below w.heap.size w w' := by
    intro y0 y1 hy0 hy1
    have HY0 := Lib.hid hy0
    have HY1 := Lib.hid hy1
    clear hy0 hy1
    go_enter Try.func75, Try.ntmps75
    go_wp2_with fail
    refine Calls.mono (each_s1 _ y0 y1 c a b c _ (fun W hW => ?_) (fun W hW => ?_) (fun W hW => ?_)) ?_
    · have hcl : W.cell? ⟨w.heap.size + 1, 0, none⟩ = some (.slice A xs.length cc) := (hW.cell (by simp)).trans (by simp [go_sem])
      have hsi : SI W w.heap.size .u64 A xs := HS.out.below ((((Below.refl _ _).alloc (Nat.le_refl _) _).alloc (by simp) _).alloc (by simp; omega) _ |>.trans (hW.mono (by simp; omega)))
      rw [HY0.out]
      rcases Nat.lt_or_ge 0 xs.length with h | h
      · rw [List.getElem?_eq_getElem h]
        exact soak1_in A cc xs HX.out (by omega) 0 h a _ _ W hcl hsi
      · rw [List.getElem?_eq_none h]
        exact soak1_out A _ cc 0 h (by omega) a _ W hcl
    · have hcl : W.cell? ⟨w.heap.size + 1, 0, none⟩ = some (.slice A xs.length cc) := (hW.cell (by simp)).trans (by simp [go_sem])
      have hsi : SI W w.heap.size .u64 A xs := HS.out.below ((((Below.refl _ _).alloc (Nat.le_refl _) _).alloc (by simp) _).alloc (by simp; omega) _ |>.trans (hW.mono (by simp; omega)))
      rw [HY1.out]
      rcases Nat.lt_or_ge 1 xs.length with h | h
      · rw [List.getElem?_eq_getElem h]
        exact soak1_in A cc xs HX.out (by omega) 1 h b _ _ W hcl hsi
      · rw [List.getElem?_eq_none h]
        exact soak1_out A _ cc 1 h (by omega) b _ W hcl
    · have hcl : W.cell? ⟨w.heap.size + 1, 0, none⟩ = some (.slice A xs.length cc) := (hW.cell (by simp)).trans (by simp [go_sem])
      exact soak1_out A _ cc 2 h2 (by omega) c _ W hcl
    rintro e w1 ⟨rfl, hb⟩
    have B2 := Blk.below (g := w.heap.size + 1 + 1) (Blk.new_at _ _ _ (by simp)) hb (by simp)
    obtain ⟨⟨c0, c1, c2⟩, f0, f1, f2⟩ := B2.facts3
    have HB := Lib.hid hb
    clear hb B2
    go_wp2_with fail
    refine bodyPost_ret (v := .agg #[.int .u64 y0, .int .u64 y1, .int .u64 c]) (by simp [results, Try.results75, go_sem, c0, c1, c2]) rfl ⟨rfl, ?_⟩
    refine Below.setCell (Below.setCell (Below.setCell (Below.trans ?_ (HB.out.mono (by first | omega | (simp; done) | (simp; omega)))) (by first | omega | (simp; done) | (simp; omega)) _) (by first | omega | (simp; done) | (simp; omega)) _) (by first | omega | (simp; done) | (simp; omega)) _
    exact (((Below.refl _ _).alloc (Nat.le_refl _) _).alloc (by simp) _).alloc (by first | omega | (simp; done) | (simp; omega)) _
  exact key _ _ rfl rfl

/-- Chunk q of a slice of L elements. -/
def chunkV (a : Addr) (L q : Nat) : Value := .slice (some (a.add (2 * q))) (min 2 (L - 2 * q)) (min 2 (L - 2 * q))

set_option maxRecDepth 100000 in
set_option maxHeartbeats 1000000 in
theorem chunks_in (n : Nat) (hn : 1 ≤ n) (l Bs Bn n₀ : Nat) (A : Option Addr) (ad : Addr) (c L : Nat) (hA : 0 < L → A = some ad) (hl : L ≤ 70368744177664) (hcap : L ≤ c) (J Jx : List Nat → World → Prop)
    (hJd : ∀ pre W, J pre W → J pre W.drew)
    (hY : ∀ pre x W, J pre W → pre.length < (L + 1) / 2 → YieldAt Fence.wide (n - 1) Try.prog l #[chunkV ad L x] W fun e W' =>
      (e = .returned (.bool true) ∧ J (pre ++ [x]) W' ∧ KB n₀ Bs W W' ∧ KB n₀ Bn W W') ∨ (e = .returned (.bool false) ∧ Jx (pre ++ [x]) W'))
    (W : World) (hBs : W.cell? ⟨Bs, 0, none⟩ = some (.slice A L c)) (hBn : W.cell? ⟨Bn, 0, none⟩ = some (.int .i64 2)) (h0 : J [] W) :
    CallsIn Fence.wide n Try.prog 79 #[.func (.yield l) #[] #[], .pointer (some ⟨Bs, 0, none⟩), .pointer (some ⟨Bn, 0, none⟩)] W fun e W' => (∃ v, e = .returned v) ∧
      ((∃ ys, ys = List.range ((L + 1) / 2) ∧ J ys W') ∨ (∃ pre, (∃ k, k ≤ (L + 1) / 2 ∧ pre = List.range k) ∧ Jx pre W')) := by
  have HY := Lib.hid hY
  have HJ := Lib.hid hJd
  have HA := Lib.hid hA
  clear hY hJd hA
  refine callsIn_of_wp Try.func79 rfl trivial ?_ rfl
  simp only [Try.ntmps79, List.size_toArray, List.length_cons, List.length_nil, Nat.reduceAdd, Nat.reduceSub, Array.replicate_succ, Array.replicate_zero, List.push_toArray, List.append_toArray, List.nil_append, List.cons_append]
  gi_wp2
  gi_loopw [4] (fun i wr => ∃ j : Nat, 2 * j < L + 2 ∧ i = .int .i64 ((2 * j : Nat) : Int) ∧ J (List.range j) wr ∧ KB n₀ Bs W wr ∧ KB n₀ Bn W wr)
    (fun i _ => L + 2 - (intOf i).toNat)
  case atStart => exact ⟨0, by omega, rfl, h0, KB.refl _ _ _, KB.refl _ _ _⟩
  case round =>
    obtain ⟨j, hj, rfl, hJs, hnx, hnn⟩ := hrel
    have hBw : wr.cell? ⟨Bs, 0, none⟩ = some (.slice A L c) := (World.cell?_of_block (a := ⟨Bs, 0, none⟩) hnx.2).trans hBs
    have hBv : wr.cell? ⟨Bn, 0, none⟩ = some (.int .i64 2) := (World.cell?_of_block (a := ⟨Bn, 0, none⟩) hnn.2).trans hBn
    have HN := Lib.hid hnx
    have HN' := Lib.hid hnn
    clear hnx hnn
    by_cases hlt : 2 * j < L
    · obtain rfl := HA.out (by omega)
      by_cases h2 : 2 ≤ L - 2 * j
      · have hv : chunkV ad L j = .slice (some (ad.add (2 * j))) 2 2 := by
          unfold chunkV; rw [show min 2 (L - 2 * j) = 2 by omega]
        have hYj := HY.out _ j wr.drew (HJ.out _ _ hJs) (by simp; omega)
        rw [hv] at hYj
        obtain ⟨fn, tmps, assign, body, hy, hR⟩ := hYj
        have HR := Lib.hid hR
        have HJs := Lib.hid hJs
        clear hR hv hJs
        gi_wp2_with fail
        gi_region
        gi_wp2_with fail
        refine HR.out.mono ?_
        rintro e W3 (⟨rfl, hJ3, hk3, hk4⟩ | ⟨rfl, hJx3⟩)
        · have HJ3 := Lib.hid hJ3
          have HK3 := Lib.hid hk3
          have HK4 := Lib.hid hk4
          have hBv' : W3.cell? ⟨Bn, 0, none⟩ = some (.int .i64 2) := (World.cell?_of_block (a := ⟨Bn, 0, none⟩) hk4.2).trans hBv
          clear hJ3 hk3 hk4
          gi_wp2_with fail
          go_roundw
          case rel => exact ⟨j + 1, by omega, by go_num, by rw [List.range_succ]; exact HJ3.out, HN.out.trans (KB.trans ⟨(Below.refl _ _).drew, rfl⟩ HK3.out), HN'.out.trans (KB.trans ⟨(Below.refl _ _).drew, rfl⟩ HK4.out)⟩
          case measure => simp [intOf]; omega
        · have HJ3 := Lib.hid hJx3
          clear hJx3
          gi_wp2_with fail
          refine bodyPost_ret (results_none rfl _ _ _) rfl ?_
          exact ⟨⟨_, rfl⟩, .inr ⟨_, ⟨j + 1, by omega, (List.range_succ).symm⟩, HJ3.out⟩⟩
      · obtain rfl : L = 2 * j + 1 := by omega
        have hv : chunkV ad (2 * j + 1) j = .slice (some (ad.add (2 * j))) 1 1 := by
          unfold chunkV; rw [show min 2 (2 * j + 1 - 2 * j) = 1 by omega]
        have hYj := HY.out _ j wr.drew (HJ.out _ _ hJs) (by simp; omega)
        rw [hv] at hYj
        obtain ⟨fn, tmps, assign, body, hy, hR⟩ := hYj
        have HR := Lib.hid hR
        have HJs := Lib.hid hJs
        clear hR hv h2 hJs
        gi_wp2_with fail
        gi_region
        gi_wp2_with fail
        refine HR.out.mono ?_
        rintro e W3 (⟨rfl, hJ3, hk3, hk4⟩ | ⟨rfl, hJx3⟩)
        · have HJ3 := Lib.hid hJ3
          have HK3 := Lib.hid hk3
          have HK4 := Lib.hid hk4
          have hBv' : W3.cell? ⟨Bn, 0, none⟩ = some (.int .i64 2) := (World.cell?_of_block (a := ⟨Bn, 0, none⟩) hk4.2).trans hBv
          clear hJ3 hk3 hk4
          gi_wp2_with fail
          go_roundw
          case rel => exact ⟨j + 1, by omega, by go_num, by rw [List.range_succ]; exact HJ3.out, HN.out.trans (KB.trans ⟨(Below.refl _ _).drew, rfl⟩ HK3.out), HN'.out.trans (KB.trans ⟨(Below.refl _ _).drew, rfl⟩ HK4.out)⟩
          case measure => simp [intOf]; omega
        · have HJ3 := Lib.hid hJx3
          clear hJx3
          gi_wp2_with fail
          refine bodyPost_ret (results_none rfl _ _ _) rfl ?_
          exact ⟨⟨_, rfl⟩, .inr ⟨_, ⟨j + 1, by omega, (List.range_succ).symm⟩, HJ3.out⟩⟩
    · have hm : j = (L + 1) / 2 := by omega
      have HM := Lib.hid hm
      clear hm
      gi_wp2
      go_end0
      exact ⟨⟨_, rfl⟩, .inl ⟨_, by rw [HM.out], hJs⟩⟩

theorem grown_drew (W : World) : W.grownBy W.drew none := ⟨rfl, rfl, rfl, Nat.le_refl _, fun _ _ _ => rfl⟩

theorem chunks_stops (n : Nat) (hn : 1 ≤ n) (Bs Bn n₀ : Nat) (A : Option Addr) (ad : Addr) (c L : Nat) (hA : 0 < L → A = some ad) (hl : L ≤ 70368744177664) (hcap : L ≤ c) (w : World) (hB1 : Bs < w.heap.size) (hB2 : Bn < w.heap.size)
    (hc : w.cell? ⟨Bs, 0, none⟩ = some (.slice A L c)) (hn2 : w.cell? ⟨Bn, 0, none⟩ = some (.int .i64 2)) :
    SeqStopsK Fence.wide n Try.prog 79 #[.pointer (some ⟨Bs, 0, none⟩), .pointer (some ⟨Bn, 0, none⟩)] (fun q : Nat => #[chunkV ad L q]) (fun W W' => KB n₀ Bs W W' ∧ KB n₀ Bn W W') (fun ys => ys = List.range ((L + 1) / 2)) (fun pre => ∃ k, k ≤ (L + 1) / 2 ∧ pre = List.range k) ((L + 1) / 2) w := fun l J Jx W hW hJ _ hY h0 =>
  chunks_in n hn l Bs Bn n₀ A ad c L hA hl hcap J Jx (fun pre W' h => hJ pre W' _ none h (grown_drew W') (fun r e => by cases e)) hY W ((hW.cell (p := ⟨Bs, 0, none⟩) hB1).trans hc) ((hW.cell (p := ⟨Bn, 0, none⟩) hB2).trans hn2) h0

set_option maxHeartbeats 1000000 in
theorem chunk_in (n : Nat) (A : Option Addr) (m c : Nat) (w : World) :
    CallsIn Fence.wide n Try.prog 73 #[.slice A m c, .int .i64 2] w fun e w' => e = .returned (.func (.func 79) #[] #[.pointer (some ⟨w.heap.size, 0, none⟩), .pointer (some ⟨w.heap.size + 1, 0, none⟩)]) ∧ w' = (w.alloc (.cells #[.slice A m c] 68)).alloc (.cells #[.int .i64 2] 3) := by
  refine callsIn_of_wp Try.func73 rfl trivial ?_ rfl
  simp only [Try.ntmps73, List.size_toArray, List.length_cons, List.length_nil, Nat.reduceAdd, Nat.reduceSub, Array.replicate_succ, Array.replicate_zero, List.push_toArray, List.append_toArray, List.nil_append, List.cons_append]
  gi_wp2
  go_ret
  exact ⟨rfl, rfl⟩

theorem SI.up {w : World} {B : Nat} {k : IntKind} {A : Option Addr} {xs : List Int} (h : SI w B k A xs) : SI w w.heap.size k A xs := fun j hj => by
  obtain ⟨ad, e, hb, hc⟩ := h j hj
  exact ⟨ad, e, by have := cell_lt hc; rwa [block_of_add] at this, hc⟩

/-- What is soaked up of chunk q. -/
theorem soak_chunk (a b c : Int) [IsU a] [IsU b] [IsU c] (ad : Addr) (xs : List Int) (L q : Nat) (hL : L = xs.length) (hx : ∀ x ∈ xs, 0 ≤ x ∧ x < 18446744073709551616) (B : Nat) (w : World) (hs : 0 < xs.length → SI w B .u64 (some ad) xs) :
    Calls Try.prog 75 #[.agg #[.int .u64 a, .int .u64 b, .int .u64 c], chunkV ad L q] w fun e w' =>
      e = .returned (.agg #[.int .u64 (sk a xs[2 * q]?), .int .u64 (sk b xs[2 * q + 1]?), .int .u64 c]) ∧ Below w.heap.size w w' := by
  subst hL
  have h := soak_any a b c (some (ad.add (2 * q))) (min 2 (xs.length - 2 * q)) (min 2 (xs.length - 2 * q)) ((xs.drop (2 * q)).take 2) (by simp) (by omega) (fun x h => hx x (List.mem_of_mem_drop (List.mem_of_mem_take h))) w
    (by
      rcases Nat.lt_or_ge (2 * q) xs.length with hq | hq
      · have h := (hs (by omega)).up.part (2 * q) (min 2 (xs.length - 2 * q)) (by omega)
        have e : (xs.drop (2 * q)).take (min 2 (xs.length - 2 * q)) = (xs.drop (2 * q)).take 2 := by
          rcases Nat.le_or_ge 2 (xs.length - 2 * q) with h2 | h2
          · rw [Nat.min_eq_left h2]
          · rw [Nat.min_eq_right h2, List.take_of_length_le (by simp), List.take_of_length_le (by simp; omega)]
        rwa [e] at h
      · intro j hj
        simp at hj
        omega)
  have e0 : ((xs.drop (2 * q)).take 2)[0]? = xs[2 * q]? := by rw [List.getElem?_take_of_lt (by omega), List.getElem?_drop]; rfl
  have e1 : ((xs.drop (2 * q)).take 2)[1]? = xs[2 * q + 1]? := by rw [List.getElem?_take_of_lt (by omega), List.getElem?_drop]
  rw [e0, e1] at h
  exact h
end Go.Proofs.Ytippfhlljlfcnaa
