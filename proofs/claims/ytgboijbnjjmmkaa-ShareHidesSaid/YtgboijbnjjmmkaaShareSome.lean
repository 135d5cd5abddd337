/- The law's own choice of shares: so many, from a place on, round, perhaps the other way. -/
import Derived.Test.YtgboijbnjjmmkaaShareLive
namespace Go.Proofs.Ytgboijbnjjmmkaa
open Go.ChangeShapes Go.WideShapes Go.ChangeAt Go.RowKit Gs
set_option linter.unusedVariables false

theorem reads_own {w : World} {B n c : Nat} {A : Option Addr} {l : List (Int × Int)} (h : OwnS w B (.slice A n c) l) (hn : l.length = n) : Reads w w.heap.size 2 A n (cells2 l) := by
  subst hn
  refine ⟨cells2_length l, fun h0 => ?_⟩
  rcases h.2 with ⟨e, h1⟩ | ⟨g, cap, cur, e, hb, hg, hn, hc, _, _⟩
  · omega
  · cases e
    exact ⟨_, rfl, (Array.getElem?_eq_some_iff.1 hg).1, fun j u hu => h.cells (g := g) rfl j u hu⟩
theorem own_oneS (w : World) (p : Int × Int) {B : Nat} (hB : B ≤ w.heap.size) : OwnS (w.alloc (.cells #[.int .i64 p.1, .int .u64 p.2] 43)) B (.slice (some ⟨w.heap.size, 0, none⟩) 1 1) [p] :=
  ⟨rfl, .inr ⟨_, 1, #[.int .i64 p.1, .int .u64 p.2], rfl, hB, World.alloc_heap_new w _, Nat.le_refl _, by unfold maxLen; omega, rfl, rfl⟩⟩
theorem own_at_new (w : World) (p : Int × Int) {B g : Nat} (hB : B ≤ w.heap.size) (hg : g = w.heap.size) : (w.alloc (.cells #[.int .i64 p.1, .int .u64 p.2] 43)).ownsRow B 43 2 (.slice (some ⟨g, 0, none⟩) 1 1) 1 (cells2 [p]) := by
  subst hg
  exact own_oneS w p hB
theorem reads_on {w w' : World} {size n : Nat} {A : Option Addr} {xs : List Value} (h : Reads w w.heap.size size A n xs) (hb : Below w.heap.size w w') : Reads w' w'.heap.size size A n xs :=
  ⟨h.1, fun h0 => by
    obtain ⟨ad, e, hl, hc⟩ := h.2 h0
    have := hb.size
    exact ⟨ad, e, by omega, fun j u hu => (hb.cell (by rw [block_of_add]; exact hl)).trans (hc j u hu)⟩⟩
/-- So many shares, from a place on, round. -/
def picks (l : List (Int × Int)) (F N : Nat) : List (Int × Int) := (List.range N).map fun (i : Nat) => l[(F + i) % l.length]?.getD (0, 0)
theorem picks_length (l : List (Int × Int)) (F N : Nat) : (picks l F N).length = N := by simp [picks]
theorem picks_succ (l : List (Int × Int)) (F N q : Nat) (hq : (F + N) % l.length = q) (h : q < l.length) : picks l F (N + 1) = picks l F N ++ [l[q]] := by
  unfold picks
  rw [List.range_succ, List.map_append, List.map_singleton, hq, List.getElem?_eq_getElem h]; rfl
def someL (l : List (Int × Int)) (F N : Nat) (turned : Bool) : List (Int × Int) := if turned then (picks l F N).reverse else picks l F N
theorem someL_length (l : List (Int × Int)) (F N : Nat) (tu : Bool) : (someL l F N tu).length = N := by
  unfold someL; split <;> simp [picks_length]

set_option maxHeartbeats 4000000 in
theorem some_any (l : List (Int × Int)) (F N : Nat) (tu : Bool) (A : Option Addr) (c : Nat) (l1 : 1 ≤ l.length) (l7 : l.length ≤ 7) (hF : F ≤ 255) (hN : N ≤ 7) (w : World) (hs : SS w w.heap.size A l) :
    Calls Try.prog 24 #[.slice A l.length c, .int .i64 (F : Int), .int .i64 (N : Int), .bool tu] w fun e w' => ∃ v, e = .returned v ∧ OwnS w' w.heap.size v (someL l F N tu) ∧ Below w.heap.size w w' := by
  have HS := Lib.hid hs
  obtain ⟨j0, hj, hy0, hy1, hy2⟩ := info_parts Try.info43
  have HJ := Lib.hid (And.intro hj (And.intro hy0 (And.intro hy1 hy2)))
  clear hs hj hy0 hy1 hy2
  cases tu
  all_goals
    go_enter Try.func24, Try.ntmps24
    go_wp2_with fail
  · go_loopw [9, 10] (fun o j wr => ∃ k : Nat, k ≤ N ∧ j = .int .i64 k ∧ OwnS wr w.heap.size o (someL l F k false) ∧ Below w.heap.size w wr) (fun _ j _ => N - (intOf j).toNat)
    case atStart => exact ⟨0, by omega, rfl, own_noneS w (Nat.le_refl _), (Below.refl _ _).alloc (Nat.le_refl _) _⟩
    case round =>
      obtain ⟨k, hk, rfl, ho, hd⟩ := hrel
      have HO := Lib.hid ho
      have HD := Lib.hid hd
      have hz := hd.size
      clear ho hd
      by_cases hlt : k < N
      · obtain ⟨q, hq⟩ : ∃ q, (F + k) % l.length = q := ⟨_, rfl⟩
        have hql : q < l.length := by rw [← hq]; exact Nat.mod_lt _ (by omega)
        have hqi : ((F : Int) + (k : Int)) % (l.length : Int) = (q : Int) := by rw [← hq]; push_cast; rfl
        have h0 : 0 ≤ (F : Int) + (k : Int) := by omega
        obtain ⟨ad, rfl, had, c0, c1⟩ := (HS.out.on HD.out) q hql
        have HP := Lib.hid (picks_succ l F k q hq hql)
        have HLen := Lib.hid (someL_length l F k false)
        clear hq
        go_wp2_with (at_builtin; refine wpList_append_any _ rfl _ _ 24 rfl w.heap.size 43 j0 (.agg #[.int .i64 0, .int .u64 0]) 2 16 Try.underlying24 HJ.out.1 HJ.out.2.1 HJ.out.2.2.1 HJ.out.2.2.2 rfl (by decide) _ _ _ rfl (own_below HO.out (((Below.refl _ _).alloc (Nat.le_refl _) _).alloc (by simp) _)) _ _ 1 _ (cells2 [l[q]]) rfl (reads_new (Blk.new_at (wr.alloc (.cells #[.int .i64 l[q].1, .int .u64 l[q].2] 43)) _ _ (by simp)) 1 rfl) (cells2_one _) (by rw [HLen.out]; unfold maxLen; omega) (by rw [HLen.out]; omega) (by simp; omega) ?_; intro v' w6 hown' hgrow _; have HO7 := Lib.hid hown'; have HG := Lib.hid hgrow; clear hown' hgrow)
        go_roundw
        case rel =>
          refine ⟨k + 1, by omega, by go_num, ?_, ?_⟩
          ·
            have h := HO7.out
            rw [← cells2_append] at h
            rw [show someL l F (k + 1) false = someL l F k false ++ [l[q]] from HP.out]
            exact own_s h (by simp) rfl
          ·
            refine HD.out.trans ((((Below.refl w.heap.size wr).alloc hz _).alloc (by simp; omega) _).grown HG.out (by simp; omega) (fun g e => ?_))
            exact own_ge HO.out g e
        case measure => simp [intOf]; omega
      · obtain rfl : k = N := by omega
        go_wp2_with fail
        go_ret
        exact ⟨_, rfl, HO.out, HD.out⟩
  · go_loopw [9, 10] (fun o j wr => ∃ k : Nat, k ≤ N ∧ j = .int .i64 k ∧ OwnS wr w.heap.size o (someL l F k true) ∧ Below w.heap.size w wr) (fun _ j _ => N - (intOf j).toNat)
    case atStart => exact ⟨0, by omega, rfl, own_noneS w (Nat.le_refl _), (Below.refl _ _).alloc (Nat.le_refl _) _⟩
    case round =>
      obtain ⟨k, hk, rfl, ho, hd⟩ := hrel
      have HO := Lib.hid ho
      have HD := Lib.hid hd
      have hz := hd.size
      clear ho hd
      by_cases hlt : k < N
      · obtain ⟨q, hq⟩ : ∃ q, (F + k) % l.length = q := ⟨_, rfl⟩
        have hql : q < l.length := by rw [← hq]; exact Nat.mod_lt _ (by omega)
        have hqi : ((F : Int) + (k : Int)) % (l.length : Int) = (q : Int) := by rw [← hq]; push_cast; rfl
        have h0 : 0 ≤ (F : Int) + (k : Int) := by omega
        obtain ⟨ad, rfl, had, c0, c1⟩ := (HS.out.on HD.out) q hql
        have HP := Lib.hid (picks_succ l F k q hq hql)
        have HLen := Lib.hid (someL_length l F k true)
        clear hq
        obtain ⟨A3, c3, rfl, k1, k2, _, _⟩ := own_sliceS HO.out
        rw [HLen.out]
        have HR := Lib.hid (reads_own (by have h := HO.out; rw [HLen.out] at h; exact h) HLen.out)
        clear k1 k2
        go_wp2_with (at_builtin; refine wpList_append_any _ rfl _ _ 24 rfl w.heap.size 43 j0 (.agg #[.int .i64 0, .int .u64 0]) 2 16 Try.underlying24 HJ.out.1 HJ.out.2.1 HJ.out.2.2.1 HJ.out.2.2.2 rfl (by decide) _ _ _ rfl (own_at_new (wr.alloc (.cells #[.int .i64 l[q].1, .int .u64 l[q].2] 43)) l[q] (by simp; omega) (by simp)) _ _ k _ (cells2 (someL l F k true)) rfl (reads_on HR.out (((Below.refl _ _).alloc (Nat.le_refl _) _).alloc (by simp) _)) (cells2_one _) (by show 1 + k ≤ maxLen; unfold maxLen; omega) (by show (1 + k) * 16 ≤ _; omega) (by simp; omega) ?_; intro v' w6 hown' hgrow _; have HO7 := Lib.hid hown'; have HG := Lib.hid hgrow; clear hown' hgrow)
        go_roundw
        case rel =>
          refine ⟨k + 1, by omega, by go_num, ?_, ?_⟩
          ·
            have h := HO7.out
            rw [show someL l F (k + 1) true = [l[q]] ++ someL l F k true by show (picks l F (k + 1)).reverse = _; rw [HP.out, List.reverse_append]; rfl]
            exact own_s h (by rw [List.length_append, HLen.out]; rfl) rfl
          ·
            refine HD.out.trans ((((Below.refl w.heap.size wr).alloc hz _).alloc (by simp; omega) _).grown HG.out (by simp; omega) (fun g e => ?_))
            have e' : some (wr.heap.size + 1) = some g := e
            injection e' with e''
            omega
        case measure => simp [intOf]; omega
      · obtain rfl : k = N := by omega
        go_wp2_with fail
        go_ret
        exact ⟨_, rfl, HO.out, HD.out⟩
end Go.Proofs.Ytgboijbnjjmmkaa
