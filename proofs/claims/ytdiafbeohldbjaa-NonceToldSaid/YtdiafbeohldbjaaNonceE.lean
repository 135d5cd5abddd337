/- Contracts of nonce: Trim, the program's and the document's. -/
import Derived.Test.YtdiafbeohldbjaaNonceD
import Derived.Test.YtdiafbeohldbjaaStep
import Derived.Lib.SmallJoins
import Derived.StillTailTactics
namespace Go.Proofs.Ytdiafbeohldbjaa
open Go.ChangeShapes Go.WideShapes Go.ChangeAt Go.RowKit Gs
set_option linter.unusedVariables false
set_option linter.unusedSimpArgs false

theorem Blk.grown {w w' : World} {g : Nat} {t : TypeId} {cs : Array Value} {row : Option Nat} (h : Blk w g t cs) (hg : w.grownBy w' row) (hr : some g ≠ row) : Blk w' g t cs := (hg.block g h.lt hr).trans h
theorem OwnN.set {w : World} {B : Nat} {v : Value} {l : List (Int × Int)} (h : OwnN w B v l) {g o : Nat} (hg : g < B) (u : Value) : OwnN (w.setCell ⟨g, o, none⟩ u) B v l :=
  ownsRow_setCell_other h (fun e => by have := own_ge h _ e; simp at this; omega) u
theorem OwnN.base {w : World} {B B' : Nat} {v : Value} {l : List (Int × Int)} (h : OwnN w B v l) (hB : B' ≤ B) : OwnN w B' v l := Go.Joins.ownsRow_le h hB
/-- A fence that a call has made, of that next number and those pairs. -/
def FenceE (w : World) (B : Nat) (nx : Int) (l : List (Int × Int)) (v : Value) : Prop := ∃ x, v = .agg #[.int .i64 nx, x] ∧ OwnN w B x l
theorem FenceE.open {w : World} {B : Nat} {nx : Int} {l : List (Int × Int)} {v : Value} (h : FenceE w B nx l v) : ∃ A c, v = fv nx A l.length c ∧ l.length ≤ c ∧ c ≤ maxLen ∧ NS w w.heap.size A l := by
  obtain ⟨x, rfl, ho⟩ := h
  obtain ⟨A, c, rfl, h1, h2, h3, _⟩ := own_sliceN ho
  exact ⟨A, c, rfl, h1, h2, h3⟩

set_option maxHeartbeats 1000000 in
theorem Trim_any (nx now : Int) (A : Option Addr) (c : Nat) (L : List (Int × Int)) (hl : L.length ≤ 1048576) (w : World) (hs : NS w w.heap.size A L) :
    Calls Try.prog 16 #[fv nx A L.length c, .int .i64 now] w fun e w' => ∃ v', e = .returned v' ∧ FenceE w' w.heap.size nx (trimF now L) v' ∧ Below w.heap.size w w' := by
  have HS := Lib.hid hs
  clear hs
  have P := Lib.hid (fun w hs => Clone_any A c L hl w hs)
  have Bw := Lib.hid ((((Below.refl w.heap.size w).alloc (Nat.le_refl _) (.cells #[.int .i64 nx, .slice A L.length c] 24)).alloc (by simp) (.cells #[.int .i64 now] 3)).alloc (by simp; omega) (.cells #[.int .i64 0, .slice none 0 0] 24))
  generalize hW : ((w.alloc (.cells #[.int .i64 nx, .slice A L.length c] 24)).alloc (.cells #[.int .i64 now] 3)).alloc (.cells #[.int .i64 0, .slice none 0 0] 24) = W at Bw
  have hz : W.heap.size = w.heap.size + 3 := by rw [← hW]; simp
  have b0 : Blk W w.heap.size 24 #[.int .i64 nx, .slice A L.length c] := by rw [← hW]; exact ((Blk.new _ _ _).alloc _).alloc _
  have b1 : Blk W (w.heap.size + 1) 3 #[.int .i64 now] := by rw [← hW]; exact (Blk.new_at _ _ _ (by simp)).alloc _
  have b2 : Blk W (w.heap.size + 1 + 1) 24 #[.int .i64 0, .slice none 0 0] := by rw [← hW]; exact Blk.new_at _ _ _ (by simp)
  have B0 := Lib.hid b0
  have B1 := Lib.hid b1
  have B2 := Lib.hid b2
  have HZ := Lib.hid hz
  have HW := Lib.hid hW
  clear b0 b1 b2 hz hW
  go_enter Try.func16, Try.ntmps16
  go_wp2_with fail
  rw [HW.out]
  refine (P.out _ (HS.out.on Bw.out)).mono ?_; rintro e w1 ⟨v1, rfl, ho1, k1⟩
  have K1 := Lib.hid k1
  have O1 := Lib.hid ho1
  have D1 := Lib.hid (delete_any now (w.heap.size + 1) W.heap.size v1 L (by omega) w1 ho1 (by rw [HZ.out]; omega) k1.size ((B1.out.below k1 (by rw [HZ.out]; omega)).cell 0))
  clear k1 ho1
  go_wp2_with fail
  refine D1.out.mono ?_; rintro e w2 ⟨v2, rfl, ho2, k2⟩
  obtain ⟨A2, c2, rfl, _, _, _, _⟩ := own_sliceN ho2
  have O2 := Lib.hid ho2
  have K2 := Lib.hid (K1.out.trans k2)
  have F0 := Lib.hid (B0.out.below K2.out (by rw [HZ.out]; omega)).facts2
  have F2 := Lib.hid (B2.out.below K2.out (by rw [HZ.out]; omega)).facts2
  clear k2 ho2
  obtain ⟨⟨x0, x1⟩, x2, x3⟩ := F0.out
  obtain ⟨⟨y0, y1⟩, y2, y3⟩ := F2.out
  go_wp2_with fail
  refine bodyPost_ret (v := .agg #[.int .i64 nx, .slice A2 (trimF now L).length c2]) (by simp [results, Try.results16, go_sem, y0, y1, y2, y3]) rfl ⟨_, rfl, ⟨_, rfl, ?_⟩, ?_⟩
  · exact (((O2.out.set (by rw [HZ.out]; omega) _).set (by rw [HZ.out]; omega) _).base (by rw [HZ.out]; omega))
  · exact below_setR (below_setR (Bw.out.trans (K2.out.mono (by rw [HZ.out]; omega))) (by omega) _) (by omega) _

set_option maxHeartbeats 4000000 in
theorem refTrim_any (nx now : Int) (A : Option Addr) (c : Nat) (L : List (Int × Int)) (hl : L.length ≤ 1048576) (w : World) (hs : NS w w.heap.size A L) :
    Calls Try.prog 17 #[fv nx A L.length c, .int .i64 now] w fun e w' => ∃ v', e = .returned v' ∧ FenceE w' w.heap.size nx (trimF now L) v' ∧ Below w.heap.size w w' := by
  have HS := Lib.hid hs
  clear hs
  obtain ⟨i0, hi, hz0, hz1, hz2⟩ := info_parts Try.info41
  have HI := Lib.hid (And.intro hi (And.intro hz0 (And.intro hz1 hz2)))
  clear hi hz0 hz1 hz2
  go_enter Try.func17, Try.ntmps17
  go_wp2_with fail
  go_loopw [6] (fun i wr => ∃ (k : Nat) (v : Value), k ≤ L.length ∧ i = .int .i64 k ∧ Blk wr w.heap.size 24 #[.int .i64 nx, .slice A L.length c] ∧ Blk wr (w.heap.size + 1) 24 #[.int .i64 0, .slice none 0 0] ∧ Blk wr (w.heap.size + 1 + 1) 24 #[.int .i64 nx, v] ∧ OwnN wr (w.heap.size + 1 + 1 + 1) v (trimF now (L.take k)) ∧ Below w.heap.size w wr) (fun i _ => L.length - (intOf i).toNat)
  case atStart =>
    refine ⟨0, _, by omega, rfl, ((Blk.new _ _ _).alloc _).alloc _, (Blk.new_at _ _ _ (by simp)).alloc _, Blk.new_at _ _ _ (by simp), ?_, (((Below.refl w.heap.size w).alloc (Nat.le_refl _) _).alloc (by simp) _).alloc (by simp; omega) _⟩
    rw [List.take_zero]; exact own_nilN _ _
  case round =>
    obtain ⟨k, v, hk, rfl, b0, b1, b2, ho, hb⟩ := hrel
    have HB := Lib.hid hb
    have HO := Lib.hid ho
    have B0 := Lib.hid b0
    have B1 := Lib.hid b1
    have B2 := Lib.hid b2
    have hsz : w.heap.size + 1 + 1 < wr.heap.size := b2.lt
    obtain ⟨⟨x0, x1⟩, x2, x3⟩ := b0.facts2
    obtain ⟨⟨y0, y1⟩, y2, y3⟩ := b1.facts2
    obtain ⟨⟨z0, z1⟩, z2, z3⟩ := b2.facts2
    clear hb ho b0 b1 b2
    by_cases hlt : k < L.length
    · obtain ⟨ad, rfl, had, c0, c1⟩ := (HS.out.below HB.out) k hlt
      have HT := Lib.hid (trim_take (now := now) k hlt)
      have HL := Lib.hid (trim_len_le (now := now) (L := L) k)
      have HE : Hid (L[k] = (L[k].1, L[k].2)) := Lib.hid rfl
      generalize hN : L[k].1 = n, hU : L[k].2 = u at c0 c1 HE
      clear hN hU
      cases hq : freshF now L[k] with
      | true =>
        have hge : now ≤ u := by rw [HE.out] at hq; unfold freshF at hq; simpa using hq
        have HT' := Lib.hid (show trimF now (L.take (k + 1)) = trimF now (L.take k) ++ [(n, u)] by rw [HT.out, hq, HE.out]; rfl)
        clear hq
        obtain ⟨A2, c2, rfl, _, _, _, _⟩ := own_sliceN HO.out
        obtain ⟨m, hm⟩ : ∃ m, (trimF now (L.take k)).length = m := ⟨_, rfl⟩
        have HM := Lib.hid hm
        have hmk : m ≤ k := by rw [← hm]; exact HL.out
        have HO2 := Lib.hid (show wr.ownsRow (w.heap.size + 1 + 1 + 1) 41 2 (.slice A2 m c2) m (cellsN (trimF now (L.take k))) by have h := HO.out; unfold OwnN at h; rw [hm] at h; exact h)
        rw [hm] at z1 B2
        clear hm HO
        have HB1 := Lib.hid (HB.out.alloc HB.out.size (.cells #[.int .i64 n, .int .i64 u] 41))
        go_wp2_with fail
        go_region_law (refine step_app_any (by rfl) _ _ 22 (by rfl) (w.heap.size + 1 + 1 + 1) 41 i0 (.agg #[.int .i64 0, .int .i64 0]) 2 16 Try.underlying22 HI.out.1 HI.out.2.1 HI.out.2.2.1 HI.out.2.2.2 (by rfl) (by decide) _ m (cellsN (trimF now (L.take k))) (by rfl) (HO2.out.alloc _) _ _ 1 _ (cellsN [(n, u)]) (by rfl) (reads_newN (Blk.new_at _ _ _ (by rfl)) 1 rfl) (cellsN_one _) (by unfold maxLen; omega) (by omega) (by simp; omega) ?_; intro v4 w4 ho4 hb4; have HO5 := Lib.hid (own_n (l := trimF now (L.take k) ++ [(n, u)]) ho4 (by simp [HM.out]) (by rw [cellsN_append])); obtain ⟨A4, c4, rfl, _, _, _, _⟩ := own_sliceN HO5.out; have HG4 := Lib.hid hb4; clear ho4 hb4; have c0' := Lib.hid ((B0.out.alloc (.cells #[.int .i64 n, .int .i64 u] 41)).drew.below HG4.out (by omega)); have c1' := Lib.hid ((B1.out.alloc (.cells #[.int .i64 n, .int .i64 u] 41)).drew.below HG4.out (by omega)); have c2' := Lib.hid ((B2.out.alloc (.cells #[.int .i64 n, .int .i64 u] 41)).drew.below HG4.out (by omega)); have HB4 := Lib.hid (HB1.out.drew.trans (HG4.out.mono (by omega))); obtain ⟨⟨s0, s1⟩, s2, s3⟩ := c2'.out.facts2)
        all_goals
          go_wp2_with fail
          go_roundw
          case rel =>
            refine ⟨k + 1, _, by omega, by go_num, c0'.out.other (by simp; omega) _, c1'.out.other (by simp) _, c2'.out.set 1 _, ?_, below_setR HB4.out (by omega) _⟩
            rw [HT'.out]
            have hf := HO5.out.set (g := w.heap.size + 1 + 1) (o := 1) (by omega) (.slice A4 (trimF now (L.take k) ++ [(n, u)]).length c4)
            simpa using hf
          case measure => simp [intOf]; omega
      | false =>
        have hge : ¬ now ≤ u := by rw [HE.out] at hq; unfold freshF at hq; simpa using hq
        have HT' := Lib.hid (show trimF now (L.take (k + 1)) = trimF now (L.take k) by rw [HT.out, hq]; rfl)
        clear hq
        go_wp2_with fail
        go_roundw
        case rel => exact ⟨k + 1, v, by omega, by go_num, B0.out, B1.out, B2.out, by rw [HT'.out]; exact HO.out, HB.out⟩
        case measure => simp [intOf]; omega
    · obtain rfl : k = L.length := by omega
      have HT := Lib.hid (show trimF now (L.take L.length) = trimF now L by rw [List.take_length])
      obtain ⟨A2, c2, rfl, _, _, _, _⟩ := own_sliceN HO.out
      go_wp2_with fail
      refine bodyPost_ret (v := .agg #[.int .i64 nx, .slice A2 (trimF now L).length c2]) (by simp [results, Try.results17, go_sem, y0, y1, y2, y3, HT.out]) rfl ⟨_, rfl, ⟨_, rfl, ?_⟩, ?_⟩
      · exact ((by have h := HO.out; rw [HT.out] at h; exact h : OwnN wr _ _ _).set (by omega) _ |>.set (by omega) _).base (by omega)
      · exact below_setR (below_setR HB.out (by omega) _) (by omega) _
end Go.Proofs.Ytdiafbeohldbjaa
