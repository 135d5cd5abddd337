/- Contracts of nonce: Tell, the program's and the document's (printed by tools/gen_nonce_tell.py). -/
import Derived.Test.YtdiafbeohldbjaaNonceE
namespace Go.Proofs.Ytdiafbeohldbjaa
open Go.ChangeShapes Go.WideShapes Go.ChangeAt Go.RowKit Gs
set_option linter.unusedVariables false
set_option linter.unusedSimpArgs false

def TellE (w : World) (B : Nat) (r : Int × List (Int × Int) × Int × Int) (e : Ending) : Prop := ∃ x, e = .returned (.tuple #[x, .int .i64 r.2.2.1, .int .i64 r.2.2.2]) ∧ FenceE w B r.1 r.2.1 x
theorem fence_zero (w : World) (B : Nat) : FenceE w B 0 [] (.agg #[.int .i64 0, .slice none 0 0]) := ⟨_, rfl, own_nilN _ _⟩
theorem tell_chk {nx now life : Int} {L : List (Int × Int)} (h : chkF nx L ≠ 0) : tellF nx L now life = (0, [], 0, chkF nx L) := by unfold tellF; rw [if_neg h]
theorem tell_arg {nx now life : Int} {L : List (Int × Int)} (h : chkF nx L = 0) (k : askF now life = false) : tellF nx L now life = (0, [], 0, 1) := by unfold tellF; rw [if_pos h, k]; rfl
theorem tell_full {nx now life : Int} {L : List (Int × Int)} (h : chkF nx L = 0) (k : askF now life = true) (g : 64 ≤ (trimF now L).length ∨ nx = 1099511627776) : tellF nx L now life = (0, [], 0, 2) := by
  unfold tellF; rw [if_pos h, k, if_pos rfl, if_pos (by simpa using g)]
theorem tell_ok {nx now life : Int} {L : List (Int × Int)} (h : chkF nx L = 0) (k : askF now life = true) (g1 : (trimF now L).length < 64) (g2 : nx ≠ 1099511627776) : tellF nx L now life = (nx + 1, trimF now L ++ [(nx, now + life)], nx, 0) := by
  unfold tellF; rw [if_pos h, k, if_pos rfl, if_neg (by simp; exact ⟨by omega, g2⟩)]
theorem Blk.setAt0 {w : World} {g : Nat} {t : TypeId} {x y : Value} (h : Blk w g t #[x, y]) (z : Value) : Blk (w.setCell ⟨g, 0, none⟩ z) g t #[z, y] := h.set 0 z
theorem Blk.setAt1 {w : World} {g : Nat} {t : TypeId} {x y : Value} (h : Blk w g t #[x, y]) (z : Value) : Blk (w.setCell ⟨g, 1, none⟩ z) g t #[x, z] := h.set 1 z
theorem trim_le (now : Int) (L : List (Int × Int)) : (trimF now L).length ≤ L.length := List.length_filter_le _ _

set_option maxHeartbeats 4000000 in
theorem Tell_chk (nx now life : Int) (A : Option Addr) (c : Nat) (L : List (Int × Int)) (hl : L.length ≤ 1048576) (w : World) (hs : NS w w.heap.size A L) (h : chkF nx L ≠ 0) :
    Calls Try.prog 18 #[fv nx A L.length c, .int .i64 now, .int .i64 life] w fun e w' => TellE w' w.heap.size (tellF nx L now life) e ∧ Below w.heap.size w w' := by
  have HS := Lib.hid hs
  have HC := Lib.hid (fun w hs => Check_any nx A c L (by omega) w hs)
  clear hs
  have Bw := Lib.hid ((((Below.refl w.heap.size w).alloc (Nat.le_refl _) (.cells #[.int .i64 nx, .slice A L.length c] 24)).alloc (by simp) (.cells #[.int .i64 0, .slice none 0 0] 24)))
  generalize hW : ((w.alloc (.cells #[.int .i64 nx, .slice A L.length c] 24)).alloc (.cells #[.int .i64 0, .slice none 0 0] 24)) = W at Bw
  have hz : W.heap.size = w.heap.size + 2 := by rw [← hW]; simp
  have b0 : Blk W w.heap.size 24 #[.int .i64 nx, .slice A L.length c] := by rw [← hW]; exact ((Blk.new _ _ _).alloc _)
  have b1 : Blk W (w.heap.size + 1) 24 #[.int .i64 0, .slice none 0 0] := by rw [← hW]; exact (Blk.new_at _ _ _ (by simp))
  have B0 := Lib.hid b0
  have B1 := Lib.hid b1
  have HZ := Lib.hid hz
  have HW := Lib.hid hW
  clear b0 b1 hz hW
  have HR := Lib.hid (tell_chk (now := now) (life := life) h)
  have hx : (chkF nx L != 0) = true := by simpa using h
  generalize chkF nx L = r at HC HR hx
  clear h
  go_enter Try.func18, Try.ntmps18
  go_wp2_with fail
  rw [HW.out]
  refine (HC.out _ (HS.out.on Bw.out)).mono ?_; rintro e w1 ⟨rfl, k1⟩
  have K1 := Lib.hid k1
  have D0 := Lib.hid (B0.out.below k1 (by rw [HZ.out]; omega))
  have D1 := Lib.hid (B1.out.below k1 (by rw [HZ.out]; omega))
  clear k1
  obtain ⟨⟨x0, x1⟩, x2, x3⟩ := D0.out.facts2
  obtain ⟨⟨y0, y1⟩, y2, y3⟩ := D1.out.facts2
  go_wp2_with fail
  refine bodyPost_ret (v := .tuple #[.agg #[.int .i64 0, .slice none 0 0], .int .i64 0, .int .i64 r]) (by simp [results, Try.results18, go_sem, y0, y1, y2, y3]) rfl ⟨⟨_, by rw [HR.out], by rw [HR.out]; exact fence_zero _ _⟩, ?_⟩
  exact below_setR (below_setR (Bw.out.trans (K1.out.mono (by rw [HZ.out]; omega))) (by omega) _) (by omega) _

set_option maxHeartbeats 4000000 in
theorem Tell_arg (nx now life : Int) (A : Option Addr) (c : Nat) (L : List (Int × Int)) (hl : L.length ≤ 1048576) (w : World) (hs : NS w w.heap.size A L) (h : chkF nx L = 0) (k : askF now life = false) :
    Calls Try.prog 18 #[fv nx A L.length c, .int .i64 now, .int .i64 life] w fun e w' => TellE w' w.heap.size (tellF nx L now life) e ∧ Below w.heap.size w w' := by
  have HS := Lib.hid hs
  have HC := Lib.hid (fun w hs => Check_any nx A c L (by omega) w hs)
  clear hs
  have Bw := Lib.hid ((((Below.refl w.heap.size w).alloc (Nat.le_refl _) (.cells #[.int .i64 nx, .slice A L.length c] 24)).alloc (by simp) (.cells #[.int .i64 0, .slice none 0 0] 24)))
  generalize hW : ((w.alloc (.cells #[.int .i64 nx, .slice A L.length c] 24)).alloc (.cells #[.int .i64 0, .slice none 0 0] 24)) = W at Bw
  have hz : W.heap.size = w.heap.size + 2 := by rw [← hW]; simp
  have b0 : Blk W w.heap.size 24 #[.int .i64 nx, .slice A L.length c] := by rw [← hW]; exact ((Blk.new _ _ _).alloc _)
  have b1 : Blk W (w.heap.size + 1) 24 #[.int .i64 0, .slice none 0 0] := by rw [← hW]; exact (Blk.new_at _ _ _ (by simp))
  have B0 := Lib.hid b0
  have B1 := Lib.hid b1
  have HZ := Lib.hid hz
  have HW := Lib.hid hW
  clear b0 b1 hz hW
  have HR := Lib.hid (tell_arg (now := now) (life := life) h k)
  rw [h] at HC
  clear h
  have T1 := Lib.hid (fun w => isTime_any now w)
  have T2 := Lib.hid (fun w => isTime_any life w)
  have T3 := Lib.hid (fun w => isTime_any (now + life) w)
  by_cases h1 : tm now = true
  · by_cases h2 : 1 ≤ life
    · by_cases h3 : tm life = true
      · have h4 : tm (now + life) = false := by unfold askF at k; rw [h1, h3, decide_eq_true h2] at k; simpa using k
        rw [h1] at T1; rw [h3] at T2; rw [h4] at T3
        have e1 := tm_iff.1 h1
        have e3 := tm_iff.1 h3
        clear k h1 h3 h4
        go_enter Try.func18, Try.ntmps18
        go_wp2_with fail
        rw [HW.out]
        refine (HC.out _ (HS.out.on Bw.out)).mono ?_; rintro e w1 ⟨rfl, k1⟩
        have K1 := Lib.hid k1
        have D0 := Lib.hid (B0.out.below k1 (by rw [HZ.out]; omega))
        have D1 := Lib.hid (B1.out.below k1 (by rw [HZ.out]; omega))
        clear k1
        obtain ⟨⟨x0, x1⟩, x2, x3⟩ := D0.out.facts2
        obtain ⟨⟨y0, y1⟩, y2, y3⟩ := D1.out.facts2
        go_wp2_with fail
        refine (T1.out _).mono ?_; rintro e w2 ⟨rfl, rfl⟩
        go_wp2_with fail
        refine (T2.out _).mono ?_; rintro e w2 ⟨rfl, rfl⟩
        go_wp2_with fail
        refine (T3.out _).mono ?_; rintro e w2 ⟨rfl, rfl⟩
        go_wp2_with fail
        refine bodyPost_ret (v := .tuple #[.agg #[.int .i64 0, .slice none 0 0], .int .i64 0, .int .i64 1]) (by simp [results, Try.results18, go_sem, y0, y1, y2, y3]) rfl ⟨⟨_, by rw [HR.out], by rw [HR.out]; exact fence_zero _ _⟩, ?_⟩
        exact below_setR (below_setR (Bw.out.trans (K1.out.mono (by rw [HZ.out]; omega))) (by omega) _) (by omega) _
      · have h3' : tm life = false := by simpa using h3
        rw [h1] at T1; rw [h3'] at T2
        have e3 : 1099511627776 < life := by have := tm_no.1 h3'; omega
        clear k h1 h3 h3'
        go_enter Try.func18, Try.ntmps18
        go_wp2_with fail
        rw [HW.out]
        refine (HC.out _ (HS.out.on Bw.out)).mono ?_; rintro e w1 ⟨rfl, k1⟩
        have K1 := Lib.hid k1
        have D0 := Lib.hid (B0.out.below k1 (by rw [HZ.out]; omega))
        have D1 := Lib.hid (B1.out.below k1 (by rw [HZ.out]; omega))
        clear k1
        obtain ⟨⟨x0, x1⟩, x2, x3⟩ := D0.out.facts2
        obtain ⟨⟨y0, y1⟩, y2, y3⟩ := D1.out.facts2
        go_wp2_with fail
        refine (T1.out _).mono ?_; rintro e w2 ⟨rfl, rfl⟩
        go_wp2_with fail
        refine (T2.out _).mono ?_; rintro e w2 ⟨rfl, rfl⟩
        go_wp2_with fail
        refine bodyPost_ret (v := .tuple #[.agg #[.int .i64 0, .slice none 0 0], .int .i64 0, .int .i64 1]) (by simp [results, Try.results18, go_sem, y0, y1, y2, y3]) rfl ⟨⟨_, by rw [HR.out], by rw [HR.out]; exact fence_zero _ _⟩, ?_⟩
        exact below_setR (below_setR (Bw.out.trans (K1.out.mono (by rw [HZ.out]; omega))) (by omega) _) (by omega) _
    · rw [h1] at T1
      clear k h1
      go_enter Try.func18, Try.ntmps18
      go_wp2_with fail
      rw [HW.out]
      refine (HC.out _ (HS.out.on Bw.out)).mono ?_; rintro e w1 ⟨rfl, k1⟩
      have K1 := Lib.hid k1
      have D0 := Lib.hid (B0.out.below k1 (by rw [HZ.out]; omega))
      have D1 := Lib.hid (B1.out.below k1 (by rw [HZ.out]; omega))
      clear k1
      obtain ⟨⟨x0, x1⟩, x2, x3⟩ := D0.out.facts2
      obtain ⟨⟨y0, y1⟩, y2, y3⟩ := D1.out.facts2
      go_wp2_with fail
      refine (T1.out _).mono ?_; rintro e w2 ⟨rfl, rfl⟩
      go_wp2_with fail
      refine bodyPost_ret (v := .tuple #[.agg #[.int .i64 0, .slice none 0 0], .int .i64 0, .int .i64 1]) (by simp [results, Try.results18, go_sem, y0, y1, y2, y3]) rfl ⟨⟨_, by rw [HR.out], by rw [HR.out]; exact fence_zero _ _⟩, ?_⟩
      exact below_setR (below_setR (Bw.out.trans (K1.out.mono (by rw [HZ.out]; omega))) (by omega) _) (by omega) _
  · have h1' : tm now = false := by simpa using h1
    rw [h1'] at T1
    clear k h1 h1'
    go_enter Try.func18, Try.ntmps18
    go_wp2_with fail
    rw [HW.out]
    refine (HC.out _ (HS.out.on Bw.out)).mono ?_; rintro e w1 ⟨rfl, k1⟩
    have K1 := Lib.hid k1
    have D0 := Lib.hid (B0.out.below k1 (by rw [HZ.out]; omega))
    have D1 := Lib.hid (B1.out.below k1 (by rw [HZ.out]; omega))
    clear k1
    obtain ⟨⟨x0, x1⟩, x2, x3⟩ := D0.out.facts2
    obtain ⟨⟨y0, y1⟩, y2, y3⟩ := D1.out.facts2
    go_wp2_with fail
    refine (T1.out _).mono ?_; rintro e w2 ⟨rfl, rfl⟩
    go_wp2_with fail
    refine bodyPost_ret (v := .tuple #[.agg #[.int .i64 0, .slice none 0 0], .int .i64 0, .int .i64 1]) (by simp [results, Try.results18, go_sem, y0, y1, y2, y3]) rfl ⟨⟨_, by rw [HR.out], by rw [HR.out]; exact fence_zero _ _⟩, ?_⟩
    exact below_setR (below_setR (Bw.out.trans (K1.out.mono (by rw [HZ.out]; omega))) (by omega) _) (by omega) _

set_option maxHeartbeats 4000000 in
theorem Tell_full1 (nx now life : Int) (A : Option Addr) (c : Nat) (L : List (Int × Int)) (hl : L.length ≤ 1048576) (w : World) (hs : NS w w.heap.size A L) (h : chkF nx L = 0) (k : askF now life = true) (g : 64 ≤ (trimF now L).length) :
    Calls Try.prog 18 #[fv nx A L.length c, .int .i64 now, .int .i64 life] w fun e w' => TellE w' w.heap.size (tellF nx L now life) e ∧ Below w.heap.size w w' := by
  have HS := Lib.hid hs
  have HC := Lib.hid (fun w hs => Check_any nx A c L (by omega) w hs)
  clear hs
  have Bw := Lib.hid ((((Below.refl w.heap.size w).alloc (Nat.le_refl _) (.cells #[.int .i64 nx, .slice A L.length c] 24)).alloc (by simp) (.cells #[.int .i64 0, .slice none 0 0] 24)))
  generalize hW : ((w.alloc (.cells #[.int .i64 nx, .slice A L.length c] 24)).alloc (.cells #[.int .i64 0, .slice none 0 0] 24)) = W at Bw
  have hz : W.heap.size = w.heap.size + 2 := by rw [← hW]; simp
  have b0 : Blk W w.heap.size 24 #[.int .i64 nx, .slice A L.length c] := by rw [← hW]; exact ((Blk.new _ _ _).alloc _)
  have b1 : Blk W (w.heap.size + 1) 24 #[.int .i64 0, .slice none 0 0] := by rw [← hW]; exact (Blk.new_at _ _ _ (by simp))
  have B0 := Lib.hid b0
  have B1 := Lib.hid b1
  have HZ := Lib.hid hz
  have HW := Lib.hid hW
  clear b0 b1 hz hW
  have HR := Lib.hid (tell_full h k (.inl g))
  have hm64 := trim_le now L
  have hL := (chk_ok.1 h).2.2
  have hnx := tm_iff.1 (chk_ok.1 h).1
  rw [h] at HC
  have k' := k
  unfold askF at k'
  simp only [Bool.and_eq_true, decide_eq_true_eq] at k'
  obtain ⟨⟨⟨h1, h2⟩, h3⟩, h4⟩ := k'
  have T1 := Lib.hid (fun w => isTime_any now w)
  have T2 := Lib.hid (fun w => isTime_any life w)
  have T3 := Lib.hid (fun w => isTime_any (now + life) w)
  rw [h1] at T1; rw [h3] at T2; rw [h4] at T3
  have HT := Lib.hid (fun w hs => Trim_any nx now A c L hl w hs)
  have e1 := tm_iff.1 h1
  have e3 := tm_iff.1 h3
  have e4 := tm_iff.1 h4
  obtain ⟨m, hm⟩ : ∃ m, (trimF now L).length = m := ⟨_, rfl⟩
  rw [hm] at hm64
  have HM := Lib.hid hm
  clear h k h1 h3 h4
  have hmm : 64 ≤ m := by rw [← HM.out]; exact g
  have hm5 : m = 64 := by omega
  have g1 : ((m : Int) == 64) = true := by rw [hm5]; rfl
  have g2 : decide (64 ≤ m) = true := decide_eq_true hmm
  clear hm5 g
  go_enter Try.func18, Try.ntmps18
  go_wp2_with fail
  rw [HW.out]
  refine (HC.out _ (HS.out.on Bw.out)).mono ?_; rintro e w1 ⟨rfl, k1⟩
  have K1 := Lib.hid k1
  have D0 := Lib.hid (B0.out.below k1 (by rw [HZ.out]; omega))
  have D1 := Lib.hid (B1.out.below k1 (by rw [HZ.out]; omega))
  clear k1
  obtain ⟨⟨x0, x1⟩, x2, x3⟩ := D0.out.facts2
  obtain ⟨⟨y0, y1⟩, y2, y3⟩ := D1.out.facts2
  go_wp2_with fail
  refine (T1.out _).mono ?_; rintro e w2 ⟨rfl, rfl⟩
  go_wp2_with fail
  refine (T2.out _).mono ?_; rintro e w2 ⟨rfl, rfl⟩
  go_wp2_with fail
  refine (T3.out _).mono ?_; rintro e w2 ⟨rfl, rfl⟩
  go_wp2_with fail
  refine (HT.out _ ((HS.out.on Bw.out).on K1.out)).mono ?_; rintro e w3 ⟨v, rfl, ⟨x, rfl, ho3⟩, k3⟩
  obtain ⟨A2, c2, rfl, _, _, _, _⟩ := own_sliceN ho3
  have K3 := Lib.hid (K1.out.trans (k3.mono K1.out.size))
  have E0 := Lib.hid (D0.out.below k3 D0.out.lt)
  have E1 := Lib.hid (D1.out.below k3 D1.out.lt)
  have HO3 := Lib.hid (show w3.ownsRow W.heap.size 41 2 (.slice A2 m c2) m (cellsN (trimF now L)) by have h := ho3.base K1.out.size; unfold OwnN at h; rw [HM.out] at h; exact h)
  have hsz : w.heap.size + 1 < w3.heap.size := E1.out.lt
  have hsz0 : w.heap.size < w3.heap.size := E0.out.lt
  rw [HM.out]
  clear k3 ho3 x0 x1 x2 x3 y0 y1 y2 y3
  obtain ⟨⟨x0, x1⟩, x2, x3⟩ := E0.out.facts2
  obtain ⟨⟨y0, y1⟩, y2, y3⟩ := E1.out.facts2
  go_wp2_with fail
  have Z := (E1.out.set2 (x' := .int .i64 nx) (y' := .slice A2 m c2)).set2 (x' := .int .i64 0) (y' := .slice none 0 0)
  obtain ⟨⟨z0, z1⟩, z2, z3⟩ := Z.facts2
  refine bodyPost_ret (v := .tuple #[.agg #[.int .i64 0, .slice none 0 0], .int .i64 0, .int .i64 2]) (by simp [results, Try.results18, go_sem, y0, y1, y2, y3, z0, z1]) rfl ⟨⟨_, by rw [HR.out], by rw [HR.out]; exact fence_zero _ _⟩, ?_⟩
  exact below_setR (below_setR (below_setR (below_setR (Bw.out.trans (K3.out.mono (by rw [HZ.out]; omega))) (by omega) _) (by omega) _) (by omega) _) (by omega) _

set_option maxHeartbeats 4000000 in
theorem Tell_full2 (nx now life : Int) (A : Option Addr) (c : Nat) (L : List (Int × Int)) (hl : L.length ≤ 1048576) (w : World) (hs : NS w w.heap.size A L) (h : chkF nx L = 0) (k : askF now life = true) (g : (trimF now L).length < 64) (g' : nx = 1099511627776) :
    Calls Try.prog 18 #[fv nx A L.length c, .int .i64 now, .int .i64 life] w fun e w' => TellE w' w.heap.size (tellF nx L now life) e ∧ Below w.heap.size w w' := by
  have HS := Lib.hid hs
  have HC := Lib.hid (fun w hs => Check_any nx A c L (by omega) w hs)
  clear hs
  have Bw := Lib.hid ((((Below.refl w.heap.size w).alloc (Nat.le_refl _) (.cells #[.int .i64 nx, .slice A L.length c] 24)).alloc (by simp) (.cells #[.int .i64 0, .slice none 0 0] 24)))
  generalize hW : ((w.alloc (.cells #[.int .i64 nx, .slice A L.length c] 24)).alloc (.cells #[.int .i64 0, .slice none 0 0] 24)) = W at Bw
  have hz : W.heap.size = w.heap.size + 2 := by rw [← hW]; simp
  have b0 : Blk W w.heap.size 24 #[.int .i64 nx, .slice A L.length c] := by rw [← hW]; exact ((Blk.new _ _ _).alloc _)
  have b1 : Blk W (w.heap.size + 1) 24 #[.int .i64 0, .slice none 0 0] := by rw [← hW]; exact (Blk.new_at _ _ _ (by simp))
  have B0 := Lib.hid b0
  have B1 := Lib.hid b1
  have HZ := Lib.hid hz
  have HW := Lib.hid hW
  clear b0 b1 hz hW
  have HR := Lib.hid (tell_full h k (.inr g'))
  have hm64 := trim_le now L
  have hL := (chk_ok.1 h).2.2
  have hnx := tm_iff.1 (chk_ok.1 h).1
  rw [h] at HC
  have k' := k
  unfold askF at k'
  simp only [Bool.and_eq_true, decide_eq_true_eq] at k'
  obtain ⟨⟨⟨h1, h2⟩, h3⟩, h4⟩ := k'
  have T1 := Lib.hid (fun w => isTime_any now w)
  have T2 := Lib.hid (fun w => isTime_any life w)
  have T3 := Lib.hid (fun w => isTime_any (now + life) w)
  rw [h1] at T1; rw [h3] at T2; rw [h4] at T3
  have HT := Lib.hid (fun w hs => Trim_any nx now A c L hl w hs)
  have e1 := tm_iff.1 h1
  have e3 := tm_iff.1 h3
  have e4 := tm_iff.1 h4
  obtain ⟨m, hm⟩ : ∃ m, (trimF now L).length = m := ⟨_, rfl⟩
  rw [hm] at hm64
  have HM := Lib.hid hm
  clear h k h1 h3 h4
  have hmm : m < 64 := by rw [← HM.out]; exact g
  have g1 : ((m : Int) == 64) = false := beq_eq_false_iff_ne.2 (by omega)
  have g2 : decide (64 ≤ m) = false := decide_eq_false (by omega)
  have g3 : (nx == 1099511627776) = true := beq_iff_eq.2 g'
  clear g g'
  go_enter Try.func18, Try.ntmps18
  go_wp2_with fail
  rw [HW.out]
  refine (HC.out _ (HS.out.on Bw.out)).mono ?_; rintro e w1 ⟨rfl, k1⟩
  have K1 := Lib.hid k1
  have D0 := Lib.hid (B0.out.below k1 (by rw [HZ.out]; omega))
  have D1 := Lib.hid (B1.out.below k1 (by rw [HZ.out]; omega))
  clear k1
  obtain ⟨⟨x0, x1⟩, x2, x3⟩ := D0.out.facts2
  obtain ⟨⟨y0, y1⟩, y2, y3⟩ := D1.out.facts2
  go_wp2_with fail
  refine (T1.out _).mono ?_; rintro e w2 ⟨rfl, rfl⟩
  go_wp2_with fail
  refine (T2.out _).mono ?_; rintro e w2 ⟨rfl, rfl⟩
  go_wp2_with fail
  refine (T3.out _).mono ?_; rintro e w2 ⟨rfl, rfl⟩
  go_wp2_with fail
  refine (HT.out _ ((HS.out.on Bw.out).on K1.out)).mono ?_; rintro e w3 ⟨v, rfl, ⟨x, rfl, ho3⟩, k3⟩
  obtain ⟨A2, c2, rfl, _, _, _, _⟩ := own_sliceN ho3
  have K3 := Lib.hid (K1.out.trans (k3.mono K1.out.size))
  have E0 := Lib.hid (D0.out.below k3 D0.out.lt)
  have E1 := Lib.hid (D1.out.below k3 D1.out.lt)
  have HO3 := Lib.hid (show w3.ownsRow W.heap.size 41 2 (.slice A2 m c2) m (cellsN (trimF now L)) by have h := ho3.base K1.out.size; unfold OwnN at h; rw [HM.out] at h; exact h)
  have hsz : w.heap.size + 1 < w3.heap.size := E1.out.lt
  have hsz0 : w.heap.size < w3.heap.size := E0.out.lt
  rw [HM.out]
  clear k3 ho3 x0 x1 x2 x3 y0 y1 y2 y3
  obtain ⟨⟨x0, x1⟩, x2, x3⟩ := E0.out.facts2
  obtain ⟨⟨y0, y1⟩, y2, y3⟩ := E1.out.facts2
  go_wp2_with fail
  have Z := (E1.out.set2 (x' := .int .i64 nx) (y' := .slice A2 m c2)).set2 (x' := .int .i64 0) (y' := .slice none 0 0)
  obtain ⟨⟨z0, z1⟩, z2, z3⟩ := Z.facts2
  refine bodyPost_ret (v := .tuple #[.agg #[.int .i64 0, .slice none 0 0], .int .i64 0, .int .i64 2]) (by simp [results, Try.results18, go_sem, y0, y1, y2, y3, z0, z1]) rfl ⟨⟨_, by rw [HR.out], by rw [HR.out]; exact fence_zero _ _⟩, ?_⟩
  exact below_setR (below_setR (below_setR (below_setR (Bw.out.trans (K3.out.mono (by rw [HZ.out]; omega))) (by omega) _) (by omega) _) (by omega) _) (by omega) _

set_option maxHeartbeats 4000000 in
theorem Tell_ok (nx now life : Int) (A : Option Addr) (c : Nat) (L : List (Int × Int)) (hl : L.length ≤ 1048576) (w : World) (hs : NS w w.heap.size A L) (h : chkF nx L = 0) (k : askF now life = true) (g1 : (trimF now L).length < 64) (g2 : nx ≠ 1099511627776) :
    Calls Try.prog 18 #[fv nx A L.length c, .int .i64 now, .int .i64 life] w fun e w' => TellE w' w.heap.size (tellF nx L now life) e ∧ Below w.heap.size w w' := by
  have HS := Lib.hid hs
  have HC := Lib.hid (fun w hs => Check_any nx A c L (by omega) w hs)
  clear hs
  have Bw := Lib.hid ((((Below.refl w.heap.size w).alloc (Nat.le_refl _) (.cells #[.int .i64 nx, .slice A L.length c] 24)).alloc (by simp) (.cells #[.int .i64 0, .slice none 0 0] 24)))
  generalize hW : ((w.alloc (.cells #[.int .i64 nx, .slice A L.length c] 24)).alloc (.cells #[.int .i64 0, .slice none 0 0] 24)) = W at Bw
  have hz : W.heap.size = w.heap.size + 2 := by rw [← hW]; simp
  have b0 : Blk W w.heap.size 24 #[.int .i64 nx, .slice A L.length c] := by rw [← hW]; exact ((Blk.new _ _ _).alloc _)
  have b1 : Blk W (w.heap.size + 1) 24 #[.int .i64 0, .slice none 0 0] := by rw [← hW]; exact (Blk.new_at _ _ _ (by simp))
  have B0 := Lib.hid b0
  have B1 := Lib.hid b1
  have HZ := Lib.hid hz
  have HW := Lib.hid hW
  clear b0 b1 hz hW
  have HR := Lib.hid (tell_ok h k g1 g2)
  have hm64 := trim_le now L
  have hL := (chk_ok.1 h).2.2
  have hnx := tm_iff.1 (chk_ok.1 h).1
  rw [h] at HC
  have k' := k
  unfold askF at k'
  simp only [Bool.and_eq_true, decide_eq_true_eq] at k'
  obtain ⟨⟨⟨h1, h2⟩, h3⟩, h4⟩ := k'
  have T1 := Lib.hid (fun w => isTime_any now w)
  have T2 := Lib.hid (fun w => isTime_any life w)
  have T3 := Lib.hid (fun w => isTime_any (now + life) w)
  rw [h1] at T1; rw [h3] at T2; rw [h4] at T3
  have HT := Lib.hid (fun w hs => Trim_any nx now A c L hl w hs)
  have e1 := tm_iff.1 h1
  have e3 := tm_iff.1 h3
  have e4 := tm_iff.1 h4
  obtain ⟨m, hm⟩ : ∃ m, (trimF now L).length = m := ⟨_, rfl⟩
  rw [hm] at hm64
  have HM := Lib.hid hm
  clear h k h1 h3 h4
  have hmm : m < 64 := by rw [← HM.out]; exact g1
  have g5 : ((m : Int) == 64) = false := beq_eq_false_iff_ne.2 (by omega)
  have g6 : decide (64 ≤ m) = false := decide_eq_false (by omega)
  have g7 : (nx == 1099511627776) = false := beq_eq_false_iff_ne.2 g2
  obtain ⟨i0, hi, hz0, hz1, hz2⟩ := info_parts Try.info41
  have HI := Lib.hid (And.intro hi (And.intro hz0 (And.intro hz1 hz2)))
  have hzw := HZ.out
  clear hi hz0 hz1 hz2 g1 g2
  go_enter Try.func18, Try.ntmps18
  go_wp2_with fail
  rw [HW.out]
  refine (HC.out _ (HS.out.on Bw.out)).mono ?_; rintro e w1 ⟨rfl, k1⟩
  have K1 := Lib.hid k1
  have D0 := Lib.hid (B0.out.below k1 (by rw [HZ.out]; omega))
  have D1 := Lib.hid (B1.out.below k1 (by rw [HZ.out]; omega))
  clear k1
  obtain ⟨⟨x0, x1⟩, x2, x3⟩ := D0.out.facts2
  obtain ⟨⟨y0, y1⟩, y2, y3⟩ := D1.out.facts2
  go_wp2_with fail
  refine (T1.out _).mono ?_; rintro e w2 ⟨rfl, rfl⟩
  go_wp2_with fail
  refine (T2.out _).mono ?_; rintro e w2 ⟨rfl, rfl⟩
  go_wp2_with fail
  refine (T3.out _).mono ?_; rintro e w2 ⟨rfl, rfl⟩
  go_wp2_with fail
  refine (HT.out _ ((HS.out.on Bw.out).on K1.out)).mono ?_; rintro e w3 ⟨v, rfl, ⟨x, rfl, ho3⟩, k3⟩
  obtain ⟨A2, c2, rfl, _, _, _, _⟩ := own_sliceN ho3
  have K3 := Lib.hid (K1.out.trans (k3.mono K1.out.size))
  have E0 := Lib.hid (D0.out.below k3 D0.out.lt)
  have E1 := Lib.hid (D1.out.below k3 D1.out.lt)
  have HO3 := Lib.hid (show w3.ownsRow W.heap.size 41 2 (.slice A2 m c2) m (cellsN (trimF now L)) by have h := ho3.base K1.out.size; unfold OwnN at h; rw [HM.out] at h; exact h)
  have hsz : w.heap.size + 1 < w3.heap.size := E1.out.lt
  have hsz0 : w.heap.size < w3.heap.size := E0.out.lt
  rw [HM.out]
  clear k3 ho3 x0 x1 x2 x3 y0 y1 y2 y3
  obtain ⟨⟨x0, x1⟩, x2, x3⟩ := E0.out.facts2
  obtain ⟨⟨y0, y1⟩, y2, y3⟩ := E1.out.facts2
  have NE3 : ∀ o, (Value.slice A2 m c2).ownBlock ≠ some (Addr.block ⟨w.heap.size + 1, o, none⟩) := fun o e => by have := own_ge HO3.out _ e; simp at this; omega
  have NE4 : ∀ g, (Value.slice A2 m c2).ownBlock = some g → W.heap.size ≤ g := fun g e => own_ge HO3.out _ e
  have HO4 := Lib.hid ((ownsRow_setCell_other (ownsRow_setCell_other HO3.out (NE3 0) (.int .i64 nx)) (NE3 1) (.slice A2 m c2)).alloc (.cells #[.int .i64 nx, .int .i64 (now + life)] 41))
  have HN4 := Lib.hid (show Blk (((w3.setCell ⟨w.heap.size + 1, 0, none⟩ (.int .i64 nx)).setCell ⟨w.heap.size + 1, 1, none⟩ (.slice A2 m c2)).alloc (.cells #[.int .i64 nx, .int .i64 (now + life)] 41)) w3.heap.size 41 (cellsN [(nx, now + life)]).toArray from Blk.new_at _ _ _ (by simp [World.setCell]))
  have HS4 := Lib.hid (show W.heap.size ≤ ((((w3.setCell ⟨w.heap.size + 1, 0, none⟩ (.int .i64 nx)).setCell ⟨w.heap.size + 1, 1, none⟩ (.slice A2 m c2)).alloc (.cells #[.int .i64 nx, .int .i64 (now + life)] 41))).heap.size by have := K3.out.size; have : W.heap.size ≤ w3.heap.size := this; simp [World.setCell]; omega)
  have F4 := Lib.hid (((E1.out.set2 (x' := .int .i64 nx) (y' := .slice A2 m c2)).alloc (.cells #[.int .i64 nx, .int .i64 (now + life)] 41)))
  have B4 := Lib.hid ((below_setR (below_setR (Bw.out.trans (K3.out.mono (by rw [HZ.out]; omega))) (g := w.heap.size + 1) (o := 0) (by omega) (.int .i64 nx)) (g := w.heap.size + 1) (o := 1) (by omega) (.slice A2 m c2)).alloc (by simp [World.setCell]; omega) (.cells #[.int .i64 nx, .int .i64 (now + life)] 41))
  have NE5 := Lib.hid NE4
  clear NE3 NE4
  go_wp2_with (at_builtin; first | (refine wpList_append_any _ (by rfl) _ _ 22 (by rfl) W.heap.size 41 i0 (.agg #[.int .i64 0, .int .i64 0]) 2 16 Try.underlying22 HI.out.1 HI.out.2.1 HI.out.2.2.1 HI.out.2.2.2 (by rfl) (by decide) _ m (cellsN (trimF now L)) (by rfl) HO4.out _ _ 1 _ (cellsN [(nx, now + life)]) (by rfl) (reads_newN HN4.out 1 rfl) (cellsN_one _) (by unfold maxLen; omega) (by omega) HS4.out ?_; intro v4 w4 ho4 hg4 hw4; have HO5 := Lib.hid (own_n (l := trimF now L ++ [(nx, now + life)]) ho4 (by simp [HM.out]) (by rw [cellsN_append])); obtain ⟨A4, c4, rfl, _, _, _, _⟩ := own_sliceN HO5.out; have HG4 := Lib.hid hg4; clear ho4 hg4 hw4; have F1 := Lib.hid (F4.out.grown HG4.out (fun e => by have := NE5.out _ e.symm; omega)); obtain ⟨⟨s0, s1⟩, s2, s3⟩ := F1.out.facts2) | fail)
  have B5 := Lib.hid (B4.out.grown HG4.out (by have := HS4.out; omega) (fun g e => by have := NE5.out _ e; omega))
  go_wp2_with fail
  have Z := (((F1.out.setAt1 (.slice A4 (m + 1) c4)).setAt0 (.int .i64 (nx + 1))).setAt0 (.int .i64 (nx + 1))).setAt1 (.slice A4 (m + 1) c4)
  obtain ⟨⟨z0, z1⟩, z2, z3⟩ := Z.facts2
  refine bodyPost_ret (v := .tuple #[.agg #[.int .i64 (nx + 1), .slice A4 (m + 1) c4], .int .i64 nx, .int .i64 0]) (by simp [results, Try.results18, go_sem, z0, z1]) rfl ⟨⟨_, by rw [HR.out], ?_⟩, ?_⟩
  · rw [HR.out]
    refine ⟨_, rfl, ?_⟩
    have h := (((HO5.out.set (g := w.heap.size + 1) (o := 1) (by omega) (.slice A4 (m + 1) c4)).set (g := w.heap.size + 1) (o := 0) (by omega) (.int .i64 (nx + 1))).set (g := w.heap.size + 1) (o := 0) (by omega) (.int .i64 (nx + 1))).set (g := w.heap.size + 1) (o := 1) (by omega) (.slice A4 (m + 1) c4)
    simp only [List.length_append, List.length_cons, List.length_nil, HM.out, Nat.zero_add] at h
    exact h.base (by omega)
  · exact below_setR (below_setR (below_setR (below_setR B5.out (by omega) _) (by omega) _) (by omega) _) (by omega) _

set_option maxHeartbeats 4000000 in
theorem refTell_chk (nx now life : Int) (A : Option Addr) (c : Nat) (L : List (Int × Int)) (hl : L.length ≤ 1048576) (w : World) (hs : NS w w.heap.size A L) (h : chkF nx L ≠ 0) :
    Calls Try.prog 19 #[fv nx A L.length c, .int .i64 now, .int .i64 life] w fun e w' => TellE w' w.heap.size (tellF nx L now life) e ∧ Below w.heap.size w w' := by
  have HS := Lib.hid hs
  have HC := Lib.hid (fun w hs => refCheck_any nx A c L (by omega) w hs)
  clear hs
  have Bw := Lib.hid ((((Below.refl w.heap.size w).alloc (Nat.le_refl _) (.cells #[.int .i64 nx, .slice A L.length c] 24)).alloc (by simp) (.cells #[.int .i64 0, .slice none 0 0] 24)))
  generalize hW : ((w.alloc (.cells #[.int .i64 nx, .slice A L.length c] 24)).alloc (.cells #[.int .i64 0, .slice none 0 0] 24)) = W at Bw
  have hz : W.heap.size = w.heap.size + 2 := by rw [← hW]; simp
  have b0 : Blk W w.heap.size 24 #[.int .i64 nx, .slice A L.length c] := by rw [← hW]; exact ((Blk.new _ _ _).alloc _)
  have b1 : Blk W (w.heap.size + 1) 24 #[.int .i64 0, .slice none 0 0] := by rw [← hW]; exact (Blk.new_at _ _ _ (by simp))
  have B0 := Lib.hid b0
  have B1 := Lib.hid b1
  have HZ := Lib.hid hz
  have HW := Lib.hid hW
  clear b0 b1 hz hW
  have HR := Lib.hid (tell_chk (now := now) (life := life) h)
  have hx : (chkF nx L != 0) = true := by simpa using h
  generalize chkF nx L = r at HC HR hx
  clear h
  go_enter Try.func19, Try.ntmps19
  go_wp2_with fail
  rw [HW.out]
  refine (HC.out _ (HS.out.on Bw.out)).mono ?_; rintro e w1 ⟨rfl, k1⟩
  have K1 := Lib.hid k1
  have D0 := Lib.hid (B0.out.below k1 (by rw [HZ.out]; omega))
  have D1 := Lib.hid (B1.out.below k1 (by rw [HZ.out]; omega))
  clear k1
  obtain ⟨⟨x0, x1⟩, x2, x3⟩ := D0.out.facts2
  obtain ⟨⟨y0, y1⟩, y2, y3⟩ := D1.out.facts2
  go_wp2_with fail
  refine bodyPost_ret (v := .tuple #[.agg #[.int .i64 0, .slice none 0 0], .int .i64 0, .int .i64 r]) (by simp [results, Try.results19, go_sem, y0, y1, y2, y3]) rfl ⟨⟨_, by rw [HR.out], by rw [HR.out]; exact fence_zero _ _⟩, ?_⟩
  exact below_setR (below_setR (Bw.out.trans (K1.out.mono (by rw [HZ.out]; omega))) (by omega) _) (by omega) _

set_option maxHeartbeats 4000000 in
theorem refTell_arg (nx now life : Int) (A : Option Addr) (c : Nat) (L : List (Int × Int)) (hl : L.length ≤ 1048576) (w : World) (hs : NS w w.heap.size A L) (h : chkF nx L = 0) (k : askF now life = false) :
    Calls Try.prog 19 #[fv nx A L.length c, .int .i64 now, .int .i64 life] w fun e w' => TellE w' w.heap.size (tellF nx L now life) e ∧ Below w.heap.size w w' := by
  have HS := Lib.hid hs
  have HC := Lib.hid (fun w hs => refCheck_any nx A c L (by omega) w hs)
  clear hs
  have Bw := Lib.hid ((((Below.refl w.heap.size w).alloc (Nat.le_refl _) (.cells #[.int .i64 nx, .slice A L.length c] 24)).alloc (by simp) (.cells #[.int .i64 0, .slice none 0 0] 24)))
  generalize hW : ((w.alloc (.cells #[.int .i64 nx, .slice A L.length c] 24)).alloc (.cells #[.int .i64 0, .slice none 0 0] 24)) = W at Bw
  have hz : W.heap.size = w.heap.size + 2 := by rw [← hW]; simp
  have b0 : Blk W w.heap.size 24 #[.int .i64 nx, .slice A L.length c] := by rw [← hW]; exact ((Blk.new _ _ _).alloc _)
  have b1 : Blk W (w.heap.size + 1) 24 #[.int .i64 0, .slice none 0 0] := by rw [← hW]; exact (Blk.new_at _ _ _ (by simp))
  have B0 := Lib.hid b0
  have B1 := Lib.hid b1
  have HZ := Lib.hid hz
  have HW := Lib.hid hW
  clear b0 b1 hz hW
  have HR := Lib.hid (tell_arg (now := now) (life := life) h k)
  rw [h] at HC
  clear h
  have T1 := Lib.hid (fun w => time_any now w)
  have T2 := Lib.hid (fun w => time_any life w)
  have T3 := Lib.hid (fun w => time_any (now + life) w)
  by_cases h1 : tm now = true
  · by_cases h2 : 1 ≤ life
    · by_cases h3 : tm life = true
      · have h4 : tm (now + life) = false := by unfold askF at k; rw [h1, h3, decide_eq_true h2] at k; simpa using k
        rw [h1] at T1; rw [h3] at T2; rw [h4] at T3
        have e1 := tm_iff.1 h1
        have e3 := tm_iff.1 h3
        clear k h1 h3 h4
        go_enter Try.func19, Try.ntmps19
        go_wp2_with fail
        rw [HW.out]
        refine (HC.out _ (HS.out.on Bw.out)).mono ?_; rintro e w1 ⟨rfl, k1⟩
        have K1 := Lib.hid k1
        have D0 := Lib.hid (B0.out.below k1 (by rw [HZ.out]; omega))
        have D1 := Lib.hid (B1.out.below k1 (by rw [HZ.out]; omega))
        clear k1
        obtain ⟨⟨x0, x1⟩, x2, x3⟩ := D0.out.facts2
        obtain ⟨⟨y0, y1⟩, y2, y3⟩ := D1.out.facts2
        go_wp2_with fail
        refine (T1.out _).mono ?_; rintro e w2 ⟨rfl, rfl⟩
        go_wp2_with fail
        refine (T3.out _).mono ?_; rintro e w2 ⟨rfl, rfl⟩
        go_wp2_with fail
        refine bodyPost_ret (v := .tuple #[.agg #[.int .i64 0, .slice none 0 0], .int .i64 0, .int .i64 1]) (by simp [results, Try.results19, go_sem, y0, y1, y2, y3]) rfl ⟨⟨_, by rw [HR.out], by rw [HR.out]; exact fence_zero _ _⟩, ?_⟩
        exact below_setR (below_setR (Bw.out.trans (K1.out.mono (by rw [HZ.out]; omega))) (by omega) _) (by omega) _
      · have h3' : tm life = false := by simpa using h3
        rw [h1] at T1; rw [h3'] at T2
        have e3 : 1099511627776 < life := by have := tm_no.1 h3'; omega
        clear k h1 h3 h3'
        go_enter Try.func19, Try.ntmps19
        go_wp2_with fail
        rw [HW.out]
        refine (HC.out _ (HS.out.on Bw.out)).mono ?_; rintro e w1 ⟨rfl, k1⟩
        have K1 := Lib.hid k1
        have D0 := Lib.hid (B0.out.below k1 (by rw [HZ.out]; omega))
        have D1 := Lib.hid (B1.out.below k1 (by rw [HZ.out]; omega))
        clear k1
        obtain ⟨⟨x0, x1⟩, x2, x3⟩ := D0.out.facts2
        obtain ⟨⟨y0, y1⟩, y2, y3⟩ := D1.out.facts2
        go_wp2_with fail
        refine (T1.out _).mono ?_; rintro e w2 ⟨rfl, rfl⟩
        go_wp2_with fail
        refine bodyPost_ret (v := .tuple #[.agg #[.int .i64 0, .slice none 0 0], .int .i64 0, .int .i64 1]) (by simp [results, Try.results19, go_sem, y0, y1, y2, y3]) rfl ⟨⟨_, by rw [HR.out], by rw [HR.out]; exact fence_zero _ _⟩, ?_⟩
        exact below_setR (below_setR (Bw.out.trans (K1.out.mono (by rw [HZ.out]; omega))) (by omega) _) (by omega) _
    · rw [h1] at T1
      clear k h1
      go_enter Try.func19, Try.ntmps19
      go_wp2_with fail
      rw [HW.out]
      refine (HC.out _ (HS.out.on Bw.out)).mono ?_; rintro e w1 ⟨rfl, k1⟩
      have K1 := Lib.hid k1
      have D0 := Lib.hid (B0.out.below k1 (by rw [HZ.out]; omega))
      have D1 := Lib.hid (B1.out.below k1 (by rw [HZ.out]; omega))
      clear k1
      obtain ⟨⟨x0, x1⟩, x2, x3⟩ := D0.out.facts2
      obtain ⟨⟨y0, y1⟩, y2, y3⟩ := D1.out.facts2
      go_wp2_with fail
      refine (T1.out _).mono ?_; rintro e w2 ⟨rfl, rfl⟩
      go_wp2_with fail
      refine bodyPost_ret (v := .tuple #[.agg #[.int .i64 0, .slice none 0 0], .int .i64 0, .int .i64 1]) (by simp [results, Try.results19, go_sem, y0, y1, y2, y3]) rfl ⟨⟨_, by rw [HR.out], by rw [HR.out]; exact fence_zero _ _⟩, ?_⟩
      exact below_setR (below_setR (Bw.out.trans (K1.out.mono (by rw [HZ.out]; omega))) (by omega) _) (by omega) _
  · have h1' : tm now = false := by simpa using h1
    rw [h1'] at T1
    clear k h1 h1'
    go_enter Try.func19, Try.ntmps19
    go_wp2_with fail
    rw [HW.out]
    refine (HC.out _ (HS.out.on Bw.out)).mono ?_; rintro e w1 ⟨rfl, k1⟩
    have K1 := Lib.hid k1
    have D0 := Lib.hid (B0.out.below k1 (by rw [HZ.out]; omega))
    have D1 := Lib.hid (B1.out.below k1 (by rw [HZ.out]; omega))
    clear k1
    obtain ⟨⟨x0, x1⟩, x2, x3⟩ := D0.out.facts2
    obtain ⟨⟨y0, y1⟩, y2, y3⟩ := D1.out.facts2
    go_wp2_with fail
    refine (T1.out _).mono ?_; rintro e w2 ⟨rfl, rfl⟩
    go_wp2_with fail
    refine bodyPost_ret (v := .tuple #[.agg #[.int .i64 0, .slice none 0 0], .int .i64 0, .int .i64 1]) (by simp [results, Try.results19, go_sem, y0, y1, y2, y3]) rfl ⟨⟨_, by rw [HR.out], by rw [HR.out]; exact fence_zero _ _⟩, ?_⟩
    exact below_setR (below_setR (Bw.out.trans (K1.out.mono (by rw [HZ.out]; omega))) (by omega) _) (by omega) _

set_option maxHeartbeats 4000000 in
theorem refTell_full1 (nx now life : Int) (A : Option Addr) (c : Nat) (L : List (Int × Int)) (hl : L.length ≤ 1048576) (w : World) (hs : NS w w.heap.size A L) (h : chkF nx L = 0) (k : askF now life = true) (g : 64 ≤ (trimF now L).length) :
    Calls Try.prog 19 #[fv nx A L.length c, .int .i64 now, .int .i64 life] w fun e w' => TellE w' w.heap.size (tellF nx L now life) e ∧ Below w.heap.size w w' := by
  have HS := Lib.hid hs
  have HC := Lib.hid (fun w hs => refCheck_any nx A c L (by omega) w hs)
  clear hs
  have Bw := Lib.hid ((((Below.refl w.heap.size w).alloc (Nat.le_refl _) (.cells #[.int .i64 nx, .slice A L.length c] 24)).alloc (by simp) (.cells #[.int .i64 0, .slice none 0 0] 24)))
  generalize hW : ((w.alloc (.cells #[.int .i64 nx, .slice A L.length c] 24)).alloc (.cells #[.int .i64 0, .slice none 0 0] 24)) = W at Bw
  have hz : W.heap.size = w.heap.size + 2 := by rw [← hW]; simp
  have b0 : Blk W w.heap.size 24 #[.int .i64 nx, .slice A L.length c] := by rw [← hW]; exact ((Blk.new _ _ _).alloc _)
  have b1 : Blk W (w.heap.size + 1) 24 #[.int .i64 0, .slice none 0 0] := by rw [← hW]; exact (Blk.new_at _ _ _ (by simp))
  have B0 := Lib.hid b0
  have B1 := Lib.hid b1
  have HZ := Lib.hid hz
  have HW := Lib.hid hW
  clear b0 b1 hz hW
  have HR := Lib.hid (tell_full h k (.inl g))
  have hm64 := trim_le now L
  have hL := (chk_ok.1 h).2.2
  have hnx := tm_iff.1 (chk_ok.1 h).1
  rw [h] at HC
  have k' := k
  unfold askF at k'
  simp only [Bool.and_eq_true, decide_eq_true_eq] at k'
  obtain ⟨⟨⟨h1, h2⟩, h3⟩, h4⟩ := k'
  have T1 := Lib.hid (fun w => time_any now w)
  have T2 := Lib.hid (fun w => time_any life w)
  have T3 := Lib.hid (fun w => time_any (now + life) w)
  rw [h1] at T1; rw [h3] at T2; rw [h4] at T3
  have HT := Lib.hid (fun w hs => refTrim_any nx now A c L hl w hs)
  have e1 := tm_iff.1 h1
  have e3 := tm_iff.1 h3
  have e4 := tm_iff.1 h4
  obtain ⟨m, hm⟩ : ∃ m, (trimF now L).length = m := ⟨_, rfl⟩
  rw [hm] at hm64
  have HM := Lib.hid hm
  clear h k h1 h3 h4
  have hmm : 64 ≤ m := by rw [← HM.out]; exact g
  have hm5 : m = 64 := by omega
  have g1 : ((m : Int) == 64) = true := by rw [hm5]; rfl
  have g2 : decide (64 ≤ m) = true := decide_eq_true hmm
  clear hm5 g
  go_enter Try.func19, Try.ntmps19
  go_wp2_with fail
  rw [HW.out]
  refine (HC.out _ (HS.out.on Bw.out)).mono ?_; rintro e w1 ⟨rfl, k1⟩
  have K1 := Lib.hid k1
  have D0 := Lib.hid (B0.out.below k1 (by rw [HZ.out]; omega))
  have D1 := Lib.hid (B1.out.below k1 (by rw [HZ.out]; omega))
  clear k1
  obtain ⟨⟨x0, x1⟩, x2, x3⟩ := D0.out.facts2
  obtain ⟨⟨y0, y1⟩, y2, y3⟩ := D1.out.facts2
  go_wp2_with fail
  refine (T1.out _).mono ?_; rintro e w2 ⟨rfl, rfl⟩
  go_wp2_with fail
  refine (T3.out _).mono ?_; rintro e w2 ⟨rfl, rfl⟩
  go_wp2_with fail
  refine (HT.out _ ((HS.out.on Bw.out).on K1.out)).mono ?_; rintro e w3 ⟨v, rfl, ⟨x, rfl, ho3⟩, k3⟩
  obtain ⟨A2, c2, rfl, _, _, _, _⟩ := own_sliceN ho3
  have K3 := Lib.hid (K1.out.trans (k3.mono K1.out.size))
  have E0 := Lib.hid (D0.out.below k3 D0.out.lt)
  have E1 := Lib.hid (D1.out.below k3 D1.out.lt)
  have HO3 := Lib.hid (show w3.ownsRow W.heap.size 41 2 (.slice A2 m c2) m (cellsN (trimF now L)) by have h := ho3.base K1.out.size; unfold OwnN at h; rw [HM.out] at h; exact h)
  have hsz : w.heap.size + 1 < w3.heap.size := E1.out.lt
  have hsz0 : w.heap.size < w3.heap.size := E0.out.lt
  rw [HM.out]
  clear k3 ho3 x0 x1 x2 x3 y0 y1 y2 y3
  obtain ⟨⟨x0, x1⟩, x2, x3⟩ := E0.out.facts2
  obtain ⟨⟨y0, y1⟩, y2, y3⟩ := E1.out.facts2
  go_wp2_with fail
  have Z := (E1.out.set2 (x' := .int .i64 0) (y' := .slice none 0 0)).alloc (.cells #[.int .i64 nx, .slice A2 m c2] 24)
  obtain ⟨⟨z0, z1⟩, z2, z3⟩ := Z.facts2
  refine bodyPost_ret (v := .tuple #[.agg #[.int .i64 0, .slice none 0 0], .int .i64 0, .int .i64 2]) (by simp [results, Try.results19, go_sem, y0, y1, y2, y3, z0, z1]) rfl ⟨⟨_, by rw [HR.out], by rw [HR.out]; exact fence_zero _ _⟩, ?_⟩
  exact (below_setR (below_setR (Bw.out.trans (K3.out.mono (by rw [HZ.out]; omega))) (by omega) _) (by omega) _).alloc (by simp [World.setCell]; omega) _

set_option maxHeartbeats 4000000 in
theorem refTell_full2 (nx now life : Int) (A : Option Addr) (c : Nat) (L : List (Int × Int)) (hl : L.length ≤ 1048576) (w : World) (hs : NS w w.heap.size A L) (h : chkF nx L = 0) (k : askF now life = true) (g : (trimF now L).length < 64) (g' : nx = 1099511627776) :
    Calls Try.prog 19 #[fv nx A L.length c, .int .i64 now, .int .i64 life] w fun e w' => TellE w' w.heap.size (tellF nx L now life) e ∧ Below w.heap.size w w' := by
  have HS := Lib.hid hs
  have HC := Lib.hid (fun w hs => refCheck_any nx A c L (by omega) w hs)
  clear hs
  have Bw := Lib.hid ((((Below.refl w.heap.size w).alloc (Nat.le_refl _) (.cells #[.int .i64 nx, .slice A L.length c] 24)).alloc (by simp) (.cells #[.int .i64 0, .slice none 0 0] 24)))
  generalize hW : ((w.alloc (.cells #[.int .i64 nx, .slice A L.length c] 24)).alloc (.cells #[.int .i64 0, .slice none 0 0] 24)) = W at Bw
  have hz : W.heap.size = w.heap.size + 2 := by rw [← hW]; simp
  have b0 : Blk W w.heap.size 24 #[.int .i64 nx, .slice A L.length c] := by rw [← hW]; exact ((Blk.new _ _ _).alloc _)
  have b1 : Blk W (w.heap.size + 1) 24 #[.int .i64 0, .slice none 0 0] := by rw [← hW]; exact (Blk.new_at _ _ _ (by simp))
  have B0 := Lib.hid b0
  have B1 := Lib.hid b1
  have HZ := Lib.hid hz
  have HW := Lib.hid hW
  clear b0 b1 hz hW
  have HR := Lib.hid (tell_full h k (.inr g'))
  have hm64 := trim_le now L
  have hL := (chk_ok.1 h).2.2
  have hnx := tm_iff.1 (chk_ok.1 h).1
  rw [h] at HC
  have k' := k
  unfold askF at k'
  simp only [Bool.and_eq_true, decide_eq_true_eq] at k'
  obtain ⟨⟨⟨h1, h2⟩, h3⟩, h4⟩ := k'
  have T1 := Lib.hid (fun w => time_any now w)
  have T2 := Lib.hid (fun w => time_any life w)
  have T3 := Lib.hid (fun w => time_any (now + life) w)
  rw [h1] at T1; rw [h3] at T2; rw [h4] at T3
  have HT := Lib.hid (fun w hs => refTrim_any nx now A c L hl w hs)
  have e1 := tm_iff.1 h1
  have e3 := tm_iff.1 h3
  have e4 := tm_iff.1 h4
  obtain ⟨m, hm⟩ : ∃ m, (trimF now L).length = m := ⟨_, rfl⟩
  rw [hm] at hm64
  have HM := Lib.hid hm
  clear h k h1 h3 h4
  have hmm : m < 64 := by rw [← HM.out]; exact g
  have g1 : ((m : Int) == 64) = false := beq_eq_false_iff_ne.2 (by omega)
  have g2 : decide (64 ≤ m) = false := decide_eq_false (by omega)
  have g3 : (nx == 1099511627776) = true := beq_iff_eq.2 g'
  clear g g'
  go_enter Try.func19, Try.ntmps19
  go_wp2_with fail
  rw [HW.out]
  refine (HC.out _ (HS.out.on Bw.out)).mono ?_; rintro e w1 ⟨rfl, k1⟩
  have K1 := Lib.hid k1
  have D0 := Lib.hid (B0.out.below k1 (by rw [HZ.out]; omega))
  have D1 := Lib.hid (B1.out.below k1 (by rw [HZ.out]; omega))
  clear k1
  obtain ⟨⟨x0, x1⟩, x2, x3⟩ := D0.out.facts2
  obtain ⟨⟨y0, y1⟩, y2, y3⟩ := D1.out.facts2
  go_wp2_with fail
  refine (T1.out _).mono ?_; rintro e w2 ⟨rfl, rfl⟩
  go_wp2_with fail
  refine (T3.out _).mono ?_; rintro e w2 ⟨rfl, rfl⟩
  go_wp2_with fail
  refine (HT.out _ ((HS.out.on Bw.out).on K1.out)).mono ?_; rintro e w3 ⟨v, rfl, ⟨x, rfl, ho3⟩, k3⟩
  obtain ⟨A2, c2, rfl, _, _, _, _⟩ := own_sliceN ho3
  have K3 := Lib.hid (K1.out.trans (k3.mono K1.out.size))
  have E0 := Lib.hid (D0.out.below k3 D0.out.lt)
  have E1 := Lib.hid (D1.out.below k3 D1.out.lt)
  have HO3 := Lib.hid (show w3.ownsRow W.heap.size 41 2 (.slice A2 m c2) m (cellsN (trimF now L)) by have h := ho3.base K1.out.size; unfold OwnN at h; rw [HM.out] at h; exact h)
  have hsz : w.heap.size + 1 < w3.heap.size := E1.out.lt
  have hsz0 : w.heap.size < w3.heap.size := E0.out.lt
  rw [HM.out]
  clear k3 ho3 x0 x1 x2 x3 y0 y1 y2 y3
  obtain ⟨⟨x0, x1⟩, x2, x3⟩ := E0.out.facts2
  obtain ⟨⟨y0, y1⟩, y2, y3⟩ := E1.out.facts2
  go_wp2_with fail
  have Z := (E1.out.set2 (x' := .int .i64 0) (y' := .slice none 0 0)).alloc (.cells #[.int .i64 nx, .slice A2 m c2] 24)
  obtain ⟨⟨z0, z1⟩, z2, z3⟩ := Z.facts2
  refine bodyPost_ret (v := .tuple #[.agg #[.int .i64 0, .slice none 0 0], .int .i64 0, .int .i64 2]) (by simp [results, Try.results19, go_sem, y0, y1, y2, y3, z0, z1]) rfl ⟨⟨_, by rw [HR.out], by rw [HR.out]; exact fence_zero _ _⟩, ?_⟩
  exact (below_setR (below_setR (Bw.out.trans (K3.out.mono (by rw [HZ.out]; omega))) (by omega) _) (by omega) _).alloc (by simp [World.setCell]; omega) _

set_option maxHeartbeats 4000000 in
theorem refTell_ok (nx now life : Int) (A : Option Addr) (c : Nat) (L : List (Int × Int)) (hl : L.length ≤ 1048576) (w : World) (hs : NS w w.heap.size A L) (h : chkF nx L = 0) (k : askF now life = true) (g1 : (trimF now L).length < 64) (g2 : nx ≠ 1099511627776) :
    Calls Try.prog 19 #[fv nx A L.length c, .int .i64 now, .int .i64 life] w fun e w' => TellE w' w.heap.size (tellF nx L now life) e ∧ Below w.heap.size w w' := by
  have HS := Lib.hid hs
  have HC := Lib.hid (fun w hs => refCheck_any nx A c L (by omega) w hs)
  clear hs
  have Bw := Lib.hid ((((Below.refl w.heap.size w).alloc (Nat.le_refl _) (.cells #[.int .i64 nx, .slice A L.length c] 24)).alloc (by simp) (.cells #[.int .i64 0, .slice none 0 0] 24)))
  generalize hW : ((w.alloc (.cells #[.int .i64 nx, .slice A L.length c] 24)).alloc (.cells #[.int .i64 0, .slice none 0 0] 24)) = W at Bw
  have hz : W.heap.size = w.heap.size + 2 := by rw [← hW]; simp
  have b0 : Blk W w.heap.size 24 #[.int .i64 nx, .slice A L.length c] := by rw [← hW]; exact ((Blk.new _ _ _).alloc _)
  have b1 : Blk W (w.heap.size + 1) 24 #[.int .i64 0, .slice none 0 0] := by rw [← hW]; exact (Blk.new_at _ _ _ (by simp))
  have B0 := Lib.hid b0
  have B1 := Lib.hid b1
  have HZ := Lib.hid hz
  have HW := Lib.hid hW
  clear b0 b1 hz hW
  have HR := Lib.hid (tell_ok h k g1 g2)
  have hm64 := trim_le now L
  have hL := (chk_ok.1 h).2.2
  have hnx := tm_iff.1 (chk_ok.1 h).1
  rw [h] at HC
  have k' := k
  unfold askF at k'
  simp only [Bool.and_eq_true, decide_eq_true_eq] at k'
  obtain ⟨⟨⟨h1, h2⟩, h3⟩, h4⟩ := k'
  have T1 := Lib.hid (fun w => time_any now w)
  have T2 := Lib.hid (fun w => time_any life w)
  have T3 := Lib.hid (fun w => time_any (now + life) w)
  rw [h1] at T1; rw [h3] at T2; rw [h4] at T3
  have HT := Lib.hid (fun w hs => refTrim_any nx now A c L hl w hs)
  have e1 := tm_iff.1 h1
  have e3 := tm_iff.1 h3
  have e4 := tm_iff.1 h4
  obtain ⟨m, hm⟩ : ∃ m, (trimF now L).length = m := ⟨_, rfl⟩
  rw [hm] at hm64
  have HM := Lib.hid hm
  clear h k h1 h3 h4
  have hmm : m < 64 := by rw [← HM.out]; exact g1
  have g5 : ((m : Int) == 64) = false := beq_eq_false_iff_ne.2 (by omega)
  have g6 : decide (64 ≤ m) = false := decide_eq_false (by omega)
  have g7 : (nx == 1099511627776) = false := beq_eq_false_iff_ne.2 g2
  obtain ⟨i0, hi, hz0, hz1, hz2⟩ := info_parts Try.info41
  have HI := Lib.hid (And.intro hi (And.intro hz0 (And.intro hz1 hz2)))
  have hzw := HZ.out
  clear hi hz0 hz1 hz2 g1 g2
  go_enter Try.func19, Try.ntmps19
  go_wp2_with fail
  rw [HW.out]
  refine (HC.out _ (HS.out.on Bw.out)).mono ?_; rintro e w1 ⟨rfl, k1⟩
  have K1 := Lib.hid k1
  have D0 := Lib.hid (B0.out.below k1 (by rw [HZ.out]; omega))
  have D1 := Lib.hid (B1.out.below k1 (by rw [HZ.out]; omega))
  clear k1
  obtain ⟨⟨x0, x1⟩, x2, x3⟩ := D0.out.facts2
  obtain ⟨⟨y0, y1⟩, y2, y3⟩ := D1.out.facts2
  go_wp2_with fail
  refine (T1.out _).mono ?_; rintro e w2 ⟨rfl, rfl⟩
  go_wp2_with fail
  refine (T3.out _).mono ?_; rintro e w2 ⟨rfl, rfl⟩
  go_wp2_with fail
  refine (HT.out _ ((HS.out.on Bw.out).on K1.out)).mono ?_; rintro e w3 ⟨v, rfl, ⟨x, rfl, ho3⟩, k3⟩
  obtain ⟨A2, c2, rfl, _, _, _, _⟩ := own_sliceN ho3
  have K3 := Lib.hid (K1.out.trans (k3.mono K1.out.size))
  have E0 := Lib.hid (D0.out.below k3 D0.out.lt)
  have E1 := Lib.hid (D1.out.below k3 D1.out.lt)
  have HO3 := Lib.hid (show w3.ownsRow W.heap.size 41 2 (.slice A2 m c2) m (cellsN (trimF now L)) by have h := ho3.base K1.out.size; unfold OwnN at h; rw [HM.out] at h; exact h)
  have hsz : w.heap.size + 1 < w3.heap.size := E1.out.lt
  have hsz0 : w.heap.size < w3.heap.size := E0.out.lt
  rw [HM.out]
  clear k3 ho3 x0 x1 x2 x3 y0 y1 y2 y3
  obtain ⟨⟨x0, x1⟩, x2, x3⟩ := E0.out.facts2
  obtain ⟨⟨y0, y1⟩, y2, y3⟩ := E1.out.facts2
  have NE4 : ∀ g, (Value.slice A2 m c2).ownBlock = some g → W.heap.size ≤ g ∧ g < w3.heap.size := fun g e => HO3.out.lt g e
  have HO4 := Lib.hid ((HO3.out.alloc (.cells #[.int .i64 nx, .slice A2 m c2] 24)).alloc (.cells #[.int .i64 nx, .int .i64 (now + life)] 41))
  have HN4 := Lib.hid (show Blk ((w3.alloc (.cells #[.int .i64 nx, .slice A2 m c2] 24)).alloc (.cells #[.int .i64 nx, .int .i64 (now + life)] 41)) (w3.heap.size + 1) 41 (cellsN [(nx, now + life)]).toArray from Blk.new_at _ _ _ (by simp))
  have HS4 := Lib.hid (show W.heap.size ≤ (((w3.alloc (.cells #[.int .i64 nx, .slice A2 m c2] 24)).alloc (.cells #[.int .i64 nx, .int .i64 (now + life)] 41))).heap.size by have := K3.out.size; have : W.heap.size ≤ w3.heap.size := this; simp; omega)
  have F4 := Lib.hid ((Blk.new w3 24 #[.int .i64 nx, .slice A2 m c2]).alloc (.cells #[.int .i64 nx, .int .i64 (now + life)] 41))
  have F5 := Lib.hid ((E1.out.alloc (.cells #[.int .i64 nx, .slice A2 m c2] 24)).alloc (.cells #[.int .i64 nx, .int .i64 (now + life)] 41))
  have F6 := Lib.hid ((E0.out.alloc (.cells #[.int .i64 nx, .slice A2 m c2] 24)).alloc (.cells #[.int .i64 nx, .int .i64 (now + life)] 41))
  have B4 := Lib.hid (((Bw.out.trans (K3.out.mono (by rw [HZ.out]; omega))).alloc (by omega) (.cells #[.int .i64 nx, .slice A2 m c2] 24)).alloc (by simp; omega) (.cells #[.int .i64 nx, .int .i64 (now + life)] 41))
  have NE5 := Lib.hid NE4
  clear NE4
  go_wp2_with (at_builtin; first | (refine wpList_append_any _ (by rfl) _ _ 22 (by rfl) W.heap.size 41 i0 (.agg #[.int .i64 0, .int .i64 0]) 2 16 Try.underlying22 HI.out.1 HI.out.2.1 HI.out.2.2.1 HI.out.2.2.2 (by rfl) (by decide) _ m (cellsN (trimF now L)) (by rfl) HO4.out _ _ 1 _ (cellsN [(nx, now + life)]) (by rfl) (reads_newN HN4.out 1 rfl) (cellsN_one _) (by unfold maxLen; omega) (by omega) HS4.out ?_; intro v4 w4 ho4 hg4 hw4; have HO5 := Lib.hid (own_n (l := trimF now L ++ [(nx, now + life)]) ho4 (by simp [HM.out]) (by rw [cellsN_append])); obtain ⟨A4, c4, rfl, _, _, _, _⟩ := own_sliceN HO5.out; have HG4 := Lib.hid hg4; have HW4 := Lib.hid hw4; clear ho4 hg4 hw4; have F1 := Lib.hid (F4.out.grown HG4.out (fun e => by have := NE5.out _ e.symm; omega)); have F2 := Lib.hid (F5.out.grown HG4.out (fun e => by have := NE5.out _ e.symm; omega)); have F3 := Lib.hid (F6.out.grown HG4.out (fun e => by have := NE5.out _ e.symm; omega)); obtain ⟨⟨s0, s1⟩, s2, s3⟩ := F1.out.facts2; obtain ⟨⟨t0, t1⟩, t2, t3⟩ := F2.out.facts2; obtain ⟨⟨r0, r1⟩, r2, r3⟩ := F3.out.facts2) | fail)
  have B5 := Lib.hid (B4.out.grown HG4.out (by have := HS4.out; omega) (fun g e => by have := NE5.out _ e; omega))
  go_wp2_with fail
  have Z1 := Lib.hid ((F1.out.setAt1 (.slice A4 (m + 1) c4)).setAt0 (.int .i64 (nx + 1)))
  have Z2 := Lib.hid ((F2.out.other (a := ⟨w3.heap.size, 1, none⟩) (by simp; omega) (.slice A4 (m + 1) c4)).other (a := ⟨w3.heap.size, 0, none⟩) (by simp; omega) (.int .i64 (nx + 1)))
  have Z3 := Lib.hid ((F3.out.other (a := ⟨w3.heap.size, 1, none⟩) (by simp; omega) (.slice A4 (m + 1) c4)).other (a := ⟨w3.heap.size, 0, none⟩) (by simp; omega) (.int .i64 (nx + 1)))
  have B6 := Lib.hid (below_setR (below_setR B5.out (g := w3.heap.size) (o := 1) (by omega) (.slice A4 (m + 1) c4)) (g := w3.heap.size) (o := 0) (by omega) (.int .i64 (nx + 1)))
  have NB : ∀ g, (Value.slice A4 (m + 1) c4).ownBlock = some g → g ≠ w3.heap.size := fun g e => by
    have e' : (Value.slice A4 (trimF now L ++ [(nx, now + life)]).length c4).ownBlock = some g := by rw [← e]; cases A4 <;> rfl
    rcases HW4.out with h | h
    · rw [h] at e'; have := NE5.out _ e'; omega
    · rw [h] at e'; injection e' with e'; simp at e'; omega
  have O6 := Lib.hid (show OwnN ((w4.setCell ⟨w3.heap.size, 1, none⟩ (.slice A4 (m + 1) c4)).setCell ⟨w3.heap.size, 0, none⟩ (.int .i64 (nx + 1))) W.heap.size (.slice A4 (m + 1) c4) (trimF now L ++ [(nx, now + life)]) from by
    have h : OwnN w4 W.heap.size (.slice A4 (m + 1) c4) (trimF now L ++ [(nx, now + life)]) := by
      have h := HO5.out
      simp only [List.length_append, List.length_cons, List.length_nil, HM.out, Nat.zero_add] at h
      exact h
    exact ownsRow_setCell_other (ownsRow_setCell_other h (fun e => NB _ e rfl) _) (fun e => NB _ e rfl) _)
  clear NB
  generalize (w4.setCell ⟨w3.heap.size, 1, none⟩ (.slice A4 (m + 1) c4)).setCell ⟨w3.heap.size, 0, none⟩ (.int .i64 (nx + 1)) = w6 at Z1 Z2 Z3 B6 O6 ⊢
  clear s0 s1 s2 s3 t0 t1 t2 t3 r0 r1 r2 r3
  obtain ⟨⟨s0, s1⟩, s2, s3⟩ := Z1.out.facts2
  obtain ⟨⟨t0, t1⟩, t2, t3⟩ := Z2.out.facts2
  obtain ⟨⟨r0, r1⟩, r2, r3⟩ := Z3.out.facts2
  have hne1 : w.heap.size ≠ w.heap.size + 1 := by omega
  go_region
  all_goals
    go_wp2_with fail
    have Z := (Z2.out.setAt0 (.int .i64 (nx + 1))).setAt1 (.slice A4 (m + 1) c4)
    obtain ⟨⟨z0, z1⟩, z2, z3⟩ := Z.facts2
    refine bodyPost_ret (v := .tuple #[.agg #[.int .i64 (nx + 1), .slice A4 (m + 1) c4], .int .i64 nx, .int .i64 0]) (by simp [results, Try.results19, go_sem, z0, z1]) rfl ⟨⟨_, by rw [HR.out], ?_⟩, ?_⟩
    · rw [HR.out]
      refine ⟨_, rfl, ?_⟩
      exact ((O6.out.set (g := w.heap.size + 1) (o := 0) (by omega) (.int .i64 (nx + 1))).set (g := w.heap.size + 1) (o := 1) (by omega) (.slice A4 (m + 1) c4)).base (by omega)
    · exact (below_setR (below_setR B6.out (g := w.heap.size + 1) (o := 0) (by omega) (.int .i64 (nx + 1))) (g := w.heap.size + 1) (o := 1) (by omega) (.slice A4 (m + 1) c4)).drew
end Go.Proofs.Ytdiafbeohldbjaa
