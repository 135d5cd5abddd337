/- Contracts of the hash: the hash of two hashes. -/
import Derived.Test.YtjcanehlnggffaaHashH
import Derived.RegionTactic
import Derived.Deep.RegionHeld3
import Derived.Deep.DrawnRows
namespace Go.Proofs.Ytjcanehlnggffaa
open Go.ChangeShapes Go.WideShapes Go.ChangeAt Go.RowKit Gs
set_option linter.unusedVariables false
attribute [local go_sem ↓] Go.wp_at_zero Go.wp_at_succ

/-- The hash of two hashes. -/
def hpair (a0 a1 b0 b1 : Int) : S3 := hst (coded [110, 111, 100, 101] [be a0 8 ++ be a1 8, be b0 8 ++ be b1 8])
theorem node_bytes : sbytes { data := #[110, 111, 100, 101] } = [110, 111, 100, 101] := by decide

theorem SP_new2 (w : World) {g B n1 n2 : Nat} {A1 A2 : Option Addr} {c1 c2 : Nat} {xs ys : List Int} {t : TypeId} (hg : g = w.heap.size) (hB : w.heap.size < B) (e1 : xs.length = n1) (e2 : ys.length = n2) (h1 : SI w w.heap.size .u8 A1 xs) (h2 : SI w w.heap.size .u8 A2 ys) (l1 : n1 ≤ c1) (m1 : c1 ≤ maxLen) (l2 : n2 ≤ c2) (m2 : c2 ≤ maxLen) :
    SP (w.alloc (.cells #[.slice A1 n1 c1, .slice A2 n2 c2] t)) B (some ⟨g, 0, none⟩) [xs, ys] := by
  subst hg e1 e2
  have hk : Below w.heap.size w (w.alloc (.cells #[.slice A1 xs.length c1, .slice A2 ys.length c2] t)) := (Below.refl _ _).alloc (Nat.le_refl _) _
  have hb := Blk.new w t #[.slice A1 xs.length c1, .slice A2 ys.length c2]
  intro j hj
  refine ⟨_, rfl, hB, ?_⟩
  rw [add_zero_off]
  match j, hj with
  | 0, _ => exact ⟨A1, c1, hb.cell 0, l1, m1, (h1.below hk).more (by omega)⟩
  | 1, _ => exact ⟨A2, c2, hb.cell 1, l2, m2, (h2.below hk).more (by omega)⟩

theorem sum_bound (a b : Int) : ∀ x ∈ be a 8 ++ be b 8, 0 ≤ x ∧ x < 256 := fun x hx => by
  rcases List.mem_append.1 hx with h | h <;> exact be_bound _ _ x h

theorem far2 {w : World} {g o h : Nat} {o1 o2 : Nat} {u1 u2 v : Value} (hc : w.cell? ⟨g, o, none⟩ = some v) (h1 : g ≠ h) (h2 : g ≠ h) : ((w.setCell ⟨h, o1, none⟩ u1).setCell ⟨h, o2, none⟩ u2).cell? ⟨g, o, none⟩ = some v := cell_far (cell_far hc h1) h2
theorem Bytes_b (base : Nat) (a b : Int) [IsU a] [IsU b] (w : World) (hbase : base ≤ w.heap.size) :
    Calls Try.prog 25 #[.agg #[.int .u64 a, .int .u64 b]] w fun e w' => ∃ A c, e = .returned (.slice A 16 c) ∧ 16 ≤ c ∧ c ≤ maxLen ∧ SI w' w'.heap.size .u8 A (be a 8 ++ be b 8) ∧ Below w.heap.size w w' :=
  (Bytes_any a b w).mono fun e w' ⟨v, he, ho, hb⟩ => by
    obtain ⟨A, c, rfl, h1, h2, hs, _⟩ := own_sliceB ho
    rw [List.length_append, be_length, be_length] at he h1
    exact ⟨A, c, he, h1, h2, hs, hb⟩
theorem Tagged_pair (A : Option Addr) (c : Nat) (xs ys : List Int) (hx : ∀ x ∈ xs, 0 ≤ x ∧ x < 256) (hy : ∀ x ∈ ys, 0 ≤ x ∧ x < 256) (hxl : xs.length ≤ 16) (hyl : ys.length ≤ 16) (w : World) (hp : SP w w.heap.size A [xs, ys]) :
    Calls Try.prog 19 #[.string { data := #[110, 111, 100, 101] }, .slice A 2 c] w fun e w' => e = .returned (.agg #[.int .u64 (hst (coded [110, 111, 100, 101] [xs, ys])).1, .int .u64 (hst (coded [110, 111, 100, 101] [xs, ys])).2.1]) ∧ Below w.heap.size w w' := by
  have h := Tagged_any { data := #[110, 111, 100, 101] } A c [xs, ys] (by intro p hp; rcases List.mem_cons.1 hp with rfl | hp; exact hx; rcases List.mem_cons.1 hp with rfl | hp; exact hy; simp at hp) (by simp [psz, ByteArray.size]; omega) (by simp) w hp
  rw [node_bytes] at h
  exact h

set_option maxHeartbeats 2000000 in
theorem Pair_any (a0 a1 b0 b1 : Int) [IsU a0] [IsU a1] [IsU b0] [IsU b1] (w : World) :
    Calls Try.prog 21 #[.agg #[.int .u64 a0, .int .u64 a1], .agg #[.int .u64 b0, .int .u64 b1]] w fun e w' => e = .returned (.agg #[.int .u64 (hpair a0 a1 b0 b1).1, .int .u64 (hpair a0 a1 b0 b1).2.1]) ∧ Below w.heap.size w w' := by
  go_enter Try.func21, Try.ntmps21
  go_wp2_with fail
  refine wp_named (fun w2 => Blk w2 w.heap.size 29 #[.int .u64 a0, .int .u64 a1] ∧ Blk w2 (w.heap.size + 1) 29 #[.int .u64 b0, .int .u64 b1] ∧ Blk w2 (w.heap.size + 1 + 1) 29 #[.int .u64 0, .int .u64 0] ∧ Below w.heap.size w w2) ⟨((Blk.new_at _ _ _ rfl).alloc _).alloc _, (Blk.new_at _ _ _ (by simp)).alloc _, Blk.new_at _ _ _ (by simp), (((Below.refl _ _).alloc (Nat.le_refl _) _).alloc (by simp) _).alloc (by simp [Nat.add_assoc]) _⟩ ?_
  rintro w2 ⟨q0, q1, q2, qB⟩
  have lt2 := q2.lt
  obtain ⟨⟨c0, c1⟩, _, _⟩ := q0.facts2
  obtain ⟨⟨c2, c3⟩, _, _⟩ := q1.facts2
  have Q2 := Lib.hid q2
  have QB := Lib.hid qB
  have hd : w2.heap.size ≤ w2.drew.heap.size := Nat.le_refl _
  clear q0 q1 q2 qB
  go_region_held3 (fun w' => w'.cell? ⟨w.heap.size, 0, none⟩ = some (.int .u64 a0) ∧ w'.cell? ⟨w.heap.size, 1, none⟩ = some (.int .u64 a1) ∧ w'.cell? ⟨w.heap.size + 1, 0, none⟩ = some (.int .u64 b0) ∧ w'.cell? ⟨w.heap.size + 1, 1, none⟩ = some (.int .u64 b1)) (first | exact ⟨by assumption, by assumption, by assumption, by assumption⟩ | exact ⟨far2 (by assumption) (by omega) (by omega), far2 (by assumption) (by omega) (by omega), far2 (by assumption) (by omega) (by omega), far2 (by assumption) (by omega) (by omega)⟩ | go_keep)
    (first
      | (go_at_call 25; refine (Bytes_b 0 _ _ _ (by omega)).mono ?_; rintro e w' ⟨A, c, rfl, hl, hm, hs, hb⟩; have hz := hb.size; have hW := (show Below w2.heap.size w2 _ by first | exact hW.trans (hb.mono (by omega)) | exact (Below.refl _ _).drew.trans (hb.mono (by omega))); have k0 := (hW.cell (p := ⟨w.heap.size, 0, none⟩) (show w.heap.size < _ by omega)).trans c0; have k1 := (hW.cell (p := ⟨w.heap.size, 1, none⟩) (show w.heap.size < _ by omega)).trans c1; have k2 := (hW.cell (p := ⟨w.heap.size + 1, 0, none⟩) (show w.heap.size + 1 < _ by omega)).trans c2; have k3 := (hW.cell (p := ⟨w.heap.size + 1, 1, none⟩) (show w.heap.size + 1 < _ by omega)).trans c3)
      | (go_at_call 19; refine (Tagged_pair _ _ (be a0 8 ++ be a1 8) (be b0 8 ++ be b1 8) (sum_bound _ _) (sum_bound _ _) (by simp [be_length]) (by simp [be_length]) _ (SP_new2 _ (by simp) (by simp) (by simp [be_length]) (by simp [be_length]) (by first | assumption | exact SI.on (by assumption) (by assumption)) (by first | assumption | exact SI.on (by assumption) (by assumption)) (by assumption) (by assumption) (by assumption) (by assumption))).mono ?_; rintro e w4 ⟨rfl, hb4⟩; have hW := (hW.alloc (by omega) _).trans (hb4.mono (by simp; omega)); have k0 := (hW.cell (p := ⟨w.heap.size, 0, none⟩) (show w.heap.size < _ by omega)).trans c0; have k1 := (hW.cell (p := ⟨w.heap.size, 1, none⟩) (show w.heap.size < _ by omega)).trans c1; have k2 := (hW.cell (p := ⟨w.heap.size + 1, 0, none⟩) (show w.heap.size + 1 < _ by omega)).trans c2; have k3 := (hW.cell (p := ⟨w.heap.size + 1, 1, none⟩) (show w.heap.size + 1 < _ by omega)).trans c3; obtain ⟨⟨d0, d1⟩, g0, g1⟩ := (Q2.out.below hW lt2).facts2))
  have e2 := (Q2.out.below hW lt2).set2 (x' := .int .u64 (hpair a0 a1 b0 b1).1) (y' := .int .u64 (hpair a0 a1 b0 b1).2.1)
  obtain ⟨⟨e0, e1⟩, _, _⟩ := e2.facts2
  go_wp2_with fail
  refine bodyPost_ret (v := .agg #[.int .u64 (hpair a0 a1 b0 b1).1, .int .u64 (hpair a0 a1 b0 b1).2.1]) (by simp [results, Try.results21, go_sem, d0, d1, hpair]) rfl ⟨rfl, ?_⟩
  have hW' := QB.out.trans (hW.mono QB.out.size)
  exact (hW'.setCell (by simp; omega) _).setCell (by simp; omega) _

theorem refBytes_b (base : Nat) (a b : Int) [IsU a] [IsU b] (w : World) (hbase : base ≤ w.heap.size) :
    Calls Try.prog 26 #[.agg #[.int .u64 a, .int .u64 b]] w fun e w' => ∃ A c, e = .returned (.slice A 16 c) ∧ 16 ≤ c ∧ c ≤ maxLen ∧ SI w' w'.heap.size .u8 A (be a 8 ++ be b 8) ∧ Below w.heap.size w w' :=
  (refBytes_any a b w).mono fun e w' ⟨v, he, ho, hb⟩ => by
    obtain ⟨A, c, rfl, h1, h2, hs, _⟩ := own_sliceB ho
    rw [List.length_append, be_length, be_length] at he h1
    exact ⟨A, c, he, h1, h2, hs, hb⟩
theorem refTagged_pair (A : Option Addr) (c : Nat) (xs ys : List Int) (hx : ∀ x ∈ xs, 0 ≤ x ∧ x < 256) (hy : ∀ x ∈ ys, 0 ≤ x ∧ x < 256) (hxl : xs.length ≤ 16) (hyl : ys.length ≤ 16) (w : World) (hp : SP w w.heap.size A [xs, ys]) :
    Calls Try.prog 20 #[.string { data := #[110, 111, 100, 101] }, .slice A 2 c] w fun e w' => e = .returned (.agg #[.int .u64 (hst (coded [110, 111, 100, 101] [xs, ys])).1, .int .u64 (hst (coded [110, 111, 100, 101] [xs, ys])).2.1]) ∧ Below w.heap.size w w' := by
  have h := refTagged_any { data := #[110, 111, 100, 101] } A c [xs, ys] (by intro p hp; rcases List.mem_cons.1 hp with rfl | hp; exact hx; rcases List.mem_cons.1 hp with rfl | hp; exact hy; simp at hp) (by simp [psz, ByteArray.size]; omega) (by simp) w hp
  rw [node_bytes] at h
  exact h

set_option maxHeartbeats 2000000 in
theorem refPair_any (a0 a1 b0 b1 : Int) [IsU a0] [IsU a1] [IsU b0] [IsU b1] (w : World) :
    Calls Try.prog 22 #[.agg #[.int .u64 a0, .int .u64 a1], .agg #[.int .u64 b0, .int .u64 b1]] w fun e w' => e = .returned (.agg #[.int .u64 (hpair a0 a1 b0 b1).1, .int .u64 (hpair a0 a1 b0 b1).2.1]) ∧ Below w.heap.size w w' := by
  go_enter Try.func22, Try.ntmps22
  go_wp2_with fail
  refine wp_named (fun w2 => Blk w2 w.heap.size 29 #[.int .u64 a0, .int .u64 a1] ∧ Blk w2 (w.heap.size + 1) 29 #[.int .u64 b0, .int .u64 b1] ∧ Blk w2 (w.heap.size + 1 + 1) 29 #[.int .u64 0, .int .u64 0] ∧ Below w.heap.size w w2) ⟨((Blk.new_at _ _ _ rfl).alloc _).alloc _, (Blk.new_at _ _ _ (by simp)).alloc _, Blk.new_at _ _ _ (by simp), (((Below.refl _ _).alloc (Nat.le_refl _) _).alloc (by simp) _).alloc (by simp [Nat.add_assoc]) _⟩ ?_
  rintro w2 ⟨q0, q1, q2, qB⟩
  have lt2 := q2.lt
  obtain ⟨⟨c0, c1⟩, _, _⟩ := q0.facts2
  obtain ⟨⟨c2, c3⟩, _, _⟩ := q1.facts2
  have Q2 := Lib.hid q2
  have QB := Lib.hid qB
  have hd : w2.heap.size ≤ w2.drew.heap.size := Nat.le_refl _
  clear q0 q1 q2 qB
  go_region_held3 (fun w' => w'.cell? ⟨w.heap.size, 0, none⟩ = some (.int .u64 a0) ∧ w'.cell? ⟨w.heap.size, 1, none⟩ = some (.int .u64 a1) ∧ w'.cell? ⟨w.heap.size + 1, 0, none⟩ = some (.int .u64 b0) ∧ w'.cell? ⟨w.heap.size + 1, 1, none⟩ = some (.int .u64 b1)) (first | exact ⟨by assumption, by assumption, by assumption, by assumption⟩ | exact ⟨far2 (by assumption) (by omega) (by omega), far2 (by assumption) (by omega) (by omega), far2 (by assumption) (by omega) (by omega), far2 (by assumption) (by omega) (by omega)⟩ | go_keep)
    (first
      | (go_at_call 26; refine (refBytes_b 0 _ _ _ (by omega)).mono ?_; rintro e w' ⟨A, c, rfl, hl, hm, hs, hb⟩; have hz := hb.size; have hW := (show Below w2.heap.size w2 _ by first | exact hW.trans (hb.mono (by omega)) | exact (Below.refl _ _).drew.trans (hb.mono (by omega))); have k0 := (hW.cell (p := ⟨w.heap.size, 0, none⟩) (show w.heap.size < _ by omega)).trans c0; have k1 := (hW.cell (p := ⟨w.heap.size, 1, none⟩) (show w.heap.size < _ by omega)).trans c1; have k2 := (hW.cell (p := ⟨w.heap.size + 1, 0, none⟩) (show w.heap.size + 1 < _ by omega)).trans c2; have k3 := (hW.cell (p := ⟨w.heap.size + 1, 1, none⟩) (show w.heap.size + 1 < _ by omega)).trans c3)
      | (go_at_call 20; refine (refTagged_pair _ _ (be a0 8 ++ be a1 8) (be b0 8 ++ be b1 8) (sum_bound _ _) (sum_bound _ _) (by simp [be_length]) (by simp [be_length]) _ (SP_new2 _ (by simp) (by simp) (by simp [be_length]) (by simp [be_length]) (by first | assumption | exact SI.on (by assumption) (by assumption)) (by first | assumption | exact SI.on (by assumption) (by assumption)) (by assumption) (by assumption) (by assumption) (by assumption))).mono ?_; rintro e w4 ⟨rfl, hb4⟩; have hW := (hW.alloc (by omega) _).trans (hb4.mono (by simp; omega)); have k0 := (hW.cell (p := ⟨w.heap.size, 0, none⟩) (show w.heap.size < _ by omega)).trans c0; have k1 := (hW.cell (p := ⟨w.heap.size, 1, none⟩) (show w.heap.size < _ by omega)).trans c1; have k2 := (hW.cell (p := ⟨w.heap.size + 1, 0, none⟩) (show w.heap.size + 1 < _ by omega)).trans c2; have k3 := (hW.cell (p := ⟨w.heap.size + 1, 1, none⟩) (show w.heap.size + 1 < _ by omega)).trans c3; obtain ⟨⟨d0, d1⟩, g0, g1⟩ := (Q2.out.below hW lt2).facts2))
  have e2 := (Q2.out.below hW lt2).set2 (x' := .int .u64 (hpair a0 a1 b0 b1).1) (y' := .int .u64 (hpair a0 a1 b0 b1).2.1)
  obtain ⟨⟨e0, e1⟩, _, _⟩ := e2.facts2
  go_wp2_with fail
  refine bodyPost_ret (v := .agg #[.int .u64 (hpair a0 a1 b0 b1).1, .int .u64 (hpair a0 a1 b0 b1).2.1]) (by simp [results, Try.results22, go_sem, d0, d1, hpair]) rfl ⟨rfl, ?_⟩
  have hW' := QB.out.trans (hW.mono QB.out.size)
  exact (hW'.setCell (by simp; omega) _).setCell (by simp; omega) _
end Go.Proofs.Ytjcanehlnggffaa
