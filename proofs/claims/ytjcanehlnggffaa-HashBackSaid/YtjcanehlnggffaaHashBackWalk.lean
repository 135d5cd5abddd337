/- The walk of the law HashBack. -/
import Derived.Test.YtjcanehlnggffaaHashLive
import Derived.Test.YtjcanehlnggffaaHashBackMath
import Derived.RegionTactic
import Derived.Deep.RegionHeld3
import Derived.Deep.DrawnRows
import Derived.Deep.Cut
namespace Go.Proofs.Ytjcanehlnggffaa
open Go.ChangeShapes Go.WideShapes Go.ChangeAt Go.RowKit Gs
set_option linter.unusedVariables false

theorem hofOk_be (a b : Int) [IsU a] [IsU b] : hofOk (be a 8 ++ be b 8) ↔ a < PP ∧ b < PP := by
  have h1 : (be a 8 ++ be b 8).take 8 = be a 8 := by rw [List.take_append_of_le_length (by simp [be_length]), be_all]
  have h2 : (be a 8 ++ be b 8).drop 8 = be b 8 := List.drop_left' (be_length a 8)
  unfold hofOk
  rw [h1, h2, bnum_be a ⟨IsU.lo, IsU.hi⟩, bnum_be b ⟨IsU.lo, IsU.hi⟩]
  simp [be_length]
theorem hofA_be (a b : Int) [IsU a] [IsU b] (h : a < PP ∧ b < PP) : hofA (be a 8 ++ be b 8) = (a, b) := by
  have h1 : (be a 8 ++ be b 8).take 8 = be a 8 := by rw [List.take_append_of_le_length (by simp [be_length]), be_all]
  have h2 : (be a 8 ++ be b 8).drop 8 = be b 8 := List.drop_left' (be_length a 8)
  unfold hofA
  rw [if_pos ((hofOk_be a b).2 h), h1, h2, bnum_be a ⟨IsU.lo, IsU.hi⟩, bnum_be b ⟨IsU.lo, IsU.hi⟩]

/-- What is read of a hash that was written: itself, or an error. -/
theorem back_told (a b : Int) [IsU a] [IsU b] : ∃ x0 x1 e : Int, (∀ A c (w : World), 16 ≤ c → SI w w.heap.size .u8 A (be a 8 ++ be b 8) → Calls Try.prog 23 #[.slice A 16 c] w fun r w' => r = .returned (.tuple #[.agg #[.int .u64 x0, .int .u64 x1], .int .i64 e]) ∧ Below w.heap.size w w') ∧
    ((e = 0 ∧ a = x0 ∧ b = x1 ∧ a < 2305843009213693951 ∧ b < 2305843009213693951) ∨ (e = 71 ∧ a < 2305843009213693951 ∧ ¬ b < 2305843009213693951) ∨ (e = 71 ∧ ¬ a < 2305843009213693951)) := by
  refine ⟨(hofA (be a 8 ++ be b 8)).1, (hofA (be a 8 ++ be b 8)).2, hofE (be a 8 ++ be b 8), fun A c w hc hs => ?_, ?_⟩
  · have h := hOf_all A c (be a 8 ++ be b 8) (sum_bound _ _) (by simpa [be_length] using hc) w hs
    rwa [show (be a 8 ++ be b 8).length = 16 by simp [be_length]] at h
  · have hl : (be a 8 ++ be b 8).length = 16 := by simp [be_length]
    by_cases h : a < PP ∧ b < PP
    · left
      refine ⟨?_, by rw [hofA_be a b h], by rw [hofA_be a b h], h.1, h.2⟩
      unfold hofE
      rw [if_neg (by omega), if_pos ((hofOk_be a b).2 h)]
    · right
      have he : hofE (be a 8 ++ be b 8) = 71 := by
        unfold hofE
        rw [if_neg (by omega), if_neg (fun g => h ((hofOk_be a b).1 g))]
      unfold PP at h
      by_cases ha : a < 2305843009213693951
      · exact .inl ⟨he, ha, fun hb => h ⟨ha, hb⟩⟩
      · exact .inr ⟨he, ha⟩
theorem el_u {a b : Int} (hx : 0 ≤ a ∧ a < 18446744073709551616) : IsU a := IsU.of hx
/-- What is read of bytes: a hash that is written as these, or an error. -/
theorem read_told (xs : List Int) (hx : ∀ x ∈ xs, 0 ≤ x ∧ x < 256) : ∃ y0 y1 e : Int, (∀ A c (w : World), xs.length ≤ c → SI w w.heap.size .u8 A xs → Calls Try.prog 23 #[.slice A xs.length c] w fun r w' => r = .returned (.tuple #[.agg #[.int .u64 y0, .int .u64 y1], .int .i64 e]) ∧ Below w.heap.size w w') ∧
    (0 ≤ y0 ∧ y0 < 18446744073709551616) ∧ (0 ≤ y1 ∧ y1 < 18446744073709551616) ∧
    ((e = 0 ∧ be y0 8 ++ be y1 8 = xs) ∨ (e = 70 ∧ y0 = 0 ∧ y1 = 0 ∧ xs.length < 16) ∨ (e = 71 ∧ y0 = 0 ∧ y1 = 0 ∧ ¬ xs.length < 16)) := by
  have hP : PP = 2305843009213693951 := rfl
  refine ⟨(hofA xs).1, (hofA xs).2, hofE xs, fun A c w hc hs => hOf_all A c xs hx hc w hs, ?_⟩
  by_cases h : hofOk xs
  · have ht : ∀ x ∈ xs.take 8, 0 ≤ x ∧ x < 256 := fun x hm => hx x (List.mem_of_mem_take hm)
    have hd : ∀ x ∈ xs.drop 8, 0 ≤ x ∧ x < 256 := fun x hm => hx x (List.mem_of_mem_drop hm)
    have l1 : (xs.take 8).length = 8 := by rw [List.length_take]; have := h.1; omega
    have l2 : (xs.drop 8).length = 8 := by rw [List.length_drop]; have := h.1; omega
    have u1 := bnum_u _ ht (by omega)
    have u2 := bnum_u _ hd (by omega)
    unfold hofA hofE
    rw [if_pos h, if_neg (by have := h.1; omega), if_pos h]
    refine ⟨u1, u2, .inl ⟨rfl, ?_⟩⟩
    show be (bnum (xs.take 8) 0) 8 ++ be (bnum (xs.drop 8) 0) 8 = xs
    rw [be_bnum _ l1 ht, be_bnum _ l2 hd, List.take_append_drop]
  · unfold hofA hofE
    rw [if_neg h]
    refine ⟨by omega, by omega, ?_⟩
    by_cases hl : xs.length < 16
    · rw [if_pos hl]; exact .inr (.inl ⟨rfl, rfl, rfl, hl⟩)
    · rw [if_neg hl, if_neg h]; exact .inr (.inr ⟨rfl, rfl, rfl, hl⟩)

set_option maxHeartbeats 4000000 in
theorem back_walk (a b : Int) [IsU a] [IsU b] (A : Option Addr) (c : Nat) (xs : List Int) (w : World) (hs : SI w w.heap.size .u8 A xs) (hc : xs.length ≤ c) (hm : c ≤ maxLen) (hx : ∀ n ∈ xs, (Lit.int .u8 n).wf = true) :
    Calls Try.prog 11 #[.agg #[.int .u64 a, .int .u64 b], .slice A xs.length c] w fun e w' => e = .returned (.bool true) ∧ Below w.heap.size w w' := by
  have HS := Lib.hid hs
  obtain ⟨x0, x1, e1, ho, hk⟩ := back_told a b
  obtain ⟨y0, y1, e2, hr, v0, v1, hj⟩ := read_told xs (fun n hn => u8_wf (hx n hn))
  haveI : IsU y0 := IsU.of v0
  haveI : IsU y1 := IsU.of v1
  have HO := Lib.hid ho
  have HR := Lib.hid hr
  have HJ := Lib.hid hj
  have n2 := eq2_same
  unfold maxLen at hm
  clear hs hx ho hr v0 v1 hj
  by_cases h1 : xs.length ≤ 400
  · have hk : (e1 = 0 ∧ (∀ w, (Op.equalIn 10000 29 (.agg #[.int .u64 x0, .int .u64 x1]) (.agg #[.int .u64 a, .int .u64 b])).run Try.prog w = .ok true w) ∧ a < 2305843009213693951 ∧ b < 2305843009213693951) ∨ (e1 = 71 ∧ a < 2305843009213693951 ∧ ¬ b < 2305843009213693951) ∨ (e1 = 71 ∧ ¬ a < 2305843009213693951) := by
      rcases hk with ⟨h1, h2, h3, h4⟩ | h | h
      · exact .inl ⟨h1, fun w => by rw [h2, h3]; exact eq2_same x0 x1 w, h4⟩
      · exact .inr (.inl h)
      · exact .inr (.inr h)
    rcases hk with ⟨rfl, hn, ha, hb⟩ | ⟨rfl, ha, hb⟩ | ⟨rfl, ha⟩
    all_goals
      go_enter Try.func11, Try.ntmps11
      go_wp2_with fail
      refine (live_any _).mono ?_
      rintro e w1 ⟨rfl, hb1⟩
      have Q0 := Lib.hid ((Blk.new_at w 29 #[.int .u64 a, .int .u64 b] rfl).below hb1 (by simp))
      have B1 := Lib.hid (((Below.refl _ _).alloc (Nat.le_refl _) _).trans (hb1.mono (by simp)))
      clear hb1
      obtain ⟨⟨c0, c1⟩, _, _⟩ := Q0.out.facts2
      go_wp2_with fail
      refine (Bytes_b 0 a b _ (by omega)).mono ?_
      rintro e w2 ⟨Ax, cx, rfl, hcx, hmx, sx, b2⟩
      have Q1 := Lib.hid (Q0.out.below b2 Q0.out.lt)
      have B2 := Lib.hid (B1.out.trans (b2.mono B1.out.size))
      have SX := Lib.hid sx
      clear b2 sx c0 c1
      go_wp2_with fail
      refine (HO.out Ax cx _ hcx SX.out).mono ?_
      rintro e w3 ⟨rfl, b3⟩
      have Q2 := Lib.hid (Q1.out.below b3 Q1.out.lt)
      have B3 := Lib.hid (B2.out.trans (b3.mono B2.out.size))
      clear b3
      go_upto_region 7 with (fail)
      refine wp_named (fun W => Blk W w3.heap.size 29 #[.int .u64 x0, .int .u64 x1] ∧ Blk W w.heap.size 29 #[.int .u64 a, .int .u64 b] ∧ Below w.heap.size w W) ⟨Blk.new_at w3 _ _ rfl, Q2.out.alloc _, B3.out.alloc B3.out.size _⟩ ?_
      rintro W3 ⟨q2, q0, d3⟩
      obtain ⟨⟨c0, c1⟩, _, _⟩ := q0.facts2
      obtain ⟨⟨c2, c3⟩, _, _⟩ := q2.facts2
      have D3 := Lib.hid d3
      clear d3 q2 q0
      go_wp2_with fail
      refine (HR.out A c _ hc (HS.out.on D3.out)).mono ?_
      rintro e w4 ⟨rfl, b4⟩
      have B4 := Lib.hid (D3.out.trans (b4.mono D3.out.size))
      clear b4 c0 c1 c2 c3
      go_upto_region 11 with (fail)
      refine wp_named (fun W => Blk W w4.heap.size 29 #[.int .u64 y0, .int .u64 y1] ∧ Below w.heap.size w W) ⟨Blk.new_at w4 _ _ rfl, B4.out.alloc B4.out.size _⟩ ?_
      rintro W4 ⟨q4, d4⟩
      obtain ⟨⟨c0, c1⟩, _, _⟩ := q4.facts2
      have D4 := Lib.hid d4
      clear d4 q4
      rcases HJ.out with ⟨rfl, hw⟩ | ⟨rfl, rfl, rfl, hl⟩ | ⟨rfl, rfl, rfl, hl⟩
      · have cv := conv_si (c := c) (n := xs.length) rfl (HS.out.on D4.out.drew)
        go_wp2_with fail
        have hd : W4.heap.size ≤ W4.drew.heap.size := Nat.le_refl _
        go_region_with
          (first | (go_at_call 25; refine (Bytes_b 0 y0 y1 _ (by omega)).mono ?_; rintro e w5 ⟨Ay, cy, rfl, hcy, hmy, sy, b5⟩; have hW := (Below.refl W4.heap.size W4).drew.trans (b5.mono (by omega)); have cv := conv_si (c := c) (n := xs.length) rfl (HS.out.on (D4.out.trans (hW.mono D4.out.size))); have cw := conv_si (c := cy) (n := 16) (by simp [be_length]) sy; rw [hw] at cw))
        all_goals
          go_wp2_with fail
          go_ret
          exact ⟨rfl, D4.out.trans (hW.mono D4.out.size)⟩
      · go_wp2_with fail
        go_ret
        exact ⟨congrArg (fun b => Ending.returned (Value.bool b)) (decide_eq_true (by omega)), D4.out⟩
      · go_wp2_with fail
        go_ret
        exact ⟨congrArg (fun b => Ending.returned (Value.bool b)) (show (!decide ((xs.length : Int) < 16)) = true by simp; omega), D4.out⟩
  · go_enter Try.func11, Try.ntmps11
    go_wp2_with fail
    refine (live_any _).mono ?_
    rintro e w1 ⟨rfl, hb1⟩
    have B1 := Lib.hid (((Below.refl _ _).alloc (Nat.le_refl _) _).trans (hb1.mono (by simp)))
    clear hb1
    go_wp2_with fail
    go_ret
    exact ⟨rfl, B1.out⟩
end Go.Proofs.Ytjcanehlnggffaa
