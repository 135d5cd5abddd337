/- Several texts of one kind, one behind the other: HashQ, HashR, HashS. -/
import Derived.Test.YtgkdkkppeeikoaaHashLib3
import Derived.Deep.Cut
import Derived.Test.YtgkdkkppeeikoaaPlain
/- Contracts: how many bits a word has, and how many it lacks. -/
namespace Go.Proofs.Ytgkdkkppeeikoaa
open Go.ChangeShapes Go.WideShapes Go.ChangeAt Go.RowKit Gs
set_option linter.unusedVariables false

def tabOk (D : ByteArray) : Bool := decide (D.size = 256) && (List.range 256).all fun i => i == 0 || (decide (1 ≤ D[i]!.toNat) && decide (D[i]!.toNat ≤ 8) && decide (2 ^ (D[i]!.toNat - 1) ≤ i) && decide (i < 2 ^ D[i]!.toNat))
theorem tabOk_out {D : ByteArray} (h : tabOk D = true) (i : Nat) (hi : i < 256) (h0 : 0 < i) (hs : i < D.size) : 1 ≤ D[i].toNat ∧ D[i].toNat ≤ 8 ∧ 2 ^ (D[i].toNat - 1) ≤ i ∧ i < 2 ^ D[i].toNat := by
  unfold tabOk at h
  rw [Bool.and_eq_true] at h
  have h2 := List.all_eq_true.1 h.2 i (List.mem_range.2 hi)
  rw [getElem!_pos D i hs] at h2
  simp at h2
  rcases h2 with h2 | h2
  · omega
  · omega
theorem len_fin {w : World} (D : ByteArray) (ht : tabOk D = true) (y : Int) (k : Nat) (hk : k ≤ 56) (x : Int) (hx : x = y / (2 : Int) ^ k) (h0 : 0 < x) (h1 : x < 256) (hs : x.toNat < D.size) :
    ∃ n : Nat, Ending.returned (Value.int .i64 (wrap64 (k + wrap64 (D[x.toNat].toNat : Int)))) = Ending.returned (Value.int .i64 (n : Int)) ∧ w = w ∧ 1 ≤ n ∧ n ≤ 64 ∧ (2 : Int) ^ (n - 1) ≤ y ∧ y < (2 : Int) ^ n := by
  obtain ⟨t1, t2, t3, t4⟩ := tabOk_out ht x.toNat (by omega) (by omega) hs
  generalize D[x.toNat].toNat = t at *
  have e1 : wrap64 (t : Int) = t := by unfold wrap64; omega
  have e2 : wrap64 ((k : Int) + t) = (k + t : Nat) := by unfold wrap64; omega
  have p0 : (0 : Int) < 2 ^ k := Int.pow_pos (by omega)
  have t3' : (2 : Int) ^ (t - 1) ≤ x := by
    have : ((2 ^ (t - 1) : Nat) : Int) ≤ (x.toNat : Int) := Int.ofNat_le.2 t3
    rw [Int.natCast_pow] at this
    have hx0 : (x.toNat : Int) = x := Int.toNat_of_nonneg (by omega)
    rw [hx0] at this
    exact this
  have t4' : x < (2 : Int) ^ t := by
    have : (x.toNat : Int) < ((2 ^ t : Nat) : Int) := Int.ofNat_lt.2 t4
    rw [Int.natCast_pow] at this
    have hx0 : (x.toNat : Int) = x := Int.toNat_of_nonneg (by omega)
    rw [hx0] at this
    exact this
  refine ⟨k + t, by rw [e1, e2], rfl, by omega, by omega, ?_, ?_⟩
  · rw [show k + t - 1 = (t - 1) + k by omega, Int.pow_add]
    rw [hx] at t3'
    exact (Int.le_ediv_iff_mul_le p0).1 t3'
  · rw [Nat.add_comm k t, Int.pow_add]
    rw [hx] at t4'
    exact (Int.ediv_lt_iff_lt_mul p0).1 t4'

theorem len_fin0 {w : World} (D : ByteArray) (ht : tabOk D = true) (y : Int) (x : Int) (hx : x = y) (h0 : 0 < x) (h1 : x < 256) (hs : x.toNat < D.size) :
    ∃ n : Nat, Ending.returned (Value.int .i64 (wrap64 (wrap64 (D[x.toNat].toNat : Int)))) = Ending.returned (Value.int .i64 (n : Int)) ∧ w = w ∧ 1 ≤ n ∧ n ≤ 64 ∧ (2 : Int) ^ (n - 1) ≤ y ∧ y < (2 : Int) ^ n := by
  have h := len_fin (w := w) D ht y 0 (by omega) x (by rw [hx]; simp) h0 h1 hs
  rwa [show ((0 : Nat) : Int) = 0 from rfl, Int.zero_add] at h

set_option maxRecDepth 100000 in
theorem Len_any (y : Int) (y0 : 0 < y) (y1 : y < 18446744073709551616) (w : World) :
    Calls Try.prog 55 #[.int .u64 y] w fun e w' => ∃ n : Nat, e = .returned (.int .i64 n) ∧ w = w' ∧ 1 ≤ n ∧ n ≤ 64 ∧ (2 : Int) ^ (n - 1) ≤ y ∧ y < (2 : Int) ^ n := by
  by_cases a1 : 4294967296 ≤ y
  · by_cases a2 : 65536 ≤ y / 4294967296
    · by_cases a3 : 256 ≤ y / 4294967296 / 65536
      · go_enter Try.func55, Try.ntmps55
        go_wp2_with fail
        go_ret
        exact len_fin _ (by decide +kernel) y 56 (by omega) _ (by omega) (by omega) (by omega) _
      · go_enter Try.func55, Try.ntmps55
        go_wp2_with fail
        go_ret
        exact len_fin _ (by decide +kernel) y 48 (by omega) _ (by omega) (by omega) (by omega) _
    · by_cases a3 : 256 ≤ y / 4294967296
      · go_enter Try.func55, Try.ntmps55
        go_wp2_with fail
        go_ret
        exact len_fin _ (by decide +kernel) y 40 (by omega) _ (by omega) (by omega) (by omega) _
      · go_enter Try.func55, Try.ntmps55
        go_wp2_with fail
        go_ret
        exact len_fin _ (by decide +kernel) y 32 (by omega) _ (by omega) (by omega) (by omega) _
  · by_cases a2 : 65536 ≤ y
    · by_cases a3 : 256 ≤ y / 65536
      · go_enter Try.func55, Try.ntmps55
        go_wp2_with fail
        go_ret
        exact len_fin _ (by decide +kernel) y 24 (by omega) _ (by omega) (by omega) (by omega) _
      · go_enter Try.func55, Try.ntmps55
        go_wp2_with fail
        go_ret
        exact len_fin _ (by decide +kernel) y 16 (by omega) _ (by omega) (by omega) (by omega) _
    · by_cases a3 : 256 ≤ y
      · go_enter Try.func55, Try.ntmps55
        go_wp2_with fail
        go_ret
        exact len_fin _ (by decide +kernel) y 8 (by omega) _ (by omega) (by omega) (by omega) _
      · go_enter Try.func55, Try.ntmps55
        go_wp2_with fail
        go_ret
        exact len_fin0 _ (by decide +kernel) y _ rfl (by omega) (by omega) _

theorem Lead_any (y : Int) (y0 : 0 < y) (y1 : y < 18446744073709551616) (w : World) :
    Calls Try.prog 47 #[.int .u64 y] w fun e w' => ∃ s : Nat, e = .returned (.int .i64 s) ∧ w = w' ∧ s ≤ 63 ∧ 9223372036854775808 ≤ y * (2 : Int) ^ s ∧ y * (2 : Int) ^ s < 18446744073709551616 := by
  go_enter Try.func47, Try.ntmps47
  go_wp2_with fail
  refine (Len_any y y0 y1 _).mono ?_
  rintro e w' ⟨n, rfl, rfl, n1, n2, h1, h2⟩
  have p0 : (0 : Int) < 2 ^ (64 - n) := Int.pow_pos (by omega)
  have e1 : (2 : Int) ^ (n - 1) * 2 ^ (64 - n) = 9223372036854775808 := by
    rw [← Int.pow_add, show n - 1 + (64 - n) = 63 by omega]; decide
  have e2 : (2 : Int) ^ n * 2 ^ (64 - n) = 18446744073709551616 := by
    rw [← Int.pow_add, show n + (64 - n) = 64 by omega]; decide
  have g1 := Int.mul_le_mul_of_nonneg_right h1 (Int.le_of_lt p0)
  have g2 := Int.mul_lt_mul_of_pos_right h2 p0
  rw [e1] at g1
  rw [e2] at g2
  have HG := Lib.hid (And.intro g1 g2)
  clear g1 g2 e1 e2 p0 h1 h2
  have hw : wrap64 (64 - (n : Int)) = ((64 - n : Nat) : Int) := by unfold wrap64; omega
  go_wp2_with fail
  go_ret
  refine ⟨64 - n, ?_, rfl, by omega, HG.out.1, HG.out.2⟩
  first | rfl | (simp; omega)
end Go.Proofs.Ytgkdkkppeeikoaa

/- The contract of the division of two words by one. -/
namespace Go.Proofs.Ytgkdkkppeeikoaa
open Go.ChangeShapes Go.WideShapes Go.ChangeAt Go.RowKit Gs
set_option linter.unusedVariables false

theorem or_shl (A B : Int) (s : Nat) (hs : s ≤ 63) (a0 : 0 ≤ A) (ha : A * 2 ^ s < 18446744073709551616) (b0 : 0 ≤ B) (hb : B < 2 ^ s) : bits .or .u64 (IntKind.u64.wrap (A * 2 ^ s)) B = A * 2 ^ s + B := by
  have p0 : (0 : Int) < 2 ^ s := Int.pow_pos (by omega)
  have m0 := Int.mul_nonneg a0 (Int.le_of_lt p0)
  rw [IntWalk.u64_in _ (by omega)]
  obtain ⟨a, rfl⟩ := Int.eq_ofNat_of_zero_le a0
  obtain ⟨b, rfl⟩ := Int.eq_ofNat_of_zero_le b0
  have hbn : b < 2 ^ s := by exact_mod_cast hb
  have e1 : (a : Int) * 2 ^ s = ((a * 2 ^ s : Nat) : Int) := by push_cast; rfl
  have e63 : 2 ^ s ≤ 2 ^ 63 := Nat.pow_le_pow_right (by omega) hs
  rw [e1] at ha ⊢
  rw [u64_or_nat _ _ (by omega) (by omega)]
  have := Nat.shiftLeft_add_eq_or_of_lt hbn a
  rw [Nat.shiftLeft_eq] at this
  rw [← this]
  push_cast
  rfl

/-- What the words of the division are. -/
theorem div_words {hi lo y : Int} {s : Nat} (g0 : 0 < hi) (g1 : hi < y) (h0 : 0 ≤ lo) (h1 : lo < 18446744073709551616) (s1 : s ≤ 63) (p1 : 9223372036854775808 ≤ y * 2 ^ s) (p2 : y * 2 ^ s < 18446744073709551616) :
    ∃ Y L U c d l1 l0 : Int, y * 2 ^ s = Y ∧ IntKind.u64.wrap (lo * 2 ^ s) = L ∧ bits .or .u64 (IntKind.u64.wrap (hi * 2 ^ s)) (lo / 2 ^ (64 - s)) = U ∧ Y / 4294967296 = c ∧ bits .and .u64 Y 4294967295 = d ∧ L / 4294967296 = l1 ∧ bits .and .u64 L 4294967295 = l0 ∧ Y = c * 4294967296 + d ∧ Dig c d U l1 ∧ (0 ≤ l0 ∧ l0 < 4294967296) ∧ dr c d (dr c d U l1) l0 / 2 ^ s = (hi * 18446744073709551616 + lo) % y := by
  have p0 : (0 : Int) < 2 ^ s := Int.pow_pos (by omega)
  have e64 : (18446744073709551616 : Int) = 2 ^ (64 - s) * 2 ^ s := by rw [← Int.pow_add, show 64 - s + s = 64 by omega]; decide
  have hb : lo / 2 ^ (64 - s) < 2 ^ s := Int.ediv_lt_of_lt_mul (Int.pow_pos (by omega)) (by rw [Int.mul_comm, ← e64]; exact h1)
  have hb0 : 0 ≤ lo / 2 ^ (64 - s) := Int.ediv_nonneg h0 (Int.le_of_lt (Int.pow_pos (by omega)))
  have hh : (hi + 1) * 2 ^ s ≤ y * 2 ^ s := Int.mul_le_mul_of_nonneg_right (by omega) (Int.le_of_lt p0)
  rw [Int.add_mul, Int.one_mul] at hh
  have hor := or_shl hi (lo / 2 ^ (64 - s)) s s1 (by omega) (by omega) hb0 hb
  have hhi := Int.mul_nonneg (Int.le_of_lt g0) (Int.le_of_lt p0)
  have hfin := shifted (hi := hi) (lo := lo) (y := y) s1 h0
  have hw : IntKind.u64.wrap (lo * 2 ^ s) = lo * 2 ^ s % 18446744073709551616 := by rw [IntKind.wrap_u64]
  have hU1 : hi * 2 ^ s + lo / 2 ^ (64 - s) < y * 2 ^ s := by omega
  refine ⟨_, _, _, _, _, _, _, rfl, rfl, rfl, rfl, rfl, rfl, rfl, ?_, ?_, ?_, ?_⟩
  · rw [and_low32 _ (by omega) (by omega)]; omega
  · rw [and_low32 _ (by omega) (by omega), hor, hw]
    exact ⟨by omega, by omega, by omega, by omega, by omega, by omega, by omega, by omega⟩
  · rw [hw, and_low32 _ (by omega) (by omega)]; omega
  · rw [two_digits, hor, hw, and_low32 _ (by omega) (by omega), and_low32 _ (by omega) (by omega)]
    rw [show lo * 2 ^ s % 18446744073709551616 / 4294967296 * 4294967296 + lo * 2 ^ s % 18446744073709551616 % 4294967296 = lo * 2 ^ s % 18446744073709551616 by omega, show y * 2 ^ s / 4294967296 * 4294967296 + y * 2 ^ s % 4294967296 = y * 2 ^ s by omega, hfin]
    exact Int.mul_ediv_cancel _ (by omega)
/-- What the words of one digit are. -/
theorem digit_words {c d U l : Int} (h : Dig c d U l) : ∃ q m r A1 A2 A3 : Int, U / c = q ∧ IntKind.u64.wrap (q * c) = m ∧ IntKind.u64.wrap (U - m) = r ∧ IntKind.u64.wrap (U * 4294967296) = A1 ∧ IntKind.u64.wrap (A1 + l) = A2 ∧ IntKind.u64.wrap (dq c d U l * (c * 4294967296 + d)) = A3 ∧ IntKind.u64.wrap (A2 - A3) = dr c d U l ∧ q * c + r = U ∧ 0 ≤ r ∧ r < 4294967296 ∧ dq c d U l ≤ q ∧ 0 ≤ q ∧ q < 18446744073709551616 := by
  have hs := h.start
  have hw := word_rem h
  have g := h
  obtain ⟨c0, c1, d0, d1, U0, U1, l0, l1⟩ := g
  have e := Int.mul_ediv_add_emod U c
  have r0 := Int.emod_nonneg U (show c ≠ 0 by omega)
  have r1 := Int.emod_lt_of_pos U (show 0 < c by omega)
  have q0 := Int.ediv_nonneg U0 (show 0 ≤ c by omega)
  have q1 : U / c ≤ U := Int.ediv_le_self _ U0
  have hm : IntKind.u64.wrap (U / c * c) = U / c * c := by
    rw [Int.mul_comm]
    exact IntWalk.u64_in _ (by have := Int.mul_nonneg (show 0 ≤ c by omega) q0; omega)
  have hr : IntKind.u64.wrap (U - U / c * c) = U % c := by
    rw [Int.mul_comm (U / c), show U - c * (U / c) = U % c by omega]
    exact IntWalk.u64_in _ (by omega)
  refine ⟨_, _, _, _, _, _, rfl, rfl, rfl, rfl, rfl, rfl, ?_, ?_, ?_, ?_, hs, q0, by omega⟩
  · rw [IntKind.wrap_u64, IntKind.wrap_u64, IntKind.wrap_u64, IntKind.wrap_u64]; exact hw
  · rw [hm, hr, Int.mul_comm (U / c)]; exact e
  · rw [hm, hr]; exact r0
  · rw [hm, hr]; omega

theorem mul_u64 {q d : Int} (q0 : 0 ≤ q) (q1 : q < 4294967296) (d0 : 0 ≤ d) (d1 : d < 4294967296) : IntKind.u64.wrap (q * d) = q * d := by
  have h := Int.mul_nonneg q0 d0
  have g : q * d ≤ 4294967295 * 4294967295 := Int.mul_le_mul (by omega) (by omega) d0 (by omega)
  exact IntWalk.u64_in _ (by omega)

set_option maxHeartbeats 2000000 in
theorem Div64_any (hi lo y : Int) (g0 : 0 < hi) (g1 : hi < y) (h0 : 0 ≤ lo) (h1 : lo < 18446744073709551616) (y1 : y < 18446744073709551616) (w : World) :
    Calls Try.prog 40 #[.int .u64 hi, .int .u64 lo, .int .u64 y] w fun e w' => (∃ q : Int, e = .returned (.tuple #[.int .u64 q, .int .u64 ((hi * 18446744073709551616 + lo) % y)])) ∧ Dr w w' := by
  have hy : (y == 0) = false := beq_eq_false_iff_ne.2 (by omega)
  go_enter Try.func40, Try.ntmps40
  go_wp2_with fail
  refine (Lead_any y (by omega) y1 _).mono ?_
  rintro e w' ⟨s, rfl, rfl, s1, p1, p2⟩
  obtain ⟨Y, L, U, c, d, l1, l0, hY, hL, hU, hc, hd, hl1, hl0, eY, D1, bl0, hfin⟩ := div_words g0 g1 h0 h1 s1 p1 p2
  obtain ⟨q1, m1, r1, A1, A2, A3, k1, k2, k3, k4, k5, k6, k7, i1, i2, i3, i4, i5, i6⟩ := digit_words D1
  have D2 : Dig c d (dr c d U l1) l0 := ⟨D1.c0, D1.c1, D1.d0, D1.d1, D1.dq_spec.2.2.1, D1.dq_spec.2.2.2.1, bl0.1, bl0.2⟩
  rw [← eY] at k6
  obtain ⟨Q1, hQ1⟩ : ∃ Q, dq c d U l1 = Q := ⟨_, rfl⟩
  obtain ⟨V, hV⟩ : ∃ Q, dr c d U l1 = Q := ⟨_, rfl⟩
  rw [hV] at D2 hfin k7
  rw [hQ1] at k6 i4
  obtain ⟨q2, m2, r2, B1, B2, B3, j1, j2, j3, j4, j5, j6, j7, n1, n2, n3, n4, n5, n6⟩ := digit_words D2
  rw [← eY] at j6
  obtain ⟨Q2, hQ2⟩ : ∃ Q, dq c d V l0 = Q := ⟨_, rfl⟩
  obtain ⟨X, hX⟩ : ∃ Q, dr c d V l0 = Q := ⟨_, rfl⟩
  rw [hX] at hfin j7
  rw [hQ2] at j6 n4
  have HD1 := Lib.hid D1
  have HD2 := Lib.hid D2
  have HQ1 := Lib.hid hQ1
  have HQ2 := Lib.hid hQ2
  have HI := Lib.hid (And.intro i1 i4)
  have HN := Lib.hid (And.intro n1 n4)
  have HE := Lib.hid eY
  have HV := Lib.hid hV
  have HX := Lib.hid hX
  have hcn : (c == 0) = false := beq_eq_false_iff_ne.2 (by have := D1.c0; omega)
  have c0 := D1.c0
  have c1 := D1.c1
  have U0 := D1.U0
  have V0 := D2.U0
  have U1 : U < 18446744073709551616 := by have := D1.U1; have := D1.d1; omega
  have V1 : V < 18446744073709551616 := by have := D2.U1; have := D2.d1; omega
  clear D1 D2 hQ1 hQ2 i1 i4 n1 n4 eY hV hX
  go_upto_region 15 with (fail)
  clear hY hL hU p1 p2
  go_upto_region 17 with (fail)
  go_loop [15, 16] (fun a b => ∃ q r : Int, a = .int .u64 q ∧ b = .int .u64 r ∧ Hid (q * c + r = U ∧ Q1 ≤ q) ∧ 0 ≤ r ∧ r < 4294967296 ∧ 0 ≤ q ∧ q < 18446744073709551616) (fun a _ => (intOf a).toNat)
  case atStart => exact ⟨q1, r1, by simp [k1], rfl, Lib.hid HI.out, i2, i3, i5, i6⟩
  case round =>
    obtain ⟨q, r, rfl, rfl, HR, hr0, hr1, hq0, hq1⟩ := hrel
    have l10 := HD1.out.l0
    have l11 := HD1.out.l1
    have HM : Hid (4294967296 ≤ q ∨ 4294967296 * r + l1 < q * d → Q1 ≤ q - 1) := Lib.hid (fun h => by rw [← HQ1.out]; exact HD1.out.more (q := q) (r := r) HR.out.1 h)
    have hqq := HD1.out.dq_spec.1
    rw [HQ1.out] at hqq
    by_cases b1 : 4294967296 ≤ q
    · have hge := HM.out (.inl b1)
      by_cases b3 : 4294967296 ≤ r + c
      · have hx : q - 1 = Q1 := by
          rw [← HQ1.out]
          refine HD1.out.left (r := r + c) ?_ (by rw [HQ1.out]; exact hge) b3
          have := HR.out.1
          rw [Int.sub_mul]; omega
        go_wp2_with fail
        clear HM HR hr0 hr1 hq0 hq1 hqq l10 l11
        go_loop [18, 16] (fun a b => ∃ q r : Int, a = .int .u64 q ∧ b = .int .u64 r ∧ Hid (q * c + r = V ∧ Q2 ≤ q) ∧ 0 ≤ r ∧ r < 4294967296 ∧ 0 ≤ q ∧ q < 18446744073709551616) (fun a _ => (intOf a).toNat)
        case atStart => exact ⟨q2, r2, rfl, rfl, Lib.hid HN.out, n2, n3, n5, n6⟩
        case round =>
          obtain ⟨q, r, rfl, rfl, HR, hr0, hr1, hq0, hq1⟩ := hrel
          have l10 := HD2.out.l0
          have l11 := HD2.out.l1
          have HM : Hid (4294967296 ≤ q ∨ 4294967296 * r + l0 < q * d → Q2 ≤ q - 1) := Lib.hid (fun h => by rw [← HQ2.out]; exact HD2.out.more (q := q) (r := r) HR.out.1 h)
          have hqq := HD2.out.dq_spec.1
          rw [HQ2.out] at hqq
          by_cases b1 : 4294967296 ≤ q
          · have hge := HM.out (.inl b1)
            by_cases b3 : 4294967296 ≤ r + c
            · have hx : q - 1 = Q2 := by
                rw [← HQ2.out]
                refine HD2.out.left (r := r + c) ?_ (by rw [HQ2.out]; exact hge) b3
                have := HR.out.1
                rw [Int.sub_mul]; omega
              go_wp2_with fail
              go_ret2
              exact ⟨⟨_, rfl⟩, 0, rfl⟩
            · go_wp2_with fail
              go_round
              case rel => exact ⟨q - 1, r + c, rfl, rfl, Lib.hid ⟨by have := HR.out.1; rw [Int.sub_mul]; omega, hge⟩, by omega, by omega, by omega, by omega⟩
              case measure => simp [intOf]; omega
          · obtain ⟨m, hm⟩ : ∃ m, q * d = m := ⟨_, rfl⟩
            have hmw : IntKind.u64.wrap (q * d) = m := by rw [← hm]; exact mul_u64 hq0 (by omega) HD1.out.d0 HD1.out.d1
            have hm0 : 0 ≤ m := by rw [← hm]; exact Int.mul_nonneg hq0 HD1.out.d0
            by_cases b2 : 4294967296 * r + l0 < m
            · have hge := HM.out (.inr (by rw [hm]; exact b2))
              clear hm
              by_cases b3 : 4294967296 ≤ r + c
              · have hx : q - 1 = Q2 := by
                  rw [← HQ2.out]
                  refine HD2.out.left (r := r + c) ?_ (by rw [HQ2.out]; exact hge) b3
                  have := HR.out.1
                  rw [Int.sub_mul]; omega
                go_wp2_with fail
                go_ret2
                exact ⟨⟨_, rfl⟩, 0, rfl⟩
              · go_wp2_with fail
                go_round
                case rel => exact ⟨q - 1, r + c, rfl, rfl, Lib.hid ⟨by have := HR.out.1; rw [Int.sub_mul]; omega, hge⟩, by omega, by omega, by omega, by omega⟩
                case measure => simp [intOf]; omega
            · have hx : q = Q2 := by
                rw [← HQ2.out]
                exact HD2.out.done HR.out.1 (by rw [HQ2.out]; exact HR.out.2) (by rw [hm]; omega)
              clear hm
              subst hx
              go_wp2_with fail
              go_ret2
              exact ⟨⟨_, rfl⟩, 0, rfl⟩
      · go_wp2_with fail
        go_round
        case rel => exact ⟨q - 1, r + c, rfl, rfl, Lib.hid ⟨by have := HR.out.1; rw [Int.sub_mul]; omega, hge⟩, by omega, by omega, by omega, by omega⟩
        case measure => simp [intOf]; omega
    · obtain ⟨m, hm⟩ : ∃ m, q * d = m := ⟨_, rfl⟩
      have hmw : IntKind.u64.wrap (q * d) = m := by rw [← hm]; exact mul_u64 hq0 (by omega) HD1.out.d0 HD1.out.d1
      have hm0 : 0 ≤ m := by rw [← hm]; exact Int.mul_nonneg hq0 HD1.out.d0
      by_cases b2 : 4294967296 * r + l1 < m
      · have hge := HM.out (.inr (by rw [hm]; exact b2))
        clear hm
        by_cases b3 : 4294967296 ≤ r + c
        · have hx : q - 1 = Q1 := by
            rw [← HQ1.out]
            refine HD1.out.left (r := r + c) ?_ (by rw [HQ1.out]; exact hge) b3
            have := HR.out.1
            rw [Int.sub_mul]; omega
          go_wp2_with fail
          clear HM HR hr0 hr1 hq0 hq1 hqq l10 l11
          go_loop [18, 16] (fun a b => ∃ q r : Int, a = .int .u64 q ∧ b = .int .u64 r ∧ Hid (q * c + r = V ∧ Q2 ≤ q) ∧ 0 ≤ r ∧ r < 4294967296 ∧ 0 ≤ q ∧ q < 18446744073709551616) (fun a _ => (intOf a).toNat)
          case atStart => exact ⟨q2, r2, rfl, rfl, Lib.hid HN.out, n2, n3, n5, n6⟩
          case round =>
            obtain ⟨q, r, rfl, rfl, HR, hr0, hr1, hq0, hq1⟩ := hrel
            have l10 := HD2.out.l0
            have l11 := HD2.out.l1
            have HM : Hid (4294967296 ≤ q ∨ 4294967296 * r + l0 < q * d → Q2 ≤ q - 1) := Lib.hid (fun h => by rw [← HQ2.out]; exact HD2.out.more (q := q) (r := r) HR.out.1 h)
            have hqq := HD2.out.dq_spec.1
            rw [HQ2.out] at hqq
            by_cases b1 : 4294967296 ≤ q
            · have hge := HM.out (.inl b1)
              by_cases b3 : 4294967296 ≤ r + c
              · have hx : q - 1 = Q2 := by
                  rw [← HQ2.out]
                  refine HD2.out.left (r := r + c) ?_ (by rw [HQ2.out]; exact hge) b3
                  have := HR.out.1
                  rw [Int.sub_mul]; omega
                go_wp2_with fail
                go_ret2
                exact ⟨⟨_, rfl⟩, 0, rfl⟩
              · go_wp2_with fail
                go_round
                case rel => exact ⟨q - 1, r + c, rfl, rfl, Lib.hid ⟨by have := HR.out.1; rw [Int.sub_mul]; omega, hge⟩, by omega, by omega, by omega, by omega⟩
                case measure => simp [intOf]; omega
            · obtain ⟨m, hm⟩ : ∃ m, q * d = m := ⟨_, rfl⟩
              have hmw : IntKind.u64.wrap (q * d) = m := by rw [← hm]; exact mul_u64 hq0 (by omega) HD1.out.d0 HD1.out.d1
              have hm0 : 0 ≤ m := by rw [← hm]; exact Int.mul_nonneg hq0 HD1.out.d0
              by_cases b2 : 4294967296 * r + l0 < m
              · have hge := HM.out (.inr (by rw [hm]; exact b2))
                clear hm
                by_cases b3 : 4294967296 ≤ r + c
                · have hx : q - 1 = Q2 := by
                    rw [← HQ2.out]
                    refine HD2.out.left (r := r + c) ?_ (by rw [HQ2.out]; exact hge) b3
                    have := HR.out.1
                    rw [Int.sub_mul]; omega
                  go_wp2_with fail
                  go_ret2
                  exact ⟨⟨_, rfl⟩, 0, rfl⟩
                · go_wp2_with fail
                  go_round
                  case rel => exact ⟨q - 1, r + c, rfl, rfl, Lib.hid ⟨by have := HR.out.1; rw [Int.sub_mul]; omega, hge⟩, by omega, by omega, by omega, by omega⟩
                  case measure => simp [intOf]; omega
              · have hx : q = Q2 := by
                  rw [← HQ2.out]
                  exact HD2.out.done HR.out.1 (by rw [HQ2.out]; exact HR.out.2) (by rw [hm]; omega)
                clear hm
                subst hx
                go_wp2_with fail
                go_ret2
                exact ⟨⟨_, rfl⟩, 0, rfl⟩
        · go_wp2_with fail
          go_round
          case rel => exact ⟨q - 1, r + c, rfl, rfl, Lib.hid ⟨by have := HR.out.1; rw [Int.sub_mul]; omega, hge⟩, by omega, by omega, by omega, by omega⟩
          case measure => simp [intOf]; omega
      · have hx : q = Q1 := by
          rw [← HQ1.out]
          exact HD1.out.done HR.out.1 (by rw [HQ1.out]; exact HR.out.2) (by rw [hm]; omega)
        clear hm
        subst hx
        go_wp2_with fail
        clear HM HR hr0 hr1 hq0 hq1 hqq l10 l11
        go_loop [18, 16] (fun a b => ∃ q r : Int, a = .int .u64 q ∧ b = .int .u64 r ∧ Hid (q * c + r = V ∧ Q2 ≤ q) ∧ 0 ≤ r ∧ r < 4294967296 ∧ 0 ≤ q ∧ q < 18446744073709551616) (fun a _ => (intOf a).toNat)
        case atStart => exact ⟨q2, r2, rfl, rfl, Lib.hid HN.out, n2, n3, n5, n6⟩
        case round =>
          obtain ⟨q, r, rfl, rfl, HR, hr0, hr1, hq0, hq1⟩ := hrel
          have l10 := HD2.out.l0
          have l11 := HD2.out.l1
          have HM : Hid (4294967296 ≤ q ∨ 4294967296 * r + l0 < q * d → Q2 ≤ q - 1) := Lib.hid (fun h => by rw [← HQ2.out]; exact HD2.out.more (q := q) (r := r) HR.out.1 h)
          have hqq := HD2.out.dq_spec.1
          rw [HQ2.out] at hqq
          by_cases b1 : 4294967296 ≤ q
          · have hge := HM.out (.inl b1)
            by_cases b3 : 4294967296 ≤ r + c
            · have hx : q - 1 = Q2 := by
                rw [← HQ2.out]
                refine HD2.out.left (r := r + c) ?_ (by rw [HQ2.out]; exact hge) b3
                have := HR.out.1
                rw [Int.sub_mul]; omega
              go_wp2_with fail
              go_ret2
              exact ⟨⟨_, rfl⟩, 0, rfl⟩
            · go_wp2_with fail
              go_round
              case rel => exact ⟨q - 1, r + c, rfl, rfl, Lib.hid ⟨by have := HR.out.1; rw [Int.sub_mul]; omega, hge⟩, by omega, by omega, by omega, by omega⟩
              case measure => simp [intOf]; omega
          · obtain ⟨m, hm⟩ : ∃ m, q * d = m := ⟨_, rfl⟩
            have hmw : IntKind.u64.wrap (q * d) = m := by rw [← hm]; exact mul_u64 hq0 (by omega) HD1.out.d0 HD1.out.d1
            have hm0 : 0 ≤ m := by rw [← hm]; exact Int.mul_nonneg hq0 HD1.out.d0
            by_cases b2 : 4294967296 * r + l0 < m
            · have hge := HM.out (.inr (by rw [hm]; exact b2))
              clear hm
              by_cases b3 : 4294967296 ≤ r + c
              · have hx : q - 1 = Q2 := by
                  rw [← HQ2.out]
                  refine HD2.out.left (r := r + c) ?_ (by rw [HQ2.out]; exact hge) b3
                  have := HR.out.1
                  rw [Int.sub_mul]; omega
                go_wp2_with fail
                go_ret2
                exact ⟨⟨_, rfl⟩, 0, rfl⟩
              · go_wp2_with fail
                go_round
                case rel => exact ⟨q - 1, r + c, rfl, rfl, Lib.hid ⟨by have := HR.out.1; rw [Int.sub_mul]; omega, hge⟩, by omega, by omega, by omega, by omega⟩
                case measure => simp [intOf]; omega
            · have hx : q = Q2 := by
                rw [← HQ2.out]
                exact HD2.out.done HR.out.1 (by rw [HQ2.out]; exact HR.out.2) (by rw [hm]; omega)
              clear hm
              subst hx
              go_wp2_with fail
              go_ret2
              exact ⟨⟨_, rfl⟩, 0, rfl⟩
end Go.Proofs.Ytgkdkkppeeikoaa

/- Contracts: a number of a hash, whatever it is below; and the document's own way to it. -/
namespace Go.Proofs.Ytgkdkkppeeikoaa
open Go.ChangeShapes Go.WideShapes Go.ChangeAt Go.RowKit Gs
set_option linter.unusedVariables false

theorem Rem64_any (hi lo y : Int) (g0 : 0 ≤ hi) (g1 : hi < 18446744073709551616) (h0 : 0 ≤ lo) (h1 : lo < 18446744073709551616) (y0 : 0 < y) (y1 : y < 18446744073709551616) (w : World) :
    Calls Try.prog 35 #[.int .u64 hi, .int .u64 lo, .int .u64 y] w fun e w' => e = .returned (.int .u64 ((hi * 18446744073709551616 + lo) % y)) ∧ Dr w w' := by
  by_cases hz : hi % y = 0
  · rw [mod_low hi lo y hz]
    exact Rem64_zero hi lo y g0 g1 h0 h1 y0 y1 hz w
  · have hy : (y == 0) = false := beq_eq_false_iff_ne.2 (by omega)
    have m0 := Int.emod_nonneg hi (show y ≠ 0 by omega)
    have m1 := Int.emod_lt_of_pos hi y0
    have hD := Div64_any (hi % y) lo y (by omega) m1 h0 h1 y1
    have he : (hi % y * 18446744073709551616 + lo) % y = (hi * 18446744073709551616 + lo) % y := by
      rw [Int.add_emod, Int.mul_emod, Int.emod_emod, ← Int.mul_emod, ← Int.add_emod]
    rw [he] at hD
    have HD := Lib.hid hD
    clear hD he hz
    go_enter Try.func35, Try.ntmps35
    go_wp2_with fail
    refine (HD.out _).mono ?_
    rintro e w' ⟨⟨q, rfl⟩, hd⟩
    have HW := Lib.hid hd
    clear hd
    go_wp2_with fail
    go_ret
    exact ⟨rfl, HW.out⟩

theorem Num_any (a b m : Int) [IsU a] [IsU b] [IsU m] (w : World) :
    Calls Try.prog 31 #[.agg #[.int .u64 a, .int .u64 b], .int .u64 m] w fun e w' => e = .returned (.int .u64 (hnum a b m)) ∧ Below w.heap.size w w' := by
  by_cases hm : m = 0
  · subst hm
    have h := Num_zero a b w
    rwa [show hnum a b 0 = 0 from if_pos rfl]
  · have m0 : 0 < m := by have : 0 ≤ m := IsU.lo; omega
    exact Num_of a b m m0 (fun hi lo h0 h1 l0 l1 hn w => Rem64_any hi lo m h0 (by omega) l0 l1 m0 IsU.hi w) w

end Go.Proofs.Ytgkdkkppeeikoaa
