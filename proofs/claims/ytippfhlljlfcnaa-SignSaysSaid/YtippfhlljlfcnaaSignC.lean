/- Contracts of the signatures: public keys, what is signed. -/
import Derived.Test.YtippfhlljlfcnaaSignB
import Derived.Test.YtippfhlljlfcnaaCycGroupMath
namespace Go.Proofs.Ytippfhlljlfcnaa
open Go.ChangeShapes Go.WideShapes Go.ChangeAt Go.RowKit Gs
set_option linter.unusedVariables false

theorem Public_ok (s : Int) (h1 : 1 ≤ s) (h2 : s < 1152921504606845789) (w : World) :
    Calls Try.prog 13 #[.int .u64 s] w fun e w' => e = .returned (.tuple #[.int .u64 (qpow 4 s), .int .i64 0]) ∧ Below w.heap.size w w' := by
  haveI : IsU s := ⟨by omega, by omega⟩
  have B0 := Lib.hid (Below.refl w.heap.size w)
  have P := Lib.hid (Base_q s)
  generalize qpow 4 s = x at P ⊢
  go_enter Try.func13, Try.ntmps13
  go_wp2_with fail
  refine (P.out _).mono ?_; rintro e w1 ⟨rfl, b⟩; have B1 := Lib.hid (below_on B0.out b); clear b
  go_wp2_with fail
  go_ret2
  exact ⟨rfl, B1.out⟩
theorem Public_bad (s : Int) (h0 : 0 ≤ s) (h3 : s < 18446744073709551616) (h : s < 1 ∨ 1152921504606845789 ≤ s) (w : World) :
    Calls Try.prog 13 #[.int .u64 s] w fun e w' => e = .returned (.tuple #[.int .u64 0, .int .i64 1]) ∧ Below w.heap.size w w' := by
  have B0 := Lib.hid (Below.refl w.heap.size w)
  rcases h with h | h
  all_goals
    go_enter Try.func13, Try.ntmps13
    go_wp2_with fail
    go_ret2
    exact ⟨rfl, B0.out⟩

/-- The nonce of a secret and a message. -/
def snonce (s : Int) (xs : List Int) : Int := 1 + hof ⟨#[110, 111, 110, 99, 101]⟩ [be s 8, xs] 1152921504606845788
theorem snonce_bound (s : Int) (xs : List Int) : 1 ≤ snonce s xs ∧ snonce s xs < 1152921504606845789 := by
  have h := hof_bound ⟨#[110, 111, 110, 99, 101]⟩ [be s 8, xs] (m := 1152921504606845788) (by omega)
  unfold snonce; omega
instance (s : Int) (xs : List Int) : IsU (snonce s xs) := ⟨by have := snonce_bound s xs; omega, by have := snonce_bound s xs; omega⟩
theorem nonce_parts (s : Int) {xs : List Int} (hx : ∀ x ∈ xs, 0 ≤ x ∧ x < 256) (hl : xs.length ≤ 1000) : Parts ⟨#[110, 111, 110, 99, 101]⟩ [be s 8, xs] :=
  ⟨by
    intro q hq
    simp only [List.mem_cons, List.not_mem_nil, or_false] at hq
    rcases hq with rfl | rfl
    · exact be_bound _ _
    · exact hx, by simp [psz, ByteArray.size, be_length]; omega, by simp⟩
/-- The two numbers of what is signed. -/
def ssigE (s : Int) (xs : List Int) : Int := schal (qpow 4 (snonce s xs)) (qpow 4 s) xs
def ssigS (s : Int) (xs : List Int) : Int := radd (snonce s xs) (rmul (ssigE s xs) s)
instance (s : Int) (xs : List Int) : IsU (ssigE s xs) := by unfold ssigE; infer_instance
instance (s : Int) (xs : List Int) : IsU (ssigS s xs) := by unfold ssigS; infer_instance
theorem ssigE_bound (s : Int) (xs : List Int) : 0 ≤ ssigE s xs ∧ ssigE s xs < 1152921504606845789 := schal_bound _ _ _
theorem ssigS_bound (s : Int) (xs : List Int) : 0 ≤ ssigS s xs ∧ ssigS s xs < 1152921504606845789 := radd_bound _ _

set_option maxHeartbeats 4000000 in
theorem Sign_ok (s : Int) (h1 : 1 ≤ s) (h2 : s < 1152921504606845789) (A : Option Addr) (cp : Nat) (xs : List Int) (hx : ∀ x ∈ xs, 0 ≤ x ∧ x < 256) (hl : xs.length ≤ 1000) (hc : xs.length ≤ cp) (hm : cp ≤ maxLen) (w : World) (hs : SI w w.heap.size .u8 A xs) :
    Calls Try.prog 19 #[.int .u64 s, .slice A xs.length cp] w fun e w' => e = .returned (.tuple #[.agg #[.int .u64 (ssigE s xs), .int .u64 (ssigS s xs)], .int .i64 0]) ∧ Below w.heap.size w w' := by
  have B0 := Lib.hid ((Below.refl w.heap.size w).alloc (Nat.le_refl _) (.cells #[.int .u64 0, .int .u64 0] 33))
  have V := Lib.hid (show Sli w (.slice A xs.length cp) xs from ⟨A, cp, rfl, hc, hm, hs⟩)
  haveI : IsU s := ⟨by omega, by omega⟩
  have HX := Lib.hid hx
  have HM := Lib.hid hm
  have HS := Lib.hid hs
  have P1 := Lib.hid (Public_ok s h1 h2)
  have P2 := Lib.hid (bytesOf_any s)
  unfold be8 at P2
  have P3 := Lib.hid (fun A c => secretOf_any ⟨#[110, 111, 110, 99, 101]⟩ A c 2 [be s 8, xs] rfl (nonce_parts s hx hl))
  rw [show 1 + hof ⟨#[110, 111, 110, 99, 101]⟩ [be s 8, xs] 1152921504606845788 = snonce s xs from rfl] at P3
  have P4 := Lib.hid (Base_q (snonce s xs))
  have P5 := Lib.hid (fun A c => Challenge_any (qpow 4 (snonce s xs)) (qpow 4 s) A c xs HX.out hl)
  rw [show schal (qpow 4 (snonce s xs)) (qpow 4 s) xs = ssigE s xs from rfl] at P5
  have P6 := Lib.hid (MulR_r (ssigE s xs) s)
  have P7 := Lib.hid (AddR_r (snonce s xs) (rmul (ssigE s xs) s))
  rw [show radd (snonce s xs) (rmul (ssigE s xs) s) = ssigS s xs from rfl] at P7
  clear hs hx hm h1 h2
  generalize ssigS s xs = y at P7 ⊢
  generalize rmul (ssigE s xs) s = u at P6 P7
  generalize ssigE s xs = z at P5 P6 ⊢
  generalize qpow 4 (snonce s xs) = b at P4 P5
  generalize qpow 4 s = p at P1 P5
  generalize snonce s xs = k at P3 P4 P7
  go_enter Try.func19, Try.ntmps19
  go_wp2_with fail
  refine (P1.out _).mono ?_; rintro e w1 ⟨rfl, b⟩
  have Q1 := Lib.hid ((Blk.new_at w 33 #[.int .u64 0, .int .u64 0] rfl).below b (by simp))
  have B1 := Lib.hid (below_on B0.out b)
  clear b B0
  go_wp2_with fail
  refine (P2.out _).mono ?_; rintro e w2 ⟨rfl, b⟩
  have Q2 := Lib.hid (Q1.out.below b Q1.out.lt)
  have B2 := Lib.hid (below_on B1.out b)
  clear b
  go_upto_region 5 with (fail)
  refine wp_named (fun W => Blk W w2.heap.size 52 #[.int .u8 (byt s 7), .int .u8 (byt s 6), .int .u8 (byt s 5), .int .u8 (byt s 4), .int .u8 (byt s 3), .int .u8 (byt s 2), .int .u8 (byt s 1), .int .u8 (byt s 0)] ∧ Blk W w.heap.size 33 #[.int .u64 0, .int .u64 0] ∧ Below w.heap.size w W) ⟨Blk.new_at w2 _ _ rfl, Q2.out.alloc _, B2.out.alloc B2.out.size _⟩ ?_
  rintro W ⟨q1, q2, b3⟩
  have Q3 := Lib.hid q2
  have B3 := Lib.hid b3
  have V1 := Lib.hid (show Sli W (.slice (some ⟨w2.heap.size, 0, none⟩) 8 8) (be s 8) from ⟨_, 8, by rw [be_length], by rw [be_length]; omega, by unfold maxLen; omega, si_be8 q1⟩)
  have V3 := Lib.hid (V.out.on B3.out)
  clear q1 q2 b3 P1 P2 B1 Q1 B2 Q2
  go_wp2_with fail
  refine (P3.out _ _ _ (sp2 (Blk.new_at W _ _ rfl) (V1.out.on ((Below.refl _ _).alloc (Nat.le_refl _) _)) (V3.out.on ((Below.refl _ _).alloc (Nat.le_refl _) _)))).mono ?_
  rintro e w4 ⟨rfl, b⟩
  have B4 := Lib.hid (below_on (B3.out.alloc B3.out.size _) b)
  have Q4 := Lib.hid ((Q3.out.alloc (.cells #[.slice (some ⟨w2.heap.size, 0, none⟩) 8 8, .slice A xs.length cp] 22)).below b (by have := Q3.out.lt; simp; omega))
  clear b
  go_wp2_with fail
  refine (P4.out _).mono ?_; rintro e w5 ⟨rfl, b⟩
  have Q5 := Lib.hid (Q4.out.below b Q4.out.lt)
  have B5 := Lib.hid (below_on B4.out b)
  clear b
  go_wp2_with fail
  refine (P5.out A cp hc HM.out _ (HS.out.on B5.out)).mono ?_; rintro e w6 ⟨rfl, b⟩
  have Q6 := Lib.hid (Q5.out.below b Q5.out.lt)
  have B6 := Lib.hid (below_on B5.out b)
  clear b
  go_wp2_with fail
  refine (P6.out _).mono ?_; rintro e w7 ⟨rfl, b⟩
  have Q7 := Lib.hid (Q6.out.below b Q6.out.lt)
  have B7 := Lib.hid (below_on B6.out b)
  clear b
  obtain ⟨⟨c0, c1⟩, f0, f1⟩ := Q7.out.facts2
  go_wp2_with fail
  refine (P7.out _).mono ?_; rintro e w8 ⟨rfl, rfl⟩
  go_wp2_with fail
  have h := (Q7.out.set2 (x' := .int .u64 z) (y' := .int .u64 y)).facts2.1
  refine bodyPost_ret (v := .tuple #[.agg #[.int .u64 z, .int .u64 y], .int .i64 0]) (by simp [results, Try.results19, go_sem, h.1, h.2]) rfl ⟨rfl, ?_⟩
  exact (B7.out.setCell (by simp) _).setCell (by simp) _

theorem Sign_bad (s : Int) (h0 : 0 ≤ s) (h3 : s < 18446744073709551616) (h : s < 1 ∨ 1152921504606845789 ≤ s) (v : Value) (w : World) :
    Calls Try.prog 19 #[.int .u64 s, v] w fun e w' => e = .returned (.tuple #[.agg #[.int .u64 0, .int .u64 0], .int .i64 1]) ∧ Below w.heap.size w w' := by
  have B0 := Lib.hid ((Below.refl w.heap.size w).alloc (Nat.le_refl _) (.cells #[.int .u64 0, .int .u64 0] 33))
  have P1 := Lib.hid (Public_bad s h0 h3 h)
  clear h
  go_enter Try.func19, Try.ntmps19
  go_wp2_with fail
  refine (P1.out _).mono ?_; rintro e w1 ⟨rfl, b⟩
  have Q1 := Lib.hid ((Blk.new_at w 33 #[.int .u64 0, .int .u64 0] rfl).below b (by simp))
  have B1 := Lib.hid (below_on B0.out b)
  clear b B0
  obtain ⟨⟨c0, c1⟩, f0, f1⟩ := Q1.out.facts2
  go_wp2_with fail
  have h := (Q1.out.set2 (x' := .int .u64 0) (y' := .int .u64 0)).facts2.1
  refine bodyPost_ret (v := .tuple #[.agg #[.int .u64 0, .int .u64 0], .int .i64 1]) (by simp [results, Try.results19, go_sem, h.1, h.2]) rfl ⟨rfl, ?_⟩
  exact (B1.out.setCell (by simp) _).setCell (by simp) _
end Go.Proofs.Ytippfhlljlfcnaa
