/- Several texts of one kind, one behind the other: SignE, SignF, SignMath. -/
import Derived.Test.YtlannmedefjfhaaGreatSignLib
import Derived.Deep.RegionHeldLaw
import Derived.Deep.Cut
/- Contracts of the signatures: whether one is right. -/
namespace Go.Proofs.YtlannmedefjfhaaGreat
open Go.ChangeShapes Go.WideShapes Go.ChangeAt Go.RowKit Gs
set_option linter.unusedVariables false

/-- The commitment that a signature stands for. -/
def scom (p e s : Int) : Int := qmul (qpow 4 s) (qpow p (1152921504606845789 - e))
instance (p e s : Int) : IsU (scom p e s) := by unfold scom; infer_instance
/-- Is a signature right, and if not, why? -/
def chk (p : Int) (xs : List Int) (e s : Int) : Int :=
  if qin p = true then (if e < 1152921504606845789 ∧ s < 1152921504606845789 then (if e = schal (scom p e s) p xs then 0 else 40) else 40) else 1

theorem Check_out (p e s : Int) [IsU p] [he : IsU e] [hs : IsU s] (hp : qin p = false) (v : Value) (w : World) :
    Calls Tryz.prog 28 #[.int .u64 p, v, .agg #[.int .u64 e, .int .u64 s]] w fun r w' => r = .returned (.int .i64 1) ∧ Below w.heap.size w w' := by
  have B0 := Lib.hid ((Below.refl w.heap.size w).alloc (Nat.le_refl _) (.cells #[.int .u64 e, .int .u64 s] 45))
  have N := Lib.hid (In_q p)
  rw [hp] at N
  clear hp
  go_enter Tryz.func28, Tryz.ntmps28
  go_wp2_with fail
  refine (N.out _).mono ?_; rintro e w1 ⟨rfl, b⟩; have B1 := Lib.hid (below_on B0.out b); clear b
  go_wp2_with fail
  go_ret
  exact ⟨rfl, B1.out⟩

theorem Check_big (p e s : Int) [IsU p] [he : IsU e] [hs : IsU s] (hp : qin p = true) (h : 1152921504606845789 ≤ e ∨ 1152921504606845789 ≤ s) (v : Value) (w : World) :
    Calls Tryz.prog 28 #[.int .u64 p, v, .agg #[.int .u64 e, .int .u64 s]] w fun r w' => r = .returned (.int .i64 40) ∧ Below w.heap.size w w' := by
  have B0 := Lib.hid ((Below.refl w.heap.size w).alloc (Nat.le_refl _) (.cells #[.int .u64 e, .int .u64 s] 45))
  have N := Lib.hid (In_q p)
  rw [hp] at N
  have e0 := he.1
  have e1 := he.2
  have s0 := hs.1
  have s1 := hs.2
  clear hp
  have h : 1152921504606845789 ≤ e ∨ (e < 1152921504606845789 ∧ 1152921504606845789 ≤ s) := by omega
  rcases h with h | ⟨h, g⟩
  all_goals
    go_enter Tryz.func28, Tryz.ntmps28
    go_wp2_with fail
    refine (N.out _).mono ?_; rintro _ w1 ⟨rfl, b⟩
    have Q1 := Lib.hid ((Blk.new_at w 45 #[.int .u64 e, .int .u64 s] rfl).below b (by simp))
    obtain ⟨⟨c0, c1⟩, _, _⟩ := Q1.out.facts2
    have B1 := Lib.hid (below_on B0.out b)
    clear b
    go_wp2_with fail
    go_ret
    exact ⟨rfl, B1.out⟩

set_option maxHeartbeats 4000000 in
theorem Check_in (p e s : Int) [IsU p] [he : IsU e] [hs : IsU s] (hp : qin p = true) (he' : e < 1152921504606845789) (hs' : s < 1152921504606845789) (A : Option Addr) (cp : Nat) (xs : List Int) (hx : ∀ x ∈ xs, 0 ≤ x ∧ x < 256) (hl : xs.length ≤ 1000) (hc : xs.length ≤ cp) (hm : cp ≤ maxLen) (w : World) (hs : SI w w.heap.size .u8 A xs) :
    Calls Tryz.prog 28 #[.int .u64 p, .slice A xs.length cp, .agg #[.int .u64 e, .int .u64 s]] w fun r w' => r = .returned (.int .i64 (if e = schal (scom p e s) p xs then 0 else 40)) ∧ Below w.heap.size w w' := by
  have B0 := Lib.hid ((Below.refl w.heap.size w).alloc (Nat.le_refl _) (.cells #[.int .u64 e, .int .u64 s] 45))
  have e0 := he.1
  have N := Lib.hid (In_q p)
  rw [hp] at N
  haveI : IsU (1152921504606845789 - e) := ⟨by omega, by omega⟩
  have P1 := Lib.hid (Base_q s)
  have P2 := Lib.hid (Pow_q p (1152921504606845789 - e))
  have P3 := Lib.hid (Mul_q (qpow 4 s) (qpow p (1152921504606845789 - e)))
  rw [show qmul (qpow 4 s) (qpow p (1152921504606845789 - e)) = scom p e s from rfl] at P3
  have P4 := Lib.hid (fun A c => Challenge_any (scom p e s) p A c xs hx hl)
  have HS := Lib.hid hs
  have HM := Lib.hid hm
  clear hp hx hs hm
  generalize schal (scom p e s) p xs = z at P4 ⊢
  generalize scom p e s = t at P3 P4
  have hwr : IntKind.u64.wrap (1152921504606845789 - e) = 1152921504606845789 - e := by rw [IntKind.wrap_u64]; omega
  generalize qpow 4 s = x at P1 P3
  generalize qpow p (1152921504606845789 - e) = y at P2 P3
  go_enter Tryz.func28, Tryz.ntmps28
  go_wp2_with fail
  refine (N.out _).mono ?_; rintro _ w1 ⟨rfl, b⟩
  have Q1 := Lib.hid ((Blk.new_at w 45 #[.int .u64 e, .int .u64 s] rfl).below b (by simp))
  obtain ⟨⟨c0, c1⟩, _, _⟩ := Q1.out.facts2
  have l0 := Q1.out.lt
  have B1 := Lib.hid (below_on B0.out b)
  clear b B0
  go_wp2_with fail
  have hd : w1.heap.size ≤ w1.drew.heap.size := Nat.le_refl _
  go_region_held_law (fun w' => w'.cell? ⟨w.heap.size, 0, none⟩ = some (.int .u64 e) ∧ w'.cell? ⟨w.heap.size, 1, none⟩ = some (.int .u64 s)) (first | exact ⟨by assumption, by assumption⟩ | go_keep)
    (first
      | (go_at_call 34; refine (P1.out _).mono ?_; rintro e w5 ⟨rfl, b5⟩; have hW := (Below.refl w1.heap.size w1).drew.trans (b5.mono (by omega)); have k0 := (hW.cell (p := ⟨w.heap.size, 0, none⟩) l0).trans c0; have k1 := (hW.cell (p := ⟨w.heap.size, 1, none⟩) l0).trans c1)
      | (go_at_call 73; refine (P2.out _).mono ?_; rintro e w5 ⟨rfl, b5⟩; have hW := hW.trans (b5.mono hW.size); have k0 := (hW.cell (p := ⟨w.heap.size, 0, none⟩) l0).trans c0; have k1 := (hW.cell (p := ⟨w.heap.size, 1, none⟩) l0).trans c1)
      | (go_at_call 72; refine (P3.out _).mono ?_; rintro e w5 ⟨rfl, b5⟩; have hW := hW.trans (b5.mono hW.size); have k0 := (hW.cell (p := ⟨w.heap.size, 0, none⟩) l0).trans c0; have k1 := (hW.cell (p := ⟨w.heap.size, 1, none⟩) l0).trans c1))
  have B5 := Lib.hid (B1.out.trans (hW.mono B1.out.size))
  have l5 : w.heap.size < w5.heap.size := Nat.lt_of_lt_of_le l0 hW.size
  have c0 := k0
  have c1 := k1
  clear k0 k1 hW hd B1 Q1 N P1 P2 P3
  go_wp2_with fail
  have hd : w5.heap.size ≤ w5.drew.heap.size := Nat.le_refl _
  go_region_held_law (fun w' => w'.cell? ⟨w.heap.size, 0, none⟩ = some (.int .u64 e) ∧ w'.cell? ⟨w.heap.size, 1, none⟩ = some (.int .u64 s)) (first | exact ⟨by assumption, by assumption⟩ | go_keep)
    (first
      | (go_at_call 74; refine (P4.out A cp hc HM.out _ (HS.out.on B5.out.drew)).mono ?_; rintro e w6 ⟨rfl, b6⟩; have hW := (Below.refl w5.heap.size w5).drew.trans (b6.mono (by omega)); have k0 := (hW.cell (p := ⟨w.heap.size, 0, none⟩) l5).trans c0; have k1 := (hW.cell (p := ⟨w.heap.size, 1, none⟩) l5).trans c1))
  have B6 := Lib.hid (B5.out.trans (hW.mono B5.out.size))
  clear hW k0 k1 c0 c1
  by_cases hz : e = z
  · have h1 : (e != z) = false := by simp [hz]
    go_wp2_with fail
    go_ret
    first | exact ⟨rfl, B6.out⟩ | exact ⟨by rw [if_pos hz]; rfl, B6.out⟩
  · have h1 : (e != z) = true := by simp; exact hz
    go_wp2_with fail
    go_ret
    first | exact ⟨rfl, B6.out⟩ | exact ⟨by rw [if_neg hz]; rfl, B6.out⟩

theorem Check_any (p e s : Int) [IsU p] [he : IsU e] [hs : IsU s] (A : Option Addr) (cp : Nat) (xs : List Int) (hx : ∀ x ∈ xs, 0 ≤ x ∧ x < 256) (hl : xs.length ≤ 1000) (hc : xs.length ≤ cp) (hm : cp ≤ maxLen) (w : World) (hs : SI w w.heap.size .u8 A xs) :
    Calls Tryz.prog 28 #[.int .u64 p, .slice A xs.length cp, .agg #[.int .u64 e, .int .u64 s]] w fun r w' => r = .returned (.int .i64 (chk p xs e s)) ∧ Below w.heap.size w w' := by
  unfold chk
  by_cases hp : qin p = true
  · rw [if_pos hp]
    by_cases hb : e < 1152921504606845789 ∧ s < 1152921504606845789
    · rw [if_pos hb]
      exact Check_in p e s hp hb.1 hb.2 A cp xs hx hl hc hm w hs
    · rw [if_neg hb]
      exact Check_big p e s hp (by omega) _ w
  · rw [if_neg hp]
    exact Check_out p e s (Bool.eq_false_iff.2 hp) _ w
end Go.Proofs.YtlannmedefjfhaaGreat

/- Contracts of the document's own answers: whether a signature is right. -/
namespace Go.Proofs.YtlannmedefjfhaaGreat
open Go.ChangeShapes Go.WideShapes Go.ChangeAt Go.RowKit Gs
set_option linter.unusedVariables false

theorem quiet {P : Program} {f : Nat} {args : Array Value} {w : World} {r : Ending} (h : Calls P f args w fun e w' => e = r ∧ w = w') : Calls P f args w fun e w' => e = r ∧ Below w.heap.size w w' :=
  h.mono fun e w' ⟨h1, h2⟩ => ⟨h1, h2 ▸ Below.refl _ _⟩

end Go.Proofs.YtlannmedefjfhaaGreat

/- Plain facts on signatures: what is signed is right, whatever the nonce; who uses a nonce twice gives the secret away. -/
namespace Go.Proofs.YtlannmedefjfhaaGreat
open Gs
set_option linter.unusedVariables false

theorem mod_mul_add (a b c : Int) (m : Int) : (a % m + b % m) % m = (a + b) % m := (Int.add_emod a b m).symm
theorem rzero {e s : Int} : radd (rmul e s) (rmul s (1152921504606845789 - e)) = 0 := by
  unfold radd rmul
  rw [← Int.add_emod, Int.mul_sub, Int.mul_comm s e, show e * s + (s * 1152921504606845789 - e * s) = s * 1152921504606845789 by omega, Int.mul_emod_left]
theorem base_none : qpow 4 0 = 1 := pow_none 4
/-- The commitment of what is signed is that of the nonce. -/
theorem com_signed {s k e : Int} (hs : 0 ≤ s) (hk : 0 ≤ k) (he : 0 ≤ e) (he' : e < 1152921504606845789) : scom (qpow 4 s) e (radd k (rmul e s)) = qpow 4 k := by
  unfold scom
  rw [base_add hk (rmul_bound e s).1, ← base_mul hs (by omega), qmul_assoc, ← base_add (rmul_bound e s).1 (rmul_bound _ _).1, rzero, base_none, qmul_one_in (qin_base hk)]
theorem chk_signed {s k : Int} (xs : List Int) (hs : 0 ≤ s) (hk : 0 ≤ k) :
    chk (qpow 4 s) xs (schal (qpow 4 k) (qpow 4 s) xs) (radd k (rmul (schal (qpow 4 k) (qpow 4 s) xs) s)) = 0 := by
  have hb := schal_bound (qpow 4 k) (qpow 4 s) xs
  unfold chk
  rw [if_pos (qin_base hs), if_pos ⟨hb.2, (radd_bound _ _).2⟩, com_signed hs hk hb.1 hb.2, if_pos rfl]
theorem chk_sign {s : Int} (xs : List Int) (hs : 0 ≤ s) : chk (qpow 4 s) xs (ssigE s xs) (ssigS s xs) = 0 :=
  chk_signed xs hs (by have := snonce_bound s xs; omega)
theorem chk_high {p : Int} (xs : List Int) (e : Int) (hp : qin p = true) : chk p xs e 1152921504606845789 = 40 := by
  unfold chk
  rw [if_pos hp, if_neg (fun h => absurd h.2 (by omega))]
theorem chk_none (xs : List Int) (e s : Int) : chk 0 xs e s = 1 := by
  unfold chk
  rw [if_neg]
  unfold qin
  simp

theorem rsub_small {a b : Int} (a0 : 0 ≤ a) (a1 : a < 1152921504606845789) (b0 : 0 ≤ b) (b1 : b < 1152921504606845789) : rsub a b = 0 ↔ a = b := by
  unfold rsub; omega
/-- Unlike secrets have unlike public keys. -/
theorem base_same {a b : Int} (a0 : 0 ≤ a) (a1 : a < 1152921504606845789) (b0 : 0 ≤ b) (b1 : b < 1152921504606845789) : qpow 4 a = qpow 4 b ↔ a = b :=
  (base_eq a0 b0).trans (rsub_small a0 a1 b0 b1)
/-- Two answers of one nonce differ by as many times the secret as their challenges do. -/
theorem twice {s k c d : Int} : rsub (radd k (rmul c s)) (radd k (rmul d s)) = rmul s (rsub c d) := by
  unfold rsub radd rmul
  rw [Int.mul_emod s, Int.emod_emod, ← Int.mul_emod, Int.sub_emod, Int.emod_emod, Int.emod_emod, Int.add_emod k, Int.emod_emod, ← Int.add_emod, Int.add_emod k (d * s % _), Int.emod_emod, ← Int.add_emod, ← Int.sub_emod, show k + c * s - (k + d * s) = c * s - d * s by omega, ← Int.sub_mul, Int.mul_comm]
theorem given_away {s k c d : Int} (s1 : 1 ≤ s) (s2 : s < 1152921504606845789) (c0 : 0 ≤ c) (c1 : c < 1152921504606845789) (d0 : 0 ≤ d) (d1 : d < 1152921504606845789) (h : c ≠ d) :
    rmul (rsub (radd k (rmul c s)) (radd k (rmul d s))) (rinv (rsub c d)) = s := by
  have hb := rsub_bound c d
  have hn : rsub c d ≠ 0 := fun e => h ((rsub_small c0 c1 d0 d1).1 e)
  rw [twice, rdiv hb.1 (by rw [Int.emod_eq_of_lt hb.1 hb.2]; exact hn), Int.emod_eq_of_lt (by omega) s2]
theorem rerr_unlike {c d : Int} (c0 : 0 ≤ c) (c1 : c < 1152921504606845789) (d0 : 0 ≤ d) (d1 : d < 1152921504606845789) (h : c ≠ d) : rerr (rsub c d) = 0 := by
  have hb := rsub_bound c d
  have hn : rsub c d ≠ 0 := fun e => h ((rsub_small c0 c1 d0 d1).1 e)
  unfold rerr
  rw [if_neg (by rw [Int.emod_eq_of_lt hb.1 hb.2]; exact hn)]
end Go.Proofs.YtlannmedefjfhaaGreat
