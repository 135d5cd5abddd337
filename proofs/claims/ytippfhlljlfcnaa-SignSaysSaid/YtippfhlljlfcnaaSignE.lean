/- Contracts of the signatures: whether one is right. -/
import Derived.Test.YtippfhlljlfcnaaSignD
import Derived.Deep.RegionHeldLaw
import Derived.Deep.Cut
namespace Go.Proofs.Ytippfhlljlfcnaa
open Go.ChangeShapes Go.WideShapes Go.ChangeAt Go.RowKit Gs
set_option linter.unusedVariables false

/-- The commitment that a signature stands for. -/
def scom (p e s : Int) : Int := qmul (qpow 4 s) (qpow p (1152921504606845789 - e))
instance (p e s : Int) : IsU (scom p e s) := by unfold scom; infer_instance
/-- Is a signature right, and if not, why? -/
def chk (p : Int) (xs : List Int) (e s : Int) : Int :=
  if qin p = true then (if e < 1152921504606845789 ∧ s < 1152921504606845789 then (if e = schal (scom p e s) p xs then 0 else 40) else 40) else 1

theorem Check_out (p e s : Int) [IsU p] [he : IsU e] [hs : IsU s] (hp : qin p = false) (v : Value) (w : World) :
    Calls Try.prog 21 #[.int .u64 p, v, .agg #[.int .u64 e, .int .u64 s]] w fun r w' => r = .returned (.int .i64 1) ∧ Below w.heap.size w w' := by
  have B0 := Lib.hid ((Below.refl w.heap.size w).alloc (Nat.le_refl _) (.cells #[.int .u64 e, .int .u64 s] 33))
  have N := Lib.hid (In_q p)
  rw [hp] at N
  clear hp
  go_enter Try.func21, Try.ntmps21
  go_wp2_with fail
  refine (N.out _).mono ?_; rintro e w1 ⟨rfl, b⟩; have B1 := Lib.hid (below_on B0.out b); clear b
  go_wp2_with fail
  go_ret
  exact ⟨rfl, B1.out⟩

theorem Check_big (p e s : Int) [IsU p] [he : IsU e] [hs : IsU s] (hp : qin p = true) (h : 1152921504606845789 ≤ e ∨ 1152921504606845789 ≤ s) (v : Value) (w : World) :
    Calls Try.prog 21 #[.int .u64 p, v, .agg #[.int .u64 e, .int .u64 s]] w fun r w' => r = .returned (.int .i64 40) ∧ Below w.heap.size w w' := by
  have B0 := Lib.hid ((Below.refl w.heap.size w).alloc (Nat.le_refl _) (.cells #[.int .u64 e, .int .u64 s] 33))
  have N := Lib.hid (In_q p)
  rw [hp] at N
  have e0 := he.1
  have e1 := he.2
  have s0 := hs.1
  have s1 := hs.2
  clear hp
  have h : 1152921504606845789 ≤ e ∨ (e < 1152921504606845789 ∧ 1152921504606845789 ≤ s) := by omega
  rcases h with h | ⟨h, g⟩
  all_goals
    go_enter Try.func21, Try.ntmps21
    go_wp2_with fail
    refine (N.out _).mono ?_; rintro _ w1 ⟨rfl, b⟩
    have Q1 := Lib.hid ((Blk.new_at w 33 #[.int .u64 e, .int .u64 s] rfl).below b (by simp))
    obtain ⟨⟨c0, c1⟩, _, _⟩ := Q1.out.facts2
    have B1 := Lib.hid (below_on B0.out b)
    clear b
    go_wp2_with fail
    go_ret
    exact ⟨rfl, B1.out⟩

set_option maxHeartbeats 4000000 in
theorem Check_in (p e s : Int) [IsU p] [he : IsU e] [hs : IsU s] (hp : qin p = true) (he' : e < 1152921504606845789) (hs' : s < 1152921504606845789) (A : Option Addr) (cp : Nat) (xs : List Int) (hx : ∀ x ∈ xs, 0 ≤ x ∧ x < 256) (hl : xs.length ≤ 1000) (hc : xs.length ≤ cp) (hm : cp ≤ maxLen) (w : World) (hs : SI w w.heap.size .u8 A xs) :
    Calls Try.prog 21 #[.int .u64 p, .slice A xs.length cp, .agg #[.int .u64 e, .int .u64 s]] w fun r w' => r = .returned (.int .i64 (if e = schal (scom p e s) p xs then 0 else 40)) ∧ Below w.heap.size w w' := by
  have B0 := Lib.hid ((Below.refl w.heap.size w).alloc (Nat.le_refl _) (.cells #[.int .u64 e, .int .u64 s] 33))
  have e0 := he.1
  have N := Lib.hid (In_q p)
  rw [hp] at N
  haveI : IsU (1152921504606845789 - e) := ⟨by omega, by omega⟩
  have P1 := Lib.hid (Base_q s)
  have P2 := Lib.hid (Pow_q p (1152921504606845789 - e))
  have P3 := Lib.hid (Mul_q (qpow 4 s) (qpow p (1152921504606845789 - e)))
  rw [show qmul (qpow 4 s) (qpow p (1152921504606845789 - e)) = scom p e s from rfl] at P3
  have P4 := Lib.hid (fun A c => Challenge_any (scom p e s) p A c xs hx hl)
  have HS := Lib.hid hs
  have HM := Lib.hid hm
  clear hp hx hs hm
  generalize schal (scom p e s) p xs = z at P4 ⊢
  generalize scom p e s = t at P3 P4
  have hwr : IntKind.u64.wrap (1152921504606845789 - e) = 1152921504606845789 - e := by rw [IntKind.wrap_u64]; omega
  generalize qpow 4 s = x at P1 P3
  generalize qpow p (1152921504606845789 - e) = y at P2 P3
  go_enter Try.func21, Try.ntmps21
  go_wp2_with fail
  refine (N.out _).mono ?_; rintro _ w1 ⟨rfl, b⟩
  have Q1 := Lib.hid ((Blk.new_at w 33 #[.int .u64 e, .int .u64 s] rfl).below b (by simp))
  obtain ⟨⟨c0, c1⟩, _, _⟩ := Q1.out.facts2
  have l0 := Q1.out.lt
  have B1 := Lib.hid (below_on B0.out b)
  clear b B0
  go_wp2_with fail
  have hd : w1.heap.size ≤ w1.drew.heap.size := Nat.le_refl _
  go_region_held_law (fun w' => w'.cell? ⟨w.heap.size, 0, none⟩ = some (.int .u64 e) ∧ w'.cell? ⟨w.heap.size, 1, none⟩ = some (.int .u64 s)) (first | exact ⟨by assumption, by assumption⟩ | go_keep)
    (first
      | (go_at_call 25; refine (P1.out _).mono ?_; rintro e w5 ⟨rfl, b5⟩; have hW := (Below.refl w1.heap.size w1).drew.trans (b5.mono (by omega)); have k0 := (hW.cell (p := ⟨w.heap.size, 0, none⟩) l0).trans c0; have k1 := (hW.cell (p := ⟨w.heap.size, 1, none⟩) l0).trans c1)
      | (go_at_call 29; refine (P2.out _).mono ?_; rintro e w5 ⟨rfl, b5⟩; have hW := hW.trans (b5.mono hW.size); have k0 := (hW.cell (p := ⟨w.heap.size, 0, none⟩) l0).trans c0; have k1 := (hW.cell (p := ⟨w.heap.size, 1, none⟩) l0).trans c1)
      | (go_at_call 28; refine (P3.out _).mono ?_; rintro e w5 ⟨rfl, b5⟩; have hW := hW.trans (b5.mono hW.size); have k0 := (hW.cell (p := ⟨w.heap.size, 0, none⟩) l0).trans c0; have k1 := (hW.cell (p := ⟨w.heap.size, 1, none⟩) l0).trans c1))
  have B5 := Lib.hid (B1.out.trans (hW.mono B1.out.size))
  have l5 : w.heap.size < w5.heap.size := Nat.lt_of_lt_of_le l0 hW.size
  have c0 := k0
  have c1 := k1
  clear k0 k1 hW hd B1 Q1 N P1 P2 P3
  go_wp2_with fail
  have hd : w5.heap.size ≤ w5.drew.heap.size := Nat.le_refl _
  go_region_held_law (fun w' => w'.cell? ⟨w.heap.size, 0, none⟩ = some (.int .u64 e) ∧ w'.cell? ⟨w.heap.size, 1, none⟩ = some (.int .u64 s)) (first | exact ⟨by assumption, by assumption⟩ | go_keep)
    (first
      | (go_at_call 17; refine (P4.out A cp hc HM.out _ (HS.out.on B5.out.drew)).mono ?_; rintro e w6 ⟨rfl, b6⟩; have hW := (Below.refl w5.heap.size w5).drew.trans (b6.mono (by omega)); have k0 := (hW.cell (p := ⟨w.heap.size, 0, none⟩) l5).trans c0; have k1 := (hW.cell (p := ⟨w.heap.size, 1, none⟩) l5).trans c1))
  have B6 := Lib.hid (B5.out.trans (hW.mono B5.out.size))
  clear hW k0 k1 c0 c1
  by_cases hz : e = z
  · have h1 : (e != z) = false := by simp [hz]
    go_wp2_with fail
    go_ret
    first | exact ⟨rfl, B6.out⟩ | exact ⟨by rw [if_pos hz]; rfl, B6.out⟩
  · have h1 : (e != z) = true := by simp; exact hz
    go_wp2_with fail
    go_ret
    first | exact ⟨rfl, B6.out⟩ | exact ⟨by rw [if_neg hz]; rfl, B6.out⟩

theorem Check_any (p e s : Int) [IsU p] [he : IsU e] [hs : IsU s] (A : Option Addr) (cp : Nat) (xs : List Int) (hx : ∀ x ∈ xs, 0 ≤ x ∧ x < 256) (hl : xs.length ≤ 1000) (hc : xs.length ≤ cp) (hm : cp ≤ maxLen) (w : World) (hs : SI w w.heap.size .u8 A xs) :
    Calls Try.prog 21 #[.int .u64 p, .slice A xs.length cp, .agg #[.int .u64 e, .int .u64 s]] w fun r w' => r = .returned (.int .i64 (chk p xs e s)) ∧ Below w.heap.size w w' := by
  unfold chk
  by_cases hp : qin p = true
  · rw [if_pos hp]
    by_cases hb : e < 1152921504606845789 ∧ s < 1152921504606845789
    · rw [if_pos hb]
      exact Check_in p e s hp hb.1 hb.2 A cp xs hx hl hc hm w hs
    · rw [if_neg hb]
      exact Check_big p e s hp (by omega) _ w
  · rw [if_neg hp]
    exact Check_out p e s (Bool.eq_false_iff.2 hp) _ w
end Go.Proofs.Ytippfhlljlfcnaa
