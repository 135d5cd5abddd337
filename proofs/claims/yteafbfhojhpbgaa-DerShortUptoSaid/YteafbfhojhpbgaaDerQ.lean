/- What stands ahead of an item's content, for all bytes. -/
import Derived.Test.YteafbfhojhpbgaaDerP
namespace Go.Proofs.Yteafbfhojhpbgaa
open Go.ChangeShapes Go.WideShapes Go.ChangeAt Go.RowKit Gs
set_option linter.unusedVariables false

theorem getLong_any (t n : Int) (r : List Int) (hb : ∀ x ∈ t :: n :: r, 0 ≤ x ∧ x < 256) (hn : ¬ n < 128) (A : Option Addr) (m c : Nat) (hm : (t :: n :: r).length = m) (hmc : m ≤ c) (hc : c ≤ maxLen) (w : World) (hs : SI w w.heap.size .u8 A (t :: n :: r)) :
    Calls Try.prog 80 #[.slice A m c, .int .i64 (n - 128)] w fun e w' => e = .returned (.tuple #[.int .i64 (hdN n r).1, .int .i64 (hdN n r).2.1, .int .i64 (hdN n r).2.2]) ∧ Below w.heap.size w w' := by
  obtain ⟨ad, rfl, _, _⟩ := si_zero hs
  have hnb := hb n (by simp)
  by_cases h1 : n = 129
  · have e : hdN n r = hdA r := by unfold hdN; rw [if_neg hn, if_pos h1]
    rw [e]
    rcases r with _ | ⟨a, r⟩
    · have h := getLong_no (some ad) m c (n - 128) 70 (.inr ⟨rfl, by omega, by omega, by simp at hm; omega⟩) w
      exact h
    · subst h1
      exact getLong_one t 129 a r (hb a (by simp)) ad m c hm hmc hc w hs
  by_cases h2 : n = 130
  · have e : hdN n r = hdB r := by unfold hdN; rw [if_neg hn, if_neg h1, if_pos h2]
    rw [e]
    rcases r with _ | ⟨a, _ | ⟨d, r⟩⟩
    · exact getLong_no (some ad) m c (n - 128) 70 (.inr ⟨rfl, by omega, by omega, by simp at hm; omega⟩) w
    · exact getLong_no (some ad) m c (n - 128) 70 (.inr ⟨rfl, by omega, by omega, by simp at hm; omega⟩) w
    · subst h2
      exact getLong_two t 130 a d r (hb a (by simp)) (hb d (by simp)) ad m c hm hmc hc w hs
  · have e : hdN n r = (0, 0, 71) := by unfold hdN; rw [if_neg hn, if_neg h1, if_neg h2]
    rw [e]
    exact getLong_no (some ad) m c (n - 128) 71 (.inl ⟨rfl, by omega⟩) w

set_option maxRecDepth 100000 in
set_option maxHeartbeats 8000000 in
theorem getHead_any (b : List Int) (hb : ∀ x ∈ b, 0 ≤ x ∧ x < 256) (A : Option Addr) (m c : Nat) (hm : b.length = m) (hmc : m ≤ c) (hc : c ≤ maxLen) (w : World) (hs : SI w w.heap.size .u8 A b) :
    Calls Try.prog 73 #[.slice A m c] w fun e w' => e = .returned (.tuple #[.int .i64 (hdS b).1, .int .i64 (hdS b).2.1, .int .i64 (hdS b).2.2]) ∧ Below w.heap.size w w' := by
  have D0 := Lib.hid (Below.refl w.heap.size w)
  rcases b with _ | ⟨t, r⟩
  · obtain rfl : m = 0 := by simpa using hm.symm
    clear hs hm hb hmc hc
    go_enter Try.func73, Try.ntmps73
    go_wp2_with fail
    refine bodyPost_ret (v := .tuple #[.int .i64 0, .int .i64 0, .int .i64 70]) (by simp [results, Try.results73, go_sem]) rfl ⟨rfl, D0.out⟩
  have hm1 : 1 ≤ m := by rw [← hm]; simp
  have q1 : decide ((m : Int) < 1) = false := decide_eq_false (by omega)
  have h0m : (0 : Int) < (m : Int) := by omega
  obtain ⟨ad, rfl, had, c0⟩ := si_zero hs
  have ht0 : 0 ≤ t := (hb t (by simp)).1
  have ht1 : t < 256 := (hb t (by simp)).2
  have PD := Lib.hid (fun W => demandOf_any t W)
  unfold dmdE at PD
  by_cases ht : isTag t = true
  · have HE := Lib.hid (show hdS (t :: r) = hdR r from if_pos ht)
    rw [ht] at PD
    rcases r with _ | ⟨n, r⟩
    · obtain rfl : m = 1 := by simpa using hm.symm
      clear hs hm hb hmc hc ht
      go_enter Try.func73, Try.ntmps73
      go_wp2_with fail
      refine (PD.out _).mono ?_; rintro _ w2 ⟨h, b⟩
      obtain rfl := h.1 trivial
      have B2 := Lib.hid b
      clear b h
      go_wp2_with fail
      refine bodyPost_ret (v := .tuple #[.int .i64 0, .int .i64 0, .int .i64 70]) (by simp [results, Try.results73, go_sem]) rfl ⟨by rw [HE.out]; rfl, B2.out.alloc B2.out.size _⟩
    have hm2 : 2 ≤ m := by rw [← hm]; simp
    have q2 : decide ((m : Int) < 2) = false := decide_eq_false (by omega)
    have h1m : (1 : Int) < (m : Int) := by omega
    obtain ⟨ad', e', had', c0', c1⟩ := si_one hs
    cases e'
    have hn0 : 0 ≤ n := (hb n (by simp)).1
    have hn1 : n < 256 := (hb n (by simp)).2
    by_cases hn : n < 128
    · have HE2 := Lib.hid (show hdS (t :: n :: r) = (2, n.toNat, 0) from HE.out.trans (if_pos hn))
      have q3 : decide (n < 128) = true := decide_eq_true hn
      have HT := Lib.hid (show ((n.toNat : Nat) : Int) = n by omega)
      have HS := Lib.hid hs
      have hlt : ad.block < w.heap.size := had
      clear hs hm hb hmc hc ht hn HE c0'
      go_enter Try.func73, Try.ntmps73
      go_wp2_with fail
      refine (PD.out _).mono ?_; rintro _ w2 ⟨h, b⟩
      obtain rfl := h.1 trivial
      have B2 := Lib.hid (b.alloc b.size (.cells #[.int .i64 t, .func (.func (dmdF t)) #[] #[], .bool (decide (t = 48))] 75))
      have d1 := (B2.out.cell (p := ⟨ad.block, ad.off + 1, none⟩) hlt).trans c1
      clear b h
      go_wp2_with fail
      refine bodyPost_ret (v := .tuple #[.int .i64 2, .int .i64 n, .int .i64 0]) (by simp [results, Try.results73, go_sem]) rfl ⟨by rw [HE2.out]; simp only []; rw [HT.out]; rfl, B2.out⟩
    · have HE2 := Lib.hid (show hdS (t :: n :: r) = hdN n r from HE.out)
      have q3 : decide (n < 128) = false := decide_eq_false hn
      have PG := Lib.hid (fun W (h : SI W W.heap.size .u8 (some ad) (t :: n :: r)) => getLong_any t n r hb hn (some ad) m c hm hmc hc W h)
      have HS := Lib.hid hs
      have hlt : ad.block < w.heap.size := had
      have hw : IntKind.i64.wrap (n - 128) = n - 128 := IntWalk.i64_in _ (by omega)
      clear hs hm hb hmc hc ht hn HE c0'
      generalize hdN n r = g at *
      go_enter Try.func73, Try.ntmps73
      go_wp2_with fail
      refine (PD.out _).mono ?_; rintro _ w2 ⟨h, b⟩
      obtain rfl := h.1 trivial
      have B2 := Lib.hid (b.alloc b.size (.cells #[.int .i64 t, .func (.func (dmdF t)) #[] #[], .bool (decide (t = 48))] 75))
      have d1 := (B2.out.cell (p := ⟨ad.block, ad.off + 1, none⟩) hlt).trans c1
      clear b h
      go_wp2_with fail
      refine (PG.out _ (HS.out.on B2.out)).mono ?_; rintro _ w3 ⟨rfl, b⟩
      have B3 := Lib.hid (below_on B2.out b)
      clear b
      go_wp2_with fail
      refine bodyPost_ret (v := .tuple #[.int .i64 g.1, .int .i64 g.2.1, .int .i64 g.2.2]) (by simp [results, Try.results73, go_sem]) rfl ⟨by rw [HE2.out], B3.out⟩
  · have hf : isTag t = false := by simpa using ht
    have HE := Lib.hid (show hdS (t :: r) = (0, 0, 71) from if_neg ht)
    rw [hf] at PD
    clear hs hm hb hmc hc ht hf
    go_enter Try.func73, Try.ntmps73
    go_wp2_with fail
    refine (PD.out _).mono ?_; rintro _ w2 ⟨h, b⟩
    obtain rfl := h.2 trivial
    have B2 := Lib.hid b
    clear b h
    go_wp2_with fail
    refine bodyPost_ret (v := .tuple #[.int .i64 0, .int .i64 0, .int .i64 71]) (by simp [results, Try.results73, go_sem]) rfl ⟨by rw [HE.out]; rfl, B2.out.alloc B2.out.size _⟩
end Go.Proofs.Yteafbfhojhpbgaa
