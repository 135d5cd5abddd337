/- Plain facts: the chapter's examples, reckoned. -/
import Derived.Test.YteoiippfpfgiiaaCycPlain
namespace Gs
set_option linter.unusedVariables false

theorem mpow_eval (m a n v : Nat) (hn : n < 2 ^ 64) (h : pw m a 64 n = v) : mpow (m : Int) (a : Int) n = (v : Int) := by
  rw [pw_eq m a 64 n hn] at h
  unfold mpow
  rw [← h]
  push_cast
  rfl

theorem live_i4 : qinv 4 = 576460752303422895 := by
  unfold qinv qpow
  rw [if_neg (by omega)]
  exact mpow_eval 2305843009213691579 4 2305843009213691577 576460752303422895 (by omega) (by decide +kernel)
theorem live_e4 : qerr 4 = 0 := by unfold qerr; rw [if_neg (by omega)]
theorem live_i0 : qinv 0 = 0 := by unfold qinv; rw [if_pos (by omega)]
theorem live_e0 : qerr 0 = 10 := by unfold qerr; rw [if_pos (by omega)]
theorem live_h2 : rinv 2 = 576460752303422895 := by
  unfold rinv
  rw [if_neg (by omega)]
  exact mpow_eval 1152921504606845789 2 1152921504606845787 576460752303422895 (by omega) (by decide +kernel)
theorem live_f2 : rerr 2 = 0 := by unfold rerr; rw [if_neg (by omega)]
theorem live_hR : rinv 1152921504606845789 = 0 := by unfold rinv; rw [if_pos (by omega)]
theorem live_fR : rerr 1152921504606845789 = 10 := by unfold rerr; rw [if_pos (by omega)]
theorem live_in4 : qin 4 = true := by
  unfold qin qpow
  rw [show mpow 2305843009213691579 4 (1152921504606845789 : Int).toNat = 1 from mpow_eval 2305843009213691579 4 1152921504606845789 1 (by omega) (by decide +kernel)]
  decide
theorem live_in0 : qin 0 = false := by unfold qin; simp
theorem live_inQ : qin 2305843009213691579 = false := by unfold qin; simp
theorem live_inM : qin 2305843009213691578 = false := by
  unfold qin qpow
  rw [show mpow 2305843009213691579 2305843009213691578 (1152921504606845789 : Int).toNat = 2305843009213691578 from mpow_eval 2305843009213691579 2305843009213691578 1152921504606845789 2305843009213691578 (by omega) (by decide +kernel)]
  decide
theorem live_mm : qmul 2305843009213691578 2305843009213691578 = 1 := by unfold qmul; omega
theorem live_p10 : qpow 2 10 = 1024 := mpow_eval 2305843009213691579 2 10 1024 (by omega) (by decide +kernel)
theorem live_p00 : qpow 0 0 = 1 := mpow_eval 2305843009213691579 0 0 1 (by omega) (by decide +kernel)
theorem live_mi : qmul 576460752303422895 4 = 1 := by unfold qmul; omega
theorem live_b3 : qpow 4 3 = 64 := mpow_eval 2305843009213691579 4 3 64 (by omega) (by decide +kernel)
theorem live_bR : qpow 4 1152921504606845789 = 1 := mpow_eval 2305843009213691579 4 1152921504606845789 1 (by omega) (by decide +kernel)
theorem live_add : radd 1152921504606845788 2 = 1 := by unfold radd; omega
theorem live_sub : rsub 1 2 = 1152921504606845788 := by unfold rsub; omega
theorem live_mul : rmul 1152921504606845788 2 = 1152921504606845787 := by unfold rmul; omega
end Gs
