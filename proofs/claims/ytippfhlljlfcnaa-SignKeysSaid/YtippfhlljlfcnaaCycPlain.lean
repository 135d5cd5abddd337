/- What package cyclic hands out, as plain functions of whole numbers. -/
import Derived.Test.YtippfhlljlfcnaaCycBitsMath
namespace Gs
set_option linter.unusedVariables false

def qmul (a b : Int) : Int := a * b % 2305843009213691579
def qpow (a n : Int) : Int := mpow 2305843009213691579 a n.toNat
def qin (x : Int) : Bool := decide (1 ≤ x) && decide (x < 2305843009213691579) && (qpow x 1152921504606845789 == 1)
def qinv (a : Int) : Int := if a % 2305843009213691579 = 0 then 0 else qpow a 2305843009213691577
def qerr (a : Int) : Int := if a % 2305843009213691579 = 0 then 10 else 0
def radd (a b : Int) : Int := (a + b) % 1152921504606845789
def rsub (a b : Int) : Int := (a - b) % 1152921504606845789
def rmul (a b : Int) : Int := a * b % 1152921504606845789
def rinv (a : Int) : Int := if a % 1152921504606845789 = 0 then 0 else mpow 1152921504606845789 a (1152921504606845787 : Int).toNat
def rerr (a : Int) : Int := if a % 1152921504606845789 = 0 then 10 else 0

theorem qmul_bound (a b : Int) : 0 ≤ qmul a b ∧ qmul a b < 2305843009213691579 := by unfold qmul; omega
theorem qpow_bound (a n : Int) : 0 ≤ qpow a n ∧ qpow a n < 2305843009213691579 := mpow_bound _ _ _ (by omega)
theorem qinv_bound (a : Int) : 0 ≤ qinv a ∧ qinv a < 2305843009213691579 := by
  unfold qinv; split
  · omega
  · exact qpow_bound _ _
theorem radd_bound (a b : Int) : 0 ≤ radd a b ∧ radd a b < 1152921504606845789 := by unfold radd; omega
theorem rsub_bound (a b : Int) : 0 ≤ rsub a b ∧ rsub a b < 1152921504606845789 := by unfold rsub; omega
theorem rmul_bound (a b : Int) : 0 ≤ rmul a b ∧ rmul a b < 1152921504606845789 := by unfold rmul; omega
theorem rinv_bound (a : Int) : 0 ≤ rinv a ∧ rinv a < 1152921504606845789 := by
  unfold rinv; split
  · omega
  · exact mpow_bound _ _ _ (by omega)
end Gs
