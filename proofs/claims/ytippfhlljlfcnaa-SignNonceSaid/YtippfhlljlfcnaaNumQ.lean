/- Powers modulo Q and modulo R: both are primes, with generators (a chain of certificates down to small primes). -/
import Derived.Test.YtippfhlljlfcnaaNum
namespace Gs
set_option linter.unusedVariables false

theorem small_all {qs : List Nat} (h : qs.all smallPrime = true) : ∀ q ∈ qs, Pr q := fun q hq => Pr.small (List.all_eq_true.1 h q hq)
theorem pr_cons {q : Nat} {qs : List Nat} (h : Pr q) (hr : ∀ x ∈ qs, Pr x) : ∀ x ∈ q :: qs, Pr x := fun x hx => by
  rcases List.mem_cons.1 hx with rfl | hx
  · exact h
  · exact hr x hx
theorem pr_append {ps qs : List Nat} (h : ∀ x ∈ ps, Pr x) (hr : ∀ x ∈ qs, Pr x) : ∀ x ∈ ps ++ qs, Pr x := fun x hx => by
  rcases List.mem_append.1 hx with hx | hx
  · exact h x hx
  · exact hr x hx
theorem small_of (qs : List Nat) (h : qs.all smallPrime = true) : ∀ q ∈ qs, Pr q := small_all h

theorem gen2819 : Gen 2819 2 := Gen.of_cert (qs := [2, 1409]) (small_of _ (by decide +kernel)) (by decide +kernel)
theorem gen5639 : Gen 5639 7 := Gen.of_cert (qs := [2819, 2]) (pr_cons gen2819.prime (small_of _ (by decide +kernel))) (by decide +kernel)
theorem gen8469779 : Gen 8469779 2 := Gen.of_cert (qs := [5639, 2, 751]) (pr_cons gen5639.prime (small_of _ (by decide +kernel))) (by decide +kernel)
theorem gen95189 : Gen 95189 2 := Gen.of_cert (qs := [2, 2, 53, 449]) (small_of _ (by decide +kernel)) (by decide +kernel)
theorem gen2835870689 : Gen 2835870689 6 := Gen.of_cert (qs := [95189, 2, 2, 2, 2, 2, 7, 7, 19]) (pr_cons gen95189.prime (small_of _ (by decide +kernel))) (by decide +kernel)
theorem gen5671741379 : Gen 5671741379 2 := Gen.of_cert (qs := [2835870689, 2]) (pr_cons gen2835870689.prime (small_of _ (by decide +kernel))) (by decide +kernel)
theorem gen288230376151711447 : Gen 288230376151711447 6 := Gen.of_cert (qs := [8469779, 5671741379, 2, 3]) (pr_cons gen8469779.prime (pr_cons gen5671741379.prime (small_of _ (by decide +kernel)))) (by decide +kernel)
/-- R is a prime, and 2 goes through all that is not 0 modulo R. -/
theorem genR : Gen 1152921504606845789 2 := Gen.of_cert (qs := [288230376151711447, 2, 2]) (pr_cons gen288230376151711447.prime (small_of _ (by decide +kernel))) (by decide +kernel)
/-- Q is a prime, and 2 goes through all that is not 0 modulo Q. -/
theorem genQ : Gen 2305843009213691579 2 := Gen.of_cert (qs := [1152921504606845789, 2]) (pr_cons genR.prime (small_of _ (by decide +kernel))) (by decide +kernel)
end Gs
