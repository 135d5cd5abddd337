/-
  No cell of these rows narrows 'for every input' (looked for: loops, veiled, ifaces, maps, wideKeys, modest, calm, conditions, laid).
  DERIVED. THE GIVEN ROWS OF THIS SEAT. 9 by the template 'for every input the law returns true; each argument reads behind the call as it read before'; 0 by the template 'total and deterministic' (their statements: YtlannmedefjfhaaGreatTotals.lean).
  GIVEN WITH THE SEED: the statements are not yours to turn. If you find one false, say at which input.
  Laid BY PROGRAM, IN A SANDBOX (cutbox-rows.mjs): the forced cells as the released guide's own fill.sh prints them over the translation 83b4bb6fe2b213d7… (all of the seat's roots in one cut). By AI agents, Wed Nov 11 2026. No macro, syntax, notation, axiom, sorry.
-/
import Derived.Test.YtlannmedefjfhaaGreatChecked
import GoSem.Claim
import GoSem.ClaimJoined
import GoSem.ClaimMapViews
import Derived.JoinedTies
import Derived.KernelRfl
namespace Go.Proofs.YtlannmedefjfhaaGreat
/- THE CELL 'sum', in the pinned program and in every row, IS THE sha256 OF THE DUMP (.gsa) THAT YtlannmedefjfhaaGreatProg.lean LOADS. Nothing in Lean hashes anything: it is a label: what it is worth is what the hold of that sum in a sandbox is worth. -/
noncomputable def Tryz.pinned : Pinned := { name := "ytlannmedefjfhaagreat", sum := "83b4bb6fe2b213d795e375077ad449c06b7aa9216f3b87c2e07e6d71dc9350c9", checked := Tryz.checked }
namespace Rows
def none {H : Type} : Left H := { results := [], args := [] }

/-- 'greatseallaw06.QuorumDeals': WHATEVER THE INPUT: true; the input reads as it did. -/
def quorumDealsSpec : ChangeSpec := { name := "quorumDeals", fn := fun _ => fun
  | [d1, d2, d3, d4] => { results := [.lit (.bool true)], args := [d1, d2, d3, d4] }
  | _ => none }
def quorumDealsRow : OpenClaim := { program := "ytlannmedefjfhaagreat", sum := "83b4bb6fe2b213d795e375077ad449c06b7aa9216f3b87c2e07e6d71dc9350c9", func := "greatseal/greatseallaw06.QuorumDeals", spec := "quorumDeals", inPlace := ["math/bits.Add64"], unfollowed := true, recurses := true, named := ["math/bits.divideError", "math/bits.overflowError"], apart := false }
def QuorumDealsSaid : Prop := quorumDealsRow.holds Tryz.pinned (OpenSpec.ofChange quorumDealsSpec)

/-- ITS FALSE NEIGHBOUR: 'it returns false'. Refute it at one input. -/
def quorumDealsWrong : ChangeSpec := { name := "quorumDeals", fn := fun _ => fun
  | [d1, d2, d3, d4] => { results := [.lit (.bool false)], args := [d1, d2, d3, d4] }
  | _ => none }
def QuorumDealsWrongFalsely : Prop := quorumDealsRow.holds Tryz.pinned (OpenSpec.ofChange quorumDealsWrong)

/-- 'greatseallaw06.QuorumCommits': WHATEVER THE INPUT: true; the input reads as it did. -/
def quorumCommitsSpec : ChangeSpec := { name := "quorumCommits", fn := fun _ => fun
  | [d1, d2, d3] => { results := [.lit (.bool true)], args := [d1, d2, d3] }
  | _ => none }
def quorumCommitsRow : OpenClaim := { program := "ytlannmedefjfhaagreat", sum := "83b4bb6fe2b213d795e375077ad449c06b7aa9216f3b87c2e07e6d71dc9350c9", func := "greatseal/greatseallaw06.QuorumCommits", spec := "quorumCommits", inPlace := ["math/bits.Add64"], unfollowed := true, recurses := true, named := ["math/bits.divideError", "math/bits.overflowError"], apart := false }
def QuorumCommitsSaid : Prop := quorumCommitsRow.holds Tryz.pinned (OpenSpec.ofChange quorumCommitsSpec)

/-- ITS FALSE NEIGHBOUR: 'it returns false'. Refute it at one input. -/
def quorumCommitsWrong : ChangeSpec := { name := "quorumCommits", fn := fun _ => fun
  | [d1, d2, d3] => { results := [.lit (.bool false)], args := [d1, d2, d3] }
  | _ => none }
def QuorumCommitsWrongFalsely : Prop := quorumCommitsRow.holds Tryz.pinned (OpenSpec.ofChange quorumCommitsWrong)

/-- 'greatseallaw06.QuorumParts': WHATEVER THE INPUT: true; the input reads as it did. -/
def quorumPartsSpec : ChangeSpec := { name := "quorumParts", fn := fun _ => fun
  | [d1, d2, d3, d4, d5, d6] => { results := [.lit (.bool true)], args := [d1, d2, d3, d4, d5, d6] }
  | _ => none }
def quorumPartsRow : OpenClaim := { program := "ytlannmedefjfhaagreat", sum := "83b4bb6fe2b213d795e375077ad449c06b7aa9216f3b87c2e07e6d71dc9350c9", func := "greatseal/greatseallaw06.QuorumParts", spec := "quorumParts", inPlace := ["math/bits.Add64"], unfollowed := true, recurses := true, named := ["math/bits.divideError", "math/bits.overflowError"], apart := false }
def QuorumPartsSaid : Prop := quorumPartsRow.holds Tryz.pinned (OpenSpec.ofChange quorumPartsSpec)

/-- ITS FALSE NEIGHBOUR: 'it returns false'. Refute it at one input. -/
def quorumPartsWrong : ChangeSpec := { name := "quorumParts", fn := fun _ => fun
  | [d1, d2, d3, d4, d5, d6] => { results := [.lit (.bool false)], args := [d1, d2, d3, d4, d5, d6] }
  | _ => none }
def QuorumPartsWrongFalsely : Prop := quorumPartsRow.holds Tryz.pinned (OpenSpec.ofChange quorumPartsWrong)

/-- 'greatseallaw06.QuorumCombines': WHATEVER THE INPUT: true; the input reads as it did. -/
def quorumCombinesSpec : ChangeSpec := { name := "quorumCombines", fn := fun _ => fun
  | [d1, d2, d3, d4] => { results := [.lit (.bool true)], args := [d1, d2, d3, d4] }
  | _ => none }
def quorumCombinesRow : OpenClaim := { program := "ytlannmedefjfhaagreat", sum := "83b4bb6fe2b213d795e375077ad449c06b7aa9216f3b87c2e07e6d71dc9350c9", func := "greatseal/greatseallaw06.QuorumCombines", spec := "quorumCombines", inPlace := ["math/bits.Add64"], unfollowed := true, recurses := true, named := ["math/bits.divideError", "math/bits.overflowError"], apart := false }
def QuorumCombinesSaid : Prop := quorumCombinesRow.holds Tryz.pinned (OpenSpec.ofChange quorumCombinesSpec)

/-- ITS FALSE NEIGHBOUR: 'it returns false'. Refute it at one input. -/
def quorumCombinesWrong : ChangeSpec := { name := "quorumCombines", fn := fun _ => fun
  | [d1, d2, d3, d4] => { results := [.lit (.bool false)], args := [d1, d2, d3, d4] }
  | _ => none }
def QuorumCombinesWrongFalsely : Prop := quorumCombinesRow.holds Tryz.pinned (OpenSpec.ofChange quorumCombinesWrong)

/-- 'greatseallaw06.QuorumSigns': WHATEVER THE INPUT: true; the input reads as it did. -/
def quorumSignsSpec : ChangeSpec := { name := "quorumSigns", fn := fun _ => fun
  | [d1, d2, d3, d4] => { results := [.lit (.bool true)], args := [d1, d2, d3, d4] }
  | _ => none }
def quorumSignsRow : OpenClaim := { program := "ytlannmedefjfhaagreat", sum := "83b4bb6fe2b213d795e375077ad449c06b7aa9216f3b87c2e07e6d71dc9350c9", func := "greatseal/greatseallaw06.QuorumSigns", spec := "quorumSigns", inPlace := ["math/bits.Add64"], unfollowed := true, recurses := true, named := ["math/bits.divideError", "math/bits.overflowError"], apart := false }
def QuorumSignsSaid : Prop := quorumSignsRow.holds Tryz.pinned (OpenSpec.ofChange quorumSignsSpec)

/-- ITS FALSE NEIGHBOUR: 'it returns false'. Refute it at one input. -/
def quorumSignsWrong : ChangeSpec := { name := "quorumSigns", fn := fun _ => fun
  | [d1, d2, d3, d4] => { results := [.lit (.bool false)], args := [d1, d2, d3, d4] }
  | _ => none }
def QuorumSignsWrongFalsely : Prop := quorumSignsRow.holds Tryz.pinned (OpenSpec.ofChange quorumSignsWrong)

/-- 'greatseallaw06.QuorumAny': WHATEVER THE INPUT: true; the input reads as it did. -/
def quorumAnySpec : ChangeSpec := { name := "quorumAny", fn := fun _ => fun
  | [d1, d2, d3, d4, d5, d6] => { results := [.lit (.bool true)], args := [d1, d2, d3, d4, d5, d6] }
  | _ => none }
def quorumAnyRow : OpenClaim := { program := "ytlannmedefjfhaagreat", sum := "83b4bb6fe2b213d795e375077ad449c06b7aa9216f3b87c2e07e6d71dc9350c9", func := "greatseal/greatseallaw06.QuorumAny", spec := "quorumAny", inPlace := ["math/bits.Add64"], unfollowed := true, recurses := true, named := ["math/bits.divideError", "math/bits.overflowError"], apart := false }
def QuorumAnySaid : Prop := quorumAnyRow.holds Tryz.pinned (OpenSpec.ofChange quorumAnySpec)

/-- ITS FALSE NEIGHBOUR: 'it returns false'. Refute it at one input. -/
def quorumAnyWrong : ChangeSpec := { name := "quorumAny", fn := fun _ => fun
  | [d1, d2, d3, d4, d5, d6] => { results := [.lit (.bool false)], args := [d1, d2, d3, d4, d5, d6] }
  | _ => none }
def QuorumAnyWrongFalsely : Prop := quorumAnyRow.holds Tryz.pinned (OpenSpec.ofChange quorumAnyWrong)

/-- 'greatseallaw06.QuorumFinds': WHATEVER THE INPUT: true; the input reads as it did. -/
def quorumFindsSpec : ChangeSpec := { name := "quorumFinds", fn := fun _ => fun
  | [d1, d2, d3, d4, d5, d6, d7] => { results := [.lit (.bool true)], args := [d1, d2, d3, d4, d5, d6, d7] }
  | _ => none }
def quorumFindsRow : OpenClaim := { program := "ytlannmedefjfhaagreat", sum := "83b4bb6fe2b213d795e375077ad449c06b7aa9216f3b87c2e07e6d71dc9350c9", func := "greatseal/greatseallaw06.QuorumFinds", spec := "quorumFinds", inPlace := ["math/bits.Add64"], unfollowed := true, recurses := true, named := ["math/bits.divideError", "math/bits.overflowError"], apart := false }
def QuorumFindsSaid : Prop := quorumFindsRow.holds Tryz.pinned (OpenSpec.ofChange quorumFindsSpec)

/-- ITS FALSE NEIGHBOUR: 'it returns false'. Refute it at one input. -/
def quorumFindsWrong : ChangeSpec := { name := "quorumFinds", fn := fun _ => fun
  | [d1, d2, d3, d4, d5, d6, d7] => { results := [.lit (.bool false)], args := [d1, d2, d3, d4, d5, d6, d7] }
  | _ => none }
def QuorumFindsWrongFalsely : Prop := quorumFindsRow.holds Tryz.pinned (OpenSpec.ofChange quorumFindsWrong)

/-- 'greatseallaw06.QuorumHolds': WHATEVER THE INPUT: true; the input reads as it did. -/
def quorumHoldsSpec : ChangeSpec := { name := "quorumHolds", fn := fun _ => fun
  | [d1, d2, d3, d4, d5] => { results := [.lit (.bool true)], args := [d1, d2, d3, d4, d5] }
  | _ => none }
def quorumHoldsRow : OpenClaim := { program := "ytlannmedefjfhaagreat", sum := "83b4bb6fe2b213d795e375077ad449c06b7aa9216f3b87c2e07e6d71dc9350c9", func := "greatseal/greatseallaw06.QuorumHolds", spec := "quorumHolds", inPlace := ["math/bits.Add64"], unfollowed := true, recurses := true, named := ["math/bits.divideError", "math/bits.overflowError"], apart := false }
def QuorumHoldsSaid : Prop := quorumHoldsRow.holds Tryz.pinned (OpenSpec.ofChange quorumHoldsSpec)

/-- ITS FALSE NEIGHBOUR: 'it returns false'. Refute it at one input. -/
def quorumHoldsWrong : ChangeSpec := { name := "quorumHolds", fn := fun _ => fun
  | [d1, d2, d3, d4, d5] => { results := [.lit (.bool false)], args := [d1, d2, d3, d4, d5] }
  | _ => none }
def QuorumHoldsWrongFalsely : Prop := quorumHoldsRow.holds Tryz.pinned (OpenSpec.ofChange quorumHoldsWrong)

/-- 'greatseallaw06.QuorumJoins': WHATEVER THE INPUT: true; the input reads as it did. -/
def quorumJoinsSpec : ChangeSpec := { name := "quorumJoins", fn := fun _ => fun
  | [d1, d2, d3, d4] => { results := [.lit (.bool true)], args := [d1, d2, d3, d4] }
  | _ => none }
def quorumJoinsRow : OpenClaim := { program := "ytlannmedefjfhaagreat", sum := "83b4bb6fe2b213d795e375077ad449c06b7aa9216f3b87c2e07e6d71dc9350c9", func := "greatseal/greatseallaw06.QuorumJoins", spec := "quorumJoins", inPlace := ["math/bits.Add64"], unfollowed := true, recurses := true, named := ["math/bits.divideError", "math/bits.overflowError"], apart := false }
def QuorumJoinsSaid : Prop := quorumJoinsRow.holds Tryz.pinned (OpenSpec.ofChange quorumJoinsSpec)

/-- ITS FALSE NEIGHBOUR: 'it returns false'. Refute it at one input. -/
def quorumJoinsWrong : ChangeSpec := { name := "quorumJoins", fn := fun _ => fun
  | [d1, d2, d3, d4] => { results := [.lit (.bool false)], args := [d1, d2, d3, d4] }
  | _ => none }
def QuorumJoinsWrongFalsely : Prop := quorumJoinsRow.holds Tryz.pinned (OpenSpec.ofChange quorumJoinsWrong)

/- THE SECOND FORM. 'bulk': how many values and letters a reading holds, each counted each time it is reached (what is shared counts as often as it is met; a slice's spare places count too). A statement '..UptoSaid' is the law's where the arguments, and the package variables that the reading takes, are together of bulk at most 1048576: NARROWER than '..Said'. Prove '..Said' where nothing that the law and all that it calls make is longer than what came in: it says more and counts as full. Else prove '..UptoSaid'. A law counts once. -/
mutual
def uptoBulk {H : Type} : DataW H → Nat
  | .lit (.string bytes) => bytes.length + 1
  | .lit _ => 1
  | .nil => 1
  | .ptr d => uptoBulk d + 1
  | .slice elems spare => uptoBulkAll elems + uptoBulkAll spare + 1
  | .agg parts => uptoBulkAll parts + 1
  | .iface _ d => uptoBulk d + 1
  | .map entries => uptoBulkEntries entries + 1
  | .held _ => 1
def uptoBulkAll {H : Type} : List (DataW H) → Nat
  | [] => 0
  | d :: r => uptoBulk d + uptoBulkAll r
def uptoBulkEntries {H : Type} : List (Lit × DataW H) → Nat
  | [] => 0
  | x :: r => uptoBulkEntry x + uptoBulkEntries r
def uptoBulkEntry {H : Type} : Lit × DataW H → Nat
  | (.string bytes, d) => bytes.length + uptoBulk d + 1
  | (_, d) => uptoBulk d + 1
 end
def uptoSmall : (H : Type) → List (DataW H) → Bool := fun _ ds => decide (uptoBulkAll ds ≤ 1048576)
def OpenSpec.upto (s : _root_.Go.ChangeSpec) : _root_.Go.OpenSpec := { _root_.Go.OpenSpec.ofChange s with cond := some uptoSmall }

/-- 'greatseallaw06.QuorumDeals', WHERE WHAT IT READS IS OF BULK AT MOST 1048576: true; the input reads as it did. -/
def quorumDealsUptoRow : OpenClaim := { program := "ytlannmedefjfhaagreat", sum := "83b4bb6fe2b213d795e375077ad449c06b7aa9216f3b87c2e07e6d71dc9350c9", func := "greatseal/greatseallaw06.QuorumDeals", spec := "quorumDeals", inPlace := ["math/bits.Add64"], unfollowed := true, recurses := true, named := ["math/bits.divideError", "math/bits.overflowError"], apart := false, narrowed := true }
def QuorumDealsUptoSaid : Prop := quorumDealsUptoRow.holds Tryz.pinned (OpenSpec.upto quorumDealsSpec)

/-- 'greatseallaw06.QuorumCommits', WHERE WHAT IT READS IS OF BULK AT MOST 1048576: true; the input reads as it did. -/
def quorumCommitsUptoRow : OpenClaim := { program := "ytlannmedefjfhaagreat", sum := "83b4bb6fe2b213d795e375077ad449c06b7aa9216f3b87c2e07e6d71dc9350c9", func := "greatseal/greatseallaw06.QuorumCommits", spec := "quorumCommits", inPlace := ["math/bits.Add64"], unfollowed := true, recurses := true, named := ["math/bits.divideError", "math/bits.overflowError"], apart := false, narrowed := true }
def QuorumCommitsUptoSaid : Prop := quorumCommitsUptoRow.holds Tryz.pinned (OpenSpec.upto quorumCommitsSpec)

/-- 'greatseallaw06.QuorumParts', WHERE WHAT IT READS IS OF BULK AT MOST 1048576: true; the input reads as it did. -/
def quorumPartsUptoRow : OpenClaim := { program := "ytlannmedefjfhaagreat", sum := "83b4bb6fe2b213d795e375077ad449c06b7aa9216f3b87c2e07e6d71dc9350c9", func := "greatseal/greatseallaw06.QuorumParts", spec := "quorumParts", inPlace := ["math/bits.Add64"], unfollowed := true, recurses := true, named := ["math/bits.divideError", "math/bits.overflowError"], apart := false, narrowed := true }
def QuorumPartsUptoSaid : Prop := quorumPartsUptoRow.holds Tryz.pinned (OpenSpec.upto quorumPartsSpec)

/-- 'greatseallaw06.QuorumCombines', WHERE WHAT IT READS IS OF BULK AT MOST 1048576: true; the input reads as it did. -/
def quorumCombinesUptoRow : OpenClaim := { program := "ytlannmedefjfhaagreat", sum := "83b4bb6fe2b213d795e375077ad449c06b7aa9216f3b87c2e07e6d71dc9350c9", func := "greatseal/greatseallaw06.QuorumCombines", spec := "quorumCombines", inPlace := ["math/bits.Add64"], unfollowed := true, recurses := true, named := ["math/bits.divideError", "math/bits.overflowError"], apart := false, narrowed := true }
def QuorumCombinesUptoSaid : Prop := quorumCombinesUptoRow.holds Tryz.pinned (OpenSpec.upto quorumCombinesSpec)

/-- 'greatseallaw06.QuorumSigns', WHERE WHAT IT READS IS OF BULK AT MOST 1048576: true; the input reads as it did. -/
def quorumSignsUptoRow : OpenClaim := { program := "ytlannmedefjfhaagreat", sum := "83b4bb6fe2b213d795e375077ad449c06b7aa9216f3b87c2e07e6d71dc9350c9", func := "greatseal/greatseallaw06.QuorumSigns", spec := "quorumSigns", inPlace := ["math/bits.Add64"], unfollowed := true, recurses := true, named := ["math/bits.divideError", "math/bits.overflowError"], apart := false, narrowed := true }
def QuorumSignsUptoSaid : Prop := quorumSignsUptoRow.holds Tryz.pinned (OpenSpec.upto quorumSignsSpec)

/-- 'greatseallaw06.QuorumAny', WHERE WHAT IT READS IS OF BULK AT MOST 1048576: true; the input reads as it did. -/
def quorumAnyUptoRow : OpenClaim := { program := "ytlannmedefjfhaagreat", sum := "83b4bb6fe2b213d795e375077ad449c06b7aa9216f3b87c2e07e6d71dc9350c9", func := "greatseal/greatseallaw06.QuorumAny", spec := "quorumAny", inPlace := ["math/bits.Add64"], unfollowed := true, recurses := true, named := ["math/bits.divideError", "math/bits.overflowError"], apart := false, narrowed := true }
def QuorumAnyUptoSaid : Prop := quorumAnyUptoRow.holds Tryz.pinned (OpenSpec.upto quorumAnySpec)

/-- 'greatseallaw06.QuorumFinds', WHERE WHAT IT READS IS OF BULK AT MOST 1048576: true; the input reads as it did. -/
def quorumFindsUptoRow : OpenClaim := { program := "ytlannmedefjfhaagreat", sum := "83b4bb6fe2b213d795e375077ad449c06b7aa9216f3b87c2e07e6d71dc9350c9", func := "greatseal/greatseallaw06.QuorumFinds", spec := "quorumFinds", inPlace := ["math/bits.Add64"], unfollowed := true, recurses := true, named := ["math/bits.divideError", "math/bits.overflowError"], apart := false, narrowed := true }
def QuorumFindsUptoSaid : Prop := quorumFindsUptoRow.holds Tryz.pinned (OpenSpec.upto quorumFindsSpec)

/-- 'greatseallaw06.QuorumHolds', WHERE WHAT IT READS IS OF BULK AT MOST 1048576: true; the input reads as it did. -/
def quorumHoldsUptoRow : OpenClaim := { program := "ytlannmedefjfhaagreat", sum := "83b4bb6fe2b213d795e375077ad449c06b7aa9216f3b87c2e07e6d71dc9350c9", func := "greatseal/greatseallaw06.QuorumHolds", spec := "quorumHolds", inPlace := ["math/bits.Add64"], unfollowed := true, recurses := true, named := ["math/bits.divideError", "math/bits.overflowError"], apart := false, narrowed := true }
def QuorumHoldsUptoSaid : Prop := quorumHoldsUptoRow.holds Tryz.pinned (OpenSpec.upto quorumHoldsSpec)

/-- 'greatseallaw06.QuorumJoins', WHERE WHAT IT READS IS OF BULK AT MOST 1048576: true; the input reads as it did. -/
def quorumJoinsUptoRow : OpenClaim := { program := "ytlannmedefjfhaagreat", sum := "83b4bb6fe2b213d795e375077ad449c06b7aa9216f3b87c2e07e6d71dc9350c9", func := "greatseal/greatseallaw06.QuorumJoins", spec := "quorumJoins", inPlace := ["math/bits.Add64"], unfollowed := true, recurses := true, named := ["math/bits.divideError", "math/bits.overflowError"], apart := false, narrowed := true }
def QuorumJoinsUptoSaid : Prop := quorumJoinsUptoRow.holds Tryz.pinned (OpenSpec.upto quorumJoinsSpec)

end Rows
end Go.Proofs.YtlannmedefjfhaaGreat
