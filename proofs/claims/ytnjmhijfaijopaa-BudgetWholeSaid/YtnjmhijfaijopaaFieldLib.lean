/- Several texts of one kind, one behind the other: FieldA, FieldB, FieldC, FieldD, Blk. -/
import Derived.Test.YtnjmhijfaijopaaRows
import Derived.Test.YtnjmhijfaijopaaPlain
import Derived.WalkKit
import Derived.ProofKit
import Derived.OpenShut
import Derived.IntWalk
import Derived.Laws.BitsAllLaws
import Derived.Laws.MathBits
import Derived.Lib.Hide
import Derived.BigQuiet
import Derived.Deep.QuietTactic
import Derived.Deep.Draws
import Derived.Below
import Derived.Maps.AppendAt
import Derived.Laws.OwnMore
import Derived.RangeFuncNested
import Derived.RangeFuncBound
import Derived.RangeFuncCalls
import Derived.RangeFuncLeaves
import Derived.RangeFuncBox
import Derived.Shelf.Abstract
import Derived.Shelf.RegionOpen
import Derived.OwnWalkIn
import Derived.TacticsInMore
import Derived.LoopNIn
import Derived.LoopIn
import Derived.ChangeSame
import Derived.ShutString
import Derived.ChangeOld
import Derived.Deep.AppendLies
import Derived.RegionTactic
import Derived.OwnWalk
import Derived.StillTailTactics
/- Contracts of the functions of package field on numbers and on slices of numbers, and of the plain answers beside them. -/
namespace Go.Proofs.Ytnjmhijfaijopaa
open Go.ChangeShapes Go.WideShapes Go.ChangeAt Go.RowKit Gs
set_option linter.unusedVariables false

theorem ret_u64 {a b : Int} (h : a = b) : Ending.returned (.int .u64 a) = .returned (.int .u64 b) := by rw [h]

theorem and_p (a : Int) (h0 : 0 ≤ a) (h1 : a < 18446744073709551616) : bits .and .u64 a 2305843009213693951 = a % 2305843009213693952 := by
  rw [u64_and a _ h0 h1 (by omega) (by omega)]
  have : (2305843009213693951 : Int).toNat = 2 ^ 61 - 1 := by decide +kernel
  rw [this, Nat.and_two_pow_sub_one_eq_mod]
  omega

theorem or_high (a b : Int) (h0 : 0 ≤ a) (h1 : a * 8 < 18446744073709551616) (k0 : 0 ≤ b) (k1 : b < 8) : bits .or .u64 (a * 8) b = a * 8 + b := by
  obtain ⟨n, rfl⟩ := Int.eq_ofNat_of_zero_le h0
  obtain ⟨m, rfl⟩ := Int.eq_ofNat_of_zero_le k0
  have e1 : (n : Int) * 8 = ((n * 8 : Nat) : Int) := by omega
  rw [e1, u64_or_nat _ _ (by omega) (by omega)]
  have := Nat.shiftLeft_add_eq_or_of_lt (a := n) (i := 3) (b := m) (by omega)
  rw [Nat.shiftLeft_eq] at this
  rw [show n * 8 = n * 2 ^ 3 from rfl, ← this]
  omega

theorem and_1 (n : Int) (h0 : 0 ≤ n) (h : n < 18446744073709551616) : bits .and .u64 n 1 = n % 2 := by
  rw [u64_and n 1 h0 h (by omega) (by omega)]
  have : (1 : Int).toNat = 2 ^ 1 - 1 := rfl
  rw [this, Nat.and_two_pow_sub_one_eq_mod]; omega

theorem toNat_expI : (2305843009213693949 : Int).toNat = expI := by decide +kernel

/-- The slice '.slice A xs.length c' holds the numbers xs, and lies below block B. -/
def SI (w : World) (B : Nat) (k : IntKind) (A : Option Addr) (xs : List Int) : Prop :=
  ∀ j, j < xs.length → ∃ ad, A = some ad ∧ ad.block < B ∧ w.cell? (ad.add j) = some (.int k (xs[j]?.getD 0))

theorem or_low (a x : Int) (n : Nat) (h0 : 0 ≤ a) (h1 : a < 2 ^ n) (x0 : 0 ≤ x) (x1 : x < 256) (hn : n ≤ 48) :
    bits .or .u64 a (IntKind.u64.wrap (x * 2 ^ n)) = a + 2 ^ n * x := by
  have p : (2 : Int) ^ n ≤ 2 ^ 48 := by exact_mod_cast Nat.pow_le_pow_right (show 0 < 2 by omega) hn
  have p0 : (0 : Int) < 2 ^ n := Int.pow_pos (by omega)
  have e48 : (2 : Int) ^ 48 = 281474976710656 := by decide
  have m1 : x * 2 ^ n ≤ 255 * 281474976710656 := Int.mul_le_mul (by omega) (by omega) (by omega) (by omega)
  have m0 : 0 ≤ x * 2 ^ n := Int.mul_nonneg x0 (by omega)
  rw [IntWalk.u64_in _ (by omega)]
  obtain ⟨a, rfl⟩ := Int.eq_ofNat_of_zero_le h0
  obtain ⟨x, rfl⟩ := Int.eq_ofNat_of_zero_le x0
  have hb : a < 2 ^ n := by exact_mod_cast h1
  have e1 : (x : Int) * 2 ^ n = ((x * 2 ^ n : Nat) : Int) := by push_cast; rfl
  rw [e1] at m1 ⊢
  rw [u64_or_nat _ _ (by omega) (by omega)]
  have := Nat.shiftLeft_add_eq_or_of_lt hb x
  rw [Nat.shiftLeft_eq] at this
  rw [Nat.or_comm, ← this]
  push_cast
  rw [Int.mul_comm]; omega

/-- A contract that leaves the world alone, inside a region that is walked once. -/
theorem quiet_eq {P : Program} {f : FuncId} {args : Array Value} {w : World} {n : Nat} {v : Value}
    (h : Calls P f args (w.drewN n) fun e w' => e = .returned v ∧ w.drewN n = w') : Calls P f args (w.drewN n) fun e w'' => e = .returned v ∧ ∃ m, w'' = w.drewN m :=
  h.mono fun _ _ ⟨he, hm⟩ => ⟨he, n, hm.symm⟩

def Dr (w w' : World) : Prop := ∃ n, w' = w.drewN n
theorem Dr.refl (w : World) : Dr w w := ⟨0, rfl⟩
theorem Dr.drewN {w w' : World} (h : Dr w w') (n : Nat) : Dr w (w'.drewN n) := by obtain ⟨m, rfl⟩ := h; exact ⟨m + n, by rw [World.drewN_drewN]⟩
theorem Dr.cell {w w' : World} (h : Dr w w') {a : Addr} {v : Value} (hc : w.cell? a = some v) : w'.cell? a = some v := by obtain ⟨m, rfl⟩ := h; exact hc
theorem Dr.si {w w' : World} (h : Dr w w') {B : Nat} {k : IntKind} {A : Option Addr} {xs : List Int} (hs : SI w B k A xs) : SI w' B k A xs := by obtain ⟨m, rfl⟩ := h; exact hs

end Go.Proofs.Ytnjmhijfaijopaa

/- The plain answer of the elements that bytes are. -/
namespace Go.Proofs.Ytnjmhijfaijopaa
open Go.ChangeShapes Go.WideShapes Go.ChangeAt Go.RowKit Gs
set_option linter.unusedVariables false

theorem block_of_add (a : Addr) (n : Nat) : (a.add n).block = a.block := by unfold Addr.add; split <;> rfl
theorem SI.keep {w w' : World} {B : Nat} {k : IntKind} {A : Option Addr} {xs : List Int} (h : SI w B k A xs) (hk : ∀ p : Addr, p.block < B → w'.cell? p = w.cell? p) : SI w' B k A xs := fun j hj => by
  obtain ⟨ad, e, hb, hc⟩ := h j hj
  exact ⟨ad, e, hb, (hk _ (by rw [block_of_add]; exact hb)).trans hc⟩
theorem SI.more {w : World} {B B' : Nat} {k : IntKind} {A : Option Addr} {xs : List Int} (h : SI w B k A xs) (hB : B ≤ B') : SI w B' k A xs := fun j hj => by
  obtain ⟨ad, e, hb, hc⟩ := h j hj
  exact ⟨ad, e, by omega, hc⟩
theorem SI.below {w w' : World} {B : Nat} {k : IntKind} {A : Option Addr} {xs : List Int} (h : SI w B k A xs) (hb : Below B w w') : SI w' B k A xs := h.keep fun _ hp => hb.cell hp

theorem Try.info26 : (Try.prog.info? 26).map (fun i => (i.zero, i.size, i.bytes)) = some (some (.int .u64 0), 1, 8) := by kernel_rfl

/-- What a call has made: the slice value v owns the numbers xs, in blocks from B on. -/
def OwnU (w : World) (B : Nat) (v : Value) (xs : List Int) : Prop := w.ownsRow B 26 1 v xs.length (xs.map (Value.int .u64))

theorem own_step {w : World} {B n : Nat} {v : Value} {xs : List Int} {j : Nat} {vs : List Value} (h : w.ownsRow B 26 1 v n vs) (hn : n = (fofTo xs j).length + 1) (hv : vs = (fofTo xs j).map (Value.int .u64) ++ [.int .u64 (elm xs j)]) : OwnU w B v (fofTo xs (j + 1)) := by
  subst hn hv
  unfold OwnU
  rw [fofTo_succ, List.length_append, List.map_append]
  exact h
theorem below_step {w wr w1 : World} {v : Value} {n : Nat} {vs : List Value} {o : Obj} (hB : Below w.heap.size w wr) (ho : wr.ownsRow w.heap.size 26 1 v n vs) (hg : (wr.alloc o).grownBy w1 v.ownBlock) : Below w.heap.size w w1 := by
  refine (hB.alloc hB.size o).grown hg (by have := hB.size; simp; omega) ?_
  intro k hk
  rcases ho.2 with ⟨rfl, _⟩ | ⟨g, cap, cur, rfl, hb, _⟩
  · simp [Value.ownBlock] at hk
  · simp [Value.ownBlock] at hk; omega

end Go.Proofs.Ytnjmhijfaijopaa

/- The elements that bytes are, by a range over a function. -/
namespace Go.Proofs.Ytnjmhijfaijopaa
open Go.ChangeShapes Go.WideShapes Go.ChangeAt Go.RowKit Go.Shelf Gs
set_option linter.unusedVariables false

attribute [local go_sem] Oper.semAt_some

theorem add_of_add (a : Addr) (i j : Nat) : (a.add i).add j = a.add (i + j) := by
  unfold Addr.add
  by_cases hi : i = 0 <;> by_cases hj : j = 0 <;> simp [hi, hj, Nat.add_assoc]

theorem SI.part {w : World} {B : Nat} {k : IntKind} {ad : Addr} {xs : List Int} (h : SI w B k (some ad) xs) (i n : Nat) (hn : i + n ≤ xs.length) : SI w B k (some (ad.add i)) ((xs.drop i).take n) := fun j hj => by
  have hj' : j < n := by rw [List.length_take] at hj; omega
  obtain ⟨ad', e, hb, hc⟩ := h (i + j) (by omega)
  cases e
  refine ⟨_, rfl, by rw [block_of_add]; exact hb, ?_⟩
  rw [add_of_add, hc, List.getElem?_take_of_lt hj', List.getElem?_drop]

/-- What lay below block n₀, and block Bs, is as it was. -/
def KB (n₀ Bs : Nat) (W W' : World) : Prop := Below n₀ W W' ∧ W'.heap[Bs]? = W.heap[Bs]?
theorem KB.refl (n₀ Bs : Nat) (W : World) : KB n₀ Bs W W := ⟨Below.refl _ _, rfl⟩
theorem KB.trans {n₀ Bs : Nat} {A B C : World} (h : KB n₀ Bs A B) (k : KB n₀ Bs B C) : KB n₀ Bs A C := ⟨h.1.trans k.1, k.2.trans h.2⟩
theorem KB.put {n₀ Bs : Nat} {w : World} (hn : n₀ ≤ w.heap.size) (hb : Bs < w.heap.size) (W : World) (l : Nat) (o o' : Obj) (hl : w.heap.size ≤ l) (h : W.heap[l]? = some o) (h1 : o.isCells = false) (h2 : o.isWalk = false) : KB n₀ Bs W (W.putObj l o') :=
  ⟨belowK_b hn W l o o' hl h h1 h2, (grownBy_putObj' W l o').block Bs (by have := (Array.getElem?_eq_some_iff.1 h).1; omega) (fun e => by cases e; omega)⟩

end Go.Proofs.Ytnjmhijfaijopaa

/- The chapter's examples hold, and what the laws' walks share. -/
namespace Go.Proofs.Ytnjmhijfaijopaa
open Go.ChangeShapes Go.WideShapes Go.ChangeAt Go.RowKit Gs
set_option linter.unusedVariables false

theorem add_zero_off (g j : Nat) : (⟨g, 0, none⟩ : Addr).add j = ⟨g, j, none⟩ := by
  unfold Addr.add; by_cases h : j = 0 <;> simp [h]

theorem own_slice {w : World} {B : Nat} {v : Value} {xs : List Int} (h : OwnU w B v xs) : ∃ A c, v = .slice A xs.length c ∧ xs.length ≤ c ∧ c ≤ maxLen ∧ SI w w.heap.size .u64 A xs := by
  rcases h.2 with ⟨rfl, h0⟩ | ⟨g, cap, cur, rfl, hb, hg, hn, hc, _, _⟩
  · rw [h0]
    exact ⟨none, 0, rfl, Nat.le_refl _, by unfold maxLen; omega, fun j hj => by omega⟩
  · refine ⟨some ⟨g, 0, none⟩, cap, rfl, hn, hc, fun j hj => ⟨_, rfl, (Array.getElem?_eq_some_iff.1 hg).1, ?_⟩⟩
    refine h.cells (g := g) rfl j _ ?_
    rw [List.getElem?_map, List.getElem?_eq_getElem hj]; rfl

theorem SI_block {w : World} {g B : Nat} {k : IntKind} {t : TypeId} {fr : Nat × Nat} {xs : List Int} {cs : Array Value} (h : w.heap[g]? = some (.cells cs t fr)) (hcs : cs = (xs.map (Value.int k)).toArray) (hb : g < B) : SI w B k (some ⟨g, 0, none⟩) xs := fun j hj => by
  refine ⟨_, rfl, hb, ?_⟩
  rw [add_zero_off, cell_of_row w g j cs t fr h, hcs]
  simp [List.getElem?_eq_getElem hj]

theorem SI_new (w : World) {B : Nat} {k : IntKind} {t : TypeId} {xs : List Int} {cs : Array Value} (hcs : cs = (xs.map (Value.int k)).toArray) (hB : w.heap.size < B) {g : Nat} (hg : g = w.heap.size) : SI (w.alloc (.cells cs t)) B k (some ⟨g, 0, none⟩) xs := by
  subst hg; exact SI_block (World.alloc_heap_new w _) hcs hB

theorem fof_live : fof [1, 0, 0, 0, 0, 0, 0, 2] = [1, 2] := by decide +kernel

theorem finv_two : finv 2 = 1152921504606846976 := (inv_unique (by decide +kernel) (by unfold El PP; omega)).symm

theorem below_drewN {B : Nat} {w w' : World} (h : Below B w w') (n : Nat) : Below B w (w'.drewN n) := by
  induction n with
  | zero => exact h
  | succ n ih => exact ih.drew

/-- a has 64 bits: found by its form. -/
class IsU (a : Int) : Prop where
  lo : 0 ≤ a
  hi : a < 18446744073709551616
theorem IsU.of {a : Int} (h : U64 a) : IsU a := ⟨h.1, h.2⟩
instance (a b : Int) : IsU (fadd a b) := IsU.of (fadd_el a b).u64
instance (a b : Int) : IsU (fsub a b) := IsU.of (fsub_el a b).u64
instance (a b : Int) : IsU (fmul a b) := IsU.of (fmul_el a b).u64
instance (a : Int) (n : Nat) : IsU (fpow a n) := IsU.of (fpow_el a n).u64
instance (a : Int) : IsU (fred a) := IsU.of (fred_el a).u64
instance (a : Int) : IsU (finv a) := IsU.of (finv_el a).u64
instance (x : Int) (l : List Int) : IsU (feval x l) := IsU.of (feval_el x l).u64
instance : IsU 0 := ⟨by omega, by omega⟩
instance : IsU 1 := ⟨by omega, by omega⟩
theorem isU_wf {a : Int} (h : (Lit.int .u64 a).wf = true) : IsU a := by
  have : 0 ≤ a ∧ a ≤ 18446744073709551615 := by simpa [Lit.wf, IntKind.min, IntKind.max, IntKind.signed, IntKind.bits] using h
  exact ⟨this.1, by omega⟩

theorem toNat_expF : (2305843009213693950 : Int).toNat = expF := by decide +kernel

/-- A slice of integers that came in: nil, or a row of 'cap' cells that hold the numbers 'zs'. -/
def IsRow (k : IntKind) (w : World) (a : Option Addr) (len cap : Nat) (zs : List Int) : Prop :=
  (a = none ∧ len = 0 ∧ cap = 0 ∧ zs = []) ∨
  ∃ x, a = some x ∧ len ≤ cap ∧ cap ≤ maxLen ∧ zs.length = cap ∧ (∀ i, i < zs.length → w.cell? (x.add i) = some (.int k (zs.getD i 0))) ∧ ∀ n ∈ zs, (Lit.int k n).wf = true

theorem cell_lt {w : World} {a : Addr} {v : Value} (h : w.cell? a = some v) : a.block < w.heap.size := by
  rcases Nat.lt_or_ge a.block w.heap.size with hlt | hge
  · exact hlt
  · unfold World.cell? at h; rw [Array.getElem?_eq_none hge] at h; cases h

theorem row_si {k : IntKind} {w : World} {a : Option Addr} {len cap : Nat} {zs : List Int} (h : IsRow k w a len cap zs) :
    ∃ xs : List Int, xs.length = len ∧ len ≤ cap ∧ cap ≤ maxLen ∧ SI w w.heap.size k a xs ∧ ∀ n ∈ xs, (Lit.int k n).wf = true := by
  rcases h with ⟨rfl, rfl, rfl, rfl⟩ | ⟨x, rfl, hl, hm, hz, hc, hw⟩
  · exact ⟨[], rfl, Nat.le_refl _, by unfold maxLen; omega, fun j hj => by simp at hj, fun n hn => by simp at hn⟩
  · refine ⟨zs.take len, by simp; omega, hl, hm, fun j hj => ?_, fun n hn => hw n (List.mem_of_mem_take hn)⟩
    have hj' : j < len := by simp at hj; omega
    have := hc j (by omega)
    refine ⟨x, rfl, by have := cell_lt this; rwa [block_of_add] at this, ?_⟩
    rw [this, List.getElem?_take_of_lt hj', List.getD_eq_getElem?_getD]

theorem u8_wf {n : Int} (h : (Lit.int .u8 n).wf = true) : 0 ≤ n ∧ n < 256 := by
  have : 0 ≤ n ∧ n ≤ 255 := by simpa [Lit.wf, IntKind.min, IntKind.max, IntKind.signed, IntKind.bits] using h
  omega
theorem u64_wf {n : Int} (h : (Lit.int .u64 n).wf = true) : 0 ≤ n ∧ n < 18446744073709551616 := by
  have : 0 ≤ n ∧ n ≤ 18446744073709551615 := by simpa [Lit.wf, IntKind.min, IntKind.max, IntKind.signed, IntKind.bits] using h
  omega
theorem SI.on {w w' : World} {k : IntKind} {A : Option Addr} {xs : List Int} (h : SI w w.heap.size k A xs) (hb : Below w.heap.size w w') : SI w' w'.heap.size k A xs := (h.below hb).more hb.size


theorem madeCells_u64 (n : Nat) : (madeCells (Value.int .u64 0).cells (n * 1)).toList = (List.replicate n (0 : Int)).map (Value.int .u64) := by
  rw [Nat.mul_one, List.map_replicate]
  have h : (fun x : Nat => [Value.int IntKind.u64 0][x % 1]?.getD default) = fun _ => Value.int IntKind.u64 0 := by
    funext x; rw [Nat.mod_one]; rfl
  simp [madeCells, Value.cells, h]
  rw [List.map_const', List.length_range]

theorem own_made {w : World} {B g n : Nat} (h : w.ownsRow B 26 1 (.slice (some ⟨g, 0, none⟩) n n) n (madeCells (Value.int .u64 0).cells (n * 1)).toList) : OwnU w B (.slice (some ⟨g, 0, none⟩) n n) (List.replicate n 0) := by
  unfold OwnU
  rw [List.length_replicate, ← madeCells_u64]
  exact h
theorem own_set {w : World} {B g n c : Nat} {xs : List Int} (h : OwnU w B (.slice (some ⟨g, 0, none⟩) n c) xs) (hn : xs.length = n) (k : Nat) (y : Int) :
    OwnU (w.setCell ⟨g, k, none⟩ (.int .u64 y)) B (.slice (some ⟨g, 0, none⟩) n c) (xs.set k y) := by
  subst hn
  unfold OwnU at *
  rw [List.length_set, List.map_set]
  exact (h.stored k _).1
theorem own_at {w : World} {B g n c : Nat} {xs : List Int} (h : OwnU w B (.slice (some ⟨g, 0, none⟩) n c) xs) (hn : xs.length = n) (k : Nat) (hk : k < n) :
    ∃ y, w.cell? ⟨g, k, none⟩ = some (.int .u64 y) ∧ xs[k]? = some y ∧ w.frozen? ⟨g, k, none⟩ = false ∧ B ≤ g := by
  subst hn
  refine ⟨xs[k], ?_, List.getElem?_eq_getElem hk, World.ownsRow.frozenAt h k, ?_⟩
  · rw [World.ownsRow.cellAt h k (by omega), List.getElem?_map, List.getElem?_eq_getElem hk]; rfl
  · rcases h.2 with ⟨h', _⟩ | ⟨g', cap', cur, h', hb, _⟩
    · simp at h'
    · simp only [Value.slice.injEq, Option.some.injEq, Addr.mk.injEq, and_true, true_and] at h'
      omega

theorem own_si {w : World} {B n c : Nat} {A : Option Addr} {xs : List Int} (h : OwnU w B (.slice A n c) xs) : SI w w.heap.size .u64 A xs := by
  obtain ⟨A', c', e, _, _, hs⟩ := own_slice h
  cases e
  exact hs

def Reads (w : World) (B size : Nat) (A : Option Addr) (n : Nat) (xs : List Value) : Prop :=
  xs.length = n * size ∧ (0 < n → ∃ ad, A = some ad ∧ ad.block < B ∧ ∀ j u, xs[j]? = some u → w.cell? (ad.add j) = some u)

section
variable {w w' : World} {B B' size n : Nat} {A : Option Addr} {xs : List Value}
theorem Reads.none_ : Reads w B size A 0 [] := ⟨by simp, fun h => absurd h (by omega)⟩
theorem Reads.at_ {k : Nat} (h : Reads w B 1 A n xs) (hk : k < n) : ∃ ad u, A = some ad ∧ ad.block < B ∧ xs[k]? = some u ∧ w.cell? (ad.add k) = some u := by
  obtain ⟨ad, e, hb, hc⟩ := h.2 (by omega)
  have hl : k < xs.length := by have := h.1; omega
  exact ⟨ad, xs[k], e, hb, List.getElem?_eq_getElem hl, hc k _ (List.getElem?_eq_getElem hl)⟩
theorem Reads.keep (h : Reads w B size A n xs) (hk : ∀ p : Addr, p.block < B → w'.cell? p = w.cell? p) : Reads w' B size A n xs :=
  ⟨h.1, fun hn => by
    obtain ⟨ad, e, hb, hc⟩ := h.2 hn
    exact ⟨ad, e, hb, fun j u hu => (hk _ (by rw [block_of_add]; exact hb)).trans (hc j u hu)⟩⟩
theorem Reads.more (h : Reads w B size A n xs) (hB : B ≤ B') : Reads w B' size A n xs :=
  ⟨h.1, fun hn => by
    obtain ⟨ad, e, hb, hc⟩ := h.2 hn
    exact ⟨ad, e, by omega, hc⟩⟩
theorem Reads.below (h : Reads w B size A n xs) (hb : Below B w w') : Reads w' B size A n xs := h.keep fun _ hp => hb.cell hp
theorem Reads.drew (h : Reads w B size A n xs) : Reads w.drew B size A n xs := h
theorem Reads.drewN (h : Reads w B size A n xs) (k : Nat) : Reads (w.drewN k) B size A n xs := h
theorem Reads.alloc (h : Reads w B size A n xs) (hB : B ≤ w.heap.size) (o : Obj) : Reads (w.alloc o) B size A n xs := h.keep fun p hp => World.cell?_alloc_lt w o p (by omega)
theorem Reads.setCell (h : Reads w B size A n xs) {p : Addr} (hB : B ≤ p.block) (u : Value) : Reads (w.setCell p u) B size A n xs :=
  h.keep fun q hq => World.cell?_setCell_other w p q u (fun e => by subst e; omega)
theorem Reads.grown (h : Reads w B size A n xs) {row : Option Nat} (hg : w.grownBy w' row) (hB : B ≤ w.heap.size) (hr : ∀ g, row = some g → B ≤ g) : Reads w' B size A n xs :=
  h.keep fun p hp => World.cell?_of_block (hg.block p.block (by omega) (fun e => by have := hr _ e.symm; omega))
theorem Reads.cut (h : Reads w B size A n xs) {k cap : Nat} (hk : k ≤ n) (hc : n ≤ cap) :
    Reads w B size (if cap = k then A else A.map (·.add (k * size))) (n - k) (xs.drop (k * size)) := by
  refine ⟨by rw [List.length_drop, h.1, Nat.sub_mul], fun hn => ?_⟩
  obtain ⟨ad, rfl, hb, hcell⟩ := h.2 (by omega)
  rw [if_neg (by omega)]
  refine ⟨ad.add (k * size), rfl, by rw [block_of_add]; exact hb, fun j u hu => ?_⟩
  rw [add_of_add]
  exact hcell _ u (by rw [← hu, List.getElem?_drop])
theorem Reads.of_own {base : Nat} {e : TypeId} {c : Nat} (h : w.ownsRow base e size (.slice A n c) n xs) : Reads w w.heap.size size A n xs := by
  refine ⟨h.1, fun hn => ?_⟩
  obtain ⟨g, cap, hv, _, hlt⟩ := h.form hn
  have hA : A = some ⟨g, 0, none⟩ := by injection hv
  subst hA
  exact ⟨_, rfl, hlt, h.cells (g := g) rfl⟩
end
section
variable {P : Program} (w : World)

theorem run_append_of_nil (base : Nat) (t ty e : TypeId) (i : TypeInfo) (size : Nat) (ht : P.underlying t = some (.slice e)) (hi : P.info? e = some i)
    (v : Value) (n : Nat) (xs : List Value) (hown : w.ownsRow base e size v n xs) (c : Nat) : (Builtin.append_ #[t, t] ty #[v, .slice none 0 c]).run P w = .ok v w := by
  rcases hown.2 with ⟨rfl, rfl⟩ | ⟨g, cap, cur, rfl, _, _, hnc, _⟩
  · simp [Builtin.append_, run_underlying ht, sizeOf, typeInfo, hi, Builtin.lenOf, Builtin.firstCells]
  · simp [Builtin.append_, run_underlying ht, sizeOf, typeInfo, hi, Builtin.lenOf, Builtin.firstCells, hnc, storeCells]

theorem run_append_any (base : Nat) (t ty e : TypeId) (i : TypeInfo) (z : Value) (size bytes : Nat) (ht : P.underlying t = some (.slice e)) (hi : P.info? e = some i) (hz : i.zero = some z)
    (hsize : i.size = size) (hby : i.bytes = bytes) (hzs : z.cells.size = size) (hsz : 0 < size)
    (v : Value) (n : Nat) (xs : List Value) (hown : w.ownsRow base e size v n xs)
    (B : Nat) (A : Option Addr) (m c : Nat) (news : List Value) (hr : Reads w B size A m news) (h1 : ∀ u ∈ news, u.oneCell' = true)
    (h63 : n + m ≤ maxLen) (hbytes : (n + m) * bytes ≤ 140737488355328) (hbase : base ≤ w.heap.size) :
    ∃ v' w', (Builtin.append_ #[t, t] ty #[v, .slice A m c]).run P w = .ok v' w' ∧ w'.ownsRow base e size v' (n + m) (xs ++ news) ∧ w.grownBy w' v.ownBlock ∧
      (v'.ownBlock = v.ownBlock ∨ v'.ownBlock = some w.heap.size) := by
  rcases A with _ | ad
  · have hm : m = 0 := by
      rcases Nat.eq_zero_or_pos m with h0 | h0
      · exact h0
      · obtain ⟨ad, h, _⟩ := hr.2 h0
        cases h
    subst hm
    have hn : news = [] := List.eq_nil_of_length_eq_zero (by simpa using hr.1)
    subst hn
    exact ⟨v, w, run_append_of_nil w base t ty e i size ht hi v n xs hown c, by simpa using hown, World.grownBy.refl w _, .inl rfl⟩
  · have hcells : ∀ j u, news[j]? = some u → w.cell? (ad.add j) = some u := by
      intro j u hu
      rcases Nat.eq_zero_or_pos m with h0 | h0
      · subst h0
        have hn : news = [] := List.eq_nil_of_length_eq_zero (by simpa using hr.1)
        subst hn
        simp at hu
      · obtain ⟨ad', h, _, hc⟩ := hr.2 h0
        injection h with h
        subst h
        exact hc j u hu
    obtain ⟨v', w', hrun, h2, h3, _, h5⟩ := run_append_own_at (P := P) w base t ty e i z size bytes ht hi hz hsize hby hzs hsz v n xs hown ad m c news hr.1 hcells h1 h63 hbytes hbase
    exact ⟨v', w', hrun, h2, h3, h5⟩

theorem wp_append_any {o : Oper} {a : Act} {K : Act → World → Prop} {Q : Exit → Act → World → Prop} (s x : Operand) (t : TypeId)
    (ho : o.op = .call { callee := .builtin .append, args := #[s, x], argTypes := #[t, t] })
    (base : Nat) (e : TypeId) (i : TypeInfo) (z : Value) (size bytes : Nat) (ht : P.underlying t = some (.slice e)) (hi : P.info? e = some i) (hz : i.zero = some z)
    (hsize : i.size = size) (hby : i.bytes = bytes) (hzs : z.cells.size = size) (hsz : 0 < size)
    (v : Value) (n : Nat) (xs : List Value) (hs : a.eval s = v) (hown : w.ownsRow base e size v n xs)
    (B : Nat) (A : Option Addr) (m c : Nat) (news : List Value) (hx : a.eval x = .slice A m c) (hr : Reads w B size A m news) (h1 : ∀ u ∈ news, u.oneCell' = true)
    (h63 : n + m ≤ maxLen) (hbytes : (n + m) * bytes ≤ 140737488355328) (hbase : base ≤ w.heap.size)
    (h : ∀ v' w', w'.ownsRow base e size v' (n + m) (xs ++ news) → w.grownBy w' v.ownBlock → (v'.ownBlock = v.ownBlock ∨ v'.ownBlock = some w.heap.size) → K (a.put o.dst v') w') : o.wp P a w K Q := by
  obtain ⟨v', w', hrun, h2, h3, h4⟩ := run_append_any (P := P) w base t o.type e i z size bytes ht hi hz hsize hby hzs hsz v n xs hown B A m c news hr h1 h63 hbytes hbase
  unfold Oper.wp execOp
  simp only [ho, resolve, invoke, builtin, Sem.run_bind, Sem.run_pure, Result.andThen_ok, List.map_toArray, List.map_cons, List.map_nil, hs, hx, hrun]
  exact h v' w' h2 h3 h4

theorem wpList_append_any {ops : Array Oper} {rest : List Oper} {o : Oper} {a : Act} {Q : Exit → Act → World → Prop} (hgd : o.guard = none) (s x : Operand) (t : TypeId)
    (ho : o.op = .call { callee := .builtin .append, args := #[s, x], argTypes := #[t, t] })
    (base : Nat) (e : TypeId) (i : TypeInfo) (z : Value) (size bytes : Nat) (ht : P.underlying t = some (.slice e)) (hi : P.info? e = some i) (hz : i.zero = some z)
    (hsize : i.size = size) (hby : i.bytes = bytes) (hzs : z.cells.size = size) (hsz : 0 < size)
    (v : Value) (n : Nat) (xs : List Value) (hs : a.eval s = v) (hown : w.ownsRow base e size v n xs)
    (B : Nat) (A : Option Addr) (m c : Nat) (news : List Value) (hx : a.eval x = .slice A m c) (hr : Reads w B size A m news) (h1 : ∀ u ∈ news, u.oneCell' = true)
    (h63 : n + m ≤ maxLen) (hbytes : (n + m) * bytes ≤ 140737488355328) (hbase : base ≤ w.heap.size)
    (h : ∀ v' w', w'.ownsRow base e size v' (n + m) (xs ++ news) → w.grownBy w' v.ownBlock → (v'.ownBlock = v.ownBlock ∨ v'.ownBlock = some w.heap.size) → wpList P ops Q rest (a.put o.dst v') w') : wpList P ops Q (o :: rest) a w :=
  wpList_plain hgd fun _ hK => wp_append_any w s x t ho base e i z size bytes ht hi hz hsize hby hzs hsz v n xs hs hown B A m c news hx hr h1 h63 hbytes hbase fun v' w' h2 h3 h4 => hK _ _ (h v' w' h2 h3 h4)

end

theorem reads_si {w : World} {B : Nat} {k : IntKind} {A : Option Addr} {xs : List Int} (h : SI w B k A xs) : Reads w B 1 A xs.length (xs.map (Value.int k)) := by
  refine ⟨by simp, fun hn => ?_⟩
  obtain ⟨ad, e, hb, _⟩ := h 0 hn
  refine ⟨ad, e, hb, fun j u hu => ?_⟩
  have hj : j < xs.length := by
    rcases Nat.lt_or_ge j xs.length with h1 | h1
    · exact h1
    · rw [List.getElem?_eq_none (by simpa using h1)] at hu; cases hu
  obtain ⟨ad', e', _, hc⟩ := h j hj
  rw [e] at e'
  cases e'
  rw [hc]
  rw [List.getElem?_map, List.getElem?_eq_getElem hj] at hu
  simpa [List.getElem?_eq_getElem hj] using hu
theorem one_u64 (xs : List Int) : ∀ u ∈ xs.map (Value.int .u64), u.oneCell' = true := by
  intro u hu
  obtain ⟨z, _, rfl⟩ := List.mem_map.1 hu
  rfl

theorem own_below {a w : World} {B : Nat} {e : TypeId} {size n : Nat} {v : Value} {xs : List Value} (h : a.ownsRow B e size v n xs) (hb : Below a.heap.size a w) : w.ownsRow B e size v n xs :=
  h.kept (row := none) ⟨hb.os, hb.tape, hb.output, hb.size, fun i hi _ => hb.block i hi⟩ (by cases hv : v.ownBlock <;> simp)
theorem own_ge {w : World} {B : Nat} {e : TypeId} {size n : Nat} {v : Value} {xs : List Value} (h : w.ownsRow B e size v n xs) : ∀ k, v.ownBlock = some k → B ≤ k := by
  intro k hk
  rcases h.2 with ⟨rfl, _⟩ | ⟨g, cap, cur, rfl, hb, _⟩
  · simp [Value.ownBlock] at hk
  · simp [Value.ownBlock] at hk; omega
theorem own_empty (w : World) {B g : Nat} (hB : B ≤ g) (hg : g = w.heap.size) : (w.alloc (.cells #[] 26)).ownsRow B 26 1 (.slice (some ⟨g, 0, none⟩) 0 0) 0 [] := by
  subst hg
  exact ⟨rfl, .inr ⟨_, 0, #[], rfl, hB, World.alloc_heap_new w _, Nat.le_refl _, by unfold maxLen; omega, rfl, rfl⟩⟩
theorem own_u {w : World} {B n : Nat} {v : Value} {xs : List Int} {vs : List Value} (h : w.ownsRow B 26 1 v n vs) (hn : n = xs.length) (hv : vs = xs.map (Value.int .u64)) : OwnU w B v xs := by
  subst hn hv; exact h
theorem SI.take_ {w : World} {B : Nat} {k : IntKind} {A : Option Addr} {xs : List Int} (h : SI w B k A xs) (n : Nat) : SI w B k A (xs.take n) := fun j hj => by
  have hj' : j < n ∧ j < xs.length := by rw [List.length_take] at hj; omega
  obtain ⟨ad, e, hb, hc⟩ := h j hj'.2
  exact ⟨ad, e, hb, by rw [hc, List.getElem?_take_of_lt hj'.1]⟩
theorem SI.cut {w : World} {B : Nat} {k : IntKind} {A : Option Addr} {xs : List Int} (h : SI w B k A xs) (n : Nat) {cap : Nat} (hc : xs.length ≤ cap) : SI w B k (if cap = n then A else A.map (·.add n)) (xs.drop n) := fun j hj => by
  have hj' : n + j < xs.length := by rw [List.length_drop] at hj; omega
  obtain ⟨ad, rfl, hb, hcell⟩ := h (n + j) hj'
  refine ⟨ad.add n, by rw [if_neg (by omega)]; rfl, by rw [block_of_add]; exact hb, ?_⟩
  rw [add_of_add, hcell, List.getElem?_drop]
theorem i64_and_mask (n : Int) : bits .and .i64 n 65535 = n % 65536 := by
  have h127 : (BitVec.ofInt 64 65535).toNat = 2 ^ 16 - 1 := by decide
  have key : (BitVec.ofInt 64 n &&& BitVec.ofInt 64 65535).toNat = (n % ((2 ^ 64 : Nat) : Int)).toNat % 2 ^ 16 := by
    rw [BitVec.toNat_and, BitVec.toNat_ofInt, h127, Nat.and_two_pow_sub_one_eq_mod]
  show IntKind.i64.wrap ((BitVec.ofInt 64 n &&& BitVec.ofInt 64 65535).toNat : Nat) = n % 65536
  rw [key, IntKind.wrap_i64]
  omega

theorem cell_far {w : World} {p q : Addr} {u v : Value} (h : w.cell? q = some v) (hne : q.block ≠ p.block) : (w.setCell p u).cell? q = some v :=
  (World.cell?_setCell_other w p q u (fun e => hne (by rw [e]))).trans h
theorem cell_near {w : World} {p : Addr} {u v : Value} (h : w.cell? p = some v) : (w.setCell p u).cell? p = some u :=
  World.cell?_setCell_same' _ _ _ (by rw [h]; rfl)
theorem block_add_ne {a : Addr} {n b : Nat} (h : a.block < b) : (a.add n).block ≠ b := by rw [block_of_add]; omega
theorem own_one (w : World) (z : Int) {B g : Nat} (hB : B ≤ g) (hg : g = w.heap.size) : (w.alloc (.cells #[.int .u64 z] 26)).ownsRow B 26 1 (.slice (some ⟨g, 0, none⟩) 1 1) 1 [.int .u64 z] := by
  subst hg
  exact ⟨rfl, .inr ⟨_, 1, #[.int .u64 z], rfl, hB, World.alloc_heap_new w _, Nat.le_refl _, by unfold maxLen; omega, rfl, rfl⟩⟩
theorem isU_fred (a : Int) : IsU (fred a) := inferInstance
section
variable {H : Type} {enc : TypeId × Value → H} {P : Program}
theorem post_of_below {f : Func} {s : ChangeSpec} {apart fresh handsOn again : Bool} {W W' : World} {args : Array Value} {v : Value} {ds gs : List (DataW H)} {before pa pv : List MemPlace}
    (hW : DataW.Whole enc P f.params.toList s.vars apart W args.toList ds gs before)
    (hres : ∀ (b : Nat) (sp : Nat → Bool) (hd : Bool), DataW.TrodAll enc P W' b sp hd f.resultTypes.toList (v.resultList f.resultTypes.size) (s.fn H (ds ++ gs)).results [])
    (hargs : ∀ sp : Nat → Bool, (∀ p ∈ before, sp p.block = true) → DataW.TrodAll enc P W' 0 sp true f.params.toList args.toList (s.fn H (ds ++ gs)).args pa)
    (hvars : ∀ sp : Nat → Bool, (∀ p ∈ before, sp p.block = true) → DataW.TrodVars enc P W' sp s.vars (s.fn H (ds ++ gs)).vars pv)
    (hps : before = pa ++ pv) (hb : Below W.heap.size W W')
    (hok : ∀ (j : Nat) (t : TypeId) (r : Value), f.resultTypes[j]? = some t → (v.resultList f.resultTypes.size)[j]? = some r → Value.okWide P W' .any 0 t r) :
    s.post enc P f apart fresh handsOn again W args v W' := by
  have hlt : ∀ p ∈ before, p.block < W.heap.size := fun p hp => hW.lt p hp
  have hold : ∀ p ∈ before, (fun b => decide (b < W.heap.size)) p.block = true := fun p hp => by simpa using hlt p hp
  refine ⟨ds, gs, before, [], pa, pv, hW, hres _ _ _, hargs _ hold, hvars _ hold, World.keptBut_mono (fun p hp => ⟨hp, ?_⟩) (hb.frame (· ∈ before)), fun _ => ?_⟩
  · rw [hps, List.mem_append] at hp
    exact Or.inr hp
  · obtain ⟨_, _, _, _, _, hz, hn⟩ := hW
    refine ⟨hok, _, _, ([] ++ pa) ++ pv, ⟨[] ++ pa, pv, trodAll_append (hargs _ (fun _ _ => rfl)) (hres _ _ _), hvars _ (fun _ _ => rfl), rfl, ?_, ?_⟩, ?_⟩
    · intro b off hp
      have hin : MemPlace.cell b off ∈ before := by rw [hps]; simpa using hp
      rw [hb.frozen (hlt _ hin)]
      exact hz b off hin
    · intro ha
      have := hn ha
      rw [hps] at this
      simpa using this
    · intro p hp _
      rw [hps]
      simpa using hp
end
end Go.Proofs.Ytnjmhijfaijopaa

/- A block that is known whole: its cells, its marks, what stores and calls leave of it; a world under a new name. -/
namespace Go.Proofs.Ytnjmhijfaijopaa
open Go.ChangeShapes Go.WideShapes Go.ChangeAt Go.RowKit Gs
set_option linter.unusedVariables false

theorem bcell {W w1 : World} (hb : Below W.heap.size W w1) : (∀ b o, b < W.heap.size → w1.cell? ⟨b, o, none⟩ = W.cell? ⟨b, o, none⟩) ∧ (∀ b o, b < W.heap.size → w1.frozen? ⟨b, o, none⟩ = W.frozen? ⟨b, o, none⟩) :=
  ⟨fun b o h => hb.cell (p := ⟨b, o, none⟩) h, fun b o h => hb.frozen (p := ⟨b, o, none⟩) h⟩

/-- The world under a new name, with what is known of it. -/
theorem wp_named {P : Program} {c : Code} {K : Exit → Act → World → Prop} {a : Act} {W : World} (Q : World → Prop) (hQ : Q W) (h : ∀ w2, Q w2 → Code.wp P c K a w2) : Code.wp P c K a W := h W hQ

/-- Block g holds the cells cs, and they may be written. -/
def Blk (w : World) (g : Nat) (t : TypeId) (cs : Array Value) : Prop := w.heap[g]? = some (.cells cs t (0, 0))
section
variable {w w' : World} {g : Nat} {t : TypeId} {cs : Array Value}
theorem Blk.lt (h : Blk w g t cs) : g < w.heap.size := (Array.getElem?_eq_some_iff.1 h).1
theorem Blk.cell (h : Blk w g t cs) (i : Nat) : w.cell? ⟨g, i, none⟩ = cs[i]? := by
  unfold Blk at h; simp [World.cell?, h]
theorem Blk.free (h : Blk w g t cs) (i : Nat) : w.frozen? ⟨g, i, none⟩ = false := by
  unfold Blk at h; simp [World.frozen?, h]
theorem Blk.new (w : World) (t : TypeId) (cs : Array Value) : Blk (w.alloc (.cells cs t)) w.heap.size t cs := World.alloc_heap_new w _
theorem Blk.new_at (w : World) (t : TypeId) (cs : Array Value) (hg : g = w.heap.size) : Blk (w.alloc (.cells cs t)) g t cs := by subst hg; exact Blk.new w t cs
theorem Blk.alloc (h : Blk w g t cs) (o : Obj) : Blk (w.alloc o) g t cs := (Below.heap_alloc w o g h.lt).trans h
theorem Blk.drew (h : Blk w g t cs) : Blk w.drew g t cs := h
theorem Blk.drewN (h : Blk w g t cs) (n : Nat) : Blk (w.drewN n) g t cs := h
theorem Blk.other (h : Blk w g t cs) {a : Addr} (ha : g ≠ a.block) (v : Value) : Blk (w.setCell a v) g t cs := (Below.heap_setCell w a v g ha).trans h
theorem Blk.below (h : Blk w g t cs) {B : Nat} (hb : Below B w w') (hg : g < B) : Blk w' g t cs := (hb.block g hg).trans h
theorem Blk.set (h : Blk w g t cs) (i : Nat) (v : Value) : Blk (w.setCell ⟨g, i, none⟩ v) g t (cs.setIfInBounds i v) := by
  unfold Blk at *
  have hlt := (Array.getElem?_eq_some_iff.1 h).1
  simp only [World.setCell, Array.getElem?_modify]
  simp [h]
theorem Blk.set3 {x y z x' y' z' : Value} (h : Blk w g t #[x, y, z]) : Blk (((w.setCell ⟨g, 0, none⟩ x').setCell ⟨g, 1, none⟩ y').setCell ⟨g, 2, none⟩ z') g t #[x', y', z'] := ((h.set 0 x').set 1 y').set 2 z'
theorem Blk.set2 {x y x' y' : Value} (h : Blk w g t #[x, y]) : Blk ((w.setCell ⟨g, 0, none⟩ x').setCell ⟨g, 1, none⟩ y') g t #[x', y'] := (h.set 0 x').set 1 y'
theorem Blk.set1 {x x' : Value} (h : Blk w g t #[x]) : Blk (w.setCell ⟨g, 0, none⟩ x') g t #[x'] := h.set 0 x'
theorem Blk.facts3 {x y z : Value} (h : Blk w g t #[x, y, z]) : (w.cell? ⟨g, 0, none⟩ = some x ∧ w.cell? ⟨g, 1, none⟩ = some y ∧ w.cell? ⟨g, 2, none⟩ = some z) ∧ w.frozen? ⟨g, 0, none⟩ = false ∧ w.frozen? ⟨g, 1, none⟩ = false ∧ w.frozen? ⟨g, 2, none⟩ = false :=
  ⟨⟨h.cell 0, h.cell 1, h.cell 2⟩, h.free 0, h.free 1, h.free 2⟩
theorem Blk.facts2 {x y : Value} (h : Blk w g t #[x, y]) : (w.cell? ⟨g, 0, none⟩ = some x ∧ w.cell? ⟨g, 1, none⟩ = some y) ∧ w.frozen? ⟨g, 0, none⟩ = false ∧ w.frozen? ⟨g, 1, none⟩ = false :=
  ⟨⟨h.cell 0, h.cell 1⟩, h.free 0, h.free 1⟩
theorem Blk.facts1 {x : Value} (h : Blk w g t #[x]) : w.cell? ⟨g, 0, none⟩ = some x ∧ w.frozen? ⟨g, 0, none⟩ = false := ⟨h.cell 0, h.free 0⟩
end
theorem blk_own {β : Type} (B : Nat) (t : TypeId) (f : β → Array Value) : Own (fun s W => Blk W B t (f s)) := fun s X Y row hs hg hrow =>
  (hg.block B hs.lt (fun e' => by obtain ⟨o, ho, hc⟩ := hrow B e'.symm; rw [show X.heap[B]? = _ from hs] at ho; cases ho; cases hc)).trans hs
theorem si_own {β : Type} (B : Nat) (k : IntKind) (A : Option Addr) (xs : List Int) : Own (fun (_ : β) W => SI W B k A xs) := fun s X Y row hs hg hrow j hj => by
  obtain ⟨ad, e, hb, hc⟩ := hs j hj
  exact ⟨ad, e, hb, cell_kept hc hg hrow⟩
theorem keeps_below {W W' : World} (h : Below W.heap.size W W') : KeepsOthers W W' := ⟨h.size, fun k o hk _ => (h.block k (Array.getElem?_eq_some_iff.1 hk).1).trans hk⟩
theorem kb_below {W W' : World} {n₀ Bs : Nat} (h : Below W.heap.size W W') (hn : n₀ ≤ W.heap.size) (hb : Bs < W.heap.size) : KB n₀ Bs W W' := ⟨h.mono hn, h.block Bs hb⟩
theorem kb_set {W W' : World} {n₀ Bs : Nat} (h : KB n₀ Bs W W') {a : Addr} (hn : n₀ ≤ a.block) (hb : Bs ≠ a.block) (v : Value) : KB n₀ Bs W (W'.setCell a v) := ⟨h.1.setCell hn v, (Below.heap_setCell W' a v Bs hb).trans h.2⟩

theorem Blk.put {w : World} {g : Nat} {t : TypeId} {cs : Array Value} (h : Blk w g t cs) {l : Nat} (hl : g ≠ l) (o : Obj) : Blk (w.putObj l o) g t cs := ((grownBy_putObj' w l o).block g h.lt (fun e => hl (by cases e; rfl))).trans h
end Go.Proofs.Ytnjmhijfaijopaa
