/- Contracts of the hash: the plain bytes of a hash. -/
import Derived.Test.YtippfhlljlfcnaaHashE
import Derived.RegionTactic
import Derived.Lib.SmallJoins
namespace Go.Proofs.Ytippfhlljlfcnaa
open Go.ChangeShapes Go.WideShapes Go.ChangeAt Go.RowKit Gs
set_option linter.unusedVariables false
attribute [local go_sem ↓] Go.wp_at_zero Go.wp_at_succ

theorem step_append_any {P : Program} {w : World} {ops : Array Oper} {o : Oper} {a : Act} {K : Act → World → Prop} {Q : Exit → Act → World → Prop} {E : Prop} (hgd : o.guard = none) (s x : Operand) (t : TypeId)
    (ho : o.op = .call { callee := .builtin .append, args := #[s, x], argTypes := #[t, t] })
    (base : Nat) (e : TypeId) (i : TypeInfo) (z : Value) (size bytes : Nat) (ht : P.underlying t = some (.slice e)) (hi : P.info? e = some i) (hz : i.zero = some z)
    (hsize : i.size = size) (hby : i.bytes = bytes) (hzs : z.cells.size = size) (hsz : 0 < size)
    (v : Value) (n : Nat) (xs : List Value) (hs : a.eval s = v) (hown : w.ownsRow base e size v n xs)
    (B : Nat) (A : Option Addr) (m c : Nat) (news : List Value) (hx : a.eval x = .slice A m c) (hr : Reads w B size A m news) (h1 : ∀ u ∈ news, u.oneCell' = true)
    (h63 : n + m ≤ maxLen) (hbytes : (n + m) * bytes ≤ 140737488355328) (hbase : base ≤ w.heap.size)
    (h : ∀ v' w', w'.ownsRow base e size v' (n + m) (xs ++ news) → Below base w w' → K (a.put o.dst v') w') :
    if Region.wanted o (yielded ops a.tmps) = true then Oper.wp P o a w K Q else E := by
  have hw : Region.wanted o (yielded ops a.tmps) = true := by simp [Region.wanted, hgd]
  rw [if_pos hw]
  exact wp_append_any w s x t ho base e i z size bytes ht hi hz hsize hby hzs hsz v n xs hs hown B A m c news hx hr h1 h63 hbytes hbase (fun v' w' h2 h3 _ => h v' w' h2 ((Below.refl _ _).grown h3 hbase (fun k e => own_ge hown k e)))

theorem own_le {w : World} {B B' : Nat} {v : Value} {xs : List Int} (h : OwnB w B v xs) (hB : B' ≤ B) : OwnB w B' v xs := Go.Joins.ownsRow_le h hB

theorem Eight_b (base : Nat) (n : Int) [IsU n] (w : World) (hbase : base ≤ w.heap.size) :
    Calls Try.prog 65 #[.int .u64 n] w fun e w' => ∃ A c, e = .returned (.slice A 8 c) ∧ OwnB w' base (.slice A 8 c) (be n 8) ∧ SI w' w'.heap.size .u8 A (be n 8) ∧ Below w.heap.size w w' :=
  (Eight_any n w).mono fun e w' ⟨v, he, ho, hb⟩ => by
    obtain ⟨A, c, rfl, _, _, hs, _⟩ := own_sliceB ho
    rw [be_length] at he ho
    exact ⟨A, c, he, own_le ho hbase, hs, hb⟩

theorem one_u8 (xs : List Int) : ∀ u ∈ xs.map (Value.int .u8), u.oneCell' = true := by
  intro u hu
  obtain ⟨z, _, rfl⟩ := List.mem_map.1 hu
  rfl
theorem reads_be {w : World} {B : Nat} {A : Option Addr} {n : Int} (h : SI w B .u8 A (be n 8)) : Reads w B 1 A 8 ((be n 8).map (Value.int .u8)) := by
  have := reads_si h
  rwa [be_length] at this

end Go.Proofs.Ytippfhlljlfcnaa
