/- Contracts of the hash: the plain bytes of a hash. -/
import Derived.Test.YtjcanehlnggffaaHashE
import Derived.RegionTactic
import Derived.Lib.SmallJoins
namespace Go.Proofs.Ytjcanehlnggffaa
open Go.ChangeShapes Go.WideShapes Go.ChangeAt Go.RowKit Gs
set_option linter.unusedVariables false
attribute [local go_sem ↓] Go.wp_at_zero Go.wp_at_succ

theorem step_append_any {P : Program} {w : World} {ops : Array Oper} {o : Oper} {a : Act} {K : Act → World → Prop} {Q : Exit → Act → World → Prop} {E : Prop} (hgd : o.guard = none) (s x : Operand) (t : TypeId)
    (ho : o.op = .call { callee := .builtin .append, args := #[s, x], argTypes := #[t, t] })
    (base : Nat) (e : TypeId) (i : TypeInfo) (z : Value) (size bytes : Nat) (ht : P.underlying t = some (.slice e)) (hi : P.info? e = some i) (hz : i.zero = some z)
    (hsize : i.size = size) (hby : i.bytes = bytes) (hzs : z.cells.size = size) (hsz : 0 < size)
    (v : Value) (n : Nat) (xs : List Value) (hs : a.eval s = v) (hown : w.ownsRow base e size v n xs)
    (B : Nat) (A : Option Addr) (m c : Nat) (news : List Value) (hx : a.eval x = .slice A m c) (hr : Reads w B size A m news) (h1 : ∀ u ∈ news, u.oneCell' = true)
    (h63 : n + m ≤ maxLen) (hbytes : (n + m) * bytes ≤ 140737488355328) (hbase : base ≤ w.heap.size)
    (h : ∀ v' w', w'.ownsRow base e size v' (n + m) (xs ++ news) → Below base w w' → K (a.put o.dst v') w') :
    if Region.wanted o (yielded ops a.tmps) = true then Oper.wp P o a w K Q else E := by
  have hw : Region.wanted o (yielded ops a.tmps) = true := by simp [Region.wanted, hgd]
  rw [if_pos hw]
  exact wp_append_any w s x t ho base e i z size bytes ht hi hz hsize hby hzs hsz v n xs hs hown B A m c news hx hr h1 h63 hbytes hbase (fun v' w' h2 h3 _ => h v' w' h2 ((Below.refl _ _).grown h3 hbase (fun k e => own_ge hown k e)))

theorem own_le {w : World} {B B' : Nat} {v : Value} {xs : List Int} (h : OwnB w B v xs) (hB : B' ≤ B) : OwnB w B' v xs := Go.Joins.ownsRow_le h hB

theorem Eight_b (base : Nat) (n : Int) [IsU n] (w : World) (hbase : base ≤ w.heap.size) :
    Calls Try.prog 43 #[.int .u64 n] w fun e w' => ∃ A c, e = .returned (.slice A 8 c) ∧ OwnB w' base (.slice A 8 c) (be n 8) ∧ SI w' w'.heap.size .u8 A (be n 8) ∧ Below w.heap.size w w' :=
  (Eight_any n w).mono fun e w' ⟨v, he, ho, hb⟩ => by
    obtain ⟨A, c, rfl, _, _, hs, _⟩ := own_sliceB ho
    rw [be_length] at he ho
    exact ⟨A, c, he, own_le ho hbase, hs, hb⟩

theorem one_u8 (xs : List Int) : ∀ u ∈ xs.map (Value.int .u8), u.oneCell' = true := by
  intro u hu
  obtain ⟨z, _, rfl⟩ := List.mem_map.1 hu
  rfl
theorem reads_be {w : World} {B : Nat} {A : Option Addr} {n : Int} (h : SI w B .u8 A (be n 8)) : Reads w B 1 A 8 ((be n 8).map (Value.int .u8)) := by
  have := reads_si h
  rwa [be_length] at this

set_option maxHeartbeats 2000000 in
theorem refBytes_any (a b : Int) [IsU a] [IsU b] (w : World) :
    Calls Try.prog 26 #[.agg #[.int .u64 a, .int .u64 b]] w fun e w' => ∃ v', e = .returned v' ∧ OwnB w' w.heap.size v' (be a 8 ++ be b 8) ∧ Below w.heap.size w w' := by
  obtain ⟨i0, hi, hz0, hz1, hz2⟩ := info_parts Try.info5
  have HI := Lib.hid (And.intro hi (And.intro hz0 (And.intro hz1 hz2)))
  clear hi hz0 hz1 hz2
  go_enter Try.func26, Try.ntmps26
  go_wp2_with fail
  refine wp_named (fun w2 => Blk w2 w.heap.size 29 #[.int .u64 a, .int .u64 b] ∧ Below w.heap.size w w2) ⟨Blk.new_at _ _ _ rfl, (Below.refl _ _).alloc (Nat.le_refl _) _⟩ ?_
  rintro w2 ⟨hB1, hb2⟩
  have lt2 := hB1.lt
  obtain ⟨⟨c0, c1⟩, f0, f1⟩ := hB1.facts2
  have HB := Lib.hid hb2
  clear hB1 hb2 f0 f1
  have hd : w2.heap.size ≤ w2.drew.heap.size := Nat.le_refl _
  go_region_held3 (fun w' => w'.cell? ⟨w.heap.size, 0, none⟩ = some (.int .u64 a) ∧ w'.cell? ⟨w.heap.size, 1, none⟩ = some (.int .u64 b)) (first | exact ⟨by assumption, by assumption⟩ | go_keep)
    (first
      | (go_at_call 43; refine (Eight_b w2.heap.size _ _ (by omega)).mono ?_; rintro e w' ⟨A, c, rfl, ho, hs, hb⟩; have hz := hb.size; have hW := (show Below w.heap.size w _ by first | exact hW.trans (hb.mono (by omega)) | exact HB.out.drew.trans (hb.mono (by omega))); have k0 := (hb.cell (p := ⟨w.heap.size, 0, none⟩) (show w.heap.size < _ by omega)).trans (by first | exact k0 | exact c0); have k1 := (hb.cell (p := ⟨w.heap.size, 1, none⟩) (show w.heap.size < _ by omega)).trans (by first | exact k1 | exact c1))
      | (refine step_append_any (by rfl) _ _ _ (by rfl) w2.heap.size 5 i0 (.int .u8 0) 1 1 Try.underlying27 HI.out.1 HI.out.2.1 HI.out.2.2.1 HI.out.2.2.2 (by rfl) (by decide) _ 8 ((be a 8).map (Value.int .u8)) (by rfl) (by first | assumption | exact own_below (by assumption) (by assumption)) _ _ 8 _ ((be b 8).map (Value.int .u8)) (by rfl) (reads_be (by first | assumption | exact SI.on (by assumption) (by assumption))) (one_u8 _) (by unfold maxLen; omega) (by omega) (by omega) ?_; intro v' w4 ho4 hb4; have hW := hW.trans (hb4.mono (by omega)); have k0 := (hb4.cell (p := ⟨w.heap.size, 0, none⟩) lt2).trans (by assumption); have k1 := (hb4.cell (p := ⟨w.heap.size, 1, none⟩) lt2).trans (by assumption)))
  clear k0 k1 c0 c1
  have HW := Lib.hid hW
  have HO := Lib.hid ho4
  clear hW ho4
  go_wp2_with fail
  go_ret
  exact ⟨_, rfl, own_le (own_b HO.out (by simp [be_length]) (by simp)) (by omega), HW.out⟩
end Go.Proofs.Ytjcanehlnggffaa
