/- The plain answer of the elements that bytes are. -/
import Derived.Test.YtippfhlljlfcnaaFieldA
import Derived.Maps.AppendAt
import Derived.Laws.OwnMore
namespace Go.Proofs.Ytippfhlljlfcnaa
open Go.ChangeShapes Go.WideShapes Go.ChangeAt Go.RowKit Gs
set_option linter.unusedVariables false

theorem block_of_add (a : Addr) (n : Nat) : (a.add n).block = a.block := by unfold Addr.add; split <;> rfl
theorem SI.keep {w w' : World} {B : Nat} {k : IntKind} {A : Option Addr} {xs : List Int} (h : SI w B k A xs) (hk : ∀ p : Addr, p.block < B → w'.cell? p = w.cell? p) : SI w' B k A xs := fun j hj => by
  obtain ⟨ad, e, hb, hc⟩ := h j hj
  exact ⟨ad, e, hb, (hk _ (by rw [block_of_add]; exact hb)).trans hc⟩
theorem SI.more {w : World} {B B' : Nat} {k : IntKind} {A : Option Addr} {xs : List Int} (h : SI w B k A xs) (hB : B ≤ B') : SI w B' k A xs := fun j hj => by
  obtain ⟨ad, e, hb, hc⟩ := h j hj
  exact ⟨ad, e, by omega, hc⟩
theorem SI.below {w w' : World} {B : Nat} {k : IntKind} {A : Option Addr} {xs : List Int} (h : SI w B k A xs) (hb : Below B w w') : SI w' B k A xs := h.keep fun _ hp => hb.cell hp

theorem Try.info23 : (Try.prog.info? 23).map (fun i => (i.zero, i.size, i.bytes)) = some (some (.int .u64 0), 1, 8) := by kernel_rfl

/-- What a call has made: the slice value v owns the numbers xs, in blocks from B on. -/
def OwnU (w : World) (B : Nat) (v : Value) (xs : List Int) : Prop := w.ownsRow B 23 1 v xs.length (xs.map (Value.int .u64))

theorem own_step {w : World} {B n : Nat} {v : Value} {xs : List Int} {j : Nat} {vs : List Value} (h : w.ownsRow B 23 1 v n vs) (hn : n = (fofTo xs j).length + 1) (hv : vs = (fofTo xs j).map (Value.int .u64) ++ [.int .u64 (elm xs j)]) : OwnU w B v (fofTo xs (j + 1)) := by
  subst hn hv
  unfold OwnU
  rw [fofTo_succ, List.length_append, List.map_append]
  exact h
theorem below_step {w wr w1 : World} {v : Value} {n : Nat} {vs : List Value} {o : Obj} (hB : Below w.heap.size w wr) (ho : wr.ownsRow w.heap.size 23 1 v n vs) (hg : (wr.alloc o).grownBy w1 v.ownBlock) : Below w.heap.size w w1 := by
  refine (hB.alloc hB.size o).grown hg (by have := hB.size; simp; omega) ?_
  intro k hk
  rcases ho.2 with ⟨rfl, _⟩ | ⟨g, cap, cur, rfl, hb, _⟩
  · simp [Value.ownBlock] at hk
  · simp [Value.ownBlock] at hk; omega

set_option maxHeartbeats 400000 in
theorem refOf_any (A : Option Addr) (c : Nat) (xs : List Int) (hx : ∀ x ∈ xs, 0 ≤ x ∧ x < 256) (hl : xs.length ≤ 70368744177664) (w : World) (hs : SI w w.heap.size .u8 A xs) :
    Calls Try.prog 62 #[.slice A xs.length c] w fun e w' => ∃ v, e = .returned v ∧ OwnU w' w.heap.size v (fof xs) ∧ Below w.heap.size w w' := by
  have HX := Lib.hid hx
  have HS := Lib.hid hs
  clear hx hs
  obtain ⟨i0, hi, hz0, hz1, hz2⟩ := info_parts Try.info23
  have HI := Lib.hid (And.intro hi (And.intro hz0 (And.intro hz1 hz2)))
  clear hi hz0 hz1 hz2
  go_enter Try.func62, Try.ntmps62
  go_wp2
  go_loopw [3, 4] (fun v i wr => ∃ j : Nat, 7 * j < xs.length + 7 ∧ i = .int .i64 ((7 * j : Nat) : Int) ∧ OwnU wr w.heap.size v (fofTo xs j) ∧ Below w.heap.size w wr) (fun _ i _ => xs.length + 7 - (intOf i).toNat)
  case atStart => exact ⟨0, by omega, rfl, World.ownsRow_nil _ _ _ _, Below.refl _ _⟩
  case round =>
    obtain ⟨j, hj, rfl, hown, hB⟩ := hrel
    have HB := Lib.hid hB
    have HO := Lib.hid hown
    clear hB hown
    by_cases hlt : 7 * j < xs.length
    · go_wp2
      go_loop [5, 6, 7] (fun n u k => ∃ t : Nat, t ≤ 7 ∧ 7 * j + t ≤ xs.length ∧ k = .int .i64 ((7 * j + t : Nat) : Int) ∧ u = .int .u64 (2 ^ (8 * t)) ∧ n = .int .u64 (num ((xs.drop (7 * j)).take t))) (fun _ _ k => 7 * j + 7 - (intOf k).toNat)
      case atStart => exact ⟨0, by omega, by omega, rfl, rfl, rfl⟩
      case round =>
        obtain ⟨t, ht, htl, rfl, rfl, rfl⟩ := hrel
        by_cases hin : t < 7 ∧ 7 * j + t < xs.length
        · obtain ⟨ht7, htx⟩ := hin
          obtain ⟨ad, rfl, hb, hc⟩ := (HS.out.below HB.out) (7 * j + t) htx
          rw [List.getElem?_eq_getElem htx] at hc
          simp only [Option.getD_some] at hc
          have hxk := HX.out (xs[7 * j + t]) (List.getElem_mem htx)
          have b1 := num_bound xs HX.out j t ht
          have b2 := num_bound xs HX.out j (t + 1) ht7
          have b3 := unit_bound t ht
          have b4 := unit_bound (t + 1) ht7
          have b5 := unit_step t
          have b6 := num_step xs j t htx
          have b7 : 0 ≤ 2 ^ (8 * t) * xs[7 * j + t] := Int.mul_nonneg (by omega) hxk.1
          rw [b6] at b2
          rw [← b5] at b4
          have B5 := Lib.hid b5
          have B6 := Lib.hid b6
          clear b5 b6
          generalize (2 : Int) ^ (8 * t) = u at *
          go_wp2
          go_round
          case rel => exact ⟨_, _, _, ⟨t + 1, by omega, by omega, rfl, rfl, rfl⟩, congrArg (Value.int .u64) B6.out.symm, congrArg (Value.int .u64) B5.out, congrArg (Value.int .i64) (by omega)⟩
          case measure => simp [intOf]; omega
        · have he : num ((xs.drop (7 * j)).take t) = elm xs j := by
            by_cases h7 : t = 7
            · subst h7; rfl
            · exact elm_part xs j t (by omega) ht
          rw [he]
          have hxe := elm_el xs HX.out j
          have HE := Lib.hid hxe
          clear he hxe
          by_cases h7 : t < 7
          · have htx : ¬ 7 * j + t < xs.length := by omega
            clear hin
            go_wp2_with (at_builtin; refine wpList_append_own _ rfl _ _ 68 rfl w.heap.size 23 i0 (.int .u64 0) 1 8 Try.underlying68 HI.out.1 HI.out.2.1 HI.out.2.2.1 HI.out.2.2.2 rfl (by decide) _ _ _ rfl (HO.out.alloc _) ⟨wr.heap.size, 0, none⟩ 1 1 [.int .u64 (elm xs j)] rfl rfl (cell_one_new _ _ _) (by simp [Value.oneCell']) (by rw [fofTo_length]; unfold maxLen; omega) (by rw [fofTo_length]; omega) (by have := HB.out.size; simp; omega) ?_; intro v' w1 hown' hgrow _; have HO' := Lib.hid hown'; have HG := Lib.hid hgrow; clear hown' hgrow)
            go_roundw
            case rel => exact ⟨j + 1, by omega, by go_num, own_step HO'.out rfl rfl, below_step HB.out HO.out HG.out⟩
            case measure => simp [intOf]; omega
          · clear hin
            go_wp2_with (at_builtin; refine wpList_append_own _ rfl _ _ 68 rfl w.heap.size 23 i0 (.int .u64 0) 1 8 Try.underlying68 HI.out.1 HI.out.2.1 HI.out.2.2.1 HI.out.2.2.2 rfl (by decide) _ _ _ rfl (HO.out.alloc _) ⟨wr.heap.size, 0, none⟩ 1 1 [.int .u64 (elm xs j)] rfl rfl (cell_one_new _ _ _) (by simp [Value.oneCell']) (by rw [fofTo_length]; unfold maxLen; omega) (by rw [fofTo_length]; omega) (by have := HB.out.size; simp; omega) ?_; intro v' w1 hown' hgrow _; have HO' := Lib.hid hown'; have HG := Lib.hid hgrow; clear hown' hgrow)
            all_goals
              go_roundw
              case rel => exact ⟨j + 1, by omega, by go_num, own_step HO'.out rfl rfl, below_step HB.out HO.out HG.out⟩
              case measure => simp [intOf]; omega
    · have hm : j = (xs.length + 6) / 7 := by omega
      have HM := Lib.hid hm
      clear hm
      go_wp2
      go_ret
      exact ⟨_, rfl, by rw [fof_eq, ← HM.out]; exact HO.out, HB.out⟩
end Go.Proofs.Ytippfhlljlfcnaa
