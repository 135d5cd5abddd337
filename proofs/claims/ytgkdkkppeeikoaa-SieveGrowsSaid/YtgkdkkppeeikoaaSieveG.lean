/- What the laws of the sieve have in common. -/
import Derived.Test.YtgkdkkppeeikoaaSieveLive
import Derived.Test.YtgkdkkppeeikoaaHashLib2
import Derived.BigFrame
namespace Go.Proofs.Ytgkdkkppeeikoaa
open Go.ChangeShapes Go.WideShapes Go.ChangeAt Go.RowKit Gs
set_option linter.unusedVariables false

theorem one_i64 (xs : List Int) : ∀ u ∈ xs.map (Value.int .i64), u.oneCell' = true := by
  intro u hu
  obtain ⟨z, _, rfl⟩ := List.mem_map.1 hu
  rfl
theorem own_emptyN (w : World) {B g : Nat} (hB : B ≤ g) (hg : g = w.heap.size) : (w.alloc (.cells #[] 3)).ownsRow B 3 1 (.slice (some ⟨g, 0, none⟩) 0 0) 0 [] := by
  subst hg
  exact ⟨rfl, .inr ⟨_, 0, #[], rfl, hB, World.alloc_heap_new w _, Nat.le_refl _, by unfold maxLen; omega, rfl, rfl⟩⟩
theorem wpList_append_any_g {P : Program} {w : World} {ops : Array Oper} {rest : List Oper} {o : Oper} {a : Act} {Q : Exit → Act → World → Prop} (hgd : Region.wanted o (yielded ops a.tmps) = true) (s x : Operand) (t : TypeId)
    (ho : o.op = .call { callee := .builtin .append, args := #[s, x], argTypes := #[t, t] })
    (base : Nat) (e : TypeId) (i : TypeInfo) (z : Value) (size bytes : Nat) (ht : P.underlying t = some (.slice e)) (hi : P.info? e = some i) (hz : i.zero = some z)
    (hsize : i.size = size) (hby : i.bytes = bytes) (hzs : z.cells.size = size) (hsz : 0 < size)
    (v : Value) (n : Nat) (xs : List Value) (hs : a.eval s = v) (hown : w.ownsRow base e size v n xs)
    (B : Nat) (A : Option Addr) (m c : Nat) (news : List Value) (hx : a.eval x = .slice A m c) (hr : Reads w B size A m news) (h1 : ∀ u ∈ news, u.oneCell' = true)
    (h63 : n + m ≤ maxLen) (hbytes : (n + m) * bytes ≤ 140737488355328) (hbase : base ≤ w.heap.size)
    (h : ∀ v' w', w'.ownsRow base e size v' (n + m) (xs ++ news) → w.grownBy w' v.ownBlock → (v'.ownBlock = v.ownBlock ∨ v'.ownBlock = some w.heap.size) → wpList P ops Q rest (a.put o.dst v') w') : wpList P ops Q (o :: rest) a w :=
  BigFrame.wpList_want hgd fun _ hK => wp_append_any w s x t ho base e i z size bytes ht hi hz hsize hby hzs hsz v n xs hs hown B A m c news hx hr h1 h63 hbytes hbase fun v' w' h2 h3 h4 => hK _ _ (h v' w' h2 h3 h4)

def fewB (n : Nat) (k : Nat) : Bool := decide (n ≤ 1100) && decide (k ≤ 60)
theorem few_any9 (bits hashes salt : Int) (A : Option Addr) (n c : Nat) (hcm : n ≤ maxLen) (L : Option Addr) (k cl : Nat) (hk : k ≤ maxLen) (w : World) :
    Calls Try.prog 16 #[svV bits hashes salt A n c, .slice L k cl] w fun e w' => e = .returned (.bool (fewB n k)) ∧ Below w.heap.size w w' := by
  have RF := Lib.hid (refFew_any bits hashes salt A n c hcm)
  unfold maxLen at hk
  clear hcm
  cases h1 : decide (n ≤ 1100)
  · rw [h1] at RF
    have HE := Lib.hid (show fewB n k = false by unfold fewB; rw [h1]; rfl)
    rw [HE.out]
    clear h1
    go_enter Try.func16, Try.ntmps16
    go_wp2_with fail
    refine (RF.out _).mono ?_; rintro e w1 ⟨rfl, b⟩
    have B1 := Lib.hid (bel1 b)
    clear b
    go_wp2_with fail
    go_ret
    exact ⟨rfl, B1.out⟩
  · rw [h1] at RF
    cases h2 : decide (k ≤ 60)
    · have HE := Lib.hid (show fewB n k = false by unfold fewB; rw [h1, h2]; rfl)
      have d2 : decide ((k : Int) ≤ 60) = false := decide_eq_false (by have := of_decide_eq_false h2; omega)
      rw [HE.out]
      clear h1
      go_enter Try.func16, Try.ntmps16
      go_wp2_with fail
      refine (RF.out _).mono ?_; rintro e w1 ⟨rfl, b⟩
      have B1 := Lib.hid (bel1 b)
      clear b
      go_wp2_with fail
      go_ret
      exact ⟨rfl, B1.out⟩
    · have HE := Lib.hid (show fewB n k = true by unfold fewB; rw [h1, h2]; rfl)
      have d2 : decide ((k : Int) ≤ 60) = true := decide_eq_true (by have := of_decide_eq_true h2; omega)
      rw [HE.out]
      clear h1
      go_enter Try.func16, Try.ntmps16
      go_wp2_with fail
      refine (RF.out _).mono ?_; rintro e w1 ⟨rfl, b⟩
      have B1 := Lib.hid (bel1 b)
      clear b
      go_wp2_with fail
      go_ret
      exact ⟨rfl, B1.out⟩

theorem or_u8 (x y : Int) (hx : 0 ≤ x ∧ x < 256) (hy : 0 ≤ y ∧ y < 256) : Go.bits .or .u8 x y = orB x y := u8_or x y hx.1 hx.2 hy.1 hy.2
end Go.Proofs.Ytgkdkkppeeikoaa
