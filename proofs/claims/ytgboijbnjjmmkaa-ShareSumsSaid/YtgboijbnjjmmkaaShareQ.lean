/- What package share does inside: whether ids are right; what goes through shares and makes ids. -/
import Derived.Test.YtgboijbnjjmmkaaShareP
namespace Go.Proofs.Ytgboijbnjjmmkaa
open Go.ChangeShapes Go.WideShapes Go.ChangeAt Go.RowKit Gs
set_option linter.unusedVariables false

theorem weights_any (A : Option Addr) (n c : Nat) (pl : Int) (w : World) :
    Calls Try.prog 47 #[.slice A n c, .int .i64 pl] w fun e w' => e = .returned (.func (.func 75) #[] #[.pointer (some ⟨w.heap.size, 0, none⟩), .pointer (some ⟨w.heap.size + 1, 0, none⟩)]) ∧ w' = (w.alloc (.cells #[.slice A n c] 32)).alloc (.cells #[.int .i64 pl] 3) := by
  go_enter Try.func47, Try.ntmps47
  go_wp2_with fail
  go_ret
  exact ⟨by simp, rfl⟩

/-- What slices.Index tells. -/
def IdxE (xs : List Int) (i : Int) (e : Ending) : Prop := ∃ n : Int, e = .returned (.int .i64 n) ∧ ((n = -1 ∧ i ∉ xs) ∨ ∃ k : Nat, n = k ∧ ∃ h : k < xs.length, xs[k] = i ∧ i ∉ xs.take k)
theorem Index_any (A : Option Addr) (n c : Nat) (xs : List Int) (hn : xs.length = n) (hl : n ≤ 1048576) (i : Int) (B : Nat) (w : World) (hs : SI w B .i64 A xs) :
    Calls Try.prog 81 #[.slice A n c, .int .i64 i] w fun e w' => IdxE xs i e ∧ w = w' := by
  have HS := Lib.hid hs
  have HN := Lib.hid hn
  clear hs hn
  go_enter Try.func81, Try.ntmps81
  go_wp2_with fail
  go_loop [8] (fun j => ∃ k : Nat, k ≤ n ∧ j = .int .i64 k ∧ i ∉ xs.take k) (fun j => n - (intOf j).toNat)
  case atStart => exact ⟨0, by omega, rfl, by simp⟩
  case round =>
    obtain ⟨k, hk, rfl, hi⟩ := hrel
    have HI := Lib.hid hi
    clear hi
    by_cases hlt : k < n
    · have hlt' : k < xs.length := by rw [HN.out]; exact hlt
      obtain ⟨ad, rfl, had, c0⟩ := si_at HS.out k hlt'
      have HM := Lib.hid (mem_take_succ (i := i) hlt')
      by_cases he : xs[k] = i
      · have hq : (i == xs[k]) = true := beq_iff_eq.2 he.symm
        have HE := Lib.hid he
        clear he
        go_wp2_with fail
        go_ret
        exact ⟨⟨(k : Int), rfl, .inr ⟨k, rfl, hlt', HE.out, HI.out⟩⟩, rfl⟩
      · have hq : (i == xs[k]) = false := beq_eq_false_iff_ne.2 (fun e => he e.symm)
        have HE := Lib.hid he
        clear he
        go_wp2_with fail
        go_round
        case rel => exact ⟨k + 1, by omega, by go_num, by rw [HM.out]; exact fun h => h.elim HI.out HE.out⟩
        case measure => simp [intOf]; omega
    · obtain rfl : k = n := by omega
      go_wp2_with fail
      go_ret
      exact ⟨⟨-1, rfl, .inl ⟨rfl, by have h := HI.out; rwa [← HN.out, List.take_length] at h⟩⟩, rfl⟩
/-- What slices.Contains tells. -/
def HasE (xs : List Int) (i : Int) (e : Ending) : Prop := ∃ b : Bool, e = .returned (.bool b) ∧ (b = true ↔ i ∈ xs)
theorem Contains_any (A : Option Addr) (n c : Nat) (xs : List Int) (hn : xs.length = n) (hl : n ≤ 1048576) (i : Int) (B : Nat) (w : World) (hs : SI w B .i64 A xs) :
    Calls Try.prog 53 #[.slice A n c, .int .i64 i] w fun e w' => HasE xs i e ∧ w = w' := by
  have P := Lib.hid (Index_any A n c xs hn hl i B w hs)
  clear hs hn
  go_enter Try.func53, Try.ntmps53
  go_wp2_with fail
  refine P.out.mono ?_; rintro e w' ⟨he, rfl⟩
  rcases he with ⟨n, rfl, ⟨rfl, hi⟩ | ⟨k, rfl, hk, hi, _⟩⟩
  · have HI := Lib.hid hi
    clear hi
    go_wp2_with fail
    go_ret
    exact ⟨⟨false, rfl, by simp [HI.out]⟩, rfl⟩
  · have HI := Lib.hid (show i ∈ xs by rw [← hi]; exact List.getElem_mem hk)
    clear hi hk
    go_wp2_with fail
    go_ret
    exact ⟨⟨true, by first | rfl | simp, by simp [HI.out]⟩, rfl⟩

theorem SI.take {w : World} {B : Nat} {k : IntKind} {A : Option Addr} {xs : List Int} (h : SI w B k A xs) (n : Nat) : SI w B k A (xs.take n) := fun j hj => by
  have hj' : j < xs.length := by rw [List.length_take] at hj; omega
  have hj2 : j < n := by rw [List.length_take] at hj; omega
  have := h j hj'
  rwa [List.getElem?_take_of_lt hj2]
set_option maxHeartbeats 2000000 in
theorem right_any (A : Option Addr) (c : Nat) (xs : List Int) (hl : xs.length ≤ 1048576) (hlc : xs.length ≤ c) (B : Nat) (w : World) (hs : SI w B .i64 A xs) :
    Calls Try.prog 38 #[.slice A xs.length c] w fun e w' => RightE xs e ∧ w = w' := by
  have HS := Lib.hid hs
  clear hs
  by_cases h1 : 1 ≤ xs.length
  · by_cases h7 : xs.length ≤ 7
    · go_enter Try.func38, Try.ntmps38
      go_wp2_with fail
      go_loop [15] (fun i => ∃ k : Nat, k ≤ xs.length ∧ i = .int .i64 k ∧ (∀ i (h : i < xs.length), i < k → (1 ≤ xs[i] ∧ xs[i] < 1152921504606845789) ∧ ∀ j (g : j < i), xs[j] ≠ xs[i])) (fun i => xs.length - (intOf i).toNat)
      case atStart => exact ⟨0, by omega, rfl, fun i h g => by omega⟩
      case round =>
        obtain ⟨k, hk, rfl, ha⟩ := hrel
        have HA := Lib.hid ha
        clear ha
        by_cases hlt : k < xs.length
        · obtain ⟨ad, rfl, had, c0⟩ := si_at HS.out k hlt
          by_cases hx1 : 1 ≤ xs[k]
          · by_cases hx2 : xs[k] < 1152921504606845789
            · have P := Lib.hid (Contains_any (some ad) k c (xs.take k) (by rw [List.length_take]; omega) (by omega) xs[k] B w (HS.out.take k))
              have hkc : k ≤ c := by omega
              go_wp2_with fail
              refine P.out.mono ?_; rintro e w' ⟨⟨b, rfl, hb⟩, rfl⟩
              have HB := Lib.hid hb
              clear hb
              cases b
              · go_wp2_with fail
                go_round
                case rel =>
                  refine ⟨k + 1, by omega, by go_num, fun i h g => ?_⟩
                  by_cases hi : i = k
                  · subst hi
                    refine ⟨⟨hx1, hx2⟩, fun j g e => ?_⟩
                    have := HB.out.2 (by rw [← e]; exact List.mem_take_iff_getElem.2 ⟨j, by omega, rfl⟩)
                    cases this
                  · exact HA.out i h (by omega)
                case measure => simp [intOf]; omega
              · go_wp2_with fail
                go_ret
                have HF := Lib.hid (show ¬ RightI xs from fun h => by
                  obtain ⟨j, hj, e⟩ := List.mem_take_iff_getElem.1 (HB.out.1 (by first | rfl | trivial))
                  exact (h.2.2 k hlt).2 j (by omega) e)
                exact ⟨⟨false, rfl, by simp; exact HF.out⟩, rfl⟩
            · go_wp2_with fail
              go_ret
              exact ⟨⟨false, rfl, by simp; exact fun h => absurd (h.2.2 k hlt).1.2 (by omega)⟩, rfl⟩
          · go_wp2_with fail
            go_ret
            exact ⟨⟨false, rfl, by simp; exact fun h => absurd (h.2.2 k hlt).1.1 (by omega)⟩, rfl⟩
        · go_wp2_with fail
          go_ret
          exact ⟨⟨true, rfl, by simp; exact ⟨h1, h7, fun i h => HA.out i h (by omega)⟩⟩, rfl⟩
    · go_enter Try.func38, Try.ntmps38
      go_wp2_with fail
      go_ret
      exact ⟨⟨false, rfl, by simp; exact fun h => h7 h.2.1⟩, rfl⟩
  · go_enter Try.func38, Try.ntmps38
    go_wp2_with fail
    go_ret
    exact ⟨⟨false, rfl, by simp; exact fun h => h1 h.1⟩, rfl⟩

theorem own_nilI (w : World) (B : Nat) : OwnI w B (.slice none 0 0) [] := ⟨rfl, .inl ⟨rfl, rfl⟩⟩
theorem own_nilS (w : World) (B : Nat) : OwnS w B (.slice none 0 0) [] := ⟨rfl, .inl ⟨rfl, rfl⟩⟩

theorem cell_one_new2 (w : World) (c : Array Value) (t1 : TypeId) (x : Value) (t : TypeId) : ∀ j u, [x][j]? = some u → ((w.alloc (.cells c t1)).alloc (.cells #[x] t)).cell? ((⟨w.heap.size + 1, 0, none⟩ : Addr).add j) = some u := by
  have := cell_one_new (w.alloc (.cells c t1)) x t
  rwa [World.size_alloc] at this
set_option maxRecDepth 100000 in
theorem takes_id (v : Value) (p : Int × Int) (xs : List Int) (hl : xs.length ≤ 1048576) (B : Nat) (w : World) (hB : B ≤ w.heap.size) (ho : OwnI w B v xs) :
    Calls Try.prog 71 #[v, .agg #[.int .i64 p.1, .int .u64 p.2]] w fun e w' => ∃ v', e = .returned v' ∧ OwnI w' B v' (xs ++ [p.1]) ∧ Below B w w' := by
  have HO := Lib.hid ho
  obtain ⟨i0, hi, hz0, hz1, hz2⟩ := info_parts Try.info3
  have HI := Lib.hid (And.intro hi (And.intro hz0 (And.intro hz1 hz2)))
  clear hi hz0 hz1 hz2 ho
  go_enter Try.func71, Try.ntmps71
  go_wp2_with (at_builtin; refine wpList_append_own _ rfl _ _ 32 rfl B 3 i0 (.int .i64 0) 1 8 Try.underlying32 HI.out.1 HI.out.2.1 HI.out.2.2.1 HI.out.2.2.2 rfl (by decide) _ _ _ rfl ((HO.out.alloc _).alloc _) ⟨w.heap.size + 1, 0, none⟩ 1 1 [.int .i64 p.1] (by rfl) rfl (cell_one_new2 w _ _ _ _) (by simp [Value.oneCell']) (by unfold maxLen; omega) (by omega) (by simp; omega) ?_; intro v' w1 hown' hgrow _; have HO2 := Lib.hid hown'; have HG := Lib.hid hgrow; clear hown' hgrow)
  go_ret
  refine ⟨_, rfl, own_i HO2.out (by simp) (by simp), ?_⟩
  refine (((Below.refl B w).alloc hB _).alloc (by simp; omega) _).grown HG.out (by simp; omega) (fun g e => ?_)
  exact own_ge HO.out g e
end Go.Proofs.Ytgboijbnjjmmkaa
