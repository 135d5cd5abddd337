/- Several texts of one kind, one behind the other: ShareP, ShareQ, ShareQ2, ShareR. -/
import Derived.Test.YtlannmedefjfhaaGreatShareLib
import Derived.Test.YtlannmedefjfhaaGreatSharePlain
import Derived.Deep.AppendLies
/- What package share does inside: differences, weights, what goes through shares. -/
namespace Go.Proofs.YtlannmedefjfhaaGreat
open Go.ChangeShapes Go.WideShapes Go.ChangeAt Go.RowKit Gs
set_option linter.unusedVariables false

instance (ids : List Int) (i x : Int) : IsU (wup ids i x) := IsU.below (wup_rb ids i x) (by omega)
theorem difference2_any (a b : Int) (a0 : 0 ≤ a) (a1 : a < 9223372036854775808) (b0 : 0 ≤ b) (b1 : b < 9223372036854775808) (w : World) :
    Calls Tryz.prog 127 #[.int .i64 a, .int .i64 b] w fun e w' => e = .returned (.int .u64 (rsub a b)) ∧ w = w' := by
  haveI : IsU a := ⟨by omega, by omega⟩
  haveI : IsU b := ⟨by omega, by omega⟩
  have ha : IntKind.u64.wrap a = a := by rw [IntKind.wrap_u64]; omega
  have hb : IntKind.u64.wrap b = b := by rw [IntKind.wrap_u64]; omega
  have P := Lib.hid (SubR_r a b)
  go_enter Tryz.func127, Tryz.ntmps127
  go_wp2_with fail
  refine (P.out _).mono ?_; rintro e w' ⟨rfl, rfl⟩
  go_wp2_with fail
  go_ret
  exact ⟨rfl, rfl⟩

set_option maxRecDepth 100000 in
set_option maxHeartbeats 4000000 in
theorem weigh_any (Bi Bp : Nat) (A : Option Addr) (c : Nat) (xs : List Int) (hl : xs.length ≤ 1048576) (hx : ∀ x ∈ xs, 0 ≤ x ∧ x < 9223372036854775808) (i pl : Int) (i0 : 0 ≤ i) (i1 : i < 9223372036854775808) (p0 : 0 ≤ pl) (p1 : pl < 9223372036854775808) (hne : ∀ k ∈ xs, k ≠ i → ¬ Z (i - k)) (w : World) (hBi : Bi < w.heap.size) (hBp : Bp < w.heap.size)
    (ci : w.cell? ⟨Bi, 0, none⟩ = some (.slice A xs.length c)) (cp : w.cell? ⟨Bp, 0, none⟩ = some (.int .i64 pl)) (hs : SI w w.heap.size .i64 A xs) :
    Calls Tryz.prog 126 #[.int .i64 i, .pointer (some ⟨Bi, 0, none⟩), .pointer (some ⟨Bp, 0, none⟩)] w fun e w' => e = .returned (.int .u64 (wat xs i pl)) ∧ Below w.heap.size w w' := by
  have HS := Lib.hid hs
  have HX := Lib.hid hx
  have HW := Lib.hid (wup_wat pl hne)
  have CP := Lib.hid cp
  have B0 := Lib.hid (Below.refl w.heap.size w)
  clear hs hx hne cp
  go_enter Tryz.func126, Tryz.ntmps126
  go_wp2_with fail
  go_loopw [5, 6, 13] (fun a b j wr => ∃ k : Nat, k ≤ xs.length ∧ j = .int .i64 k ∧ a = .int .u64 (wup (xs.take k) i pl) ∧ b = .int .u64 (wup (xs.take k) i i) ∧ Below w.heap.size w wr) (fun _ _ j _ => xs.length - (intOf j).toNat)
  case atStart => exact ⟨0, by omega, rfl, rfl, rfl, B0.out⟩
  case round =>
    obtain ⟨k, hk, rfl, rfl, rfl, hd⟩ := hrel
    have HD := Lib.hid hd
    clear hd
    by_cases hlt : k < xs.length
    · obtain ⟨ad, rfl, had, c0⟩ := si_at (HS.out.below HD.out) k hlt
      have HT1 := Lib.hid (wup_take xs i pl k hlt)
      have HT2 := Lib.hid (wup_take xs i i k hlt)
      have hb := HX.out xs[k] (List.getElem_mem hlt)
      have b0 := hb.1
      have b1 := hb.2
      have cp1 := (HD.out.cell (p := ⟨Bp, 0, none⟩) hBp).trans CP.out
      clear hb
      by_cases he : xs[k] = i
      · have hq : (xs[k] == i) = true := beq_iff_eq.2 he
        have hq' : (xs[k] != i) = false := by simp [he]
        have HE1 := Lib.hid (show wup (xs.take (k + 1)) i pl = wup (xs.take k) i pl by rw [HT1.out]; unfold ustep; rw [if_pos he])
        have HE2 := Lib.hid (show wup (xs.take (k + 1)) i i = wup (xs.take k) i i by rw [HT2.out]; unfold ustep; rw [if_pos he])
        clear he
        go_wp2_with fail
        go_roundw
        case rel => exact ⟨k + 1, by omega, by go_num, by rw [HE1.out], by rw [HE2.out], HD.out⟩
        case measure => simp [intOf]; omega
      · have hq : (xs[k] == i) = false := beq_eq_false_iff_ne.2 he
        have hq' : (xs[k] != i) = true := by simp [he]
        have P1 := Lib.hid (difference2_any pl xs[k] p0 p1 b0 b1)
        have P2 := Lib.hid (MulR_r (wup (xs.take k) i pl) (rsub pl xs[k]))
        have P3 := Lib.hid (difference2_any i xs[k] i0 i1 b0 b1)
        have P4 := Lib.hid (MulR_r (wup (xs.take k) i i) (rsub i xs[k]))
        have HE1 := Lib.hid (show wup (xs.take (k + 1)) i pl = rmul (wup (xs.take k) i pl) (rsub pl xs[k]) by rw [HT1.out]; unfold ustep; rw [if_neg he])
        have HE2 := Lib.hid (show wup (xs.take (k + 1)) i i = rmul (wup (xs.take k) i i) (rsub i xs[k]) by rw [HT2.out]; unfold ustep; rw [if_neg he])
        clear he
        go_wp2_with fail
        refine (P1.out _).mono ?_; rintro e w' ⟨rfl, rfl⟩
        go_wp2_with fail
        refine (P2.out _).mono ?_; rintro e w2 ⟨rfl, b⟩
        have D1 := Lib.hid (HD.out.trans (b.mono HD.out.size))
        clear b
        go_wp2_with fail
        refine (P3.out _).mono ?_; rintro e w' ⟨rfl, rfl⟩
        go_wp2_with fail
        refine (P4.out _).mono ?_; rintro e w4 ⟨rfl, b⟩
        have D2 := Lib.hid (D1.out.trans (b.mono D1.out.size))
        clear b
        go_wp2_with fail
        go_roundw
        case rel => exact ⟨k + 1, by omega, by go_num, by rw [HE1.out], by rw [HE2.out], D2.out⟩
        case measure => simp [intOf]; omega
    · obtain rfl : k = xs.length := by omega
      have HA := Lib.hid (List.take_length (l := xs))
      rw [HA.out]
      have P1 := Lib.hid (InvR_r (wup xs i i))
      have P2 := Lib.hid (MulR_r (wup xs i pl) (rinv (wup xs i i)))
      rw [HW.out] at P2
      go_wp2_with fail
      refine (P1.out _).mono ?_; rintro e w2 ⟨rfl, b⟩
      have D1 := Lib.hid (HD.out.trans (b.mono HD.out.size))
      clear b
      go_wp2_with fail
      refine (P2.out _).mono ?_; rintro e w4 ⟨rfl, b⟩
      have D2 := Lib.hid (D1.out.trans (b.mono D1.out.size))
      clear b
      go_wp2_with fail
      go_ret
      exact ⟨rfl, D2.out⟩
end Go.Proofs.YtlannmedefjfhaaGreat

/- What package share does inside: whether ids are right; what goes through shares and makes ids. -/
namespace Go.Proofs.YtlannmedefjfhaaGreat
open Go.ChangeShapes Go.WideShapes Go.ChangeAt Go.RowKit Gs
set_option linter.unusedVariables false

theorem weights_any (A : Option Addr) (n c : Nat) (pl : Int) (w : World) :
    Calls Tryz.prog 80 #[.slice A n c, .int .i64 pl] w fun e w' => e = .returned (.func (.func 126) #[] #[.pointer (some ⟨w.heap.size, 0, none⟩), .pointer (some ⟨w.heap.size + 1, 0, none⟩)]) ∧ w' = (w.alloc (.cells #[.slice A n c] 85)).alloc (.cells #[.int .i64 pl] 3) := by
  go_enter Tryz.func80, Tryz.ntmps80
  go_wp2_with fail
  go_ret
  exact ⟨by simp, rfl⟩

/-- What slices.Index tells. -/
def IdxE (xs : List Int) (i : Int) (e : Ending) : Prop := ∃ n : Int, e = .returned (.int .i64 n) ∧ ((n = -1 ∧ i ∉ xs) ∨ ∃ k : Nat, n = k ∧ ∃ h : k < xs.length, xs[k] = i ∧ i ∉ xs.take k)
theorem Index_any (A : Option Addr) (n c : Nat) (xs : List Int) (hn : xs.length = n) (hl : n ≤ 1048576) (i : Int) (B : Nat) (w : World) (hs : SI w B .i64 A xs) :
    Calls Tryz.prog 141 #[.slice A n c, .int .i64 i] w fun e w' => IdxE xs i e ∧ w = w' := by
  have HS := Lib.hid hs
  have HN := Lib.hid hn
  clear hs hn
  go_enter Tryz.func141, Tryz.ntmps141
  go_wp2_with fail
  go_loop [8] (fun j => ∃ k : Nat, k ≤ n ∧ j = .int .i64 k ∧ i ∉ xs.take k) (fun j => n - (intOf j).toNat)
  case atStart => exact ⟨0, by omega, rfl, by simp⟩
  case round =>
    obtain ⟨k, hk, rfl, hi⟩ := hrel
    have HI := Lib.hid hi
    clear hi
    by_cases hlt : k < n
    · have hlt' : k < xs.length := by rw [HN.out]; exact hlt
      obtain ⟨ad, rfl, had, c0⟩ := si_at HS.out k hlt'
      have HM := Lib.hid (mem_take_succ (i := i) hlt')
      by_cases he : xs[k] = i
      · have hq : (i == xs[k]) = true := beq_iff_eq.2 he.symm
        have HE := Lib.hid he
        clear he
        go_wp2_with fail
        go_ret
        exact ⟨⟨(k : Int), rfl, .inr ⟨k, rfl, hlt', HE.out, HI.out⟩⟩, rfl⟩
      · have hq : (i == xs[k]) = false := beq_eq_false_iff_ne.2 (fun e => he e.symm)
        have HE := Lib.hid he
        clear he
        go_wp2_with fail
        go_round
        case rel => exact ⟨k + 1, by omega, by go_num, by rw [HM.out]; exact fun h => h.elim HI.out HE.out⟩
        case measure => simp [intOf]; omega
    · obtain rfl : k = n := by omega
      go_wp2_with fail
      go_ret
      exact ⟨⟨-1, rfl, .inl ⟨rfl, by have h := HI.out; rwa [← HN.out, List.take_length] at h⟩⟩, rfl⟩
/-- What slices.Contains tells. -/
def HasE (xs : List Int) (i : Int) (e : Ending) : Prop := ∃ b : Bool, e = .returned (.bool b) ∧ (b = true ↔ i ∈ xs)
theorem Contains_any (A : Option Addr) (n c : Nat) (xs : List Int) (hn : xs.length = n) (hl : n ≤ 1048576) (i : Int) (B : Nat) (w : World) (hs : SI w B .i64 A xs) :
    Calls Tryz.prog 121 #[.slice A n c, .int .i64 i] w fun e w' => HasE xs i e ∧ w = w' := by
  have P := Lib.hid (Index_any A n c xs hn hl i B w hs)
  clear hs hn
  go_enter Tryz.func121, Tryz.ntmps121
  go_wp2_with fail
  refine P.out.mono ?_; rintro e w' ⟨he, rfl⟩
  rcases he with ⟨n, rfl, ⟨rfl, hi⟩ | ⟨k, rfl, hk, hi, _⟩⟩
  · have HI := Lib.hid hi
    clear hi
    go_wp2_with fail
    go_ret
    exact ⟨⟨false, rfl, by simp [HI.out]⟩, rfl⟩
  · have HI := Lib.hid (show i ∈ xs by rw [← hi]; exact List.getElem_mem hk)
    clear hi hk
    go_wp2_with fail
    go_ret
    exact ⟨⟨true, by first | rfl | simp, by simp [HI.out]⟩, rfl⟩

theorem SI.take {w : World} {B : Nat} {k : IntKind} {A : Option Addr} {xs : List Int} (h : SI w B k A xs) (n : Nat) : SI w B k A (xs.take n) := fun j hj => by
  have hj' : j < xs.length := by rw [List.length_take] at hj; omega
  have hj2 : j < n := by rw [List.length_take] at hj; omega
  have := h j hj'
  rwa [List.getElem?_take_of_lt hj2]
set_option maxHeartbeats 2000000 in
theorem right_any (A : Option Addr) (c : Nat) (xs : List Int) (hl : xs.length ≤ 1048576) (hlc : xs.length ≤ c) (B : Nat) (w : World) (hs : SI w B .i64 A xs) :
    Calls Tryz.prog 76 #[.slice A xs.length c] w fun e w' => RightE xs e ∧ w = w' := by
  have HS := Lib.hid hs
  clear hs
  by_cases h1 : 1 ≤ xs.length
  · by_cases h7 : xs.length ≤ 7
    · go_enter Tryz.func76, Tryz.ntmps76
      go_wp2_with fail
      go_loop [15] (fun i => ∃ k : Nat, k ≤ xs.length ∧ i = .int .i64 k ∧ (∀ i (h : i < xs.length), i < k → (1 ≤ xs[i] ∧ xs[i] < 1152921504606845789) ∧ ∀ j (g : j < i), xs[j] ≠ xs[i])) (fun i => xs.length - (intOf i).toNat)
      case atStart => exact ⟨0, by omega, rfl, fun i h g => by omega⟩
      case round =>
        obtain ⟨k, hk, rfl, ha⟩ := hrel
        have HA := Lib.hid ha
        clear ha
        by_cases hlt : k < xs.length
        · obtain ⟨ad, rfl, had, c0⟩ := si_at HS.out k hlt
          by_cases hx1 : 1 ≤ xs[k]
          · by_cases hx2 : xs[k] < 1152921504606845789
            · have P := Lib.hid (Contains_any (some ad) k c (xs.take k) (by rw [List.length_take]; omega) (by omega) xs[k] B w (HS.out.take k))
              have hkc : k ≤ c := by omega
              go_wp2_with fail
              refine P.out.mono ?_; rintro e w' ⟨⟨b, rfl, hb⟩, rfl⟩
              have HB := Lib.hid hb
              clear hb
              cases b
              · go_wp2_with fail
                go_round
                case rel =>
                  refine ⟨k + 1, by omega, by go_num, fun i h g => ?_⟩
                  by_cases hi : i = k
                  · subst hi
                    refine ⟨⟨hx1, hx2⟩, fun j g e => ?_⟩
                    have := HB.out.2 (by rw [← e]; exact List.mem_take_iff_getElem.2 ⟨j, by omega, rfl⟩)
                    cases this
                  · exact HA.out i h (by omega)
                case measure => simp [intOf]; omega
              · go_wp2_with fail
                go_ret
                have HF := Lib.hid (show ¬ RightI xs from fun h => by
                  obtain ⟨j, hj, e⟩ := List.mem_take_iff_getElem.1 (HB.out.1 (by first | rfl | trivial))
                  exact (h.2.2 k hlt).2 j (by omega) e)
                exact ⟨⟨false, rfl, by simp; exact HF.out⟩, rfl⟩
            · go_wp2_with fail
              go_ret
              exact ⟨⟨false, rfl, by simp; exact fun h => absurd (h.2.2 k hlt).1.2 (by omega)⟩, rfl⟩
          · go_wp2_with fail
            go_ret
            exact ⟨⟨false, rfl, by simp; exact fun h => absurd (h.2.2 k hlt).1.1 (by omega)⟩, rfl⟩
        · go_wp2_with fail
          go_ret
          exact ⟨⟨true, rfl, by simp; exact ⟨h1, h7, fun i h => HA.out i h (by omega)⟩⟩, rfl⟩
    · go_enter Tryz.func76, Tryz.ntmps76
      go_wp2_with fail
      go_ret
      exact ⟨⟨false, rfl, by simp; exact fun h => h7 h.2.1⟩, rfl⟩
  · go_enter Tryz.func76, Tryz.ntmps76
    go_wp2_with fail
    go_ret
    exact ⟨⟨false, rfl, by simp; exact fun h => h1 h.1⟩, rfl⟩

theorem own_nilI (w : World) (B : Nat) : OwnI w B (.slice none 0 0) [] := ⟨rfl, .inl ⟨rfl, rfl⟩⟩
theorem own_nilS (w : World) (B : Nat) : OwnS w B (.slice none 0 0) [] := ⟨rfl, .inl ⟨rfl, rfl⟩⟩

theorem cell_one_new2 (w : World) (c : Array Value) (t1 : TypeId) (x : Value) (t : TypeId) : ∀ j u, [x][j]? = some u → ((w.alloc (.cells c t1)).alloc (.cells #[x] t)).cell? ((⟨w.heap.size + 1, 0, none⟩ : Addr).add j) = some u := by
  have := cell_one_new (w.alloc (.cells c t1)) x t
  rwa [World.size_alloc] at this
set_option maxRecDepth 100000 in
theorem takes_id (v : Value) (p : Int × Int) (xs : List Int) (hl : xs.length ≤ 1048576) (B : Nat) (w : World) (hB : B ≤ w.heap.size) (ho : OwnI w B v xs) :
    Calls Tryz.prog 123 #[v, .agg #[.int .i64 p.1, .int .u64 p.2]] w fun e w' => ∃ v', e = .returned v' ∧ OwnI w' B v' (xs ++ [p.1]) ∧ Below B w w' := by
  have HO := Lib.hid ho
  obtain ⟨i0, hi, hz0, hz1, hz2⟩ := info_parts Tryz.info3
  have HI := Lib.hid (And.intro hi (And.intro hz0 (And.intro hz1 hz2)))
  clear hi hz0 hz1 hz2 ho
  go_enter Tryz.func123, Tryz.ntmps123
  go_wp2_with (at_builtin; refine wpList_append_own _ rfl _ _ 85 rfl B 3 i0 (.int .i64 0) 1 8 Tryz.underlying85 HI.out.1 HI.out.2.1 HI.out.2.2.1 HI.out.2.2.2 rfl (by decide) _ _ _ rfl ((HO.out.alloc _).alloc _) ⟨w.heap.size + 1, 0, none⟩ 1 1 [.int .i64 p.1] (by rfl) rfl (cell_one_new2 w _ _ _ _) (by simp [Value.oneCell']) (by unfold maxLen; omega) (by omega) (by simp; omega) ?_; intro v' w1 hown' hgrow _; have HO2 := Lib.hid hown'; have HG := Lib.hid hgrow; clear hown' hgrow)
  go_ret
  refine ⟨_, rfl, own_i HO2.out (by simp) (by simp), ?_⟩
  refine (((Below.refl B w).alloc hB _).alloc (by simp; omega) _).grown HG.out (by simp; omega) (fun g e => ?_)
  exact own_ge HO.out g e
end Go.Proofs.YtlannmedefjfhaaGreat

/- The closures that share hands to what goes through shares. -/
namespace Go.Proofs.YtlannmedefjfhaaGreat
open Go.ChangeShapes Go.WideShapes Go.ChangeAt Go.RowKit Gs
set_option linter.unusedVariables false

theorem step_append_far {P : Program} {w : World} {ops : Array Oper} {o : Oper} {a : Act} {K : Act → World → Prop} {Q : Exit → Act → World → Prop} {E : Prop} (hgd : o.guard = none) (s x : Operand) (t : TypeId)
    (ho : o.op = .call { callee := .builtin .append, args := #[s, x], argTypes := #[t, t] })
    (base : Nat) (e : TypeId) (i : TypeInfo) (z : Value) (size bytes : Nat) (ht : P.underlying t = some (.slice e)) (hi : P.info? e = some i) (hz : i.zero = some z)
    (hsize : i.size = size) (hby : i.bytes = bytes) (hzs : z.cells.size = size) (hsz : 0 < size)
    (v : Value) (n : Nat) (xs : List Value) (hs : a.eval s = v) (hown : w.ownsRow base e size v n xs)
    (B : Nat) (A : Option Addr) (m c : Nat) (news : List Value) (hx : a.eval x = .slice A m c) (hr : Reads w B size A m news) (h1 : ∀ u ∈ news, u.oneCell' = true)
    (h63 : n + m ≤ maxLen) (hbytes : (n + m) * bytes ≤ 140737488355328) (hbase : base ≤ w.heap.size)
    (h : ∀ v' w', w'.ownsRow base e size v' (n + m) (xs ++ news) → Below base w w' → (∀ p : Addr, p.block < w.heap.size → some p.block ≠ v.ownBlock → w'.cell? p = w.cell? p) → K (a.put o.dst v') w') :
    if Region.wanted o (yielded ops a.tmps) = true then Oper.wp P o a w K Q else E := by
  have hw : Region.wanted o (yielded ops a.tmps) = true := by simp [Region.wanted, hgd]
  rw [if_pos hw]
  exact wp_append_any w s x t ho base e i z size bytes ht hi hz hsize hby hzs hsz v n xs hs hown B A m c news hx hr h1 h63 hbytes hbase (fun v' w' h2 h3 _ => h v' w' h2 ((Below.refl _ _).grown h3 hbase (fun k e => own_ge hown k e)) (fun p hp hne => h3.cell_far p hp hne))
theorem own_not {w : World} {B n : Nat} {e : TypeId} {size : Nat} {v : Value} {vs : List Value} (h : w.ownsRow B e size v n vs) {g : Nat} (hg : w.heap.size ≤ g) : some g ≠ v.ownBlock := by
  rcases h.2 with ⟨rfl, _⟩ | ⟨g', cap, cur, rfl, _, hh, _⟩
  · intro e; cases e
  · intro e
    have := (Array.getElem?_eq_some_iff.1 hh).1
    have e' : g = g' := Option.some.inj e
    omega
set_option maxRecDepth 100000 in
set_option maxHeartbeats 4000000 in
theorem takes_pub (v : Value) (p : Int × Int) (hp : 0 ≤ p.2 ∧ p.2 < 18446744073709551616) (xs : List (Int × Int)) (hl : xs.length ≤ 1048576) (B : Nat) (w : World) (hB : B ≤ w.heap.size) (ho : OwnS w B v xs) :
    Calls Tryz.prog 84 #[v, .agg #[.int .i64 p.1, .int .u64 p.2]] w fun e w' => ∃ v', e = .returned v' ∧ OwnS w' B v' (xs ++ [(p.1, qpow 4 p.2)]) ∧ Below B w w' := by
  obtain ⟨i0, hi, hz0, hz1, hz2⟩ := info_parts Tryz.info37
  have HI := Lib.hid (And.intro hi (And.intro hz0 (And.intro hz1 hz2)))
  haveI : IsU p.2 := ⟨hp.1, hp.2⟩
  have P4 := Lib.hid (Base_q p.2)
  have HO0 := Lib.hid (show w.ownsRow B 37 2 v xs.length (cells2 xs) from ho)
  have D0 := Lib.hid ((Below.refl B w).alloc hB (.cells #[.int .i64 p.1, .int .u64 p.2] 37))
  clear hi hz0 hz1 hz2 hp
  have k0 : (w.alloc (.cells #[.int .i64 p.1, .int .u64 p.2] 37)).cell? ⟨w.heap.size, 0, none⟩ = some (.int .i64 p.1) := (Blk.new w 37 #[.int .i64 p.1, .int .u64 p.2]).cell 0
  have k1 : (w.alloc (.cells #[.int .i64 p.1, .int .u64 p.2] 37)).cell? ⟨w.heap.size, 1, none⟩ = some (.int .u64 p.2) := (Blk.new w 37 #[.int .i64 p.1, .int .u64 p.2]).cell 1
  clear ho
  go_enter Tryz.func84, Tryz.ntmps84
  go_wp2_with fail
  refine wp_named (fun W => W.cell? ⟨w.heap.size, 0, none⟩ = some (.int .i64 p.1) ∧ W.cell? ⟨w.heap.size, 1, none⟩ = some (.int .u64 p.2) ∧ OwnS W B v xs ∧ Below B w W ∧ w.heap.size < W.heap.size) ⟨k0, k1, own_below HO0.out ((Below.refl _ _).alloc (Nat.le_refl _) _), D0.out, by simp⟩ ?_
  clear k0 k1 D0
  rintro W ⟨c0, c1, ho, hD, hz⟩
  have D0 := Lib.hid hD
  have HO2 := Lib.hid (show W.ownsRow B 37 2 v xs.length (cells2 xs) from ho)
  have hBW : B ≤ W.heap.size := by omega
  clear ho hD
  have hd : W.heap.size ≤ W.drew.heap.size := Nat.le_refl _
  go_region_held_law (fun w' => w'.cell? ⟨w.heap.size, 0, none⟩ = some (.int .i64 p.1) ∧ w'.cell? ⟨w.heap.size, 1, none⟩ = some (.int .u64 p.2)) (first | exact ⟨by assumption, by assumption⟩ | go_keep)
    (first
      | (go_at_call 34; refine (P4.out _).mono ?_; rintro e w5 ⟨rfl, b5⟩; have hW := (Below.refl W.heap.size W).drew.trans (b5.mono (by omega)); have k0 := (hW.cell (p := ⟨w.heap.size, 0, none⟩) hz).trans c0; have k1 := (hW.cell (p := ⟨w.heap.size, 1, none⟩) hz).trans c1)
      | (refine step_append_far (by rfl) _ _ _ (by rfl) B 37 i0 (.agg #[.int .i64 0, .int .u64 0]) 2 16 Tryz.underlying24 HI.out.1 HI.out.2.1 HI.out.2.2.1 HI.out.2.2.2 (by rfl) (by decide) _ xs.length (cells2 xs) (by rfl) (own_below HO2.out (hW.alloc hW.size _)) _ _ 1 _ (cells2 [(p.1, qpow 4 p.2)]) (by rfl) (reads_new (Blk.new_at _ _ _ (by rfl)) 1 rfl) (cells2_one _) (by unfold maxLen; omega) (by omega) (by have := hW.size; simp; omega) ?_; intro v4 w4 ho4 hb4 hfar; have hX := (((hW.mono hBW).alloc (by have := hW.size; omega) _).trans hb4); have k0 := (hfar ⟨w.heap.size, 0, none⟩ (by have := hW.size; simp; omega) (own_not HO0.out (Nat.le_refl _))).trans (((Below.refl w5.heap.size w5).alloc (Nat.le_refl _) _).cell (p := ⟨w.heap.size, 0, none⟩) (by have := hW.size; simp; omega) |>.trans k0); have k1 := (hfar ⟨w.heap.size, 1, none⟩ (by have := hW.size; simp; omega) (own_not HO0.out (Nat.le_refl _))).trans (((Below.refl w5.heap.size w5).alloc (Nat.le_refl _) _).cell (p := ⟨w.heap.size, 1, none⟩) (by have := hW.size; simp; omega) |>.trans k1)))
  have HX := Lib.hid (D0.out.trans hX)
  have HO4 := Lib.hid ho4
  clear hX ho4 hb4 k0 k1 hfar hW c0 c1
  go_wp2_with fail
  go_ret
  refine ⟨v4, by simp, ?_, HX.out⟩
  have h := HO4.out
  rw [← cells2_append] at h
  exact own_s h (by simp) rfl

theorem belowR_any (x : Int) [hx : IsU x] (w : World) :
    Calls Tryz.prog 79 #[.int .u64 x] w fun e w' => e = .returned (.bool (decide (x < 1152921504606845789))) ∧ w = w' := by
  have x0 := hx.1
  go_enter Tryz.func79, Tryz.ntmps79
  go_wp2_with fail
  go_ret
  exact ⟨rfl, rfl⟩

/-- What a closure of weights reads. -/
structure WBox (w : World) (Bw Bi Bp : Nat) (ids : List Int) (pl : Int) : Prop where
  lw : Bw < w.heap.size
  li : Bi < w.heap.size
  lp : Bp < w.heap.size
  cw : w.cell? ⟨Bw, 0, none⟩ = some (.func (.func 126) #[] #[.pointer (some ⟨Bi, 0, none⟩), .pointer (some ⟨Bp, 0, none⟩)])
  cp : w.cell? ⟨Bp, 0, none⟩ = some (.int .i64 pl)
  ci : ∃ A c, w.cell? ⟨Bi, 0, none⟩ = some (.slice A ids.length c) ∧ SI w w.heap.size .i64 A ids
theorem WBox.on {w w' : World} {Bw Bi Bp : Nat} {ids : List Int} {pl : Int} (h : WBox w Bw Bi Bp ids pl) (hb : Below w.heap.size w w') : WBox w' Bw Bi Bp ids pl := by
  have hz := hb.size
  obtain ⟨A, c, hc, hs⟩ := h.ci
  exact ⟨by have := h.lw; omega, by have := h.li; omega, by have := h.lp; omega, (hb.cell (p := ⟨Bw, 0, none⟩) h.lw).trans h.cw, (hb.cell (p := ⟨Bp, 0, none⟩) h.lp).trans h.cp, A, c, (hb.cell (p := ⟨Bi, 0, none⟩) h.li).trans hc, hs.on hb⟩

theorem weigh_box (Bw Bi Bp : Nat) (ids : List Int) (pl : Int) (p0 : 0 ≤ pl) (p1 : pl < 9223372036854775808) (hr : RightI ids) (i : Int) (hi : i ∈ ids) (w : World) (hw : WBox w Bw Bi Bp ids pl) :
    Calls Tryz.prog 126 #[.int .i64 i, .pointer (some ⟨Bi, 0, none⟩), .pointer (some ⟨Bp, 0, none⟩)] w fun e w' => e = .returned (.int .u64 (wat ids i pl)) ∧ Below w.heap.size w w' := by
  obtain ⟨A, c, hc, hs⟩ := hw.ci
  have ha := right_all hr
  have hl := hr.2.1
  have hi2 := ha i hi
  exact weigh_any Bi Bp A c ids (by omega) (fun x hx => by have := ha x hx; omega) i pl (by omega) (by omega) p0 p1 (fun k hk e => apart_of (right_apart hr) hi hk (fun g => e g.symm)) w hw.li hw.lp hc hw.cp hs
set_option maxRecDepth 100000 in
set_option maxHeartbeats 4000000 in
theorem weighs (Bw Bi Bp : Nat) (ids : List Int) (pl : Int) (p0 : 0 ≤ pl) (p1 : pl < 9223372036854775808) (hr : RightI ids) (o : Int) [IsU o] (p : Int × Int) [IsU p.2] (hi : p.1 ∈ ids) (w : World) (hw : WBox w Bw Bi Bp ids pl) :
    Calls Tryz.prog 82 #[.int .u64 o, .agg #[.int .i64 p.1, .int .u64 p.2], .pointer (some ⟨Bw, 0, none⟩)] w fun e w' => e = .returned (.int .u64 (radd o (rmul p.2 (wat ids p.1 pl)))) ∧ Below w.heap.size w w' := by
  have P1 := Lib.hid (weigh_box Bw Bi Bp ids pl p0 p1 hr p.1 hi)
  haveI : IsU (wat ids p.1 pl) := IsU.below (wat_rb ids p.1 pl) (by omega)
  have P2 := Lib.hid (MulR_r p.2 (wat ids p.1 pl))
  have P3 := Lib.hid (AddR_r o (rmul p.2 (wat ids p.1 pl)))
  have HW := Lib.hid hw
  have l0 := hw.lw
  have D0 := Lib.hid ((Below.refl w.heap.size w).alloc (Nat.le_refl _) (.cells #[.int .i64 p.1, .int .u64 p.2] 37))
  clear hr hi hw
  generalize wat ids p.1 pl = z at *
  have k0 : (w.alloc (.cells #[.int .i64 p.1, .int .u64 p.2] 37)).cell? ⟨w.heap.size, 0, none⟩ = some (.int .i64 p.1) := (Blk.new w 37 #[.int .i64 p.1, .int .u64 p.2]).cell 0
  have k1 : (w.alloc (.cells #[.int .i64 p.1, .int .u64 p.2] 37)).cell? ⟨w.heap.size, 1, none⟩ = some (.int .u64 p.2) := (Blk.new w 37 #[.int .i64 p.1, .int .u64 p.2]).cell 1
  go_enter Tryz.func82, Tryz.ntmps82
  go_wp2_with fail
  refine wp_named (fun W => W.cell? ⟨w.heap.size, 0, none⟩ = some (.int .i64 p.1) ∧ W.cell? ⟨w.heap.size, 1, none⟩ = some (.int .u64 p.2) ∧ Below w.heap.size w W ∧ w.heap.size < W.heap.size) ⟨k0, k1, D0.out, by simp⟩ ?_
  clear k0 k1 D0
  rintro W ⟨c0, c1, hD, hz⟩
  have D0 := Lib.hid hD
  have HW0 := Lib.hid (HW.out.on hD)
  have cw := HW0.out.cw
  have lw : Bw < W.heap.size := HW0.out.lw
  clear hD
  have hd : W.heap.size ≤ W.drew.heap.size := Nat.le_refl _
  go_region_held_law (fun w' => w'.cell? ⟨w.heap.size, 0, none⟩ = some (.int .i64 p.1) ∧ w'.cell? ⟨w.heap.size, 1, none⟩ = some (.int .u64 p.2) ∧ w'.cell? ⟨Bw, 0, none⟩ = some (.func (.func 126) #[] #[.pointer (some ⟨Bi, 0, none⟩), .pointer (some ⟨Bp, 0, none⟩)])) (first | exact ⟨by assumption, by assumption, by assumption⟩ | go_keep)
    (first
      | (go_at_call 126; refine (P1.out _ (HW0.out.on (Below.refl W.heap.size W).drew)).mono ?_; rintro e w5 ⟨rfl, b5⟩; have hW := (Below.refl W.heap.size W).drew.trans (b5.mono (by omega)); have k0 := (hW.cell (p := ⟨w.heap.size, 0, none⟩) hz).trans c0; have k1 := (hW.cell (p := ⟨w.heap.size, 1, none⟩) hz).trans c1; have kw := (hW.cell (p := ⟨Bw, 0, none⟩) lw).trans cw)
      | (go_at_call 56; refine (P2.out _).mono ?_; rintro e w5 ⟨rfl, b5⟩; have hW := hW.trans (b5.mono hW.size); have k0 := (hW.cell (p := ⟨w.heap.size, 0, none⟩) hz).trans c0; have k1 := (hW.cell (p := ⟨w.heap.size, 1, none⟩) hz).trans c1; have kw := (hW.cell (p := ⟨Bw, 0, none⟩) lw).trans cw)
      | (go_at_call 30; refine (P3.out _).mono ?_; rintro e w' ⟨rfl, rfl⟩))
  have HX := Lib.hid (D0.out.trans (hW.mono (by omega)))
  clear hW k0 k1 kw c0 c1 cw
  go_wp2_with fail
  go_ret
  exact ⟨by simp, HX.out⟩

set_option maxRecDepth 100000 in
set_option maxHeartbeats 4000000 in
theorem weighs_q (Bw Bi Bp : Nat) (ids : List Int) (pl : Int) (p0 : 0 ≤ pl) (p1 : pl < 9223372036854775808) (hr : RightI ids) (o : Int) [IsU o] (p : Int × Int) [IsU p.2] (hi : p.1 ∈ ids) (w : World) (hw : WBox w Bw Bi Bp ids pl) :
    Calls Tryz.prog 150 #[.int .u64 o, .agg #[.int .i64 p.1, .int .u64 p.2], .pointer (some ⟨Bw, 0, none⟩)] w fun e w' => e = .returned (.int .u64 (qmul o (qpow p.2 (wat ids p.1 pl)))) ∧ Below w.heap.size w w' := by
  have P1 := Lib.hid (weigh_box Bw Bi Bp ids pl p0 p1 hr p.1 hi)
  haveI : IsU (wat ids p.1 pl) := IsU.below (wat_rb ids p.1 pl) (by omega)
  have P2 := Lib.hid (Pow_q p.2 (wat ids p.1 pl))
  have P3 := Lib.hid (Mul_q o (qpow p.2 (wat ids p.1 pl)))
  have HW := Lib.hid hw
  have l0 := hw.lw
  have D0 := Lib.hid ((Below.refl w.heap.size w).alloc (Nat.le_refl _) (.cells #[.int .i64 p.1, .int .u64 p.2] 37))
  clear hr hi hw
  generalize wat ids p.1 pl = z at *
  have k0 : (w.alloc (.cells #[.int .i64 p.1, .int .u64 p.2] 37)).cell? ⟨w.heap.size, 0, none⟩ = some (.int .i64 p.1) := (Blk.new w 37 #[.int .i64 p.1, .int .u64 p.2]).cell 0
  have k1 : (w.alloc (.cells #[.int .i64 p.1, .int .u64 p.2] 37)).cell? ⟨w.heap.size, 1, none⟩ = some (.int .u64 p.2) := (Blk.new w 37 #[.int .i64 p.1, .int .u64 p.2]).cell 1
  go_enter Tryz.func150, Tryz.ntmps150
  go_wp2_with fail
  refine wp_named (fun W => W.cell? ⟨w.heap.size, 0, none⟩ = some (.int .i64 p.1) ∧ W.cell? ⟨w.heap.size, 1, none⟩ = some (.int .u64 p.2) ∧ Below w.heap.size w W ∧ w.heap.size < W.heap.size) ⟨k0, k1, D0.out, by simp⟩ ?_
  clear k0 k1 D0
  rintro W ⟨c0, c1, hD, hz⟩
  have D0 := Lib.hid hD
  have HW0 := Lib.hid (HW.out.on hD)
  have cw := HW0.out.cw
  have lw : Bw < W.heap.size := HW0.out.lw
  clear hD
  have hd : W.heap.size ≤ W.drew.heap.size := Nat.le_refl _
  go_region_held_law (fun w' => w'.cell? ⟨w.heap.size, 0, none⟩ = some (.int .i64 p.1) ∧ w'.cell? ⟨w.heap.size, 1, none⟩ = some (.int .u64 p.2) ∧ w'.cell? ⟨Bw, 0, none⟩ = some (.func (.func 126) #[] #[.pointer (some ⟨Bi, 0, none⟩), .pointer (some ⟨Bp, 0, none⟩)])) (first | exact ⟨by assumption, by assumption, by assumption⟩ | go_keep)
    (first
      | (go_at_call 126; refine (P1.out _ (HW0.out.on (Below.refl W.heap.size W).drew)).mono ?_; rintro e w5 ⟨rfl, b5⟩; have hW := (Below.refl W.heap.size W).drew.trans (b5.mono (by omega)); have k0 := (hW.cell (p := ⟨w.heap.size, 0, none⟩) hz).trans c0; have k1 := (hW.cell (p := ⟨w.heap.size, 1, none⟩) hz).trans c1; have kw := (hW.cell (p := ⟨Bw, 0, none⟩) lw).trans cw)
      | (go_at_call 73; refine (P2.out _).mono ?_; rintro e w5 ⟨rfl, b5⟩; have hW := hW.trans (b5.mono hW.size); have k0 := (hW.cell (p := ⟨w.heap.size, 0, none⟩) hz).trans c0; have k1 := (hW.cell (p := ⟨w.heap.size, 1, none⟩) hz).trans c1; have kw := (hW.cell (p := ⟨Bw, 0, none⟩) lw).trans cw)
      | (go_at_call 72; refine (P3.out _).mono ?_; rintro e w5 ⟨rfl, b5⟩; have hW := hW.trans (b5.mono hW.size); have k0 := (hW.cell (p := ⟨w.heap.size, 0, none⟩) hz).trans c0; have k1 := (hW.cell (p := ⟨w.heap.size, 1, none⟩) hz).trans c1; have kw := (hW.cell (p := ⟨Bw, 0, none⟩) lw).trans cw))
  have HX := Lib.hid (D0.out.trans (hW.mono (by omega)))
  clear hW k0 k1 kw c0 c1 cw
  go_wp2_with fail
  go_ret
  exact ⟨by simp, HX.out⟩


set_option maxRecDepth 100000 in
theorem all_below (Bw : Nat) (b : Bool) (p : Int × Int) [IsU p.2] (w : World) (hBw : Bw < w.heap.size) (hw : w.cell? ⟨Bw, 0, none⟩ = some (.func (.func 79) #[] #[])) :
    Calls Tryz.prog 125 #[.bool b, .agg #[.int .i64 p.1, .int .u64 p.2], .pointer (some ⟨Bw, 0, none⟩)] w fun e w' => e = .returned (.bool (b && decide (p.2 < 1152921504606845789))) ∧ Below w.heap.size w w' := by
  have P := Lib.hid (belowR_any p.2)
  have D0 := Lib.hid ((Below.refl w.heap.size w).alloc (Nat.le_refl _) (.cells #[.int .i64 p.1, .int .u64 p.2] 37))
  generalize decide (p.2 < 1152921504606845789) = z at *
  cases b
  · go_enter Tryz.func125, Tryz.ntmps125
    go_wp2_with fail
    go_ret
    exact ⟨by simp, D0.out⟩
  · have k0 : (w.alloc (.cells #[.int .i64 p.1, .int .u64 p.2] 37)).cell? ⟨w.heap.size, 1, none⟩ = some (.int .u64 p.2) := (Blk.new w 37 #[.int .i64 p.1, .int .u64 p.2]).cell 1
    have k1 := (D0.out.cell (p := ⟨Bw, 0, none⟩) hBw).trans hw
    go_enter Tryz.func125, Tryz.ntmps125
    go_wp2_with fail
    refine (P.out _).mono ?_; rintro e w' ⟨rfl, rfl⟩
    have D1 := Lib.hid D0.out
    go_wp2_with fail
    go_ret
    exact ⟨by simp, D1.out⟩

set_option maxRecDepth 100000 in
theorem all_in (Bw : Nat) (b : Bool) (p : Int × Int) [IsU p.2] (w : World) (hBw : Bw < w.heap.size) (hw : w.cell? ⟨Bw, 0, none⟩ = some (.func (.func 71) #[] #[])) :
    Calls Tryz.prog 125 #[.bool b, .agg #[.int .i64 p.1, .int .u64 p.2], .pointer (some ⟨Bw, 0, none⟩)] w fun e w' => e = .returned (.bool (b && qin p.2)) ∧ Below w.heap.size w w' := by
  have P := Lib.hid (In_q p.2)
  have D0 := Lib.hid ((Below.refl w.heap.size w).alloc (Nat.le_refl _) (.cells #[.int .i64 p.1, .int .u64 p.2] 37))
  generalize qin p.2 = z at *
  cases b
  · go_enter Tryz.func125, Tryz.ntmps125
    go_wp2_with fail
    go_ret
    exact ⟨by simp, D0.out⟩
  · have k0 : (w.alloc (.cells #[.int .i64 p.1, .int .u64 p.2] 37)).cell? ⟨w.heap.size, 1, none⟩ = some (.int .u64 p.2) := (Blk.new w 37 #[.int .i64 p.1, .int .u64 p.2]).cell 1
    have k1 := (D0.out.cell (p := ⟨Bw, 0, none⟩) hBw).trans hw
    go_enter Tryz.func125, Tryz.ntmps125
    go_wp2_with fail
    refine (P.out _).mono ?_; rintro e w5 ⟨rfl, b5⟩
    have D1 := Lib.hid (D0.out.trans (b5.mono (by simp))); clear b5
    go_wp2_with fail
    go_ret
    exact ⟨by simp, D1.out⟩
end Go.Proofs.YtlannmedefjfhaaGreat

/- What goes through shares: ids, public ones, sums, products, tests. -/
namespace Go.Proofs.YtlannmedefjfhaaGreat
open Go.ChangeShapes Go.WideShapes Go.ChangeAt Go.RowKit Gs
set_option linter.unusedVariables false

set_option maxRecDepth 100000 in
set_option maxHeartbeats 4000000 in
theorem throughI_any (A : Option Addr) (n c : Nat) (l : List (Int × Int)) (hn : l.length = n) (hl : n ≤ 1048576)  (w : World) (hs : SS w w.heap.size A l)  :
    Calls Tryz.prog 122 #[.slice A n c, .slice none 0 0, .func (.func 123) #[] #[]] w fun e w' => ∃ v', e = .returned v' ∧ OwnI w' w.heap.size v' (l.map Prod.fst) ∧ Below w.heap.size w w' := by
  subst hn
  have HS := Lib.hid hs
  clear hs

  go_enter Tryz.func122, Tryz.ntmps122
  go_wp2_with fail
  go_loopw [1, 11] (fun b i wr => ∃ k : Nat, k ≤ l.length ∧ i = .int .i64 k ∧ OwnI wr w.heap.size b ((l.map Prod.fst).take k) ∧ Below w.heap.size w wr) (fun _ i _ => l.length - (intOf i).toNat)
  case atStart => exact ⟨0, by omega, rfl, own_nilI w _, Below.refl _ _⟩
  case round =>
    obtain ⟨k, hk, rfl, ho, hb⟩ := hrel
    have HO := Lib.hid ho
    have HB := Lib.hid hb
    have hz := hb.size
    clear ho hb
    by_cases hlt : k < l.length
    · obtain ⟨ad, rfl, had, c0, c1⟩ := (HS.out.below HB.out) k hlt
      have B1 := Lib.hid (HB.out.alloc hz (.cells #[.int .i64 l[k].1, .int .u64 l[k].2] 37))
      have D1 := Lib.hid ((Below.refl wr.heap.size wr).alloc (Nat.le_refl _) (.cells #[.int .i64 l[k].1, .int .u64 l[k].2] 37))
      have HLen := Lib.hid (show ((l.map Prod.fst).take k).length = k by rw [List.length_take, List.length_map, Nat.min_eq_left hk])
      have HT := Lib.hid (show (l.map Prod.fst).take (k + 1) = (l.map Prod.fst).take k ++ [l[k].1] by rw [List.take_succ_eq_append_getElem (by simpa using hlt)]; simp)
      have P := Lib.hid (fun v => takes_id v l[k] ((l.map Prod.fst).take k) (by rw [HLen.out]; omega) w.heap.size (wr.alloc (.cells #[.int .i64 l[k].1, .int .u64 l[k].2] 37)) B1.out.size)
      go_wp2_with fail
      refine (P.out _ (own_below HO.out D1.out)).mono ?_; rintro e w2 ⟨v', rfl, ho, hb⟩
      have HO2 := Lib.hid ho
      have B2 := Lib.hid (B1.out.trans hb)
      clear ho hb
      go_wp2_with fail
      go_roundw
      case rel => exact ⟨k + 1, by omega, by go_num, by rw [HT.out]; exact HO2.out, B2.out⟩
      case measure => simp [intOf]; omega
    · obtain rfl : k = l.length := by omega
      have HA := Lib.hid (show (l.map Prod.fst).take l.length = l.map Prod.fst by rw [List.take_of_length_le (by simp)])
      go_wp2_with fail
      go_ret
      exact ⟨_, rfl, by have h := HO.out; rwa [HA.out] at h, HB.out⟩

set_option maxRecDepth 100000 in
set_option maxHeartbeats 4000000 in
theorem throughS_any (A : Option Addr) (n c : Nat) (l : List (Int × Int)) (hn : l.length = n) (hl : n ≤ 1048576) (hu : ∀ p ∈ l, 0 ≤ p.2 ∧ p.2 < 18446744073709551616) (w : World) (hs : SS w w.heap.size A l)  :
    Calls Tryz.prog 83 #[.slice A n c, .slice none 0 0, .func (.func 84) #[] #[]] w fun e w' => ∃ v', e = .returned v' ∧ OwnS w' w.heap.size v' (spubs l) ∧ Below w.heap.size w w' := by
  subst hn
  have HS := Lib.hid hs
  clear hs
  have HU := Lib.hid hu
  clear hu
  go_enter Tryz.func83, Tryz.ntmps83
  go_wp2_with fail
  go_loopw [1, 11] (fun b i wr => ∃ k : Nat, k ≤ l.length ∧ i = .int .i64 k ∧ OwnS wr w.heap.size b ((spubs l).take k) ∧ Below w.heap.size w wr) (fun _ i _ => l.length - (intOf i).toNat)
  case atStart => exact ⟨0, by omega, rfl, own_nilS w _, Below.refl _ _⟩
  case round =>
    obtain ⟨k, hk, rfl, ho, hb⟩ := hrel
    have HO := Lib.hid ho
    have HB := Lib.hid hb
    have hz := hb.size
    clear ho hb
    by_cases hlt : k < l.length
    · obtain ⟨ad, rfl, had, c0, c1⟩ := (HS.out.below HB.out) k hlt
      have B1 := Lib.hid (HB.out.alloc hz (.cells #[.int .i64 l[k].1, .int .u64 l[k].2] 37))
      have D1 := Lib.hid ((Below.refl wr.heap.size wr).alloc (Nat.le_refl _) (.cells #[.int .i64 l[k].1, .int .u64 l[k].2] 37))
      have HLen := Lib.hid (show ((spubs l).take k).length = k by unfold spubs; rw [List.length_take, List.length_map, Nat.min_eq_left hk])
      have HT := Lib.hid (pub_take l k hlt)
      have P := Lib.hid (fun v => takes_pub v l[k] (HU.out _ (List.getElem_mem hlt)) ((spubs l).take k) (by rw [HLen.out]; omega) w.heap.size (wr.alloc (.cells #[.int .i64 l[k].1, .int .u64 l[k].2] 37)) B1.out.size)
      go_wp2_with fail
      refine (P.out _ (own_below HO.out D1.out)).mono ?_; rintro e w2 ⟨v', rfl, ho, hb⟩
      have HO2 := Lib.hid ho
      have B2 := Lib.hid (B1.out.trans hb)
      clear ho hb
      go_wp2_with fail
      go_roundw
      case rel => exact ⟨k + 1, by omega, by go_num, by unfold spubs at HO2 ⊢; rw [HT.out]; exact HO2.out, B2.out⟩
      case measure => simp [intOf]; omega
    · obtain rfl : k = l.length := by omega
      have HA := Lib.hid (show (spubs l).take l.length = spubs l by rw [List.take_of_length_le (by unfold spubs; simp)])
      go_wp2_with fail
      go_ret
      exact ⟨_, rfl, by have h := HO.out; rwa [HA.out] at h, HB.out⟩

set_option maxRecDepth 100000 in
set_option maxHeartbeats 4000000 in
theorem throughJ_any (A : Option Addr) (n c : Nat) (l : List (Int × Int)) (hn : l.length = n) (hl : n ≤ 1048576) (hu : ∀ p ∈ l, 0 ≤ p.2 ∧ p.2 < 18446744073709551616) (Bw Bi Bp : Nat) (pl : Int) (ids : List Int) (p0 : 0 ≤ pl) (p1 : pl < 9223372036854775808) (hr : RightI ids) (hm : ∀ p ∈ l, p.1 ∈ ids) (w : World) (hs : SS w w.heap.size A l) (hw : WBox w Bw Bi Bp ids pl) :
    Calls Tryz.prog 81 #[.slice A n c, .int .u64 0, .func (.func 82) #[] #[.pointer (some ⟨Bw, 0, none⟩)]] w fun e w' => e = .returned (.int .u64 (jat ids pl l)) ∧ Below w.heap.size w w' := by
  subst hn
  have HS := Lib.hid hs
  clear hs
  have HU := Lib.hid hu
  have HW := Lib.hid hw
  have HR := Lib.hid hr
  have HM := Lib.hid hm
  clear hu hw hr hm
  go_enter Tryz.func81, Tryz.ntmps81
  go_wp2_with fail
  go_loopw [1, 11] (fun b i wr => ∃ k : Nat, k ≤ l.length ∧ i = .int .i64 k ∧ b = .int .u64 (jat ids pl (l.take k)) ∧ Below w.heap.size w wr) (fun _ i _ => l.length - (intOf i).toNat)
  case atStart => exact ⟨0, by omega, rfl, rfl, Below.refl _ _⟩
  case round =>
    obtain ⟨k, hk, rfl, ho, hb⟩ := hrel
    have HO := Lib.hid ho
    have HB := Lib.hid hb
    have hz := hb.size
    clear ho hb
    by_cases hlt : k < l.length
    · obtain ⟨ad, rfl, had, c0, c1⟩ := (HS.out.below HB.out) k hlt
      have B1 := Lib.hid (HB.out.alloc hz (.cells #[.int .i64 l[k].1, .int .u64 l[k].2] 37))
      have D1 := Lib.hid ((Below.refl wr.heap.size wr).alloc (Nat.le_refl _) (.cells #[.int .i64 l[k].1, .int .u64 l[k].2] 37))
      obtain rfl := HO.out
      clear HO
      have hx := HU.out l[k] (List.getElem_mem hlt)
      haveI : IsU l[k].2 := ⟨hx.1, hx.2⟩
      have HT := Lib.hid (jat_take ids pl l k hlt)
      have P := Lib.hid (weighs Bw Bi Bp ids pl p0 p1 HR.out (jat ids pl (l.take k)) l[k] (HM.out _ (List.getElem_mem hlt)))
      clear hx
      go_wp2_with fail
      refine (P.out _ (HW.out.on B1.out)).mono ?_; rintro e w2 ⟨rfl, hb⟩
      have B2 := Lib.hid (B1.out.trans (hb.mono B1.out.size))
      clear hb
      go_wp2_with fail
      go_roundw
      case rel => exact ⟨k + 1, by omega, by go_num, by rw [HT.out]; rfl, B2.out⟩
      case measure => simp [intOf]; omega
    · obtain rfl : k = l.length := by omega
      obtain rfl := HO.out
      have HA := Lib.hid (List.take_length (l := l))
      rw [HA.out]
      go_wp2_with fail
      go_ret
      exact ⟨rfl, HB.out⟩

set_option maxRecDepth 100000 in
set_option maxHeartbeats 4000000 in
theorem throughQ_any (A : Option Addr) (n c : Nat) (l : List (Int × Int)) (hn : l.length = n) (hl : n ≤ 1048576) (hu : ∀ p ∈ l, 0 ≤ p.2 ∧ p.2 < 18446744073709551616) (Bw Bi Bp : Nat) (pl : Int) (ids : List Int) (p0 : 0 ≤ pl) (p1 : pl < 9223372036854775808) (hr : RightI ids) (hm : ∀ p ∈ l, p.1 ∈ ids) (w : World) (hs : SS w w.heap.size A l) (hw : WBox w Bw Bi Bp ids pl) :
    Calls Tryz.prog 81 #[.slice A n c, .int .u64 1, .func (.func 150) #[] #[.pointer (some ⟨Bw, 0, none⟩)]] w fun e w' => e = .returned (.int .u64 (qat ids pl l)) ∧ Below w.heap.size w w' := by
  subst hn
  have HS := Lib.hid hs
  clear hs
  have HU := Lib.hid hu
  have HW := Lib.hid hw
  have HR := Lib.hid hr
  have HM := Lib.hid hm
  clear hu hw hr hm
  go_enter Tryz.func81, Tryz.ntmps81
  go_wp2_with fail
  go_loopw [1, 11] (fun b i wr => ∃ k : Nat, k ≤ l.length ∧ i = .int .i64 k ∧ b = .int .u64 (qat ids pl (l.take k)) ∧ Below w.heap.size w wr) (fun _ i _ => l.length - (intOf i).toNat)
  case atStart => exact ⟨0, by omega, rfl, rfl, Below.refl _ _⟩
  case round =>
    obtain ⟨k, hk, rfl, ho, hb⟩ := hrel
    have HO := Lib.hid ho
    have HB := Lib.hid hb
    have hz := hb.size
    clear ho hb
    by_cases hlt : k < l.length
    · obtain ⟨ad, rfl, had, c0, c1⟩ := (HS.out.below HB.out) k hlt
      have B1 := Lib.hid (HB.out.alloc hz (.cells #[.int .i64 l[k].1, .int .u64 l[k].2] 37))
      have D1 := Lib.hid ((Below.refl wr.heap.size wr).alloc (Nat.le_refl _) (.cells #[.int .i64 l[k].1, .int .u64 l[k].2] 37))
      obtain rfl := HO.out
      clear HO
      have hx := HU.out l[k] (List.getElem_mem hlt)
      haveI : IsU l[k].2 := ⟨hx.1, hx.2⟩
      have HT := Lib.hid (qat_take ids pl l k hlt)
      have P := Lib.hid (weighs_q Bw Bi Bp ids pl p0 p1 HR.out (qat ids pl (l.take k)) l[k] (HM.out _ (List.getElem_mem hlt)))
      clear hx
      go_wp2_with fail
      refine (P.out _ (HW.out.on B1.out)).mono ?_; rintro e w2 ⟨rfl, hb⟩
      have B2 := Lib.hid (B1.out.trans (hb.mono B1.out.size))
      clear hb
      go_wp2_with fail
      go_roundw
      case rel => exact ⟨k + 1, by omega, by go_num, by rw [HT.out]; rfl, B2.out⟩
      case measure => simp [intOf]; omega
    · obtain rfl : k = l.length := by omega
      obtain rfl := HO.out
      have HA := Lib.hid (List.take_length (l := l))
      rw [HA.out]
      go_wp2_with fail
      go_ret
      exact ⟨rfl, HB.out⟩

set_option maxRecDepth 100000 in
set_option maxHeartbeats 4000000 in
theorem throughB_any (A : Option Addr) (n c : Nat) (l : List (Int × Int)) (hn : l.length = n) (hl : n ≤ 1048576) (hu : ∀ p ∈ l, 0 ≤ p.2 ∧ p.2 < 18446744073709551616) (Bw : Nat) (w : World) (hs : SS w w.heap.size A l) (hBw : Bw < w.heap.size) (hw : w.cell? ⟨Bw, 0, none⟩ = some (.func (.func 79) #[] #[])) :
    Calls Tryz.prog 124 #[.slice A n c, .bool true, .func (.func 125) #[] #[.pointer (some ⟨Bw, 0, none⟩)]] w fun e w' => e = .returned (.bool (l.all fun p => decide (p.2 < 1152921504606845789))) ∧ Below w.heap.size w w' := by
  subst hn
  have HS := Lib.hid hs
  clear hs
  have HU := Lib.hid hu
  have HW := Lib.hid hw
  clear hu hw
  go_enter Tryz.func124, Tryz.ntmps124
  go_wp2_with fail
  go_loopw [1, 11] (fun b i wr => ∃ k : Nat, k ≤ l.length ∧ i = .int .i64 k ∧ b = .bool ((l.take k).all fun p => decide (p.2 < 1152921504606845789)) ∧ Below w.heap.size w wr) (fun _ i _ => l.length - (intOf i).toNat)
  case atStart => exact ⟨0, by omega, rfl, rfl, Below.refl _ _⟩
  case round =>
    obtain ⟨k, hk, rfl, ho, hb⟩ := hrel
    have HO := Lib.hid ho
    have HB := Lib.hid hb
    have hz := hb.size
    clear ho hb
    by_cases hlt : k < l.length
    · obtain ⟨ad, rfl, had, c0, c1⟩ := (HS.out.below HB.out) k hlt
      have B1 := Lib.hid (HB.out.alloc hz (.cells #[.int .i64 l[k].1, .int .u64 l[k].2] 37))
      have D1 := Lib.hid ((Below.refl wr.heap.size wr).alloc (Nat.le_refl _) (.cells #[.int .i64 l[k].1, .int .u64 l[k].2] 37))
      obtain rfl := HO.out
      clear HO
      have hx := HU.out l[k] (List.getElem_mem hlt)
      haveI : IsU l[k].2 := ⟨hx.1, hx.2⟩
      have HT := Lib.hid (show (l.take (k + 1)).all (fun p => decide (p.2 < 1152921504606845789)) = ((l.take k).all (fun p => decide (p.2 < 1152921504606845789)) && (fun p : Int × Int => decide (p.2 < 1152921504606845789)) l[k]) by rw [List.take_succ_eq_append_getElem hlt, List.all_append]; simp)
      have P := Lib.hid (all_below Bw ((l.take k).all (fun p => decide (p.2 < 1152921504606845789))) l[k])
      have hz1 := B1.out.size
      have HW1 := Lib.hid ((B1.out.cell (p := ⟨Bw, 0, none⟩) hBw).trans HW.out)
      clear hx
      go_wp2_with fail
      refine (P.out _ (by omega) HW1.out).mono ?_; rintro e w2 ⟨rfl, hb⟩
      have B2 := Lib.hid (B1.out.trans (hb.mono B1.out.size))
      clear hb
      go_wp2_with fail
      go_roundw
      case rel => exact ⟨k + 1, by omega, by go_num, by rw [HT.out], B2.out⟩
      case measure => simp [intOf]; omega
    · obtain rfl : k = l.length := by omega
      obtain rfl := HO.out
      have HA := Lib.hid (List.take_length (l := l))
      rw [HA.out]
      go_wp2_with fail
      go_ret
      exact ⟨rfl, HB.out⟩

set_option maxRecDepth 100000 in
set_option maxHeartbeats 4000000 in
theorem throughIn_any (A : Option Addr) (n c : Nat) (l : List (Int × Int)) (hn : l.length = n) (hl : n ≤ 1048576) (hu : ∀ p ∈ l, 0 ≤ p.2 ∧ p.2 < 18446744073709551616) (Bw : Nat) (w : World) (hs : SS w w.heap.size A l) (hBw : Bw < w.heap.size) (hw : w.cell? ⟨Bw, 0, none⟩ = some (.func (.func 71) #[] #[])) :
    Calls Tryz.prog 124 #[.slice A n c, .bool true, .func (.func 125) #[] #[.pointer (some ⟨Bw, 0, none⟩)]] w fun e w' => e = .returned (.bool (l.all fun p => qin p.2)) ∧ Below w.heap.size w w' := by
  subst hn
  have HS := Lib.hid hs
  clear hs
  have HU := Lib.hid hu
  have HW := Lib.hid hw
  clear hu hw
  go_enter Tryz.func124, Tryz.ntmps124
  go_wp2_with fail
  go_loopw [1, 11] (fun b i wr => ∃ k : Nat, k ≤ l.length ∧ i = .int .i64 k ∧ b = .bool ((l.take k).all fun p => qin p.2) ∧ Below w.heap.size w wr) (fun _ i _ => l.length - (intOf i).toNat)
  case atStart => exact ⟨0, by omega, rfl, rfl, Below.refl _ _⟩
  case round =>
    obtain ⟨k, hk, rfl, ho, hb⟩ := hrel
    have HO := Lib.hid ho
    have HB := Lib.hid hb
    have hz := hb.size
    clear ho hb
    by_cases hlt : k < l.length
    · obtain ⟨ad, rfl, had, c0, c1⟩ := (HS.out.below HB.out) k hlt
      have B1 := Lib.hid (HB.out.alloc hz (.cells #[.int .i64 l[k].1, .int .u64 l[k].2] 37))
      have D1 := Lib.hid ((Below.refl wr.heap.size wr).alloc (Nat.le_refl _) (.cells #[.int .i64 l[k].1, .int .u64 l[k].2] 37))
      obtain rfl := HO.out
      clear HO
      have hx := HU.out l[k] (List.getElem_mem hlt)
      haveI : IsU l[k].2 := ⟨hx.1, hx.2⟩
      have HT := Lib.hid (show (l.take (k + 1)).all (fun p => qin p.2) = ((l.take k).all (fun p => qin p.2) && (fun p : Int × Int => qin p.2) l[k]) by rw [List.take_succ_eq_append_getElem hlt, List.all_append]; simp)
      have P := Lib.hid (all_in Bw ((l.take k).all (fun p => qin p.2)) l[k])
      have hz1 := B1.out.size
      have HW1 := Lib.hid ((B1.out.cell (p := ⟨Bw, 0, none⟩) hBw).trans HW.out)
      clear hx
      go_wp2_with fail
      refine (P.out _ (by omega) HW1.out).mono ?_; rintro e w2 ⟨rfl, hb⟩
      have B2 := Lib.hid (B1.out.trans (hb.mono B1.out.size))
      clear hb
      go_wp2_with fail
      go_roundw
      case rel => exact ⟨k + 1, by omega, by go_num, by rw [HT.out], B2.out⟩
      case measure => simp [intOf]; omega
    · obtain rfl : k = l.length := by omega
      obtain rfl := HO.out
      have HA := Lib.hid (List.take_length (l := l))
      rw [HA.out]
      go_wp2_with fail
      go_ret
      exact ⟨rfl, HB.out⟩
end Go.Proofs.YtlannmedefjfhaaGreat
