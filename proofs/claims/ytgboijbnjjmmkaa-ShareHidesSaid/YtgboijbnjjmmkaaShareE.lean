/- The document's own answers: the same shares; a secret split. -/
import Derived.Test.YtgboijbnjjmmkaaShareD
import Derived.Test.YtgboijbnjjmmkaaSignLib
namespace Go.Proofs.Ytgboijbnjjmmkaa
open Go.ChangeShapes Go.WideShapes Go.ChangeAt Go.RowKit Gs
set_option linter.unusedVariables false

set_option maxHeartbeats 2000000 in
theorem SameS_yes (A A' : Option Addr) (c c' : Nat) (l : List (Int × Int)) (hl : l.length ≤ 1048576) (B : Nat) (w : World) (hs : SS w B A l) (hs' : SS w B A' l) :
    Calls Try.prog 17 #[.slice A l.length c, .slice A' l.length c'] w fun e w' => e = .returned (.bool true) ∧ Dr w w' := by
  have HS := Lib.hid hs
  have HS' := Lib.hid hs'
  clear hs hs'
  go_enter Try.func17, Try.ntmps17
  go_wp2_with fail
  go_loopw [5] (fun i wr => ∃ k : Nat, k ≤ l.length ∧ i = .int .i64 k ∧ Dr w wr) (fun i _ => l.length - (intOf i).toNat)
  case atStart => exact ⟨0, by omega, rfl, Dr.refl _⟩
  case round =>
    obtain ⟨k, hk, rfl, hd⟩ := hrel
    have HD := Lib.hid hd
    clear hd
    by_cases hlt : k < l.length
    · obtain ⟨ad, rfl, hb, c0, c1⟩ := (HD.out.ss HS.out) k hlt
      obtain ⟨ad', rfl, hb', c2, c3⟩ := (HD.out.ss HS'.out) k hlt
      go_wp2_with fail
      go_quiet (fail)
      go_wp2_with fail
      go_roundw
      case rel => exact ⟨k + 1, by omega, by go_num, HD.out.drewN _⟩
      case measure => simp [intOf]; omega
    · go_wp2_with fail
      go_ret
      exact ⟨rfl, HD.out⟩

/-- The i-th coefficient behind the secret. -/
def coef (seed : List Int) (i : Nat) : Int := hof ⟨#[115, 104, 97, 114, 101]⟩ [seed, [(i : Int)]] 1152921504606845789
theorem coef_rb (seed : List Int) (i : Nat) : Rb (coef seed i) := hof_bound _ _ (by omega)
/-- The polynomial: its first k coefficients. -/
def cpoly (s : Int) (seed : List Int) (k : Nat) : List Int := (List.range k).map fun j => if j = 0 then s else coef seed j
theorem cpoly_length (s : Int) (seed : List Int) (k : Nat) : (cpoly s seed k).length = k := by simp [cpoly]
theorem cpoly_one (s : Int) (seed : List Int) : cpoly s seed 1 = [s] := rfl
theorem cpoly_succ (s : Int) (seed : List Int) (k : Nat) (h : 1 ≤ k) : cpoly s seed (k + 1) = cpoly s seed k ++ [coef seed k] := by
  unfold cpoly
  rw [List.range_succ, List.map_append, List.map_singleton, if_neg (by omega)]
theorem cpoly_rb {s : Int} (seed : List Int) (k : Nat) (h : Rb s) : ∀ x ∈ cpoly s seed k, Rb x := fun x hx => by
  obtain ⟨j, _, rfl⟩ := List.mem_map.1 hx
  show Rb (if j = 0 then s else coef seed j)
  split
  · exact h
  · exact coef_rb _ _
/-- The first n shares of a polynomial. -/
def csplit (c : List Int) (n : Nat) : List (Int × Int) := (List.range n).map fun (j : Nat) => ((j : Int) + 1, pval ((j : Int) + 1) c)
theorem csplit_length (c : List Int) (n : Nat) : (csplit c n).length = n := by simp [csplit]
theorem csplit_succ (c : List Int) (n : Nat) : csplit c (n + 1) = csplit c n ++ [((n : Int) + 1, pval ((n : Int) + 1) c)] := by
  unfold csplit
  rw [List.range_succ, List.map_append, List.map_singleton]
theorem share_parts (i : Nat) {xs : List Int} (hx : ∀ x ∈ xs, 0 ≤ x ∧ x < 256) (hl : xs.length ≤ 1000) (hi : i < 256) : Parts ⟨#[115, 104, 97, 114, 101]⟩ [xs, [(i : Int)]] :=
  ⟨by
    intro q hq
    simp only [List.mem_cons, List.not_mem_nil, or_false] at hq
    rcases hq with rfl | rfl
    · exact hx
    · intro x hx; simp at hx; omega, by simp [psz, ByteArray.size]; omega, by simp⟩
/-- A secret may be split. -/
def SplitI (s t n : Int) : Prop := 1 ≤ t ∧ t ≤ n ∧ n ≤ 7 ∧ s < 1152921504606845789

theorem refSplit_bad (s t n : Int) (s0 : 0 ≤ s) (h : ¬ SplitI s t n) (v : Value) (w : World) :
    Calls Try.prog 14 #[.int .u64 s, .int .i64 t, .int .i64 n, v] w fun e w' => e = .returned (.tuple #[.slice none 0 0, .int .i64 1]) ∧ w = w' := by
  have h : t < 1 ∨ (1 ≤ t ∧ n < t) ∨ (1 ≤ t ∧ t ≤ n ∧ 7 < n) ∨ (1 ≤ t ∧ t ≤ n ∧ n ≤ 7 ∧ 1152921504606845789 ≤ s) := by unfold SplitI at h; omega
  rcases h with h | ⟨h1, h2⟩ | ⟨h1, h2, h3⟩ | ⟨h1, h2, h3, h4⟩
  all_goals
    go_enter Try.func14, Try.ntmps14
    go_wp2_with fail
    go_ret2
    exact ⟨rfl, rfl⟩

theorem own_oneU (w : World) (x : Int) : w.heap.size = w.heap.size → (w.alloc (.cells #[.int .u64 x] 22)).ownsRow w.heap.size 22 1 (.slice (some ⟨w.heap.size, 0, none⟩) 1 1) 1 [.int .u64 x] := fun _ =>
  ⟨rfl, .inr ⟨_, 1, #[.int .u64 x], rfl, Nat.le_refl _, World.alloc_heap_new w _, Nat.le_refl _, by unfold maxLen; omega, rfl, rfl⟩⟩
theorem sli_one (w : World) (t : TypeId) (x : Int) : Sli (w.alloc (.cells #[.int .u8 x] t)) (.slice (some ⟨w.heap.size, 0, none⟩) 1 1) [x] :=
  ⟨_, 1, rfl, Nat.le_refl _, by unfold maxLen; omega, fun j hj => by
    obtain rfl : j = 0 := by simpa using hj
    exact ⟨_, rfl, (Blk.new_at w t #[.int .u8 x] rfl).lt, (Blk.new_at w t #[.int .u8 x] rfl).cell 0⟩⟩

set_option maxHeartbeats 8000000 in
theorem refSplit_ok (s : Int) (T n : Nat) (s0 : 0 ≤ s) (t1 : 1 ≤ T) (tn : T ≤ n) (n7 : n ≤ 7) (s1 : s < 1152921504606845789) (A : Option Addr) (c : Nat) (xs : List Int) (hx : ∀ x ∈ xs, 0 ≤ x ∧ x < 256) (hl : xs.length ≤ 1000) (hc : xs.length ≤ c) (hm : c ≤ maxLen) (w : World) (hs : SI w w.heap.size .u8 A xs) :
    Calls Try.prog 14 #[.int .u64 s, .int .i64 (T : Int), .int .i64 (n : Int), .slice A xs.length c] w fun e w' => ∃ v, e = .returned (.tuple #[v, .int .i64 0]) ∧ OwnS w' w.heap.size v (csplit (cpoly s xs T) n) ∧ Below w.heap.size w w' := by
  have V := Lib.hid (show Sli w (.slice A xs.length c) xs from ⟨A, c, rfl, hc, hm, hs⟩)
  have HX := Lib.hid hx
  obtain ⟨i0, hi, hz0, hz1, hz2⟩ := info_parts Try.info22
  have HI := Lib.hid (And.intro hi (And.intro hz0 (And.intro hz1 hz2)))
  obtain ⟨j0, hj, hy0, hy1, hy2⟩ := info_parts Try.info43
  have HJ := Lib.hid (And.intro hj (And.intro hy0 (And.intro hy1 hy2)))
  haveI : IsU 1152921504606845789 := ⟨by omega, by omega⟩
  clear hs hx hm hi hz0 hz1 hz2 hj hy0 hy1 hy2
  have q1 : decide ((T : Int) < 1) = false := decide_eq_false (by omega)
  have q2 : decide (n < T) = false := decide_eq_false (by omega)
  have q3 : decide ((7 : Int) < (n : Int)) = false := decide_eq_false (by omega)
  have q4 : decide (1152921504606845789 ≤ s) = false := decide_eq_false (by omega)
  go_enter Try.func14, Try.ntmps14
  go_wp2_with fail
  go_loopw [10, 11] (fun o j wr => ∃ k : Nat, 1 ≤ k ∧ k ≤ T ∧ j = .int .i64 k ∧ OwnU wr w.heap.size o (cpoly s xs k) ∧ Below w.heap.size w wr) (fun _ j _ => T - (intOf j).toNat)
  case atStart => exact ⟨1, by omega, t1, rfl, own_u (own_oneU w s rfl) rfl (by rw [cpoly_one]; rfl), (Below.refl _ _).alloc (Nat.le_refl _) _⟩
  case round =>
    obtain ⟨k, k1, hk, rfl, ho, hd⟩ := hrel
    have HO := Lib.hid ho
    have HD := Lib.hid hd
    have hz := hd.size
    clear ho hd
    by_cases hlt : k < T
    · have HP := Lib.hid (cpoly_succ s xs k k1)
      have HLen := Lib.hid (cpoly_length s xs k)
      have hwk : IntKind.u8.wrap (k : Int) = k := by rw [show IntKind.u8.wrap (k : Int) = (k : Int) % 256 from rfl]; omega
      have T1 := Lib.hid (fun A c' => refTagged_any ⟨#[115, 104, 97, 114, 101]⟩ A c' [xs, [(k : Int)]] (share_parts k HX.out hl (by omega)).byte (share_parts k HX.out hl (by omega)).len (share_parts k HX.out hl (by omega)).few)
      have M1 := Lib.hid (refNum_any (hst (coded (sbytes ⟨#[115, 104, 97, 114, 101]⟩) [xs, [(k : Int)]])).1 (hst (coded (sbytes ⟨#[115, 104, 97, 114, 101]⟩) [xs, [(k : Int)]])).2.1 1152921504606845789)
      rw [show hnum (hst (coded (sbytes ⟨#[115, 104, 97, 114, 101]⟩) [xs, [(k : Int)]])).1 (hst (coded (sbytes ⟨#[115, 104, 97, 114, 101]⟩) [xs, [(k : Int)]])).2.1 1152921504606845789 = coef xs k from rfl] at M1
      have V1 := Lib.hid (V.out.on HD.out)
      go_wp2_with fail
      refine (T1.out _ _ _ (sp2 (Blk.new_at (wr.alloc (.cells #[.int .u8 (k : Int)] 5)) _ _ (by simp)) (V1.out.on (((Below.refl _ _).alloc (Nat.le_refl _) _).alloc (by simp) _)) ((sli_one wr 5 k).on ((Below.refl _ _).alloc (Nat.le_refl _) _)))).mono ?_
      rintro e w1 ⟨rfl, b⟩
      have D1 := Lib.hid (below_on (((Below.refl wr.heap.size wr).alloc (Nat.le_refl _) _).alloc (by simp) _) b)
      clear b
      go_wp2_with fail
      refine (M1.out _).mono ?_; rintro e w2 ⟨rfl, b⟩
      have D2 := Lib.hid (below_on D1.out b)
      have HO2 := Lib.hid (own_below HO.out D2.out)
      have hz2 := D2.out.size
      clear b D1
      have HE := Lib.hid (HD.out.trans (D2.out.mono hz))
      go_wp2_with (at_builtin; refine wpList_append_own _ rfl _ _ 52 rfl w.heap.size 22 i0 (.int .u64 0) 1 8 Try.underlying52 HI.out.1 HI.out.2.1 HI.out.2.2.1 HI.out.2.2.2 rfl (by decide) _ _ _ rfl (HO2.out.alloc _) ⟨w2.heap.size, 0, none⟩ 1 1 [.int .u64 (coef xs k)] rfl rfl (cell_one_new _ _ _) (by simp [Value.oneCell']) (by rw [HLen.out]; unfold maxLen; omega) (by rw [HLen.out]; omega) (by simp; omega) ?_; intro v' w3 hown' hgrow _; have HO3 := Lib.hid hown'; have HG := Lib.hid hgrow; clear hown' hgrow)
      go_roundw
      case rel =>
        refine ⟨k + 1, by omega, by omega, by go_num, ?_, ?_⟩
        · rw [HP.out]
          exact own_u HO3.out (by simp) (by simp)
        · refine (HE.out.alloc (by omega) _).grown HG.out (by simp; omega) (fun g e => ?_)
          exact own_ge HO.out g e
      case measure => simp [intOf]; omega
    · obtain rfl : k = T := by omega
      obtain ⟨A1, c1, rfl, l1, m1, s1'⟩ := own_slice HO.out
      have HS1 := Lib.hid s1'
      have HLen := Lib.hid (cpoly_length s xs k)
      rw [HLen.out]
      have HRB := Lib.hid (cpoly_rb (s := s) xs k ⟨s0, s1⟩)
      clear s1' l1 m1
      obtain ⟨g0, hg0⟩ : ∃ g0, g0 = wr.heap.size := ⟨_, rfl⟩
      have hzg : w.heap.size ≤ g0 := by omega
      have HDg := Lib.hid HD.out
      rw [← hg0] at HS1
      have HS2 := Lib.hid (show ∀ wi, Below g0 wr wi → SI wi wi.heap.size .u64 A1 (cpoly s xs k) from fun wi h => (HS1.out.below h).more (by have := h.size; omega))
      go_wp2_with fail
      go_loopw [12, 13] (fun o j wi => ∃ m : Nat, m ≤ n ∧ j = .int .i64 ((m : Int) + 1) ∧ OwnS wi g0 o (csplit (cpoly s xs k) m) ∧ Below g0 wr wi) (fun _ j _ => (n + 1) - (intOf j).toNat)
      case atStart => exact ⟨0, by omega, rfl, own_noneS wr (by omega), (Below.refl _ _).alloc (by omega) _⟩
      case round =>
        obtain ⟨m, hm, rfl, ho, hd⟩ := hrel
        have HO5 := Lib.hid ho
        have HD5 := Lib.hid hd
        have hz5 := hd.size
        clear ho hd
        by_cases hmn : m < n
        · have HP := Lib.hid (csplit_succ (cpoly s xs k) m)
          have HL2 := Lib.hid (csplit_length (cpoly s xs k) m)
          have hwm : IntKind.u64.wrap ((m : Int) + 1) = (m : Int) + 1 := by rw [IntKind.wrap_u64]; omega
          haveI : IsU ((m : Int) + 1) := ⟨by omega, by omega⟩
          have P1 := Lib.hid (value_any A1 c1 (cpoly s xs k) (by rw [HLen.out]; omega) (fun x hx => by have := HRB.out x hx; unfold Rb at this; omega) ((m : Int) + 1))
          rw [HLen.out] at P1
          go_wp2_with fail
          refine (P1.out _ _ (HS2.out _ HD5.out)).mono ?_; rintro e w5 ⟨rfl, hd⟩
          have D5 := Lib.hid (hd.below wr.heap.size)
          have HO6 := Lib.hid (own_below HO5.out D5.out)
          have hz6 := D5.out.size
          clear hd
          go_wp2_with (at_builtin; refine wpList_append_any _ rfl _ _ 24 rfl g0 43 j0 (.agg #[.int .i64 0, .int .u64 0]) 2 16 Try.underlying24 HJ.out.1 HJ.out.2.1 HJ.out.2.2.1 HJ.out.2.2.2 rfl (by decide) _ _ _ rfl (own_below HO6.out ((Below.refl _ _).alloc (Nat.le_refl _) _)) _ _ 1 _ (cells2 [((m : Int) + 1, pval ((m : Int) + 1) (cpoly s xs k))]) rfl (reads_new (Blk.new_at w5 _ _ rfl) 1 rfl) (cells2_one _) (by rw [HL2.out]; unfold maxLen; omega) (by rw [HL2.out]; omega) (by simp; omega) ?_; intro v' w6 hown' hgrow _; have HO7 := Lib.hid hown'; have HG := Lib.hid hgrow; clear hown' hgrow)
          go_roundw
          case rel =>
            refine ⟨m + 1, by omega, by go_num, ?_, ?_⟩
            · rw [HP.out]
              have h := HO7.out
              rw [← cells2_append] at h
              exact own_s h (by simp) rfl
            · refine HD5.out.trans ((((D5.out.mono (by omega)).alloc (by omega) _).grown HG.out (by simp; omega) (fun g e => ?_)))
              exact own_ge HO5.out g e
          case measure => simp [intOf]; omega
        · obtain rfl : m = n := by omega
          go_wp2_with fail
          go_ret2
          exact ⟨_, rfl, Go.Joins.ownsRow_le HO5.out hzg, HDg.out.trans (HD5.out.mono hzg)⟩

/-- What Check tells is one number. -/
theorem check_told (t : Int) (ids : List Int) (l : List (Int × Int)) : ∃ n : Int, ∀ e, CheckE t ids l e → e = .returned (.int .i64 n) := by
  by_cases h1 : BadArg t ids
  · exact ⟨1, fun e h => h.bad h1⟩
  · by_cases h2 : Grp l
    · by_cases h3 : (l.length : Int) < t
      · exact ⟨50, fun e h => h.few h1 h2 h3⟩
      · by_cases h4 : Fits t.toNat ids l
        · exact ⟨0, fun e h => h.ok h1 h2 h3 h4⟩
        · exact ⟨60, fun e h => h.part h1 h2 h3 h4⟩
    · exact ⟨1, fun e h => h.out h1 h2⟩
end Go.Proofs.Ytgboijbnjjmmkaa
