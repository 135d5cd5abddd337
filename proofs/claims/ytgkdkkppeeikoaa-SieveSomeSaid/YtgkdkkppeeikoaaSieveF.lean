/- Contracts of the sieve: which of many may be in; and the document's own words. -/
import Derived.Test.YtgkdkkppeeikoaaSieveE
import Derived.Laws.BytesArg
namespace Go.Proofs.Ytgkdkkppeeikoaa
open Go.ChangeShapes Go.WideShapes Go.ChangeAt Go.RowKit Gs
set_option linter.unusedVariables false

theorem Try.info3 : (Try.prog.info? 3).map (fun i => (i.zero, i.size, i.bytes)) = some (some (.int .i64 0), 1, 8) := by kernel_rfl
/-- What a call has made: the slice value v owns the numbers xs. -/
def OwnN (w : World) (B : Nat) (v : Value) (xs : List Int) : Prop := w.ownsRow B 3 1 v xs.length (xs.map (Value.int .i64))
theorem own_n {w : World} {B n : Nat} {v : Value} {xs : List Int} {vs : List Value} (h : w.ownsRow B 3 1 v n vs) (hn : n = xs.length) (hv : vs = xs.map (Value.int .i64)) : OwnN w B v xs := by
  subst hn hv; exact h
theorem own_nilN (w : World) (B : Nat) : OwnN w B (.slice none 0 0) [] := World.ownsRow_nil _ _ _ _
theorem own_sliceN {w : World} {B : Nat} {v : Value} {xs : List Int} (h : OwnN w B v xs) : ∃ A c, v = .slice A xs.length c ∧ xs.length ≤ c ∧ c ≤ maxLen ∧ SI w w.heap.size .i64 A xs ∧ ∀ ad, A = some ad → B ≤ ad.block := by
  rcases h.2 with ⟨rfl, h0⟩ | ⟨g, cap, cur, rfl, hb, hg, hn, hm, _, _⟩
  · have : xs = [] := by simpa using h0
    subst this
    exact ⟨none, 0, rfl, Nat.le_refl _, by simp, fun j hj => by simp at hj, fun ad e => by cases e⟩
  · refine ⟨some ⟨g, 0, none⟩, cap, rfl, hn, hm, fun j hj => ?_, fun ad e => by cases e; exact hb⟩
    have hlt := (Array.getElem?_eq_some_iff.1 hg).1
    refine ⟨_, rfl, hlt, h.cells (g := g) rfl j _ ?_⟩
    rw [List.getElem?_map, List.getElem?_eq_getElem hj]; rfl
theorem filter_take {p : Int → Bool} (l : List Int) (k : Nat) (hk : k < l.length) : (l.take (k + 1)).filter p = (l.take k).filter p ++ (if p l[k] then [l[k]] else []) := by
  rw [List.take_succ_eq_append_getElem hk, List.filter_append]
  cases h : p l[k] <;> simp [h]

theorem SomeF_any (bits hashes salt : Int) (A : Option Addr) (len c : Nat) (B : List Int) (hB : IsBy B) (hl : B.length = len) (hcm : len ≤ maxLen) (Bx : Nat) (n : Int) (w : World)
    (hs : SI w w.heap.size .u8 A B) (hx : Blk w Bx 26 #[.int .i64 bits, .int .i64 hashes, .int .i64 salt, .slice A len c]) :
    Calls Try.prog 25 #[.int .i64 n, .pointer (some ⟨Bx, 0, none⟩)] w fun e w' => e = .returned (.bool (hasS bits hashes salt B n)) ∧ Below w.heap.size w w' := by
  have HH := Lib.hid (Has_any bits hashes salt A len c B hB hl hcm n)
  have HS := Lib.hid hs
  obtain ⟨c0, c1, c2, c3⟩ := hx.facts4
  clear hs hx hB hl
  go_enter Try.func25, Try.ntmps25
  go_wp2_with fail
  refine (HH.out _ HS.out).mono ?_; rintro e w' ⟨rfl, hb⟩
  have HB := Lib.hid hb
  clear hb
  go_wp2_with fail
  go_ret
  exact ⟨rfl, HB.out⟩

set_option maxHeartbeats 4000000 in
theorem sift_any (bits hashes salt : Int) (A : Option Addr) (len c : Nat) (B : List Int) (hB : IsBy B) (hl : B.length = len) (hcm : len ≤ maxLen) (Bx : Nat) (L : Option Addr) (cl : Nat) (l : List Int) (hll : l.length ≤ 1000000) (w : World)
    (hs : SI w w.heap.size .u8 A B) (hx : Blk w Bx 26 #[.int .i64 bits, .int .i64 hashes, .int .i64 salt, .slice A len c]) (hL : SI w w.heap.size .i64 L l) :
    Calls Try.prog 24 #[.slice L l.length cl, .func (.func 25) #[] #[.pointer (some ⟨Bx, 0, none⟩)]] w fun e w' => ∃ v, e = .returned v ∧ OwnN w' w.heap.size v (l.filter (hasS bits hashes salt B)) ∧ Below w.heap.size w w' := by
  obtain ⟨i0, hi, hz0, hz1, hz2⟩ := info_parts Try.info3
  have HI := Lib.hid (And.intro hi (And.intro hz0 (And.intro hz1 hz2)))
  have SF := Lib.hid (fun n W h1 h2 => SomeF_any bits hashes salt A len c B hB hl hcm Bx n W h1 h2)
  have HS := Lib.hid hs
  have HX := Lib.hid hx
  have HL := Lib.hid hL
  obtain ⟨p, hp⟩ : ∃ p, hasS bits hashes salt B = p := ⟨_, rfl⟩
  rw [hp] at SF ⊢
  clear hi hz0 hz1 hz2 hs hx hL hB hl hp
  go_enter Try.func24, Try.ntmps24
  go_wp2_with fail
  go_loopw [5, 10] (fun v i wr => ∃ k : Nat, k ≤ l.length ∧ i = .int .i64 (k : Int) ∧ OwnN wr w.heap.size v ((l.take k).filter p) ∧ Below w.heap.size w wr) (fun _ i _ => l.length - (intOf i).toNat)
  case atStart => exact ⟨0, by omega, rfl, own_nilN _ _, Below.refl _ _⟩
  case round =>
    obtain ⟨k, hk, rfl, ho, hb⟩ := hrel
    have HO := Lib.hid ho
    have HB := Lib.hid hb
    clear ho hb
    by_cases hlt : k < l.length
    · obtain ⟨ad, rfl, _, hc⟩ := (HL.out.below HB.out) k hlt
      rw [List.getElem?_eq_getElem hlt] at hc
      simp only [Option.getD_some] at hc
      have HF := Lib.hid (filter_take (p := p) l k hlt)
      have hfl : ((l.take k).filter p).length ≤ 1000000 := Nat.le_trans (List.length_filter_le _ _) (Nat.le_trans (List.length_take_le _ _) (by omega))
      generalize l[k] = n at hc HF
      go_wp2_with fail
      refine (SF.out n _ (HS.out.on HB.out) (HX.out.below HB.out HX.out.lt)).mono ?_; rintro e w1 ⟨rfl, b1⟩
      have HB1 := Lib.hid (belowOn HB.out b1)
      have HO1 := Lib.hid (show OwnN w1 w.heap.size u5 ((l.take k).filter p) from own_below HO.out b1)
      have hz := HB1.out.size
      cases hpn : p n
      · rw [hpn] at HF
        clear b1 hc hpn
        go_wp2_with fail
        go_roundw
        case rel => exact ⟨k + 1, by omega, by go_num, by rw [HF.out]; simpa using HO1.out, HB1.out⟩
        case measure => simp [intOf]; omega
      · rw [hpn] at HF
        clear b1 hc hpn
        go_wp2_with (at_builtin; refine wpList_append_own _ rfl _ _ 22 rfl w.heap.size 3 i0 (.int .i64 0) 1 8 Try.underlying22 HI.out.1 HI.out.2.1 HI.out.2.2.1 HI.out.2.2.2 rfl (by decide) _ _ _ rfl (HO1.out.alloc _) ⟨w1.heap.size, 0, none⟩ 1 1 [.int .i64 n] rfl rfl (cell_one_new _ _ _) (by simp [Value.oneCell']) (by unfold maxLen; omega) (by omega) (by simp; omega) ?_; intro v' w2 hown' hgrow _; have HO2 := Lib.hid hown'; have HG := Lib.hid hgrow; clear hown' hgrow)
        go_roundw
        case rel =>
          refine ⟨k + 1, by omega, by go_num, ?_, ?_⟩
          · rw [HF.out]
            exact own_n HO2.out (by simp) (by simp)
          · exact (HB1.out.alloc HB1.out.size _).grown HG.out (by simp; omega) (fun g e => own_ge HO1.out g e)
        case measure => simp [intOf]; omega
    · obtain rfl : k = l.length := by omega
      go_wp2_with fail
      go_ret
      exact ⟨_, rfl, by have := HO.out; rwa [List.take_length] at this, HB.out⟩

theorem Some_any (bits hashes salt : Int) (A : Option Addr) (len c : Nat) (B : List Int) (hB : IsBy B) (hl : B.length = len) (hcm : len ≤ maxLen) (L : Option Addr) (cl : Nat) (l : List Int) (hll : l.length ≤ 1000000) (w : World)
    (hs : SI w w.heap.size .u8 A B) (hL : SI w w.heap.size .i64 L l) :
    Calls Try.prog 14 #[svV bits hashes salt A len c, .slice L l.length cl] w fun e w' => ∃ v, e = .returned v ∧ OwnN w' w.heap.size v (l.filter (hasS bits hashes salt B)) ∧ Below w.heap.size w w' := by
  have b0 := (Below.refl w.heap.size w).alloc (Nat.le_refl _) (.cells #[.int .i64 bits, .int .i64 hashes, .int .i64 salt, .slice A len c] 26)
  have SI1 := Lib.hid (fun Bx hx => sift_any bits hashes salt A len c B hB hl hcm Bx L cl l hll _ (hs.on b0) hx (hL.on b0))
  have B0 := Lib.hid b0
  clear b0 hs hL hB hl
  go_enter Try.func14, Try.ntmps14
  go_wp2_with fail
  refine (SI1.out _ (Blk.new _ _ _)).mono ?_
  rintro e w1 ⟨v, rfl, ho, hb⟩
  have HO := Lib.hid ho
  have HB := Lib.hid (B0.out.trans (hb.mono B0.out.size))
  clear ho hb
  go_wp2_with fail
  go_ret
  exact ⟨v, rfl, Go.Joins.ownsRow_le HO.out (by simp), HB.out⟩

/-! The document's words. -/
theorem conv_sv {w : World} {B : Nat} {A : Option Addr} {xs : List Int} {n c : Nat} (hn : xs.length = n) (h : SI w B .u8 A xs) :
    (convert 24 9 (.slice A n c)).run Try.prog w = .ok (.string (strOfNums xs)) w := by
  subst hn
  rcases A with _ | ad
  · have h0 : xs = [] := by
      rcases xs with _ | ⟨x, r⟩
      · rfl
      · obtain ⟨ad, e, _⟩ := h 0 (by simp)
        cases e
    subst h0
    show (convert 24 9 (.slice none 0 c)).run Try.prog w = _
    rw [run_convert_bytes_string w 24 9 5 none 0 c Try.underlying24 Try.underlying5 Try.underlying9]
    rfl
  · have hl : (loadCells ad xs.length).run Try.prog w = .ok (xs.map (Value.int .u8)).toArray w := by
      have := run_loadCells_list (P := Try.prog) w ad (xs.map (Value.int .u8)) (fun j v hj => by
        have hj' : j < xs.length := by
          have := (List.getElem?_eq_some_iff.1 hj).1
          simpa using this
        obtain ⟨ad', e, _, hc⟩ := h j hj'
        cases e
        rw [hc]
        simp [List.getElem?_eq_getElem hj'] at hj ⊢
        rw [← hj])
      simpa using this
    rw [run_convert_bytes_string w 24 9 5 _ xs.length c Try.underlying24 Try.underlying5 Try.underlying9, run_bytesToString w _ xs.length c xs hl, foldl_push_bytes]
    simp [strOfNums, ByteArray.empty, ByteArray.emptyWithCapacity]
    rfl


theorem refFew_any (bits hashes salt : Int) (A : Option Addr) (len c : Nat) (hcm : len ≤ maxLen) (w : World) :
    Calls Try.prog 26 #[svV bits hashes salt A len c] w fun e w' => e = .returned (.bool (decide (len ≤ 1100))) ∧ Below w.heap.size w w' := by
  unfold maxLen at hcm
  go_enter Try.func26, Try.ntmps26
  go_wp2_with fail
  go_ret
  refine ⟨?_, (Below.refl _ _).alloc (Nat.le_refl _) _⟩
  congr 2
  simp; omega

set_option maxHeartbeats 1000000 in
theorem refSame_yes (bits hashes salt : Int) (A A' : Option Addr) (len c len' c' : Nat) (B : List Int) (hl : B.length = len) (hl' : B.length = len') (w : World) (hs : SI w w.heap.size .u8 A B) (hs' : SI w w.heap.size .u8 A' B) :
    Calls Try.prog 15 #[svV bits hashes salt A len c, svV bits hashes salt A' len' c'] w fun e w' => e = .returned (.bool true) ∧ Below w.heap.size w w' := by
  have b0 := nb1 w (.cells #[.int .i64 bits, .int .i64 hashes, .int .i64 salt, .slice A len c] 26) (.cells #[.int .i64 bits, .int .i64 hashes, .int .i64 salt, .slice A' len' c'] 26)
  have cv := conv_sv (c := c) hl (hs.on b0)
  have cv' := conv_sv (c := c') hl' (hs'.on b0)
  have e1 : (bits == bits) = true := by simp
  have e2 : (hashes == hashes) = true := by simp
  have e3 : (salt == salt) = true := by simp
  have B0 := Lib.hid b0
  clear hl hl' hs hs' b0
  go_enter Try.func15, Try.ntmps15
  go_wp2_with fail
  go_ret
  exact ⟨rfl, B0.out⟩

theorem refInts_yes (A A' : Option Addr) (n n' c c' : Nat) (xs : List Int) (hn : xs.length = n) (hn' : xs.length = n') (B B' : Nat) (w : World) (hl : n ≤ 1000000) (hs : SI w B .i64 A xs) (hs' : SI w B' .i64 A' xs) :
    Calls Try.prog 13 #[.slice A n c, .slice A' n' c'] w fun e w' => e = .returned (.bool true) ∧ Dr w w' := by
  obtain rfl : n = n' := by omega
  have HS := Lib.hid hs
  have HS' := Lib.hid hs'
  have HN := Lib.hid hn
  clear hs hs' hn hn'
  go_enter Try.func13, Try.ntmps13
  go_wp2_with fail
  go_loopw [5] (fun i wr => ∃ k m : Nat, k ≤ n ∧ i = .int .i64 (k : Int) ∧ wr = w.drewN m) (fun i _ => n - (intOf i).toNat)
  case atStart => exact ⟨0, 0, by omega, rfl, rfl⟩
  case round =>
    obtain ⟨k, m, hk, rfl, rfl⟩ := hrel
    by_cases hlt : k < n
    · obtain ⟨ad, rfl, hb, hc⟩ := HS.out k (by rw [HN.out]; exact hlt)
      obtain ⟨ad', rfl, hb', hc'⟩ := HS'.out k (by rw [HN.out]; exact hlt)
      go_wp2_with fail
      go_quiet (fail)
      go_wp2_with fail
      go_roundw
      case rel => exact ⟨k + 1, m + nq, by omega, by go_num, by first | rfl | rw [World.drewN_drewN]⟩
      case measure => simp [intOf]; omega
    · go_wp2_with fail
      go_ret
      exact ⟨rfl, _, rfl⟩
end Go.Proofs.Ytgkdkkppeeikoaa
