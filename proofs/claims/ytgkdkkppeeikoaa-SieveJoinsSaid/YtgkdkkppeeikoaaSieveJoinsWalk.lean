/- The walk of SieveJoins. (Printed by tools/gen_sieve_joins.py.) -/
import Derived.Test.YtgkdkkppeeikoaaSieveH
import Derived.StillTailTactics
namespace Go.Proofs.Ytgkdkkppeeikoaa
open Go.ChangeShapes Go.WideShapes Go.ChangeAt Go.RowKit Gs
set_option linter.unusedVariables false

theorem reads_u8 {w : World} {B : Nat} {A : Option Addr} {xs : List Int} {n : Nat} (hn : xs.length = n) (h : SI w B .u8 A xs) : Reads w B 1 A n (xs.map (Value.int .u8)) := by subst hn; exact reads_si h
theorem set_at (X : List Int) (k i : Nat) (v : Int) (hk : k < X.length) : (X.set k v)[i]?.getD 0 = if i = k then v else X[i]?.getD 0 := by
  by_cases h : i = k
  · subst h; rw [List.getElem?_set_self hk, if_pos rfl]; rfl
  · rw [List.getElem?_set_ne (by omega), if_neg h]
theorem join_end {bits hashes salt : Int} (hm : mayN bits hashes salt = true) (l m : List Int) (X : List Int) (n : Nat) (hn : (bits / 8).toNat = n) (hX : X.length = n) (h : ∀ i, i < n → X[i]?.getD 0 = orB ((ofB bits hashes salt l)[i]?.getD 0) ((ofB bits hashes salt m)[i]?.getD 0)) : X = ofB bits hashes salt (l ++ m) := by
  apply List.ext_getElem (by rw [hX, ofB_length, hn])
  intro i h1 h2
  have e := h i (by omega)
  rw [ofB_join hm l m i (by omega), List.getElem?_eq_getElem h1, List.getElem?_eq_getElem h2] at e
  exact e

/-- The row of bytes, the first k of them put together. -/
def JoinI (W1 : World) (base gx nb cx : Nat) (Ba Bb : List Int) (k : Nat) (wr : World) : Prop :=
  (∃ X : List Int, wr.ownsRow base 5 1 (.slice (some ⟨gx, 0, none⟩) nb cx) nb (X.map (Value.int .u8)) ∧ IsBy X ∧ (∀ j, j < k → X[j]?.getD 0 = orB (Ba[j]?.getD 0) (Bb[j]?.getD 0)) ∧ (∀ j, k ≤ j → X[j]?.getD 0 = Ba[j]?.getD 0)) ∧ Below base W1 wr
theorem JoinI.cell {W1 : World} {base gx nb cx : Nat} {Ba Bb : List Int} {k : Nat} {wr : World} (h : JoinI W1 base gx nb cx Ba Bb k wr) (hk : k < nb) : wr.cell? ⟨gx, k, none⟩ = some (.int .u8 (Ba[k]?.getD 0)) ∧ wr.frozen? ⟨gx, k, none⟩ = false := by
  obtain ⟨⟨X, ho, _, _, h2⟩, _⟩ := h
  have hl : X.length = nb := by have := ho.1; simpa using this
  have hc := ho.cellAt k (by omega)
  rw [List.getElem?_map, List.getElem?_eq_getElem (by omega)] at hc
  rw [← h2 k (Nat.le_refl _), List.getElem?_eq_getElem (by omega)]
  exact ⟨hc, ho.frozenAt k⟩
theorem JoinI.step {W1 : World} {base gx nb cx : Nat} {Ba Bb : List Int} {k : Nat} {wr : World} (h : JoinI W1 base gx nb cx Ba Bb k wr) (hk : k < nb) (hg : base ≤ gx) (ha : IsBy Ba) (hb : IsBy Bb) :
    JoinI W1 base gx nb cx Ba Bb (k + 1) (wr.setCell ⟨gx, k, none⟩ (.int .u8 (Go.bits .or .u8 (Ba[k]?.getD 0) (Bb[k]?.getD 0)))).drew := by
  obtain ⟨⟨X, ho, hX, h1, h2⟩, hB⟩ := h
  have hl : X.length = nb := by have := ho.1; simpa using this
  rw [or_u8 _ _ (at_by ha k) (at_by hb k)]
  have hs := ho.stored k (.int .u8 (orB (Ba[k]?.getD 0) (Bb[k]?.getD 0)))
  rw [← List.map_set] at hs
  refine ⟨⟨X.set k (orB (Ba[k]?.getD 0) (Bb[k]?.getD 0)), own_below hs.1 ((Below.refl _ _).drew), ?_, fun j hj => ?_, fun j hj => ?_⟩, (hB.setCell hg _).drew⟩
  · intro x hx
    rcases List.mem_or_eq_of_mem_set hx with hx | rfl
    · exact hX x hx
    · exact orB_bound (at_by ha k) (at_by hb k)
  · rw [set_at _ _ _ _ (by omega)]
    by_cases e : j = k
    · subst e; rw [if_pos rfl]
    · rw [if_neg e]; exact h1 j (by omega)
  · rw [set_at _ _ _ _ (by omega), if_neg (by omega)]; exact h2 j (by omega)

set_option maxRecDepth 100000 in
set_option maxHeartbeats 8000000 in
theorem joins_walk9 (L : Option Addr) (cl : Nat) (l : List Int) (M : Option Addr) (cm : Nat) (m : List Int) (bits hashes salt : Int) (W : World) (hL : SI W W.heap.size .i64 L l) (hlc : l.length ≤ cl) (hlm : cl ≤ maxLen) (hM : SI W W.heap.size .i64 M m) (hmc : m.length ≤ cm) (hmm : cm ≤ maxLen) :
    Calls Try.prog 6 #[.slice L l.length cl, .slice M m.length cm, .int .i64 bits, .int .i64 hashes, .int .i64 salt] W fun e w' => e = .returned (.bool true) ∧ Below W.heap.size W w' := by
  unfold maxLen at hlm hmm
  have hll : l.length ≤ 9223372036854775807 := by omega
  have hml : m.length ≤ 9223372036854775807 := by omega
  have HL0 := Lib.hid hL
  have HM0 := Lib.hid hM
  clear hL hM
  by_cases h30 : l.length ≤ 30
  rotate_left 1
  · have hgt : decide ((l.length : Int) ≤ 30) = false := decide_eq_false (by omega)
    go_enter Try.func6, Try.ntmps6
    go_wp2_with fail
    refine (live9 _).mono ?_; rintro e w0 ⟨rfl, b⟩
    have HB := Lib.hid b
    have HL := Lib.hid (HL0.out.on b)
    have HMM := Lib.hid (HM0.out.on b)
    clear b
    go_wp2_with fail
    go_ret
    exact ⟨rfl, HB.out⟩
  have hgt : decide ((l.length : Int) ≤ 30) = true := decide_eq_true (by omega)
  by_cases m30 : m.length ≤ 30
  rotate_left 1
  · have hgm : decide ((m.length : Int) ≤ 30) = false := decide_eq_false (by omega)
    go_enter Try.func6, Try.ntmps6
    go_wp2_with fail
    refine (live9 _).mono ?_; rintro e w0 ⟨rfl, b⟩
    have HB := Lib.hid b
    have HL := Lib.hid (HL0.out.on b)
    have HMM := Lib.hid (HM0.out.on b)
    clear b
    go_wp2_with fail
    go_ret
    exact ⟨rfl, HB.out⟩
  have hgm : decide ((m.length : Int) ≤ 30) = true := decide_eq_true (by omega)
  obtain ⟨i0, hi, hz0, hz1, hz2⟩ := info_parts Try.info3
  have HI := Lib.hid (And.intro hi (And.intro hz0 (And.intro hz1 hz2)))
  clear hi hz0 hz1 hz2
  obtain ⟨lb, hlb⟩ : ∃ lb, l ++ m = lb := ⟨_, rfl⟩
  have hlbl : lb.length ≤ 60 := by rw [← hlb, List.length_append]; omega
  have HLB := Lib.hid hlb
  clear hlb
  have OF := Lib.hid (fun X k c x hk hx W2 h => OfS_any bits hashes salt X k c x hk hx W2 h)
  cases hm : mayN bits hashes salt
  · have RA := Lib.hid (ofR_no (l := l) (.inl hm))
    have RB := Lib.hid (ofR_no (l := m) (.inl hm))
    have RC := Lib.hid (ofR_no (l := lb) (.inl hm))
    clear hm
    go_enter Try.func6, Try.ntmps6
    go_wp2_with fail
    refine (live9 _).mono ?_; rintro e w0 ⟨rfl, b⟩
    have HB := Lib.hid b
    have HL := Lib.hid (HL0.out.on b)
    have HMM := Lib.hid (HM0.out.on b)
    clear b
    go_wp2_with fail
    refine (OF.out L _ cl l rfl (by omega) _ HL.out).mono ?_; rintro e w2 ⟨⟨A1, n1, c1, rfl, hn1, hm1, hs1⟩, b⟩
    rw [RA.out] at hn1 hs1 ⊢
    have HB := Lib.hid (belowOn HB.out b)
    have HL := Lib.hid (HL.out.on b)
    have HMM := Lib.hid (HMM.out.on b)
    have S1 := Lib.hid (hs1)
    have N1 := Lib.hid hn1
    clear b hs1 hn1
    have na := nb0 w2 (.cells #[.int .i64 0, .int .i64 0, .int .i64 0, .slice A1 n1 c1] 26)
    have HB := Lib.hid (belowOn HB.out na)
    have HL := Lib.hid (HL.out.on na)
    have HMM := Lib.hid (HMM.out.on na)
    have S1 := Lib.hid (S1.out.on na)
    have X1 := Lib.hid (show Blk (w2.alloc (.cells #[.int .i64 0, .int .i64 0, .int .i64 0, .slice A1 n1 c1] 26)) w2.heap.size 26 #[.int .i64 0, .int .i64 0, .int .i64 0, .slice A1 n1 c1] from Blk.new_at _ _ _ rfl)
    clear na
    go_wp2_with fail
    refine (OF.out M _ cm m rfl (by omega) _ HMM.out).mono ?_; rintro e w3 ⟨⟨A2, n2, c2, rfl, hn2, hm2, hs2⟩, b⟩
    rw [RB.out] at hn2 hs2 ⊢
    have HB := Lib.hid (belowOn HB.out b)
    have HL := Lib.hid (HL.out.on b)
    have HMM := Lib.hid (HMM.out.on b)
    have S1 := Lib.hid (S1.out.on b)
    have X1 := Lib.hid (X1.out.below b X1.out.lt)
    have S2 := Lib.hid (hs2)
    have N2 := Lib.hid hn2
    clear b hs2 hn2
    have na := nb0 w3 (.cells #[.int .i64 0, .int .i64 0, .int .i64 0, .slice A2 n2 c2] 26)
    have HB := Lib.hid (belowOn HB.out na)
    have HL := Lib.hid (HL.out.on na)
    have HMM := Lib.hid (HMM.out.on na)
    have S1 := Lib.hid (S1.out.on na)
    have X1 := Lib.hid (X1.out.below na X1.out.lt)
    have S2 := Lib.hid (S2.out.on na)
    have X2 := Lib.hid (show Blk (w3.alloc (.cells #[.int .i64 0, .int .i64 0, .int .i64 0, .slice A2 n2 c2] 26)) w3.heap.size 26 #[.int .i64 0, .int .i64 0, .int .i64 0, .slice A2 n2 c2] from Blk.new_at _ _ _ rfl)
    clear na
    have OEa := Lib.hid (own_emptyN (w3.alloc (.cells #[.int .i64 0, .int .i64 0, .int .i64 0, .slice A2 n2 c2] 26)) (B := w3.heap.size + 1) (g := w3.heap.size + 1) (by simp <;> omega) (by simp))
    have BEa := Lib.hid (nb0 (w3.alloc (.cells #[.int .i64 0, .int .i64 0, .int .i64 0, .slice A2 n2 c2] 26)) (.cells #[] 3))
    have RLa := Lib.hid (show Reads ((w3.alloc (.cells #[.int .i64 0, .int .i64 0, .int .i64 0, .slice A2 n2 c2] 26)).alloc (.cells #[] 3)) (w3.alloc (.cells #[.int .i64 0, .int .i64 0, .int .i64 0, .slice A2 n2 c2] 26)).heap.size 1 L l.length (l.map (Value.int .i64)) from (reads_si HL.out).alloc (Nat.le_refl _) _)
    go_wp2_with (first | (at_builtin; refine wpList_append_any _ (by rfl) (.tmp 46) (.tmp 47) _ rfl (w3.heap.size + 1) 3 i0 (.int .i64 0) 1 8 Try.underlying22 HI.out.1 HI.out.2.1 HI.out.2.2.1 HI.out.2.2.2 rfl (by decide) _ 0 [] (by rfl) OEa.out (w3.alloc (.cells #[.int .i64 0, .int .i64 0, .int .i64 0, .slice A2 n2 c2] 26)).heap.size _ l.length _ (l.map (Value.int .i64)) rfl RLa.out (one_i64 _) (by unfold maxLen; omega) (by omega) (by simp <;> omega) ?_; intro va wa hoa hga _; have HOa := Lib.hid hoa; have HBa := Lib.hid (show Below (w3.alloc (.cells #[.int .i64 0, .int .i64 0, .int .i64 0, .slice A2 n2 c2] 26)).heap.size (w3.alloc (.cells #[.int .i64 0, .int .i64 0, .int .i64 0, .slice A2 n2 c2] 26)) wa from BEa.out.grown hga (by simp) (fun k e => by simp [Value.ownBlock] at e; subst e; simp)); have RLb := Lib.hid (show Reads wa (w3.alloc (.cells #[.int .i64 0, .int .i64 0, .int .i64 0, .slice A2 n2 c2] 26)).heap.size 1 M m.length (m.map (Value.int .i64)) from (reads_si HMM.out).below HBa.out); have hza := HBa.out.size; clear hoa hga) | (at_builtin; refine wpList_append_any _ (by rfl) (.tmp 48) (.tmp 49) _ rfl (w3.heap.size + 1) 3 i0 (.int .i64 0) 1 8 Try.underlying22 HI.out.1 HI.out.2.1 HI.out.2.2.1 HI.out.2.2.2 rfl (by decide) va (0 + l.length) ([] ++ l.map (Value.int .i64)) rfl HOa.out (w3.alloc (.cells #[.int .i64 0, .int .i64 0, .int .i64 0, .slice A2 n2 c2] 26)).heap.size _ m.length _ (m.map (Value.int .i64)) rfl RLb.out (one_i64 _) (by unfold maxLen; omega) (by omega) (by first | omega | (simp at hza; omega)) ?_; intro vb wb hob hgb _; obtain ⟨A5, c5, rfl, _, _, hsb, _⟩ := own_sliceN (own_n (xs := lb) hob (by rw [← HLB.out]; simp) (by rw [← HLB.out]; simp)); have HSb := Lib.hid hsb; have HBb := Lib.hid (show Below (w3.alloc (.cells #[.int .i64 0, .int .i64 0, .int .i64 0, .slice A2 n2 c2] 26)).heap.size (w3.alloc (.cells #[.int .i64 0, .int .i64 0, .int .i64 0, .slice A2 n2 c2] 26)) wb from HBa.out.grown hgb hza (fun k e => by have := own_ge HOa.out k e; simp at this ⊢; omega)); clear hob hgb hsb))
    have HB := Lib.hid (belowOn HB.out HBb.out)
    have HL := Lib.hid (HL.out.on HBb.out)
    have HMM := Lib.hid (HMM.out.on HBb.out)
    have S1 := Lib.hid (S1.out.on HBb.out)
    have X1 := Lib.hid (X1.out.below HBb.out X1.out.lt)
    have S2 := Lib.hid (S2.out.on HBb.out)
    have X2 := Lib.hid (X2.out.below HBb.out X2.out.lt)
    have SLB := Lib.hid (show SI wb wb.heap.size .i64 A5 lb from HSb.out)
    refine (OF.out A5 _ c5 lb rfl (by omega) _ SLB.out).mono ?_; rintro e w4 ⟨⟨A3, n3, c3, rfl, hn3, hm3, hs3⟩, b⟩
    rw [RC.out] at hn3 hs3 ⊢
    have HB := Lib.hid (belowOn HB.out b)
    have HL := Lib.hid (HL.out.on b)
    have HMM := Lib.hid (HMM.out.on b)
    have S1 := Lib.hid (S1.out.on b)
    have X1 := Lib.hid (X1.out.below b X1.out.lt)
    have S2 := Lib.hid (S2.out.on b)
    have X2 := Lib.hid (X2.out.below b X2.out.lt)
    have S3 := Lib.hid (hs3)
    have N3 := Lib.hid hn3
    clear b hs3 hn3
    have na := nb0 w4 (.cells #[.int .i64 0, .int .i64 0, .int .i64 0, .slice A3 n3 c3] 26)
    have HB := Lib.hid (belowOn HB.out na)
    have HL := Lib.hid (HL.out.on na)
    have HMM := Lib.hid (HMM.out.on na)
    have S1 := Lib.hid (S1.out.on na)
    have X1 := Lib.hid (X1.out.below na X1.out.lt)
    have S2 := Lib.hid (S2.out.on na)
    have X2 := Lib.hid (X2.out.below na X2.out.lt)
    have S3 := Lib.hid (S3.out.on na)
    have X3 := Lib.hid (show Blk (w4.alloc (.cells #[.int .i64 0, .int .i64 0, .int .i64 0, .slice A3 n3 c3] 26)) w4.heap.size 26 #[.int .i64 0, .int .i64 0, .int .i64 0, .slice A3 n3 c3] from Blk.new_at _ _ _ rfl)
    clear na
    go_wp2_with fail
    go_ret
    exact ⟨rfl, HB.out⟩
  cases hl : rights l
  · have RA := Lib.hid (ofR_no (bits := bits) (hashes := hashes) (salt := salt) (.inr hl))
    have RC := Lib.hid (ofR_no (bits := bits) (hashes := hashes) (salt := salt) (l := lb) (.inr (by rw [← HLB.out, rights_append, hl]; rfl)))
    clear hl
    cases hr : rights m
    · have RB := Lib.hid (ofR_no (bits := bits) (hashes := hashes) (salt := salt) (.inr hr))
      clear hm hr
      go_enter Try.func6, Try.ntmps6
      go_wp2_with fail
      refine (live9 _).mono ?_; rintro e w0 ⟨rfl, b⟩
      have HB := Lib.hid b
      have HL := Lib.hid (HL0.out.on b)
      have HMM := Lib.hid (HM0.out.on b)
      clear b
      go_wp2_with fail
      refine (OF.out L _ cl l rfl (by omega) _ HL.out).mono ?_; rintro e w2 ⟨⟨A1, n1, c1, rfl, hn1, hm1, hs1⟩, b⟩
      rw [RA.out] at hn1 hs1 ⊢
      have HB := Lib.hid (belowOn HB.out b)
      have HL := Lib.hid (HL.out.on b)
      have HMM := Lib.hid (HMM.out.on b)
      have S1 := Lib.hid (hs1)
      have N1 := Lib.hid hn1
      clear b hs1 hn1
      have na := nb0 w2 (.cells #[.int .i64 0, .int .i64 0, .int .i64 0, .slice A1 n1 c1] 26)
      have HB := Lib.hid (belowOn HB.out na)
      have HL := Lib.hid (HL.out.on na)
      have HMM := Lib.hid (HMM.out.on na)
      have S1 := Lib.hid (S1.out.on na)
      have X1 := Lib.hid (show Blk (w2.alloc (.cells #[.int .i64 0, .int .i64 0, .int .i64 0, .slice A1 n1 c1] 26)) w2.heap.size 26 #[.int .i64 0, .int .i64 0, .int .i64 0, .slice A1 n1 c1] from Blk.new_at _ _ _ rfl)
      clear na
      go_wp2_with fail
      refine (OF.out M _ cm m rfl (by omega) _ HMM.out).mono ?_; rintro e w3 ⟨⟨A2, n2, c2, rfl, hn2, hm2, hs2⟩, b⟩
      rw [RB.out] at hn2 hs2 ⊢
      have HB := Lib.hid (belowOn HB.out b)
      have HL := Lib.hid (HL.out.on b)
      have HMM := Lib.hid (HMM.out.on b)
      have S1 := Lib.hid (S1.out.on b)
      have X1 := Lib.hid (X1.out.below b X1.out.lt)
      have S2 := Lib.hid (hs2)
      have N2 := Lib.hid hn2
      clear b hs2 hn2
      have na := nb0 w3 (.cells #[.int .i64 0, .int .i64 0, .int .i64 0, .slice A2 n2 c2] 26)
      have HB := Lib.hid (belowOn HB.out na)
      have HL := Lib.hid (HL.out.on na)
      have HMM := Lib.hid (HMM.out.on na)
      have S1 := Lib.hid (S1.out.on na)
      have X1 := Lib.hid (X1.out.below na X1.out.lt)
      have S2 := Lib.hid (S2.out.on na)
      have X2 := Lib.hid (show Blk (w3.alloc (.cells #[.int .i64 0, .int .i64 0, .int .i64 0, .slice A2 n2 c2] 26)) w3.heap.size 26 #[.int .i64 0, .int .i64 0, .int .i64 0, .slice A2 n2 c2] from Blk.new_at _ _ _ rfl)
      clear na
      have OEa := Lib.hid (own_emptyN (w3.alloc (.cells #[.int .i64 0, .int .i64 0, .int .i64 0, .slice A2 n2 c2] 26)) (B := w3.heap.size + 1) (g := w3.heap.size + 1) (by simp <;> omega) (by simp))
      have BEa := Lib.hid (nb0 (w3.alloc (.cells #[.int .i64 0, .int .i64 0, .int .i64 0, .slice A2 n2 c2] 26)) (.cells #[] 3))
      have RLa := Lib.hid (show Reads ((w3.alloc (.cells #[.int .i64 0, .int .i64 0, .int .i64 0, .slice A2 n2 c2] 26)).alloc (.cells #[] 3)) (w3.alloc (.cells #[.int .i64 0, .int .i64 0, .int .i64 0, .slice A2 n2 c2] 26)).heap.size 1 L l.length (l.map (Value.int .i64)) from (reads_si HL.out).alloc (Nat.le_refl _) _)
      go_wp2_with (first | (at_builtin; refine wpList_append_any _ (by rfl) (.tmp 46) (.tmp 47) _ rfl (w3.heap.size + 1) 3 i0 (.int .i64 0) 1 8 Try.underlying22 HI.out.1 HI.out.2.1 HI.out.2.2.1 HI.out.2.2.2 rfl (by decide) _ 0 [] (by rfl) OEa.out (w3.alloc (.cells #[.int .i64 0, .int .i64 0, .int .i64 0, .slice A2 n2 c2] 26)).heap.size _ l.length _ (l.map (Value.int .i64)) rfl RLa.out (one_i64 _) (by unfold maxLen; omega) (by omega) (by simp <;> omega) ?_; intro va wa hoa hga _; have HOa := Lib.hid hoa; have HBa := Lib.hid (show Below (w3.alloc (.cells #[.int .i64 0, .int .i64 0, .int .i64 0, .slice A2 n2 c2] 26)).heap.size (w3.alloc (.cells #[.int .i64 0, .int .i64 0, .int .i64 0, .slice A2 n2 c2] 26)) wa from BEa.out.grown hga (by simp) (fun k e => by simp [Value.ownBlock] at e; subst e; simp)); have RLb := Lib.hid (show Reads wa (w3.alloc (.cells #[.int .i64 0, .int .i64 0, .int .i64 0, .slice A2 n2 c2] 26)).heap.size 1 M m.length (m.map (Value.int .i64)) from (reads_si HMM.out).below HBa.out); have hza := HBa.out.size; clear hoa hga) | (at_builtin; refine wpList_append_any _ (by rfl) (.tmp 48) (.tmp 49) _ rfl (w3.heap.size + 1) 3 i0 (.int .i64 0) 1 8 Try.underlying22 HI.out.1 HI.out.2.1 HI.out.2.2.1 HI.out.2.2.2 rfl (by decide) va (0 + l.length) ([] ++ l.map (Value.int .i64)) rfl HOa.out (w3.alloc (.cells #[.int .i64 0, .int .i64 0, .int .i64 0, .slice A2 n2 c2] 26)).heap.size _ m.length _ (m.map (Value.int .i64)) rfl RLb.out (one_i64 _) (by unfold maxLen; omega) (by omega) (by first | omega | (simp at hza; omega)) ?_; intro vb wb hob hgb _; obtain ⟨A5, c5, rfl, _, _, hsb, _⟩ := own_sliceN (own_n (xs := lb) hob (by rw [← HLB.out]; simp) (by rw [← HLB.out]; simp)); have HSb := Lib.hid hsb; have HBb := Lib.hid (show Below (w3.alloc (.cells #[.int .i64 0, .int .i64 0, .int .i64 0, .slice A2 n2 c2] 26)).heap.size (w3.alloc (.cells #[.int .i64 0, .int .i64 0, .int .i64 0, .slice A2 n2 c2] 26)) wb from HBa.out.grown hgb hza (fun k e => by have := own_ge HOa.out k e; simp at this ⊢; omega)); clear hob hgb hsb))
      have HB := Lib.hid (belowOn HB.out HBb.out)
      have HL := Lib.hid (HL.out.on HBb.out)
      have HMM := Lib.hid (HMM.out.on HBb.out)
      have S1 := Lib.hid (S1.out.on HBb.out)
      have X1 := Lib.hid (X1.out.below HBb.out X1.out.lt)
      have S2 := Lib.hid (S2.out.on HBb.out)
      have X2 := Lib.hid (X2.out.below HBb.out X2.out.lt)
      have SLB := Lib.hid (show SI wb wb.heap.size .i64 A5 lb from HSb.out)
      refine (OF.out A5 _ c5 lb rfl (by omega) _ SLB.out).mono ?_; rintro e w4 ⟨⟨A3, n3, c3, rfl, hn3, hm3, hs3⟩, b⟩
      rw [RC.out] at hn3 hs3 ⊢
      have HB := Lib.hid (belowOn HB.out b)
      have HL := Lib.hid (HL.out.on b)
      have HMM := Lib.hid (HMM.out.on b)
      have S1 := Lib.hid (S1.out.on b)
      have X1 := Lib.hid (X1.out.below b X1.out.lt)
      have S2 := Lib.hid (S2.out.on b)
      have X2 := Lib.hid (X2.out.below b X2.out.lt)
      have S3 := Lib.hid (hs3)
      have N3 := Lib.hid hn3
      clear b hs3 hn3
      have na := nb0 w4 (.cells #[.int .i64 0, .int .i64 0, .int .i64 0, .slice A3 n3 c3] 26)
      have HB := Lib.hid (belowOn HB.out na)
      have HL := Lib.hid (HL.out.on na)
      have HMM := Lib.hid (HMM.out.on na)
      have S1 := Lib.hid (S1.out.on na)
      have X1 := Lib.hid (X1.out.below na X1.out.lt)
      have S2 := Lib.hid (S2.out.on na)
      have X2 := Lib.hid (X2.out.below na X2.out.lt)
      have S3 := Lib.hid (S3.out.on na)
      have X3 := Lib.hid (show Blk (w4.alloc (.cells #[.int .i64 0, .int .i64 0, .int .i64 0, .slice A3 n3 c3] 26)) w4.heap.size 26 #[.int .i64 0, .int .i64 0, .int .i64 0, .slice A3 n3 c3] from Blk.new_at _ _ _ rfl)
      clear na
      go_wp2_with fail
      go_ret
      exact ⟨rfl, HB.out⟩
    · have RB := Lib.hid (ofR_ok hm hr)
      clear hm hr
      go_enter Try.func6, Try.ntmps6
      go_wp2_with fail
      refine (live9 _).mono ?_; rintro e w0 ⟨rfl, b⟩
      have HB := Lib.hid b
      have HL := Lib.hid (HL0.out.on b)
      have HMM := Lib.hid (HM0.out.on b)
      clear b
      go_wp2_with fail
      refine (OF.out L _ cl l rfl (by omega) _ HL.out).mono ?_; rintro e w2 ⟨⟨A1, n1, c1, rfl, hn1, hm1, hs1⟩, b⟩
      rw [RA.out] at hn1 hs1 ⊢
      have HB := Lib.hid (belowOn HB.out b)
      have HL := Lib.hid (HL.out.on b)
      have HMM := Lib.hid (HMM.out.on b)
      have S1 := Lib.hid (hs1)
      have N1 := Lib.hid hn1
      clear b hs1 hn1
      have na := nb0 w2 (.cells #[.int .i64 0, .int .i64 0, .int .i64 0, .slice A1 n1 c1] 26)
      have HB := Lib.hid (belowOn HB.out na)
      have HL := Lib.hid (HL.out.on na)
      have HMM := Lib.hid (HMM.out.on na)
      have S1 := Lib.hid (S1.out.on na)
      have X1 := Lib.hid (show Blk (w2.alloc (.cells #[.int .i64 0, .int .i64 0, .int .i64 0, .slice A1 n1 c1] 26)) w2.heap.size 26 #[.int .i64 0, .int .i64 0, .int .i64 0, .slice A1 n1 c1] from Blk.new_at _ _ _ rfl)
      clear na
      go_wp2_with fail
      refine (OF.out M _ cm m rfl (by omega) _ HMM.out).mono ?_; rintro e w3 ⟨⟨A2, n2, c2, rfl, hn2, hm2, hs2⟩, b⟩
      rw [RB.out] at hn2 hs2 ⊢
      have HB := Lib.hid (belowOn HB.out b)
      have HL := Lib.hid (HL.out.on b)
      have HMM := Lib.hid (HMM.out.on b)
      have S1 := Lib.hid (S1.out.on b)
      have X1 := Lib.hid (X1.out.below b X1.out.lt)
      have S2 := Lib.hid (hs2)
      have N2 := Lib.hid hn2
      clear b hs2 hn2
      have na := nb0 w3 (.cells #[.int .i64 bits, .int .i64 hashes, .int .i64 salt, .slice A2 n2 c2] 26)
      have HB := Lib.hid (belowOn HB.out na)
      have HL := Lib.hid (HL.out.on na)
      have HMM := Lib.hid (HMM.out.on na)
      have S1 := Lib.hid (S1.out.on na)
      have X1 := Lib.hid (X1.out.below na X1.out.lt)
      have S2 := Lib.hid (S2.out.on na)
      have X2 := Lib.hid (show Blk (w3.alloc (.cells #[.int .i64 bits, .int .i64 hashes, .int .i64 salt, .slice A2 n2 c2] 26)) w3.heap.size 26 #[.int .i64 bits, .int .i64 hashes, .int .i64 salt, .slice A2 n2 c2] from Blk.new_at _ _ _ rfl)
      clear na
      have OEa := Lib.hid (own_emptyN (w3.alloc (.cells #[.int .i64 bits, .int .i64 hashes, .int .i64 salt, .slice A2 n2 c2] 26)) (B := w3.heap.size + 1) (g := w3.heap.size + 1) (by simp <;> omega) (by simp))
      have BEa := Lib.hid (nb0 (w3.alloc (.cells #[.int .i64 bits, .int .i64 hashes, .int .i64 salt, .slice A2 n2 c2] 26)) (.cells #[] 3))
      have RLa := Lib.hid (show Reads ((w3.alloc (.cells #[.int .i64 bits, .int .i64 hashes, .int .i64 salt, .slice A2 n2 c2] 26)).alloc (.cells #[] 3)) (w3.alloc (.cells #[.int .i64 bits, .int .i64 hashes, .int .i64 salt, .slice A2 n2 c2] 26)).heap.size 1 L l.length (l.map (Value.int .i64)) from (reads_si HL.out).alloc (Nat.le_refl _) _)
      go_wp2_with (first | (at_builtin; refine wpList_append_any _ (by rfl) (.tmp 46) (.tmp 47) _ rfl (w3.heap.size + 1) 3 i0 (.int .i64 0) 1 8 Try.underlying22 HI.out.1 HI.out.2.1 HI.out.2.2.1 HI.out.2.2.2 rfl (by decide) _ 0 [] (by rfl) OEa.out (w3.alloc (.cells #[.int .i64 bits, .int .i64 hashes, .int .i64 salt, .slice A2 n2 c2] 26)).heap.size _ l.length _ (l.map (Value.int .i64)) rfl RLa.out (one_i64 _) (by unfold maxLen; omega) (by omega) (by simp <;> omega) ?_; intro va wa hoa hga _; have HOa := Lib.hid hoa; have HBa := Lib.hid (show Below (w3.alloc (.cells #[.int .i64 bits, .int .i64 hashes, .int .i64 salt, .slice A2 n2 c2] 26)).heap.size (w3.alloc (.cells #[.int .i64 bits, .int .i64 hashes, .int .i64 salt, .slice A2 n2 c2] 26)) wa from BEa.out.grown hga (by simp) (fun k e => by simp [Value.ownBlock] at e; subst e; simp)); have RLb := Lib.hid (show Reads wa (w3.alloc (.cells #[.int .i64 bits, .int .i64 hashes, .int .i64 salt, .slice A2 n2 c2] 26)).heap.size 1 M m.length (m.map (Value.int .i64)) from (reads_si HMM.out).below HBa.out); have hza := HBa.out.size; clear hoa hga) | (at_builtin; refine wpList_append_any _ (by rfl) (.tmp 48) (.tmp 49) _ rfl (w3.heap.size + 1) 3 i0 (.int .i64 0) 1 8 Try.underlying22 HI.out.1 HI.out.2.1 HI.out.2.2.1 HI.out.2.2.2 rfl (by decide) va (0 + l.length) ([] ++ l.map (Value.int .i64)) rfl HOa.out (w3.alloc (.cells #[.int .i64 bits, .int .i64 hashes, .int .i64 salt, .slice A2 n2 c2] 26)).heap.size _ m.length _ (m.map (Value.int .i64)) rfl RLb.out (one_i64 _) (by unfold maxLen; omega) (by omega) (by first | omega | (simp at hza; omega)) ?_; intro vb wb hob hgb _; obtain ⟨A5, c5, rfl, _, _, hsb, _⟩ := own_sliceN (own_n (xs := lb) hob (by rw [← HLB.out]; simp) (by rw [← HLB.out]; simp)); have HSb := Lib.hid hsb; have HBb := Lib.hid (show Below (w3.alloc (.cells #[.int .i64 bits, .int .i64 hashes, .int .i64 salt, .slice A2 n2 c2] 26)).heap.size (w3.alloc (.cells #[.int .i64 bits, .int .i64 hashes, .int .i64 salt, .slice A2 n2 c2] 26)) wb from HBa.out.grown hgb hza (fun k e => by have := own_ge HOa.out k e; simp at this ⊢; omega)); clear hob hgb hsb))
      have HB := Lib.hid (belowOn HB.out HBb.out)
      have HL := Lib.hid (HL.out.on HBb.out)
      have HMM := Lib.hid (HMM.out.on HBb.out)
      have S1 := Lib.hid (S1.out.on HBb.out)
      have X1 := Lib.hid (X1.out.below HBb.out X1.out.lt)
      have S2 := Lib.hid (S2.out.on HBb.out)
      have X2 := Lib.hid (X2.out.below HBb.out X2.out.lt)
      have SLB := Lib.hid (show SI wb wb.heap.size .i64 A5 lb from HSb.out)
      refine (OF.out A5 _ c5 lb rfl (by omega) _ SLB.out).mono ?_; rintro e w4 ⟨⟨A3, n3, c3, rfl, hn3, hm3, hs3⟩, b⟩
      rw [RC.out] at hn3 hs3 ⊢
      have HB := Lib.hid (belowOn HB.out b)
      have HL := Lib.hid (HL.out.on b)
      have HMM := Lib.hid (HMM.out.on b)
      have S1 := Lib.hid (S1.out.on b)
      have X1 := Lib.hid (X1.out.below b X1.out.lt)
      have S2 := Lib.hid (S2.out.on b)
      have X2 := Lib.hid (X2.out.below b X2.out.lt)
      have S3 := Lib.hid (hs3)
      have N3 := Lib.hid hn3
      clear b hs3 hn3
      have na := nb0 w4 (.cells #[.int .i64 0, .int .i64 0, .int .i64 0, .slice A3 n3 c3] 26)
      have HB := Lib.hid (belowOn HB.out na)
      have HL := Lib.hid (HL.out.on na)
      have HMM := Lib.hid (HMM.out.on na)
      have S1 := Lib.hid (S1.out.on na)
      have X1 := Lib.hid (X1.out.below na X1.out.lt)
      have S2 := Lib.hid (S2.out.on na)
      have X2 := Lib.hid (X2.out.below na X2.out.lt)
      have S3 := Lib.hid (S3.out.on na)
      have X3 := Lib.hid (show Blk (w4.alloc (.cells #[.int .i64 0, .int .i64 0, .int .i64 0, .slice A3 n3 c3] 26)) w4.heap.size 26 #[.int .i64 0, .int .i64 0, .int .i64 0, .slice A3 n3 c3] from Blk.new_at _ _ _ rfl)
      clear na
      go_wp2_with fail
      go_ret
      exact ⟨rfl, HB.out⟩
  cases hr : rights m
  · have RA := Lib.hid (ofR_ok hm hl)
    have RB := Lib.hid (ofR_no (bits := bits) (hashes := hashes) (salt := salt) (.inr hr))
    have RC := Lib.hid (ofR_no (bits := bits) (hashes := hashes) (salt := salt) (l := lb) (.inr (by rw [← HLB.out, rights_append, hl, hr]; rfl)))
    clear hm hl hr
    go_enter Try.func6, Try.ntmps6
    go_wp2_with fail
    refine (live9 _).mono ?_; rintro e w0 ⟨rfl, b⟩
    have HB := Lib.hid b
    have HL := Lib.hid (HL0.out.on b)
    have HMM := Lib.hid (HM0.out.on b)
    clear b
    go_wp2_with fail
    refine (OF.out L _ cl l rfl (by omega) _ HL.out).mono ?_; rintro e w2 ⟨⟨A1, n1, c1, rfl, hn1, hm1, hs1⟩, b⟩
    rw [RA.out] at hn1 hs1 ⊢
    have HB := Lib.hid (belowOn HB.out b)
    have HL := Lib.hid (HL.out.on b)
    have HMM := Lib.hid (HMM.out.on b)
    have S1 := Lib.hid (hs1)
    have N1 := Lib.hid hn1
    clear b hs1 hn1
    have na := nb0 w2 (.cells #[.int .i64 bits, .int .i64 hashes, .int .i64 salt, .slice A1 n1 c1] 26)
    have HB := Lib.hid (belowOn HB.out na)
    have HL := Lib.hid (HL.out.on na)
    have HMM := Lib.hid (HMM.out.on na)
    have S1 := Lib.hid (S1.out.on na)
    have X1 := Lib.hid (show Blk (w2.alloc (.cells #[.int .i64 bits, .int .i64 hashes, .int .i64 salt, .slice A1 n1 c1] 26)) w2.heap.size 26 #[.int .i64 bits, .int .i64 hashes, .int .i64 salt, .slice A1 n1 c1] from Blk.new_at _ _ _ rfl)
    clear na
    go_wp2_with fail
    refine (OF.out M _ cm m rfl (by omega) _ HMM.out).mono ?_; rintro e w3 ⟨⟨A2, n2, c2, rfl, hn2, hm2, hs2⟩, b⟩
    rw [RB.out] at hn2 hs2 ⊢
    have HB := Lib.hid (belowOn HB.out b)
    have HL := Lib.hid (HL.out.on b)
    have HMM := Lib.hid (HMM.out.on b)
    have S1 := Lib.hid (S1.out.on b)
    have X1 := Lib.hid (X1.out.below b X1.out.lt)
    have S2 := Lib.hid (hs2)
    have N2 := Lib.hid hn2
    clear b hs2 hn2
    have na := nb0 w3 (.cells #[.int .i64 0, .int .i64 0, .int .i64 0, .slice A2 n2 c2] 26)
    have HB := Lib.hid (belowOn HB.out na)
    have HL := Lib.hid (HL.out.on na)
    have HMM := Lib.hid (HMM.out.on na)
    have S1 := Lib.hid (S1.out.on na)
    have X1 := Lib.hid (X1.out.below na X1.out.lt)
    have S2 := Lib.hid (S2.out.on na)
    have X2 := Lib.hid (show Blk (w3.alloc (.cells #[.int .i64 0, .int .i64 0, .int .i64 0, .slice A2 n2 c2] 26)) w3.heap.size 26 #[.int .i64 0, .int .i64 0, .int .i64 0, .slice A2 n2 c2] from Blk.new_at _ _ _ rfl)
    clear na
    have OEa := Lib.hid (own_emptyN (w3.alloc (.cells #[.int .i64 0, .int .i64 0, .int .i64 0, .slice A2 n2 c2] 26)) (B := w3.heap.size + 1) (g := w3.heap.size + 1) (by simp <;> omega) (by simp))
    have BEa := Lib.hid (nb0 (w3.alloc (.cells #[.int .i64 0, .int .i64 0, .int .i64 0, .slice A2 n2 c2] 26)) (.cells #[] 3))
    have RLa := Lib.hid (show Reads ((w3.alloc (.cells #[.int .i64 0, .int .i64 0, .int .i64 0, .slice A2 n2 c2] 26)).alloc (.cells #[] 3)) (w3.alloc (.cells #[.int .i64 0, .int .i64 0, .int .i64 0, .slice A2 n2 c2] 26)).heap.size 1 L l.length (l.map (Value.int .i64)) from (reads_si HL.out).alloc (Nat.le_refl _) _)
    go_wp2_with (first | (at_builtin; refine wpList_append_any _ (by rfl) (.tmp 46) (.tmp 47) _ rfl (w3.heap.size + 1) 3 i0 (.int .i64 0) 1 8 Try.underlying22 HI.out.1 HI.out.2.1 HI.out.2.2.1 HI.out.2.2.2 rfl (by decide) _ 0 [] (by rfl) OEa.out (w3.alloc (.cells #[.int .i64 0, .int .i64 0, .int .i64 0, .slice A2 n2 c2] 26)).heap.size _ l.length _ (l.map (Value.int .i64)) rfl RLa.out (one_i64 _) (by unfold maxLen; omega) (by omega) (by simp <;> omega) ?_; intro va wa hoa hga _; have HOa := Lib.hid hoa; have HBa := Lib.hid (show Below (w3.alloc (.cells #[.int .i64 0, .int .i64 0, .int .i64 0, .slice A2 n2 c2] 26)).heap.size (w3.alloc (.cells #[.int .i64 0, .int .i64 0, .int .i64 0, .slice A2 n2 c2] 26)) wa from BEa.out.grown hga (by simp) (fun k e => by simp [Value.ownBlock] at e; subst e; simp)); have RLb := Lib.hid (show Reads wa (w3.alloc (.cells #[.int .i64 0, .int .i64 0, .int .i64 0, .slice A2 n2 c2] 26)).heap.size 1 M m.length (m.map (Value.int .i64)) from (reads_si HMM.out).below HBa.out); have hza := HBa.out.size; clear hoa hga) | (at_builtin; refine wpList_append_any _ (by rfl) (.tmp 48) (.tmp 49) _ rfl (w3.heap.size + 1) 3 i0 (.int .i64 0) 1 8 Try.underlying22 HI.out.1 HI.out.2.1 HI.out.2.2.1 HI.out.2.2.2 rfl (by decide) va (0 + l.length) ([] ++ l.map (Value.int .i64)) rfl HOa.out (w3.alloc (.cells #[.int .i64 0, .int .i64 0, .int .i64 0, .slice A2 n2 c2] 26)).heap.size _ m.length _ (m.map (Value.int .i64)) rfl RLb.out (one_i64 _) (by unfold maxLen; omega) (by omega) (by first | omega | (simp at hza; omega)) ?_; intro vb wb hob hgb _; obtain ⟨A5, c5, rfl, _, _, hsb, _⟩ := own_sliceN (own_n (xs := lb) hob (by rw [← HLB.out]; simp) (by rw [← HLB.out]; simp)); have HSb := Lib.hid hsb; have HBb := Lib.hid (show Below (w3.alloc (.cells #[.int .i64 0, .int .i64 0, .int .i64 0, .slice A2 n2 c2] 26)).heap.size (w3.alloc (.cells #[.int .i64 0, .int .i64 0, .int .i64 0, .slice A2 n2 c2] 26)) wb from HBa.out.grown hgb hza (fun k e => by have := own_ge HOa.out k e; simp at this ⊢; omega)); clear hob hgb hsb))
    have HB := Lib.hid (belowOn HB.out HBb.out)
    have HL := Lib.hid (HL.out.on HBb.out)
    have HMM := Lib.hid (HMM.out.on HBb.out)
    have S1 := Lib.hid (S1.out.on HBb.out)
    have X1 := Lib.hid (X1.out.below HBb.out X1.out.lt)
    have S2 := Lib.hid (S2.out.on HBb.out)
    have X2 := Lib.hid (X2.out.below HBb.out X2.out.lt)
    have SLB := Lib.hid (show SI wb wb.heap.size .i64 A5 lb from HSb.out)
    refine (OF.out A5 _ c5 lb rfl (by omega) _ SLB.out).mono ?_; rintro e w4 ⟨⟨A3, n3, c3, rfl, hn3, hm3, hs3⟩, b⟩
    rw [RC.out] at hn3 hs3 ⊢
    have HB := Lib.hid (belowOn HB.out b)
    have HL := Lib.hid (HL.out.on b)
    have HMM := Lib.hid (HMM.out.on b)
    have S1 := Lib.hid (S1.out.on b)
    have X1 := Lib.hid (X1.out.below b X1.out.lt)
    have S2 := Lib.hid (S2.out.on b)
    have X2 := Lib.hid (X2.out.below b X2.out.lt)
    have S3 := Lib.hid (hs3)
    have N3 := Lib.hid hn3
    clear b hs3 hn3
    have na := nb0 w4 (.cells #[.int .i64 0, .int .i64 0, .int .i64 0, .slice A3 n3 c3] 26)
    have HB := Lib.hid (belowOn HB.out na)
    have HL := Lib.hid (HL.out.on na)
    have HMM := Lib.hid (HMM.out.on na)
    have S1 := Lib.hid (S1.out.on na)
    have X1 := Lib.hid (X1.out.below na X1.out.lt)
    have S2 := Lib.hid (S2.out.on na)
    have X2 := Lib.hid (X2.out.below na X2.out.lt)
    have S3 := Lib.hid (S3.out.on na)
    have X3 := Lib.hid (show Blk (w4.alloc (.cells #[.int .i64 0, .int .i64 0, .int .i64 0, .slice A3 n3 c3] 26)) w4.heap.size 26 #[.int .i64 0, .int .i64 0, .int .i64 0, .slice A3 n3 c3] from Blk.new_at _ _ _ rfl)
    clear na
    go_wp2_with fail
    go_ret
    exact ⟨rfl, HB.out⟩
  have RA := Lib.hid (ofR_ok hm hl)
  have RB := Lib.hid (ofR_ok hm hr)
  have RC := Lib.hid (ofR_ok (l := lb) hm (by rw [← HLB.out, rights_append, hl, hr]; rfl))
  obtain ⟨nb, hnb⟩ : ∃ nb : Nat, (bits / 8).toNat = nb := ⟨_, rfl⟩
  have hnb1 : nb ≤ 1024 := by have := (mayN_iff.1 hm).1; omega
  have hnb0 : 1 ≤ nb := by have := (mayN_iff.1 hm).1; omega
  have JE := Lib.hid (fun X hX h => join_end hm l m X nb hnb hX h)
  have LA := Lib.hid (show (ofB bits hashes salt l).length = nb by rw [ofB_length, hnb])
  have LB := Lib.hid (show (ofB bits hashes salt m).length = nb by rw [ofB_length, hnb])
  have YA := Lib.hid (ofB_by bits hashes salt l)
  have YB := Lib.hid (ofB_by bits hashes salt m)
  rw [HLB.out] at JE
  generalize ofB bits hashes salt l = Ba at *
  generalize ofB bits hashes salt m = Bb at *
  generalize ofB bits hashes salt lb = Bc at *
  clear hm hl hr hnb
  obtain ⟨j0, ji, jz0, jz1, jz2⟩ := info_parts Try.info5
  have HJ := Lib.hid (And.intro ji (And.intro jz0 (And.intro jz1 jz2)))
  clear ji jz0 jz1 jz2
  go_enter Try.func6, Try.ntmps6
  go_wp2_with fail
  refine (live9 _).mono ?_; rintro e w0 ⟨rfl, b⟩
  have HB := Lib.hid b
  have HL := Lib.hid (HL0.out.on b)
  have HMM := Lib.hid (HM0.out.on b)
  clear b
  go_wp2_with fail
  refine (OF.out L _ cl l rfl (by omega) _ HL.out).mono ?_; rintro e w2 ⟨⟨A1, n1, c1, rfl, hn1, hm1, hs1⟩, b⟩
  rw [RA.out] at hn1 hs1 ⊢
  obtain rfl : nb = n1 := by have h : Ba.length = n1 := hn1; have := LA.out; omega
  have HB := Lib.hid (belowOn HB.out b)
  have HL := Lib.hid (HL.out.on b)
  have HMM := Lib.hid (HMM.out.on b)
  have S1 := Lib.hid (hs1)
  have N1 := Lib.hid hn1
  clear b hs1 hn1
  have na := nb0 w2 (.cells #[.int .i64 bits, .int .i64 hashes, .int .i64 salt, .slice A1 nb c1] 26)
  have HB := Lib.hid (belowOn HB.out na)
  have HL := Lib.hid (HL.out.on na)
  have HMM := Lib.hid (HMM.out.on na)
  have S1 := Lib.hid (S1.out.on na)
  have X1 := Lib.hid (show Blk (w2.alloc (.cells #[.int .i64 bits, .int .i64 hashes, .int .i64 salt, .slice A1 nb c1] 26)) w2.heap.size 26 #[.int .i64 bits, .int .i64 hashes, .int .i64 salt, .slice A1 nb c1] from Blk.new_at _ _ _ rfl)
  clear na
  go_wp2_with fail
  refine (OF.out M _ cm m rfl (by omega) _ HMM.out).mono ?_; rintro e w3 ⟨⟨A2, n2, c2, rfl, hn2, hm2, hs2⟩, b⟩
  rw [RB.out] at hn2 hs2 ⊢
  obtain rfl : nb = n2 := by have h : Bb.length = n2 := hn2; have := LB.out; omega
  have HB := Lib.hid (belowOn HB.out b)
  have HL := Lib.hid (HL.out.on b)
  have HMM := Lib.hid (HMM.out.on b)
  have S1 := Lib.hid (S1.out.on b)
  have X1 := Lib.hid (X1.out.below b X1.out.lt)
  have S2 := Lib.hid (hs2)
  have N2 := Lib.hid hn2
  clear b hs2 hn2
  have na := nb0 w3 (.cells #[.int .i64 bits, .int .i64 hashes, .int .i64 salt, .slice A2 nb c2] 26)
  have HB := Lib.hid (belowOn HB.out na)
  have HL := Lib.hid (HL.out.on na)
  have HMM := Lib.hid (HMM.out.on na)
  have S1 := Lib.hid (S1.out.on na)
  have X1 := Lib.hid (X1.out.below na X1.out.lt)
  have S2 := Lib.hid (S2.out.on na)
  have X2 := Lib.hid (show Blk (w3.alloc (.cells #[.int .i64 bits, .int .i64 hashes, .int .i64 salt, .slice A2 nb c2] 26)) w3.heap.size 26 #[.int .i64 bits, .int .i64 hashes, .int .i64 salt, .slice A2 nb c2] from Blk.new_at _ _ _ rfl)
  clear na
  have OEa := Lib.hid (own_emptyN (w3.alloc (.cells #[.int .i64 bits, .int .i64 hashes, .int .i64 salt, .slice A2 nb c2] 26)) (B := w3.heap.size + 1) (g := w3.heap.size + 1) (by simp <;> omega) (by simp))
  have BEa := Lib.hid (nb0 (w3.alloc (.cells #[.int .i64 bits, .int .i64 hashes, .int .i64 salt, .slice A2 nb c2] 26)) (.cells #[] 3))
  have RLa := Lib.hid (show Reads ((w3.alloc (.cells #[.int .i64 bits, .int .i64 hashes, .int .i64 salt, .slice A2 nb c2] 26)).alloc (.cells #[] 3)) (w3.alloc (.cells #[.int .i64 bits, .int .i64 hashes, .int .i64 salt, .slice A2 nb c2] 26)).heap.size 1 L l.length (l.map (Value.int .i64)) from (reads_si HL.out).alloc (Nat.le_refl _) _)
  go_wp2_with (first | (at_builtin; refine wpList_append_any _ (by rfl) (.tmp 46) (.tmp 47) _ rfl (w3.heap.size + 1) 3 i0 (.int .i64 0) 1 8 Try.underlying22 HI.out.1 HI.out.2.1 HI.out.2.2.1 HI.out.2.2.2 rfl (by decide) _ 0 [] (by rfl) OEa.out (w3.alloc (.cells #[.int .i64 bits, .int .i64 hashes, .int .i64 salt, .slice A2 nb c2] 26)).heap.size _ l.length _ (l.map (Value.int .i64)) rfl RLa.out (one_i64 _) (by unfold maxLen; omega) (by omega) (by simp <;> omega) ?_; intro va wa hoa hga _; have HOa := Lib.hid hoa; have HBa := Lib.hid (show Below (w3.alloc (.cells #[.int .i64 bits, .int .i64 hashes, .int .i64 salt, .slice A2 nb c2] 26)).heap.size (w3.alloc (.cells #[.int .i64 bits, .int .i64 hashes, .int .i64 salt, .slice A2 nb c2] 26)) wa from BEa.out.grown hga (by simp) (fun k e => by simp [Value.ownBlock] at e; subst e; simp)); have RLb := Lib.hid (show Reads wa (w3.alloc (.cells #[.int .i64 bits, .int .i64 hashes, .int .i64 salt, .slice A2 nb c2] 26)).heap.size 1 M m.length (m.map (Value.int .i64)) from (reads_si HMM.out).below HBa.out); have hza := HBa.out.size; clear hoa hga) | (at_builtin; refine wpList_append_any _ (by rfl) (.tmp 48) (.tmp 49) _ rfl (w3.heap.size + 1) 3 i0 (.int .i64 0) 1 8 Try.underlying22 HI.out.1 HI.out.2.1 HI.out.2.2.1 HI.out.2.2.2 rfl (by decide) va (0 + l.length) ([] ++ l.map (Value.int .i64)) rfl HOa.out (w3.alloc (.cells #[.int .i64 bits, .int .i64 hashes, .int .i64 salt, .slice A2 nb c2] 26)).heap.size _ m.length _ (m.map (Value.int .i64)) rfl RLb.out (one_i64 _) (by unfold maxLen; omega) (by omega) (by first | omega | (simp at hza; omega)) ?_; intro vb wb hob hgb _; obtain ⟨A5, c5, rfl, _, _, hsb, _⟩ := own_sliceN (own_n (xs := lb) hob (by rw [← HLB.out]; simp) (by rw [← HLB.out]; simp)); have HSb := Lib.hid hsb; have HBb := Lib.hid (show Below (w3.alloc (.cells #[.int .i64 bits, .int .i64 hashes, .int .i64 salt, .slice A2 nb c2] 26)).heap.size (w3.alloc (.cells #[.int .i64 bits, .int .i64 hashes, .int .i64 salt, .slice A2 nb c2] 26)) wb from HBa.out.grown hgb hza (fun k e => by have := own_ge HOa.out k e; simp at this ⊢; omega)); clear hob hgb hsb))
  have HB := Lib.hid (belowOn HB.out HBb.out)
  have HL := Lib.hid (HL.out.on HBb.out)
  have HMM := Lib.hid (HMM.out.on HBb.out)
  have S1 := Lib.hid (S1.out.on HBb.out)
  have X1 := Lib.hid (X1.out.below HBb.out X1.out.lt)
  have S2 := Lib.hid (S2.out.on HBb.out)
  have X2 := Lib.hid (X2.out.below HBb.out X2.out.lt)
  have SLB := Lib.hid (show SI wb wb.heap.size .i64 A5 lb from HSb.out)
  refine (OF.out A5 _ c5 lb rfl (by omega) _ SLB.out).mono ?_; rintro e w4 ⟨⟨A3, n3, c3, rfl, hn3, hm3, hs3⟩, b⟩
  rw [RC.out] at hn3 hs3 ⊢
  have HB := Lib.hid (belowOn HB.out b)
  have HL := Lib.hid (HL.out.on b)
  have HMM := Lib.hid (HMM.out.on b)
  have S1 := Lib.hid (S1.out.on b)
  have X1 := Lib.hid (X1.out.below b X1.out.lt)
  have S2 := Lib.hid (S2.out.on b)
  have X2 := Lib.hid (X2.out.below b X2.out.lt)
  have S3 := Lib.hid (hs3)
  have N3 := Lib.hid hn3
  clear b hs3 hn3
  have na := nb0 w4 (.cells #[.int .i64 bits, .int .i64 hashes, .int .i64 salt, .slice A3 n3 c3] 26)
  have HB := Lib.hid (belowOn HB.out na)
  have HL := Lib.hid (HL.out.on na)
  have HMM := Lib.hid (HMM.out.on na)
  have S1 := Lib.hid (S1.out.on na)
  have X1 := Lib.hid (X1.out.below na X1.out.lt)
  have S2 := Lib.hid (S2.out.on na)
  have X2 := Lib.hid (X2.out.below na X2.out.lt)
  have S3 := Lib.hid (S3.out.on na)
  have X3 := Lib.hid (show Blk (w4.alloc (.cells #[.int .i64 bits, .int .i64 hashes, .int .i64 salt, .slice A3 n3 c3] 26)) w4.heap.size 26 #[.int .i64 bits, .int .i64 hashes, .int .i64 salt, .slice A3 n3 c3] from Blk.new_at _ _ _ rfl)
  clear na
  have hne : ((nb : Int) != (nb : Int)) = false := by simp
  obtain ⟨x0, x1, x2, x3⟩ := X1.out.facts4
  obtain ⟨y0, y1, y2, y3⟩ := X2.out.facts4
  have BQ := Lib.hid (nb0 (w4.alloc (.cells #[.int .i64 bits, .int .i64 hashes, .int .i64 salt, .slice A3 n3 c3] 26)) (.cells #[.int .i64 bits, .int .i64 hashes, .int .i64 salt, .slice A1 nb c1] 26))
  have XQ := Lib.hid (show Blk (((w4.alloc (.cells #[.int .i64 bits, .int .i64 hashes, .int .i64 salt, .slice A3 n3 c3] 26)).alloc (.cells #[.int .i64 bits, .int .i64 hashes, .int .i64 salt, .slice A1 nb c1] 26)).alloc (.cells #[] 5)) (w4.heap.size + 1) 26 #[.int .i64 bits, .int .i64 hashes, .int .i64 salt, .slice A1 nb c1] from (Blk.new_at (w4.alloc (.cells #[.int .i64 bits, .int .i64 hashes, .int .i64 salt, .slice A3 n3 c3] 26)) _ _ (by simp)).alloc _)
  have OEq := Lib.hid (own_emptyB ((w4.alloc (.cells #[.int .i64 bits, .int .i64 hashes, .int .i64 salt, .slice A3 n3 c3] 26)).alloc (.cells #[.int .i64 bits, .int .i64 hashes, .int .i64 salt, .slice A1 nb c1] 26)) (B := w4.heap.size + 1 + 1) (g := w4.heap.size + 1 + 1) (Nat.le_refl _) (by simp))
  have BEq := Lib.hid (nb0 ((w4.alloc (.cells #[.int .i64 bits, .int .i64 hashes, .int .i64 salt, .slice A3 n3 c3] 26)).alloc (.cells #[.int .i64 bits, .int .i64 hashes, .int .i64 salt, .slice A1 nb c1] 26)) (.cells #[] 5))
  have RQ := Lib.hid (show Reads (((w4.alloc (.cells #[.int .i64 bits, .int .i64 hashes, .int .i64 salt, .slice A3 n3 c3] 26)).alloc (.cells #[.int .i64 bits, .int .i64 hashes, .int .i64 salt, .slice A1 nb c1] 26)).alloc (.cells #[] 5)) ((w4.alloc (.cells #[.int .i64 bits, .int .i64 hashes, .int .i64 salt, .slice A3 n3 c3] 26)).alloc (.cells #[.int .i64 bits, .int .i64 hashes, .int .i64 salt, .slice A1 nb c1] 26)).heap.size 1 A1 nb (Ba.map (Value.int .u8)) from (reads_u8 (by exact LA.out) (S1.out.on BQ.out)).alloc (Nat.le_refl _) _)
  have x3q : (((w4.alloc (.cells #[.int .i64 bits, .int .i64 hashes, .int .i64 salt, .slice A3 n3 c3] 26)).alloc (.cells #[.int .i64 bits, .int .i64 hashes, .int .i64 salt, .slice A1 nb c1] 26)).alloc (.cells #[] 5)).cell? ⟨w2.heap.size, 3, none⟩ = some (.slice A1 nb c1) := ((X1.out.alloc (.cells #[.int .i64 bits, .int .i64 hashes, .int .i64 salt, .slice A1 nb c1] 26)).alloc (.cells #[] 5)).cell 3
  go_wp2_with (at_builtin; refine wpList_append_any _ (by rfl) (.tmp 73) (.tmp 75) _ rfl (w4.heap.size + 1 + 1) 5 j0 (.int .u8 0) 1 1 Try.underlying24 HJ.out.1 HJ.out.2.1 HJ.out.2.2.1 HJ.out.2.2.2 rfl (by decide) _ 0 [] (by rfl) OEq.out ((w4.alloc (.cells #[.int .i64 bits, .int .i64 hashes, .int .i64 salt, .slice A3 n3 c3] 26)).alloc (.cells #[.int .i64 bits, .int .i64 hashes, .int .i64 salt, .slice A1 nb c1] 26)).heap.size _ nb _ (Ba.map (Value.int .u8)) rfl RQ.out (one_u8 _) (by unfold maxLen; omega) (by omega) (by simp <;> omega) ?_; intro va wa hoa hga hat; have hoa := (show wa.ownsRow (w4.heap.size + 1 + 1) 5 1 va nb (Ba.map (Value.int .u8)) by simpa using hoa); obtain ⟨gx, cx, rfl, hgx, hgl⟩ := hoa.form (by omega); have HOa := Lib.hid hoa; have hXa := XQ.out.grown hga (by simp [Value.ownBlock]); have XA := Lib.hid hXa; obtain ⟨z0, z1, z2, z3⟩ := hXa.facts4; have f3 := hXa.free 3; have HBa := Lib.hid (show Below (w4.heap.size + 1 + 1) ((w4.alloc (.cells #[.int .i64 bits, .int .i64 hashes, .int .i64 salt, .slice A3 n3 c3] 26)).alloc (.cells #[.int .i64 bits, .int .i64 hashes, .int .i64 salt, .slice A1 nb c1] 26)) wa from ((Below.refl _ _).alloc (by simp) _).grown hga (by simp <;> omega) (fun k e => by simp [Value.ownBlock] at e; omega)); clear hoa hga hat hXa)
  have hq : ((w4.alloc (.cells #[.int .i64 bits, .int .i64 hashes, .int .i64 salt, .slice A3 n3 c3] 26)).alloc (.cells #[.int .i64 bits, .int .i64 hashes, .int .i64 salt, .slice A1 nb c1] 26)).heap.size = w4.heap.size + 1 + 1 := by simp
  have hA1 : Below (w4.heap.size + 1) (w4.alloc (.cells #[.int .i64 bits, .int .i64 hashes, .int .i64 salt, .slice A3 n3 c3] 26)) ((w4.alloc (.cells #[.int .i64 bits, .int .i64 hashes, .int .i64 salt, .slice A3 n3 c3] 26)).alloc (.cells #[.int .i64 bits, .int .i64 hashes, .int .i64 salt, .slice A1 nb c1] 26)) := (Below.refl _ _).alloc (by simp) _
  have hA2 : Below (w4.heap.size + 1) (w4.alloc (.cells #[.int .i64 bits, .int .i64 hashes, .int .i64 salt, .slice A3 n3 c3] 26)) wa := hA1.trans (HBa.out.mono (by omega))
  have hA3 : Below (w4.heap.size + 1) (w4.alloc (.cells #[.int .i64 bits, .int .i64 hashes, .int .i64 salt, .slice A3 n3 c3] 26)) (wa.setCell ⟨w4.heap.size + 1, 3, none⟩ (.slice (some ⟨gx, 0, none⟩) nb cx)) := hA2.setCell (Nat.le_refl _) _
  have BWa := Lib.hid hA3
  clear hA1 hA2 hA3
  have h34 : w3.heap.size < w4.heap.size + 1 + 1 := by have := X2.out.lt; simp at this; omega
  have hWb : W.heap.size ≤ w4.heap.size + 1 + 1 := by have := HB.out.size; simp at this; omega
  refine wp_named (fun W1 => Below W.heap.size W W1 ∧ SI W1 (w4.heap.size + 1) .u8 A2 Bb ∧ SI W1 (w4.heap.size + 1) .u8 A3 Bc ∧ Blk W1 w3.heap.size 26 #[.int .i64 bits, .int .i64 hashes, .int .i64 salt, .slice A2 nb c2] ∧ Blk W1 w4.heap.size 26 #[.int .i64 bits, .int .i64 hashes, .int .i64 salt, .slice A3 n3 c3] ∧ Blk W1 (w4.heap.size + 1) 26 #[.int .i64 bits, .int .i64 hashes, .int .i64 salt, .slice (some ⟨gx, 0, none⟩) nb cx] ∧ W1.ownsRow (w4.heap.size + 1 + 1) 5 1 (.slice (some ⟨gx, 0, none⟩) nb cx) nb (Ba.map (Value.int .u8)) ∧ w4.heap.size + 1 + 1 ≤ W1.heap.size) ⟨HB.out.trans (BWa.out.mono (by have := HB.out.size; simp at this; omega)), ?_, ?_, ?_, ?_, XA.out.set 3 _, ownsRow_setCell_other HOa.out (by simp [Value.ownBlock]; omega) _, by have := HBa.out.size; simp [World.setCell] at this ⊢; omega⟩ ?_
  · have h := S2.out.below (BWa.out.mono (by simp)); simpa using h
  · have h := S3.out.below (BWa.out.mono (by simp)); simpa using h
  · exact X2.out.below BWa.out (by have := X2.out.lt; simpa using this)
  · exact X3.out.below BWa.out (by omega)
  clear HB S2 S3 X2 X3 XA HOa HBa BWa z0 z1 z2 z3 f3 x3q x0 x1 x2 x3 y0 y1 y2 y3
  rintro W1 ⟨h1, h2, h3, h4, h5, h6, h7, h8⟩
  have HB := Lib.hid h1
  have S2 := Lib.hid h2
  have S3 := Lib.hid h3
  have X2 := Lib.hid h4
  have X3 := Lib.hid h5
  have XX := Lib.hid h6
  have HRW := Lib.hid h7
  have hx2 := X2.out.lt
  have hz1 := h8
  clear h1 h2 h3 h4 h5 h6 h7 h8
  go_wp2_with fail
  have hgb : w4.heap.size + 1 + 1 ≤ gx := (HRW.out.lt gx rfl).1
  go_loopw [18] (fun i wr => ∃ k : Nat, k ≤ nb ∧ i = .int .i64 (k : Int) ∧ JoinI W1 (w4.heap.size + 1 + 1) gx nb cx Ba Bb k wr) (fun i _ => nb - (intOf i).toNat)
  case atStart => exact ⟨0, by omega, rfl, ⟨Ba, HRW.out, YA.out, fun j h => absurd h (by omega), fun j _ => rfl⟩, Below.refl _ _⟩
  case round =>
    obtain ⟨k, hk, rfl, hj⟩ := hrel
    have HJI := Lib.hid hj
    have XR := Lib.hid (XX.out.below hj.2 (by omega))
    have YR := Lib.hid (X2.out.below hj.2 h34)
    have SR := Lib.hid (S2.out.below (hj.2.mono (by omega)))
    clear hj
    obtain ⟨x0, x1, x2, x3⟩ := XR.out.facts4
    obtain ⟨y0, y1, y2, y3⟩ := YR.out.facts4
    by_cases hlt : k < nb
    · obtain ⟨c0, f0⟩ := HJI.out.cell hlt
      obtain ⟨ad, rfl, _, hc⟩ := SR.out k (by rw [LB.out]; exact hlt)
      have HST := Lib.hid (HJI.out.step hlt hgb YA.out YB.out)
      generalize Ba[k]?.getD 0 = xa at c0 HST
      generalize Bb[k]?.getD 0 = xb at hc HST
      go_wp2_with fail
      go_still_tail 15, (by kernel_rfl)
      change wpList _ _ _ _ _ wr.drew
      go_wp2_with fail
      go_roundw
      case rel => exact ⟨k + 1, by omega, by go_num, HST.out⟩
      case measure => simp [intOf]; omega
    · obtain rfl : nb = k := by omega
      obtain ⟨⟨X, ho, hX, h1, _⟩, hB⟩ := HJI.out
      have hXl : X.length = nb := row_len ho
      obtain rfl := JE.out X hXl h1
      have ZR := Lib.hid (X3.out.below hB (by omega))
      have TR := Lib.hid (show SI wr wr.heap.size .u8 A3 X from (S3.out.below (hB.mono (by omega))).more (by have := hB.size; omega))
      have UR := Lib.hid (si_rows ho)
      have HBB := Lib.hid (HB.out.trans (hB.mono hWb))
      have HXL := Lib.hid hXl
      clear ho hX h1 hB hXl
      obtain ⟨z0, z1, z2, z3⟩ := ZR.out.facts4
      go_wp2_with fail
      refine (refSame_yes bits hashes salt _ A3 nb cx n3 c3 X HXL.out N3.out _ UR.out TR.out).mono ?_; rintro e w5 ⟨rfl, b⟩
      have HBC := Lib.hid (belowOn HBB.out b)
      clear b
      go_wp2_with fail
      go_ret
      exact ⟨rfl, HBC.out⟩
end Go.Proofs.Ytgkdkkppeeikoaa
