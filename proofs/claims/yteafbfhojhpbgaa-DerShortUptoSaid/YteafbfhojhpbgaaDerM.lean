/- Are items the same: the program's own. -/
import Derived.Test.YteafbfhojhpbgaaDerL
import Derived.Lib.Bytes
namespace Go.Proofs.Yteafbfhojhpbgaa
open Go.ChangeShapes Go.WideShapes Go.ChangeAt Go.RowKit Gs
set_option linter.unusedVariables false

theorem conv_si {w : World} {B : Nat} {A : Option Addr} {xs : List Int} {n c : Nat} (hn : xs.length = n) (h : SI w B .u8 A xs) :
    (convert 22 9 (.slice A n c)).run Try.prog w = .ok (.string (strOfNums xs)) w := by
  subst hn
  rcases A with _ | ad
  · have h0 : xs = [] := by
      rcases xs with _ | ⟨x, r⟩
      · rfl
      · obtain ⟨ad, e, _⟩ := h 0 (by simp)
        cases e
    subst h0
    show (convert 22 9 (.slice none 0 c)).run Try.prog w = _
    rw [run_convert_bytes_string w 22 9 5 none 0 c Try.underlying22 Try.underlying5 Try.underlying9]
    rfl
  · have hl : (loadCells ad xs.length).run Try.prog w = .ok (xs.map (Value.int .u8)).toArray w := by
      have := run_loadCells_list (P := Try.prog) w ad (xs.map (Value.int .u8)) (fun j v hj => by
        have hj' : j < xs.length := by
          have := (List.getElem?_eq_some_iff.1 hj).1
          simpa using this
        obtain ⟨ad', e, _, hc⟩ := h j hj'
        cases e
        rw [hc]
        simp [List.getElem?_eq_getElem hj'] at hj ⊢
        rw [← hj])
      simpa using this
    rw [run_convert_bytes_string w 22 9 5 _ xs.length c Try.underlying22 Try.underlying5 Try.underlying9, run_bytesToString w _ xs.length c xs hl, foldl_push_bytes]
    simp [strOfNums, ByteArray.empty, ByteArray.emptyWithCapacity]
    rfl
theorem map_inj8 : ∀ {xs ys : List Int}, (∀ x ∈ xs, 0 ≤ x ∧ x < 256) → (∀ y ∈ ys, 0 ≤ y ∧ y < 256) → xs.map (fun n => UInt8.ofNat n.toNat) = ys.map (fun n => UInt8.ofNat n.toNat) → xs = ys := by
  intro xs ys hx hy h2
  induction xs generalizing ys with
  | nil => cases ys with
    | nil => rfl
    | cons y r => simp at h2
  | cons x r ih => cases ys with
    | nil => simp at h2
    | cons y s =>
      simp only [List.map_cons, List.cons.injEq] at h2
      have a := hx x List.mem_cons_self
      have b := hy y List.mem_cons_self
      have e : x.toNat % 256 = y.toNat % 256 := by
        have := congrArg UInt8.toNat h2.1
        simpa using this
      have : x = y := by omega
      rw [this, ih (fun z hz => hx z (List.mem_cons_of_mem _ hz)) (fun z hz => hy z (List.mem_cons_of_mem _ hz)) h2.2]
theorem str_toList (xs : List Int) : (strOfNums xs).toList = xs.map (fun n => UInt8.ofNat n.toNat) := Go.Lib.strOfNums_toList xs
theorem str_beq {xs ys : List Int} (hx : ∀ x ∈ xs, 0 ≤ x ∧ x < 256) (hy : ∀ y ∈ ys, 0 ≤ y ∧ y < 256) : ((strOfNums xs).toList == (strOfNums ys).toList) = decide (xs = ys) := by
  by_cases h : xs = ys
  · subst h; simp
  · rw [decide_eq_false h, beq_eq_false_iff_ne]
    intro e
    rw [str_toList, str_toList] at e
    exact h (map_inj8 hx hy e)

set_option maxHeartbeats 2000000 in
theorem equal_any (A A' : Option Addr) (n c n' c' : Nat) (xs ys : List Int) (hn : xs.length = n) (hn' : ys.length = n') (hx : ∀ x ∈ xs, 0 ≤ x ∧ x < 256) (hy : ∀ y ∈ ys, 0 ≤ y ∧ y < 256) (w : World) (hs : SI w w.heap.size .u8 A xs) (hs' : SI w w.heap.size .u8 A' ys) :
    Calls Try.prog 50 #[.slice A n c, .slice A' n' c'] w fun e w' => e = .returned (.bool (decide (xs = ys))) ∧ Below w.heap.size w w' := by
  have D0 := Lib.hid (Below.refl w.heap.size w)
  have cv := conv_si (c := c) hn hs
  have cv' := conv_si (c := c') hn' hs'
  have HQ := Lib.hid (str_beq hx hy)
  generalize decide (xs = ys) = v at *
  generalize strOfNums xs = s1 at *
  generalize strOfNums ys = s2 at *
  clear hs hs' hx hy hn hn'
  cases v with
  | true =>
    have q := HQ.out
    clear HQ
    go_enter Try.func50, Try.ntmps50
    go_wp2_with fail
    go_ret
    exact ⟨rfl, D0.out⟩
  | false =>
    have q := HQ.out
    clear HQ
    go_enter Try.func50, Try.ntmps50
    go_wp2_with fail
    go_ret
    exact ⟨rfl, D0.out⟩

mutual
/-- Have they the same tag, the same bytes, and as many items, each the same as the other's? -/
def It.same : It → It → Bool | .mk t b l, y => decide (t = y.tag) && (decide (b = y.b) && sames l y.l)
def sames : List It → List It → Bool | [], l => decide (l.length = 0) | x :: r, l => match l with | [] => false | y :: s => x.same y && sames r s
end
theorem same_is (x y : It) : x.same y = (decide (x.tag = y.tag) && (decide (x.b = y.b) && sames x.l y.l)) := by cases x; rw [It.same]; rfl
theorem sames_iff : ∀ (l m : List It), sames l m = true ↔ l.length = m.length ∧ ∀ j (h : j < l.length) (g : j < m.length), l[j].same m[j] = true
  | [], m => by
    rw [sames]
    simp
    exact ⟨fun h => by simp [h], fun h => List.length_eq_zero_iff.1 h.symm⟩
  | x :: r, [] => by rw [sames]; simp
  | x :: r, y :: s => by
    rw [sames, Bool.and_eq_true, sames_iff r s]
    constructor
    · rintro ⟨a, b, c⟩
      refine ⟨by simp [b], fun j h g => ?_⟩
      rcases j with _ | j
      · exact a
      · exact c j (by simpa using h) (by simpa using g)
    · rintro ⟨b, c⟩
      exact ⟨c 0 (by simp) (by simp), by simpa using b, fun j h g => c (j + 1) (by simpa using h) (by simpa using g)⟩
theorem same_eq : ∀ x : It, ∀ y, x.same y = true ↔ x = y := it_ind fun x ih y => by
  rw [same_is]
  simp only [Bool.and_eq_true, decide_eq_true_eq, sames_iff]
  constructor
  · rintro ⟨a, b, c, d⟩
    rw [It.eta x, It.eta y, a, b]
    congr 1
    exact List.ext_getElem c fun j h g => (ih _ (List.getElem_mem h) _).1 (d j h g)
  · rintro rfl
    exact ⟨rfl, rfl, rfl, fun j h g => (ih _ (List.getElem_mem h) _).2 rfl⟩
theorem same_self (x : It) : x.same x = true := (same_eq x x).2 rfl

/-- What is told of whether two are the same. -/
def SameOf (x y : It) : Prop := ∀ (Ab : Option Addr) (cb : Nat) (Al : Option Addr) (cl : Nat) (Ab' : Option Addr) (cb' : Nat) (Al' : Option Addr) (cl' : Nat) (w : World), IR w w.heap.size x Ab cb Al cl → IR w w.heap.size y Ab' cb' Al' cl' →
  Calls Try.prog 20 #[.agg #[.int .i64 x.tag, .slice Ab x.b.length cb, .slice Al x.l.length cl], .agg #[.int .i64 y.tag, .slice Ab' y.b.length cb', .slice Al' y.l.length cl']] w fun e w' => e = .returned (.bool (x.same y)) ∧ Below w.heap.size w w'

set_option maxRecDepth 100000 in
set_option maxHeartbeats 8000000 in
theorem equalI_any (l m : List It) (A : Option Addr) (c : Nat) (A' : Option Addr) (c' : Nat) (hc : l.length ≤ maxLen) (w : World) (hs : IS w w.heap.size A l) (hs' : IS w w.heap.size A' m) (IH : ∀ x ∈ l, ∀ y ∈ m, SameOf x y) :
    Calls Try.prog 51 #[.slice A l.length c, .slice A' m.length c', .func (.func 20) #[] #[]] w fun e w' => e = .returned (.bool (sames l m)) ∧ Below w.heap.size w w' := by
  have D0 := Lib.hid (Below.refl w.heap.size w)
  have HF := Lib.hid (fun (h : ¬ (l.length = m.length ∧ ∀ j (h : j < l.length) (g : j < m.length), l[j].same m[j] = true)) => (show sames l m = false by
    cases e : sames l m with
    | false => rfl
    | true => exact absurd ((sames_iff l m).1 e) h))
  have HT := Lib.hid (fun h => (sames_iff l m).2 h)
  have HIH := Lib.hid IH
  have HS := Lib.hid hs
  have HS' := Lib.hid hs'
  generalize sames l m = v at *
  by_cases hlen : l.length = m.length
  · obtain ⟨n, hn⟩ : ∃ n, l.length = n := ⟨_, rfl⟩
    rw [← hlen, hn]
    have hnm : n ≤ 9223372036854775807 := by unfold maxLen at hc; omega
    have HN := Lib.hid (And.intro hn (show m.length = n by omega))
    clear hs hs' IH hlen hn hc
    go_enter Try.func51, Try.ntmps51
    go_wp2_with fail
    go_loopw [7, 17] (fun _ j wr => ∃ k : Nat, k ≤ n ∧ j = .int .i64 k ∧ (∀ j (h : j < l.length) (g : j < m.length), j < k → l[j].same m[j] = true) ∧ Below w.heap.size w wr) (fun _ j _ => n - (intOf j).toNat)
    case atStart => exact ⟨0, by omega, rfl, fun j h g hj => by omega, D0.out⟩
    case round =>
      obtain ⟨k, hk, rfl, h0, hb⟩ := hrel
      have HB := Lib.hid hb
      have H0 := Lib.hid h0
      have hz := hb.size
      clear hb h0
      by_cases hlt : k < n
      · have hkl : k < l.length := by have := HN.out; omega
        have hkm : k < m.length := by have := HN.out; omega
        obtain ⟨ad, rfl, had, Ab, cb, Al, cl, c0, c1, c2, hi⟩ := (HS.out.on HB.out).at_ k hkl
        obtain ⟨ae, rfl, hae, Ab', cb', Al', cl', d0, d1, d2, hi'⟩ := (HS'.out.on HB.out).at_ k hkm
        have B1 := Lib.hid (((Below.refl wr.heap.size wr).alloc (Nat.le_refl _) (.cells #[.int .i64 l[k].tag, .slice Ab l[k].b.length cb, .slice Al l[k].l.length cl] 25)).alloc (by simp) (.cells #[.int .i64 m[k].tag, .slice Ab' m[k].b.length cb', .slice Al' m[k].l.length cl'] 25))
        have P := Lib.hid (HIH.out l[k] (List.getElem_mem hkl) m[k] (List.getElem_mem hkm) Ab cb Al cl Ab' cb' Al' cl' _ (hi.on B1.out) (hi'.on B1.out))
        have HY := Lib.hid (fun (e : l[k].same m[k] = true) => (show ∀ j (h : j < l.length) (g : j < m.length), j < k + 1 → l[j].same m[j] = true from fun j h g hj => by
          by_cases ej : j = k
          · subst ej; exact e
          · exact H0.out j h g (by omega)))
        have HX := Lib.hid (fun (e : l[k].same m[k] = false) => HF.out (fun h => by have := h.2 k hkl hkm; rw [this] at e; cases e))
        have hbe : (ae.add (k * 3)).block < wr.heap.size := by rw [block_of_add]; exact hae
        have d0' := (World.cell?_alloc_lt wr (.cells #[.int .i64 l[k].tag, .slice Ab l[k].b.length cb, .slice Al l[k].l.length cl] 25) (ae.add (k * 3)) hbe).trans d0
        have d1' := (World.cell?_alloc_lt wr (.cells #[.int .i64 l[k].tag, .slice Ab l[k].b.length cb, .slice Al l[k].l.length cl] 25) ⟨(ae.add (k * 3)).block, (ae.add (k * 3)).off + 1, none⟩ hbe).trans d1
        have d2' := (World.cell?_alloc_lt wr (.cells #[.int .i64 l[k].tag, .slice Ab l[k].b.length cb, .slice Al l[k].l.length cl] 25) ⟨(ae.add (k * 3)).block, (ae.add (k * 3)).off + 2, none⟩ hbe).trans d2
        clear hi hi'
        generalize l[k].same m[k] = r at *
        generalize l[k].tag = y1 at *
        generalize l[k].b.length = y2 at *
        generalize l[k].l.length = y3 at *
        generalize m[k].tag = z1 at *
        generalize m[k].b.length = z2 at *
        generalize m[k].l.length = z3 at *
        go_wp2_with fail
        refine P.out.mono ?_; rintro _ w2 ⟨rfl, b2⟩
        have B2 := Lib.hid (HB.out.trans ((below_on B1.out b2).mono hz))
        clear b2 c0 c1 c2 d0 d1 d2 d0' d1' d2'
        cases r with
        | true =>
          have HY2 := Lib.hid (HY.out rfl)
          clear HY HX
          go_wp2_with fail
          go_roundw
          case rel => exact ⟨k + 1, by omega, by go_num, HY2.out, B2.out⟩
          case measure => simp [intOf]; omega
        | false =>
          have HX2 := Lib.hid (HX.out rfl)
          clear HY HX
          go_wp2_with fail
          go_ret
          exact ⟨by rw [HX2.out]; rfl, B2.out⟩
      · obtain rfl : n = k := by omega
        have HA := Lib.hid (HT.out ⟨by have := HN.out; omega, fun j h g => H0.out j h g (by have := HN.out; omega)⟩)
        go_wp2_with fail
        go_ret
        exact ⟨by rw [HA.out]; rfl, HB.out⟩
  · have HX := Lib.hid (HF.out (fun h => hlen h.1))
    have q : ((l.length : Int) == (m.length : Int)) = false := beq_eq_false_iff_ne.2 (by omega)
    clear hs hs' IH hc
    clear hlen
    go_enter Try.func51, Try.ntmps51
    go_wp2_with fail
    go_ret
    exact ⟨by rw [HX.out]; rfl, D0.out⟩
end Go.Proofs.Yteafbfhojhpbgaa
