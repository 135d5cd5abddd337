/- Contracts of the sieve: a new one, one with a number more, one of many. -/
import Derived.Test.YtgkdkkppeeikoaaSieveC
namespace Go.Proofs.Ytgkdkkppeeikoaa
open Go.ChangeShapes Go.WideShapes Go.ChangeAt Go.RowKit Gs
set_option linter.unusedVariables false

theorem Check_ok {bits hashes salt : Int} {len : Nat} (h : chkS bits hashes salt len = true) (A : Option Addr) (c : Nat) (hl : len ≤ maxLen) (w : World) :
    Calls Try.prog 12 #[svV bits hashes salt A len c] w fun e w' => e = .returned (.int .i64 0) ∧ Below w.heap.size w w' := by
  have := Check_any bits hashes salt A len c hl w
  rwa [h] at this
theorem Check_no {bits hashes salt : Int} {len : Nat} (h : chkS bits hashes salt len = false) (A : Option Addr) (c : Nat) (hl : len ≤ maxLen) (w : World) :
    Calls Try.prog 12 #[svV bits hashes salt A len c] w fun e w' => e = .returned (.int .i64 1) ∧ Below w.heap.size w w' := by
  have := Check_any bits hashes salt A len c hl w
  rwa [h] at this

theorem eqS_some (ad : Addr) (n c : Nat) (w : World) : (binOp .eql 24 (.slice (some ad) n c) (.slice none 0 0)).run Try.prog w = .ok (.bool false) w := by kernel_rfl
theorem eqS_nil (c : Nat) (w : World) : (binOp .eql 24 (.slice none 0 c) (.slice none 0 0)).run Try.prog w = .ok (.bool true) w := by kernel_rfl
theorem own_emptyB (w : World) {B g : Nat} (hB : B ≤ g) (hg : g = w.heap.size) : (w.alloc (.cells #[] 5)).ownsRow B 5 1 (.slice (some ⟨g, 0, none⟩) 0 0) 0 [] := by
  subst hg
  exact ⟨rfl, .inr ⟨_, 0, #[], rfl, hB, World.alloc_heap_new w _, Nat.le_refl _, by unfold maxLen; omega, rfl, rfl⟩⟩
set_option maxHeartbeats 2000000 in
theorem cloneS_any (ad : Addr) (n c : Nat) (b : List Int) (hn : b.length = n) (h1 : 1 ≤ n) (hl : n ≤ 1000000000) (w : World) (hs : SI w w.heap.size .u8 (some ad) b) :
    Calls Try.prog 27 #[.slice (some ad) n c] w fun e w' => ∃ g cap, e = .returned (.slice (some ⟨g, 0, none⟩) n cap) ∧ w'.ownsRow w.heap.size 5 1 (.slice (some ⟨g, 0, none⟩) n cap) n (b.map (Value.int .u8)) ∧ Below w.heap.size w w' := by
  obtain ⟨i0, hi, hz0, hz1, hz2⟩ := info_parts Try.info5
  have HI := Lib.hid (And.intro hi (And.intro hz0 (And.intro hz1 hz2)))
  clear hi hz0 hz1 hz2
  have HS := Lib.hid hs
  have HN := Lib.hid hn
  have OE := Lib.hid (own_emptyB w (Nat.le_refl _) rfl)
  have BE := Lib.hid ((Below.refl w.heap.size w).alloc (Nat.le_refl _) (.cells #[] 5))
  have HR := Lib.hid (show Reads (w.alloc (.cells #[] 5)) w.heap.size 1 (some ad) n (b.map (Value.int .u8)) from by have := reads_si (hs.below BE.out); rwa [hn] at this)
  have q := eqS_some ad n c w
  clear hs hn
  go_enter Try.func27, Try.ntmps27
  go_wp2_with (at_builtin; refine wpList_append_any _ rfl _ _ _ rfl w.heap.size 5 i0 (.int .u8 0) 1 1 Try.underlying24 HI.out.1 HI.out.2.1 HI.out.2.2.1 HI.out.2.2.2 rfl (by decide) _ 0 [] rfl OE.out w.heap.size _ n _ (b.map (Value.int .u8)) rfl HR.out (one_u8 _) (by unfold maxLen; omega) (by omega) (by simp) ?_; intro v' w1 ho hg hat; have HO := Lib.hid ho; have HG := Lib.hid hg; clear ho hg hat)
  go_ret
  have ho := HO.out
  rw [Nat.zero_add, List.nil_append] at ho
  obtain ⟨g, cap, rfl, _, _⟩ := ho.form (by omega)
  exact ⟨g, cap, rfl, ho, BE.out.trans ((Below.refl _ _).grown HG.out (by simp) (fun k hk => by simp only [Act.eval, Array.getD] at hk; simp [Value.ownBlock] at hk; omega))⟩

theorem madeCells_u8 (n : Nat) : (madeCells (Value.int .u8 0).cells (n * 1)).toList = (List.replicate n (0 : Int)).map (Value.int .u8) := by
  rw [Nat.mul_one, List.map_replicate]
  have h : (fun x : Nat => [Value.int IntKind.u8 0][x % 1]?.getD default) = fun _ => Value.int IntKind.u8 0 := by
    funext x; rw [Nat.mod_one]; rfl
  simp [madeCells, Value.cells, h]
  rw [List.map_const', List.length_range]

set_option maxHeartbeats 2000000 in
theorem New_ok (bits hashes salt : Int) (hm : mayN bits hashes salt = true) (w : World) :
    Calls Try.prog 18 #[.int .i64 bits, .int .i64 hashes, .int .i64 salt] w fun e w' => (∃ g cap, e = .returned (.tuple #[svV bits hashes salt (some ⟨g, 0, none⟩) (bits / 8).toNat cap, .int .i64 0]) ∧
      w'.ownsRow w.heap.size 5 1 (.slice (some ⟨g, 0, none⟩) (bits / 8).toNat cap) (bits / 8).toNat ((List.replicate (bits / 8).toNat 0).map (Value.int .u8))) ∧ Below w.heap.size w w' := by
  obtain ⟨i0, hi, hz0, hz1, hz2⟩ := info_parts Try.info5
  have HI := Lib.hid (And.intro hi (And.intro hz0 (And.intro hz1 hz2)))
  clear hi hz0 hz1 hz2
  have hb := (mayN_iff.1 hm).1
  have b0 : 0 ≤ bits := by omega
  have b1 : bits ≤ 8192 := by omega
  obtain ⟨m, hm8⟩ : ∃ m : Nat, (bits / 8).toNat = m := ⟨_, rfl⟩
  have hq : bits / 8 = (m : Int) := by omega
  have hmb : m ≤ 1024 := by omega
  rw [hm8]
  have HM := Lib.hid (show ∀ w, Calls Try.prog 23 #[.int .i64 bits, .int .i64 hashes, .int .i64 salt] w fun e w' => e = .returned (.bool true) ∧ w = w' from fun w => by have := mayBe_any bits hashes salt w; rwa [hm] at this)
  have HQ := Lib.hid hq
  clear hm hb hm8 hq
  go_enter Try.func18, Try.ntmps18
  go_wp2_with fail
  refine (HM.out _).mono ?_; rintro e w' ⟨rfl, rfl⟩
  have hB0 := Blk.new w 26 #[.int .i64 0, .int .i64 0, .int .i64 0, .slice none 0 0]
  have HB0 := Lib.hid hB0
  have BE := Lib.hid ((Below.refl w.heap.size w).alloc (Nat.le_refl _) (.cells #[.int .i64 0, .int .i64 0, .int .i64 0, .slice none 0 0] 26))
  clear hB0
  go_wp2_with (at_make; refine wpList_make_full _ rfl _ _ 24 rfl w.heap.size 5 i0 (.int .u8 0) 1 Try.underlying24 HI.out.1 HI.out.2.1 HI.out.2.2.1 _ _ _ _ m rfl rfl HQ.out HQ.out (by rw [HI.out.2.2.2]; omega) (by unfold maxLen; omega) (by simp) ?_; intro w1 ho hg; have HO := Lib.hid ho; have HG := Lib.hid hg; have hB1 := HB0.out.grown hg (by simp); have HB1 := Lib.hid hB1; obtain ⟨c0, c1, c2, c3⟩ := hB1.facts4; have f0 := hB1.free 0; have f1 := hB1.free 1; have f2 := hB1.free 2; have f3 := hB1.free 3; clear ho hg hB1)
  have hs := Lib.hid ((((HB1.out.set 0 (.int .i64 bits)).set 1 (.int .i64 hashes)).set 2 (.int .i64 salt)).set 3 (.slice (some ⟨w.heap.size + 1, 0, none⟩) m m))
  obtain ⟨d0, d1, d2, d3⟩ := Blk.facts4 hs.out
  have hO := HO.out
  rw [World.size_alloc, madeCells_u8] at hO
  have ne : (Value.slice (some ⟨w.heap.size + 1, 0, none⟩) m m).ownBlock ≠ some w.heap.size := by simp [Value.ownBlock]
  refine bodyPost_ret (v := .tuple #[svV bits hashes salt (some ⟨w.heap.size + 1, 0, none⟩) m m, .int .i64 0]) (by simp [results, Try.results18, go_sem, d0, d1, d2, d3]) rfl ⟨⟨_, _, rfl, ownsRow_setCell_other (ownsRow_setCell_other (ownsRow_setCell_other (ownsRow_setCell_other hO ne _) ne _) ne _) ne _⟩, ?_⟩
  exact (((((BE.out.grown HG.out (by simp) (by simp)).setCell (Nat.le_refl _) _).setCell (Nat.le_refl _) _).setCell (Nat.le_refl _) _).setCell (Nat.le_refl _) _)

theorem New_no (bits hashes salt : Int) (hm : mayN bits hashes salt = false) (w : World) :
    Calls Try.prog 18 #[.int .i64 bits, .int .i64 hashes, .int .i64 salt] w fun e w' => e = .returned (.tuple #[svV 0 0 0 none 0 0, .int .i64 1]) ∧ Below w.heap.size w w' := by
  have HM := Lib.hid (show ∀ w, Calls Try.prog 23 #[.int .i64 bits, .int .i64 hashes, .int .i64 salt] w fun e w' => e = .returned (.bool false) ∧ w = w' from fun w => by have := mayBe_any bits hashes salt w; rwa [hm] at this)
  clear hm
  go_enter Try.func18, Try.ntmps18
  go_wp2_with fail
  refine (HM.out _).mono ?_; rintro e w' ⟨rfl, rfl⟩
  go_wp2_with fail
  obtain ⟨d0, d1, d2, d3⟩ := (Blk.new w 26 #[.int .i64 0, .int .i64 0, .int .i64 0, .slice none 0 0]).facts4
  refine bodyPost_ret (v := .tuple #[svV 0 0 0 none 0 0, .int .i64 1]) (by simp [results, Try.results18, go_sem, d0, d1, d2, d3]) rfl ⟨rfl, ?_⟩
  exact (Below.refl w.heap.size w).alloc (Nat.le_refl _) _

theorem si_one (w : World) {g : Nat} {x : Int} (h : Blk w g 3 #[.int .i64 x]) : SI w w.heap.size .i64 (some ⟨g, 0, none⟩) [x] := fun j hj => by
  have : j = 0 := by simp at hj; omega
  subst this
  exact ⟨_, rfl, h.lt, h.cell 0⟩
theorem Blk.set4 {w : World} {g : Nat} {t : TypeId} {x y z u x' y' z' u' : Value} (h : Blk w g t #[x, y, z, u]) : Blk ((((w.setCell ⟨g, 0, none⟩ x').setCell ⟨g, 1, none⟩ y').setCell ⟨g, 2, none⟩ z').setCell ⟨g, 3, none⟩ u') g t #[x', y', z', u'] := (((h.set 0 x').set 1 y').set 2 z').set 3 u'
theorem own_set4 {w : World} {base : Nat} {e : TypeId} {size n : Nat} {v : Value} {xs : List Value} (h : w.ownsRow base e size v n xs) {g : Nat} (ne : v.ownBlock ≠ some g) (x y z u : Value) :
    ((((w.setCell ⟨g, 0, none⟩ x).setCell ⟨g, 1, none⟩ y).setCell ⟨g, 2, none⟩ z).setCell ⟨g, 3, none⟩ u).ownsRow base e size v n xs :=
  ownsRow_setCell_other (ownsRow_setCell_other (ownsRow_setCell_other (ownsRow_setCell_other h ne _) ne _) ne _) ne _
theorem below_set4 {B : Nat} {w w' : World} (h : Below B w w') {g : Nat} (hg : B ≤ g) (x y z u : Value) : Below B w ((((w'.setCell ⟨g, 0, none⟩ x).setCell ⟨g, 1, none⟩ y).setCell ⟨g, 2, none⟩ z).setCell ⟨g, 3, none⟩ u) :=
  (((h.setCell hg _).setCell hg _).setCell hg _).setCell hg _
theorem grown_below {a w w' : World} {g : Nat} (h : Below a.heap.size a w) (hg : w.grownBy w' (some g)) (hga : a.heap.size ≤ g) : Below a.heap.size a w' :=
  h.grown hg h.size (fun k e => by cases e; exact hga)

/-- What package sieve tells of a number that is put in. -/
def PutEnd (bits hashes salt : Int) (B : List Int) (n : Int) (len : Nat) (w : World) (e : Ending) (w' : World) : Prop :=
  Below w.heap.size w w' ∧ ((rightN n = true ∧ ∃ g cap, e = .returned (.tuple #[svV bits hashes salt (some ⟨g, 0, none⟩) len cap, .int .i64 0]) ∧ w'.ownsRow w.heap.size 5 1 (.slice (some ⟨g, 0, none⟩) len cap) len ((putB B (pl bits hashes salt n)).map (Value.int .u8))) ∨
    (rightN n = false ∧ e = .returned (.tuple #[svV 0 0 0 none 0 0, .int .i64 1])))

set_option maxHeartbeats 4000000 in
theorem Put_chk (bits hashes salt : Int) (ad : Addr) (len c : Nat) (B : List Int) (hB : IsBy B) (hl : B.length = len) (hc : chkS bits hashes salt len = true) (hcm : len ≤ 100000) (n : Int) (w : World) (hs : SI w w.heap.size .u8 (some ad) B) :
    Calls Try.prog 17 #[svV bits hashes salt (some ad) len c, .int .i64 n] w (PutEnd bits hashes salt B n len w) := by
  obtain ⟨hm, hlb⟩ := chkS_iff.1 hc
  have hmb := (mayN_iff.1 hm).1
  have hlen1 : 1 ≤ len := by omega
  have CK := Lib.hid (Check_ok hc (some ad) c (by unfold maxLen; omega))
  have CL := Lib.hid (fun W hsi => cloneS_any ad len c B hl hlen1 (by omega) W hsi)
  have PA := Lib.hid (fun g cap base L cl W hr hL hne => putAll_any bits hashes salt hm g len cap base B hB hlb L cl [n] (by simp) W hr hL hne)
  have HS := Lib.hid hs
  have HR := Lib.hid (show rights [n] = rightN n by simp [rights])
  have HP := Lib.hid (pls_one bits hashes salt n)
  clear hm hlb hmb hs hl hc
  go_enter Try.func17, Try.ntmps17
  go_wp2_with fail
  refine (CK.out _).mono ?_; rintro e w1 ⟨rfl, b1⟩
  have X1 := Lib.hid (show Blk w1 w.heap.size 26 #[.int .i64 bits, .int .i64 hashes, .int .i64 salt, .slice (some ad) len c] from blk01 b1)
  have R1 := Lib.hid (show Blk w1 (w.heap.size + 1) 26 #[.int .i64 0, .int .i64 0, .int .i64 0, .slice none 0 0] from blk10 b1)
  have B1 := Lib.hid (bel2 b1)
  have hz1 : w.heap.size + 1 < w1.heap.size := R1.out.lt
  clear b1
  obtain ⟨p0, p1, p2, p3⟩ := X1.out.facts4
  go_wp2_with fail
  refine (CL.out _ (HS.out.on B1.out)).mono ?_; rintro e w2 ⟨g, cap, rfl, ho, b2⟩
  have hg2 := ho.lt g rfl
  have hgw : w1.heap.size ≤ g := hg2.1
  have HO := Lib.hid ho
  have X2 := Lib.hid (X1.out.below b2 X1.out.lt)
  have R2 := Lib.hid (R1.out.below b2 R1.out.lt)
  have B2 := Lib.hid (belowOn B1.out b2)
  have hz2 : w.heap.size + 1 < w2.heap.size := R2.out.lt
  clear ho b2 p0 p1 p2 p3
  obtain ⟨p0, p1, p2, p3⟩ := X2.out.facts4
  have f3 := X2.out.free 3
  go_wp2_with fail
  have HW := Lib.hid (show Blk ((w2.setCell ⟨w.heap.size, 3, none⟩ (.slice (some ⟨g, 0, none⟩) len cap)).alloc (.cells #[.int .i64 n] 3)) w2.heap.size 3 #[.int .i64 n] from Blk.new_at _ _ _ (by simp [World.setCell]))
  have ne : (Value.slice (some ⟨g, 0, none⟩) len cap).ownBlock ≠ some w.heap.size := by simp [Value.ownBlock]; omega
  refine (PA.out g cap w1.heap.size _ _ _ ((ownsRow_setCell_other HO.out ne _).alloc _) (si_one _ HW.out) (fun a e _ => by cases e; simp only []; omega)).mono ?_
  rintro e w3 ⟨hg3, hend⟩
  have R3 : Blk w3 (w.heap.size + 1) 26 #[.int .i64 0, .int .i64 0, .int .i64 0, .slice none 0 0] := ((R2.out.other (by simp only []; omega) _).alloc _).grown hg3 (by simp; omega)
  have B3 := Lib.hid (grown_below ((show Below w.heap.size w (w2.setCell ⟨w.heap.size, 3, none⟩ (.slice (some ⟨g, 0, none⟩) len cap)) from B2.out.setCell (Nat.le_refl _) _).alloc (by simp [World.setCell]; omega) (.cells #[.int .i64 n] 3)) hg3 (by omega))
  clear p0 p1 p2 p3 f3
  obtain ⟨r0, r1, r2, r3⟩ := R3.facts4
  have f0 := R3.free 0
  have f1 := R3.free 1
  have f2 := R3.free 2
  have f3 := R3.free 3
  have R3 := Lib.hid R3
  have HG := Lib.hid hg3
  rcases hend with ⟨hr, rfl, hrow⟩ | ⟨hr, rfl⟩
  · rw [HR.out] at hr
    rw [HP.out] at hrow
    have HRR := Lib.hid hr
    have HROW := Lib.hid hrow
    clear hr hrow hg3
    go_wp2_with fail
    obtain ⟨d0, d1, d2, d3⟩ := (R3.out.set4 (x' := .int .i64 bits) (y' := .int .i64 hashes) (z' := .int .i64 salt) (u' := .slice (some ⟨g, 0, none⟩) len cap)).facts4
    refine bodyPost_ret (v := .tuple #[svV bits hashes salt (some ⟨g, 0, none⟩) len cap, .int .i64 0]) (by simp [results, Try.results17, go_sem, d0, d1, d2, d3]) rfl ⟨below_set4 B3.out (by omega) _ _ _ _, .inl ⟨HRR.out, g, cap, rfl, Go.Joins.ownsRow_le (own_set4 HROW.out (by simp [Value.ownBlock]; omega) _ _ _ _) (by omega)⟩⟩
  · rw [HR.out] at hr
    have HRR := Lib.hid hr
    clear hr hg3
    go_wp2_with fail
    obtain ⟨d0, d1, d2, d3⟩ := (R3.out.set4 (x' := .int .i64 0) (y' := .int .i64 0) (z' := .int .i64 0) (u' := .slice none 0 0)).facts4
    refine bodyPost_ret (v := .tuple #[svV 0 0 0 none 0 0, .int .i64 1]) (by simp [results, Try.results17, go_sem, d0, d1, d2, d3]) rfl ⟨below_set4 B3.out (by omega) _ _ _ _, .inr ⟨HRR.out, rfl⟩⟩

theorem Put_no (bits hashes salt : Int) (A : Option Addr) (len c : Nat) (hc : chkS bits hashes salt len = false) (hcm : len ≤ maxLen) (n : Int) (w : World) :
    Calls Try.prog 17 #[svV bits hashes salt A len c, .int .i64 n] w fun e w' => e = .returned (.tuple #[svV 0 0 0 none 0 0, .int .i64 1]) ∧ Below w.heap.size w w' := by
  have CK := Lib.hid (Check_no hc A c hcm)
  clear hc
  go_enter Try.func17, Try.ntmps17
  go_wp2_with fail
  refine (CK.out _).mono ?_; rintro e w1 ⟨rfl, b1⟩
  have R1 : Blk w1 (w.heap.size + 1) 26 #[.int .i64 0, .int .i64 0, .int .i64 0, .slice none 0 0] := blk10 b1
  have B1 := Lib.hid (bel2 b1)
  clear b1
  obtain ⟨r0, r1, r2, r3⟩ := R1.facts4
  have f0 := R1.free 0
  have f1 := R1.free 1
  have f2 := R1.free 2
  have f3 := R1.free 3
  have R1 := Lib.hid R1
  go_wp2_with fail
  obtain ⟨d0, d1, d2, d3⟩ := (R1.out.set4 (x' := .int .i64 0) (y' := .int .i64 0) (z' := .int .i64 0) (u' := .slice none 0 0)).facts4
  refine bodyPost_ret (v := .tuple #[svV 0 0 0 none 0 0, .int .i64 1]) (by simp [results, Try.results17, go_sem, d0, d1, d2, d3]) rfl ⟨rfl, below_set4 B1.out (by omega) _ _ _ _⟩

/-- What package sieve tells of many numbers. -/
def OfEnd (bits hashes salt : Int) (l : List Int) (w : World) (e : Ending) (w' : World) : Prop :=
  Below w.heap.size w w' ∧ ((rights l = true ∧ ∃ g cap, e = .returned (.tuple #[svV bits hashes salt (some ⟨g, 0, none⟩) (bits / 8).toNat cap, .int .i64 0]) ∧ w'.ownsRow w.heap.size 5 1 (.slice (some ⟨g, 0, none⟩) (bits / 8).toNat cap) (bits / 8).toNat ((ofB bits hashes salt l).map (Value.int .u8))) ∨
    (rights l = false ∧ e = .returned (.tuple #[svV 0 0 0 none 0 0, .int .i64 1])))

set_option maxHeartbeats 4000000 in
theorem Of_may (bits hashes salt : Int) (hm : mayN bits hashes salt = true) (L : Option Addr) (cl : Nat) (l : List Int) (hll : l.length ≤ 1000000) (w : World) (hL : SI w w.heap.size .i64 L l) :
    Calls Try.prog 10 #[.slice L l.length cl, .int .i64 bits, .int .i64 hashes, .int .i64 salt] w (OfEnd bits hashes salt l w) := by
  have hmb := (mayN_iff.1 hm).1
  have NW := Lib.hid (New_ok bits hashes salt hm)
  have PA := Lib.hid (fun g cap base W hr hL hne => putAll_any bits hashes salt hm g (bits / 8).toNat cap base (List.replicate (bits / 8).toNat 0) (zeros_by _) (by omega) L cl l hll W hr hL hne)
  have HL := Lib.hid hL
  obtain ⟨m, hm8⟩ : ∃ m : Nat, (bits / 8).toNat = m := ⟨_, rfl⟩
  have HO := Lib.hid (show ofB bits hashes salt l = putB (List.replicate m 0) (pls bits hashes salt l) by unfold ofB; rw [hm8])
  have HM := Lib.hid hm8
  rw [hm8] at NW PA
  unfold OfEnd
  rw [hm8]
  clear hm hmb hL hm8
  go_enter Try.func10, Try.ntmps10
  go_wp2_with fail
  refine (NW.out _).mono ?_; rintro e w1 ⟨⟨g, cap, rfl, ho⟩, b1⟩
  rw [World.size_alloc] at ho
  have hg := ho.lt g rfl
  have R1 := Lib.hid (show Blk w1 w.heap.size 26 #[.int .i64 0, .int .i64 0, .int .i64 0, .slice none 0 0] from blk00 b1)
  have B1 := Lib.hid (bel1 b1)
  have HRW := Lib.hid ho
  have hz1 : w.heap.size < w1.heap.size := R1.out.lt
  clear ho b1
  go_wp2_with fail
  refine (PA.out g cap (w.heap.size + 1) _ (HRW.out.alloc _) (HL.out.on (B1.out.alloc B1.out.size _)) (fun a e hpos => by
    obtain ⟨ad, e', hb, _⟩ := HL.out 0 hpos
    rw [e] at e'
    cases e'
    omega)).mono ?_
  rintro e w3 ⟨hg3, hend⟩
  have R3 : Blk w3 w.heap.size 26 #[.int .i64 0, .int .i64 0, .int .i64 0, .slice none 0 0] := (R1.out.alloc _).grown hg3 (by simp; omega)
  have B3 := Lib.hid (grown_below (B1.out.alloc B1.out.size (.cells #[.int .i64 bits, .int .i64 hashes, .int .i64 salt, .slice (some ⟨g, 0, none⟩) m cap] 26)) hg3 (by omega))
  obtain ⟨r0, r1, r2, r3⟩ := R3.facts4
  have f0 := R3.free 0
  have f1 := R3.free 1
  have f2 := R3.free 2
  have f3 := R3.free 3
  have R3 := Lib.hid R3
  rcases hend with ⟨hr, rfl, hrow⟩ | ⟨hr, rfl⟩
  · rw [← HO.out] at hrow
    have HRR := Lib.hid hr
    have HROW := Lib.hid hrow
    clear hr hrow hg3
    go_wp2_with fail
    obtain ⟨d0, d1, d2, d3⟩ := (R3.out.set4 (x' := .int .i64 bits) (y' := .int .i64 hashes) (z' := .int .i64 salt) (u' := .slice (some ⟨g, 0, none⟩) m cap)).facts4
    refine bodyPost_ret (v := .tuple #[svV bits hashes salt (some ⟨g, 0, none⟩) m cap, .int .i64 0]) (by simp [results, Try.results10, go_sem, d0, d1, d2, d3]) rfl ⟨below_set4 B3.out (by omega) _ _ _ _, .inl ⟨HRR.out, g, cap, rfl, Go.Joins.ownsRow_le (own_set4 HROW.out (by simp [Value.ownBlock]; omega) _ _ _ _) (by omega)⟩⟩
  · have HRR := Lib.hid hr
    clear hr hg3
    go_wp2_with fail
    obtain ⟨d0, d1, d2, d3⟩ := (R3.out.set4 (x' := .int .i64 0) (y' := .int .i64 0) (z' := .int .i64 0) (u' := .slice none 0 0)).facts4
    refine bodyPost_ret (v := .tuple #[svV 0 0 0 none 0 0, .int .i64 1]) (by simp [results, Try.results10, go_sem, d0, d1, d2, d3]) rfl ⟨below_set4 B3.out (by omega) _ _ _ _, .inr ⟨HRR.out, rfl⟩⟩

theorem Of_no (bits hashes salt : Int) (hm : mayN bits hashes salt = false) (V : Value) (w : World) :
    Calls Try.prog 10 #[V, .int .i64 bits, .int .i64 hashes, .int .i64 salt] w fun e w' => e = .returned (.tuple #[svV 0 0 0 none 0 0, .int .i64 1]) ∧ Below w.heap.size w w' := by
  have NW := Lib.hid (New_no bits hashes salt hm)
  clear hm
  go_enter Try.func10, Try.ntmps10
  go_wp2_with fail
  refine (NW.out _).mono ?_; rintro e w1 ⟨rfl, b1⟩
  have R1 : Blk w1 w.heap.size 26 #[.int .i64 0, .int .i64 0, .int .i64 0, .slice none 0 0] := blk00 b1
  have B1 := Lib.hid (bel1 b1)
  have hz1 : w.heap.size < w1.heap.size := R1.lt
  clear b1
  obtain ⟨r0, r1, r2, r3⟩ := R1.facts4
  have f0 := R1.free 0
  have f1 := R1.free 1
  have f2 := R1.free 2
  have f3 := R1.free 3
  have R1 := Lib.hid R1
  go_wp2_with fail
  obtain ⟨d0, d1, d2, d3⟩ := ((R1.out.set4 (x' := .int .i64 0) (y' := .int .i64 0) (z' := .int .i64 0) (u' := .slice none 0 0)).alloc (.cells #[.int .i64 0, .int .i64 0, .int .i64 0, .slice none 0 0] 26)).facts4
  refine bodyPost_ret (v := .tuple #[svV 0 0 0 none 0 0, .int .i64 1]) (by simp [results, Try.results10, go_sem, d0, d1, d2, d3]) rfl ⟨rfl, (below_set4 B1.out (Nat.le_refl _) _ _ _ _).alloc (by simp [World.setCell]; omega) _⟩
end Go.Proofs.Ytgkdkkppeeikoaa
