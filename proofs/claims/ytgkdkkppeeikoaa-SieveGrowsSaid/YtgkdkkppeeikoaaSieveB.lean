/- Contracts of the sieve: the places of a number, by a function that yields them. (Printed by tools/gen_sieve_b.py.) -/
import Derived.Test.YtgkdkkppeeikoaaSieveA
import Derived.Test.YtgkdkkppeeikoaaHashLib2
import Derived.Deep.RegionHeldLaw
import Derived.Deep.RegionWith
import Derived.Stop.RegionWithIn
import Derived.Deep.CutRange
namespace Go.Proofs.Ytgkdkkppeeikoaa
open Go.ChangeShapes Go.WideShapes Go.ChangeAt Go.RowKit Go.Shelf Gs
set_option linter.unusedVariables false
attribute [local go_sem] Oper.semAt_some

theorem hnum_bound (a b : Int) {m : Int} (h : 0 < m) : 0 ≤ hnum a b m ∧ hnum a b m < m := by
  unfold hnum
  rw [if_neg (by omega)]
  exact ⟨Int.emod_nonneg _ (by omega), Int.emod_lt_of_pos _ h⟩
instance (l : List Int) : IsU (hst l).1 := IsU.of (hst_el l).1.u64
instance (l : List Int) : IsU (hst l).2.1 := IsU.of (hst_el l).2.1.u64

/-- Bytes that a slice holds. -/
def Sli (w : World) (v : Value) (xs : List Int) : Prop := ∃ A c, v = .slice A xs.length c ∧ xs.length ≤ c ∧ c ≤ maxLen ∧ SI w w.heap.size .u8 A xs
theorem Sli.on {w w' : World} {v : Value} {xs : List Int} (h : Sli w v xs) (hb : Below w.heap.size w w') : Sli w' v xs := by
  obtain ⟨A, c, e, h1, h2, hs⟩ := h
  exact ⟨A, c, e, h1, h2, hs.on hb⟩
theorem sli_at {w : World} {xs : List Int} {ps : List (List Int)} {j : Nat} (hj : j < ps.length) (e : ps[j] = xs) {v : Value} (h : Sli w v xs) {ad : Addr} (hb : ad.block < w.heap.size) (hc : w.cell? (ad.add j) = some v) :
    ∃ ad', some ad = some ad' ∧ ad'.block < w.heap.size ∧ ∃ A' c', w.cell? (ad'.add j) = some (.slice A' ps[j].length c') ∧ ps[j].length ≤ c' ∧ c' ≤ maxLen ∧ SI w w.heap.size .u8 A' ps[j] := by
  subst e
  obtain ⟨A, c, rfl, h1, h2, hs⟩ := h
  exact ⟨ad, rfl, hb, A, c, hc, h1, h2, hs⟩
theorem sp3 {w : World} {g : Nat} {t : TypeId} {v u z : Value} {xs ys zs : List Int} (h : Blk w g t #[v, u, z]) (hv : Sli w v xs) (hu : Sli w u ys) (hz : Sli w z zs) : SP w w.heap.size (some ⟨g, 0, none⟩) [xs, ys, zs] := fun j hj => by
  rcases j with _ | _ | _ | j
  · exact sli_at (ps := [xs, ys, zs]) (j := 0) hj rfl hv h.lt (h.cell 0)
  · exact sli_at (ps := [xs, ys, zs]) (j := 1) hj rfl hu h.lt (h.cell 1)
  · exact sli_at (ps := [xs, ys, zs]) (j := 2) hj rfl hz h.lt (h.cell 2)
  · exact absurd hj (by simp)
theorem sp3_of {w : World} {g : Nat} {t : TypeId} {v u z : Value} {xs ys zs : List Int} (h : Blk w g t #[v, u, z]) (k : Sli w v xs ∧ Sli w u ys ∧ Sli w z zs) : SP w w.heap.size (some ⟨g, 0, none⟩) [xs, ys, zs] := sp3 h k.1 k.2.1 k.2.2
theorem bel0 {P N : World} (b : Below P.heap.size P N) : Below P.heap.size P N := b
theorem bel1 {P N : World} {o : Obj} (b : Below (P.alloc o).heap.size (P.alloc o) N) : Below P.heap.size P N := belowOn ((Below.refl _ _).alloc (Nat.le_refl _) _) b
theorem bel2 {P N : World} {o o' : Obj} (b : Below ((P.alloc o).alloc o').heap.size ((P.alloc o).alloc o') N) : Below P.heap.size P N := bel1 (bel1 b)
theorem bel3 {P N : World} {o o' o'' : Obj} (b : Below (((P.alloc o).alloc o').alloc o'').heap.size (((P.alloc o).alloc o').alloc o'') N) : Below P.heap.size P N := bel1 (bel2 b)
section
variable {P N : World} {t : TypeId} {cs : Array Value} {o o' : Obj}
theorem beld1 {P N : World} {o : Obj} (b : Below (P.alloc o).drew.heap.size (P.alloc o).drew N) : Below P.drew.heap.size P.drew N := bel1 (P := P.drew) (o := o) b
theorem beld2 {P N : World} {o o' : Obj} (b : Below ((P.alloc o).alloc o').drew.heap.size ((P.alloc o).alloc o').drew N) : Below P.drew.heap.size P.drew N := bel2 (P := P.drew) (o := o) (o' := o') b
theorem blk00 (b : Below (P.alloc (.cells cs t)).heap.size (P.alloc (.cells cs t)) N) : Blk N P.heap.size t cs := (Blk.new_at P t cs rfl).below b (by simp)
theorem blk01 (b : Below ((P.alloc (.cells cs t)).alloc o).heap.size ((P.alloc (.cells cs t)).alloc o) N) : Blk N P.heap.size t cs := blk00 (bel1 b)
theorem blkd00 (b : Below (P.alloc (.cells cs t)).drew.heap.size (P.alloc (.cells cs t)).drew N) : Blk N P.heap.size t cs := (Blk.new_at P t cs rfl).drew.below b (by simp)
theorem blkd01 (b : Below ((P.alloc (.cells cs t)).alloc o).drew.heap.size ((P.alloc (.cells cs t)).alloc o).drew N) : Blk N P.heap.size t cs := ((Blk.new_at P t cs rfl).alloc o).drew.below b (by simp; omega)
theorem blkd10 (b : Below ((P.alloc o).alloc (.cells cs t)).drew.heap.size ((P.alloc o).alloc (.cells cs t)).drew N) : Blk N (P.heap.size + 1) t cs := (Blk.new_at (P.alloc o) t cs (by simp)).drew.below b (by simp)
theorem blk02 (b : Below (((P.alloc (.cells cs t)).alloc o).alloc o').heap.size (((P.alloc (.cells cs t)).alloc o).alloc o') N) : Blk N P.heap.size t cs := blk00 (bel2 b)
theorem blk10 (b : Below ((P.alloc o).alloc (.cells cs t)).heap.size ((P.alloc o).alloc (.cells cs t)) N) : Blk N (P.heap.size + 1) t cs := (Blk.new_at (P.alloc o) t cs (by simp)).below b (by simp)
theorem blk11 (b : Below (((P.alloc o).alloc (.cells cs t)).alloc o').heap.size (((P.alloc o).alloc (.cells cs t)).alloc o') N) : Blk N (P.heap.size + 1) t cs := blk10 (bel1 b)
theorem blk20 (b : Below (((P.alloc o).alloc o').alloc (.cells cs t)).heap.size (((P.alloc o).alloc o').alloc (.cells cs t)) N) : Blk N (P.heap.size + 1 + 1) t cs := (Blk.new_at ((P.alloc o).alloc o') t cs (by simp)).below b (by simp)
theorem nb0 (P : World) (o : Obj) : Below P.heap.size P (P.alloc o) := (Below.refl _ _).alloc (Nat.le_refl _) _
theorem nb1 (P : World) (o o' : Obj) : Below P.heap.size P ((P.alloc o).alloc o') := ((Below.refl _ _).alloc (Nat.le_refl _) _).alloc (by simp) _
theorem nb2 (P : World) (o o' o'' : Obj) : Below P.heap.size P (((P.alloc o).alloc o').alloc o'') := (nb1 P o o').alloc (by simp; omega) _
theorem ab0 : Blk (P.alloc (.cells cs t)) P.heap.size t cs := Blk.new_at P t cs rfl
theorem ab1 : Blk ((P.alloc o).alloc (.cells cs t)) (P.heap.size + 1) t cs := Blk.new_at (P.alloc o) t cs (by simp)
theorem ab2 : Blk (((P.alloc o).alloc o').alloc (.cells cs t)) (P.heap.size + 1 + 1) t cs := Blk.new_at ((P.alloc o).alloc o') t cs (by simp)
end
theorem sli_own {w : World} {B : Nat} {v : Value} {xs : List Int} (h : OwnB w B v xs) : Sli w v xs := by
  obtain ⟨A, c, e, h1, h2, hs, _⟩ := own_sliceB h
  exact ⟨A, c, e, h1, h2, hs⟩
theorem sli_k {w : World} {g : Nat} {x : Int} (h : Blk w g 5 #[.int .u8 x]) : Sli w (.slice (some ⟨g, 0, none⟩) 1 1) [x] :=
  ⟨_, 1, rfl, by simp, by unfold maxLen; omega, fun j hj => by
    have : j = 0 := by simp at hj; omega
    subst this
    exact ⟨_, rfl, h.lt, h.cell 0⟩⟩
/-- Below n₀, and the blocks Bs and Bn, all is as it was. -/
def KP (n₀ Bs Bn : Nat) (W W' : World) : Prop := Below n₀ W W' ∧ W'.heap[Bs]? = W.heap[Bs]? ∧ W'.heap[Bn]? = W.heap[Bn]?
theorem KP.refl (n₀ Bs Bn : Nat) (W : World) : KP n₀ Bs Bn W W := ⟨Below.refl _ _, rfl, rfl⟩
theorem KP.trans {n₀ Bs Bn : Nat} {A B C : World} (h : KP n₀ Bs Bn A B) (k : KP n₀ Bs Bn B C) : KP n₀ Bs Bn A C := ⟨h.1.trans k.1, k.2.1.trans h.2.1, k.2.2.trans h.2.2⟩
theorem KP.put {n₀ Bs Bn : Nat} {w : World} (hn : n₀ ≤ w.heap.size) (h1 : Bs < w.heap.size) (h2 : Bn < w.heap.size) (W : World) (l : Nat) (o o' : Obj) (hl : w.heap.size ≤ l) (h : W.heap[l]? = some o) (k1 : o.isCells = false) (k2 : o.isWalk = false) : KP n₀ Bs Bn W (W.putObj l o') :=
  ⟨(KB.put hn h1 W l o o' hl h k1 k2).1, (KB.put hn h1 W l o o' hl h k1 k2).2, (KB.put hn h2 W l o o' hl h k1 k2).2⟩
theorem KP.below {n₀ Bs Bn : Nat} {W W' : World} (h : Below W.heap.size W W') (hn : n₀ ≤ W.heap.size) (h1 : Bs < W.heap.size) (h2 : Bn < W.heap.size) : KP n₀ Bs Bn W W' := ⟨h.mono hn, h.block Bs h1, h.block Bn h2⟩
theorem abides_below {β : Type} {B : Nat} {J : β → World → Prop} (h : AbidesFrom B J) {s : β} {W W' : World} (hs : J s W) (hb : Below W.heap.size W W') : J s W' :=
  h s W W' none hs ⟨hb.os, hb.tape, hb.output, hb.size, fun i hi _ => hb.block i hi⟩ (fun _ e => by cases e)

instance (salt n : Int) (k : Nat) : IsU (placeH salt n k).1 := IsU.of (hst_el _).1.u64
instance (salt n : Int) (k : Nat) : IsU (placeH salt n k).2.1 := IsU.of (hst_el _).2.1.u64
theorem bytesOf_sl (n : Int) (h0 : 0 ≤ n) (h1 : n ≤ 9223372036854775807) (w : World) :
    Calls Try.prog 30 #[.int .i64 n] w fun e w' => ∃ A c, e = .returned (.slice A 8 c) ∧ Sli w' (.slice A 8 c) (be n 8) ∧ Below w.heap.size w w' :=
  (bytesOf_any n h0 h1 w).mono fun e w' ⟨v, he, ho, hb⟩ => by
    obtain ⟨A, c, rfl, h1, h2, hs, _⟩ := own_sliceB ho
    rw [be_length] at he h1
    exact ⟨A, c, he, ⟨A, c, by rw [be_length], by rw [be_length]; exact h1, h2, hs⟩, hb⟩
theorem place_tag (salt n : Int) (k : Nat) : hst (coded (sbytes ⟨#[115, 105, 101, 118, 101]⟩) [be salt 8, [(k : Int)], be n 8]) = placeH salt n k := rfl
theorem place_num (bits salt n : Int) (k : Nat) : hnum (placeH salt n k).1 (placeH salt n k).2.1 bits = placeI bits salt n k := rfl
theorem tag_any (salt n : Int) (k : Nat) (hk : k < 8) (A : Option Addr) (c : Nat) (w : World) (hp : SP w w.heap.size A [be salt 8, [(k : Int)], be n 8]) :
    Calls Try.prog 29 #[.string ⟨#[115, 105, 101, 118, 101]⟩, .slice A 3 c] w fun e w' => e = .returned (.agg #[.int .u64 (placeH salt n k).1, .int .u64 (placeH salt n k).2.1]) ∧ Below w.heap.size w w' := by
  have h := Tagged_any ⟨#[115, 105, 101, 118, 101]⟩ A c [be salt 8, [(k : Int)], be n 8] (by
    intro p hp
    simp only [List.mem_cons, List.not_mem_nil, or_false] at hp
    rcases hp with rfl | rfl | rfl
    · exact be_bound _ _
    · intro x hx; simp at hx; omega
    · exact be_bound _ _) (by simp [psz, ByteArray.size, be_length]) (by simp) w hp
  rw [place_tag] at h
  exact h

theorem place_i (bits salt n : Int) (k : Nat) (h : 0 < bits) : Value.int .i64 (place bits salt n k : Int) = .int .i64 (placeI bits salt n k) := by rw [place_cast _ _ _ _ h]

set_option maxRecDepth 100000 in
set_option maxHeartbeats 8000000 in
theorem places_in (n : Nat) (hn : 1 ≤ n) (l Bs Bn n₀ : Nat) (bits hashes salt x : Int) (sv : Value) (hm : mayN bits hashes salt = true) (hx : rightN x = true) (J Jx : List Nat → World → Prop) (N₀ : Nat)
    (hAb : AbidesFrom N₀ J)
    (hY : ∀ pre k W, J pre W → pre.length < hashes.toNat → YieldAt Fence.wide (n - 1) Try.prog l #[.int .i64 (place bits salt x k : Int)] W fun e W' =>
      (e = .returned (.bool true) ∧ J (pre ++ [k]) W' ∧ KP n₀ Bs Bn W W') ∨ (e = .returned (.bool false) ∧ Jx (pre ++ [k]) W'))
    (W : World) (hn₀ : n₀ ≤ W.heap.size) (hsv : Blk W Bs 26 #[.int .i64 bits, .int .i64 hashes, .int .i64 salt, sv]) (hnv : Blk W Bn 3 #[.int .i64 x]) (h0 : J [] W) :
    CallsIn Fence.wide n Try.prog 28 #[.func (.yield l) #[] #[], .pointer (some ⟨Bs, 0, none⟩), .pointer (some ⟨Bn, 0, none⟩)] W fun e W' => (∃ v, e = .returned v) ∧
      ((∃ ys, ys = List.range hashes.toNat ∧ J ys W') ∨ (∃ pre, (∃ k, k ≤ hashes.toNat ∧ pre = List.range k) ∧ Jx pre W')) := by
  have HY := Lib.hid hY
  have HAb := Lib.hid hAb
  have hm' := mayN_iff.1 hm
  have hx' := rightN_iff.1 hx
  obtain ⟨H, hH⟩ : ∃ H : Nat, hashes.toNat = H := ⟨_, rfl⟩
  obtain rfl : hashes = (H : Int) := by omega
  have hHb : 1 ≤ H ∧ H ≤ 8 := by omega
  have hbits : 8 ≤ bits ∧ bits ≤ 8192 := by omega
  have hs0 : 0 ≤ salt := hm'.2.1
  have hs1 : salt ≤ 1099511627776 := hm'.2.2
  have hx0 : 0 ≤ x := hx'.1
  have hx1 : x ≤ 1099511627776 := hx'.2
  have hwb : IntKind.u64.wrap bits = bits := by rw [IntKind.wrap_u64]; omega
  haveI : IsU bits := ⟨by omega, by omega⟩
  rw [hH]
  rw [hH] at HY
  have HSV := Lib.hid hsv
  have HNV := Lib.hid hnv
  clear hY hAb hm hx hm' hx' hH hsv hnv
  have HH := Lib.hid HSV.out.facts4
  obtain ⟨q0, q1, q2, q3⟩ := HH.out
  have HCS := Lib.hid (bytesOf_sl salt hs0 (by omega))
  have HCX := Lib.hid (bytesOf_sl x hx0 (by omega))
  refine callsIn_of_wp Try.func28 rfl trivial ?_ rfl
  simp only [Try.ntmps28, List.size_toArray, List.length_cons, List.length_nil, Nat.reduceAdd, Nat.reduceSub, Array.replicate_succ, Array.replicate_zero, List.push_toArray, List.append_toArray, List.nil_append, List.cons_append]
  gi_wp2
  clear q0 q1 q2 q3
  gi_loopw [8] (fun i wr => ∃ j : Nat, j ≤ H ∧ i = .int .i64 (j : Int) ∧ J (List.range j) wr ∧ KP n₀ Bs Bn W wr ∧ n₀ ≤ wr.heap.size) (fun i _ => H - (intOf i).toNat)
  case atStart => exact ⟨0, by omega, rfl, h0, KP.refl _ _ _ _, hn₀⟩
  case round =>
    obtain ⟨j, hj, rfl, hJs, hKs, hnr⟩ := hrel
    have HJs := Lib.hid hJs
    have HKs := Lib.hid hKs
    by_cases hlt : j < H
    · have SB : Blk wr Bs 26 #[.int .i64 bits, .int .i64 H, .int .i64 salt, sv] := hKs.2.1.trans HSV.out
      have NB : Blk wr Bn 3 #[.int .i64 x] := hKs.2.2.trans HNV.out
      have hsz := SB.lt
      have hnz := NB.lt
      obtain ⟨c0, c1, c2, c3⟩ := SB.facts4
      have cn : wr.cell? ⟨Bn, 0, none⟩ = some (.int .i64 x) := NB.cell 0
      have HSB := Lib.hid SB
      have HNB := Lib.hid NB
      have TG := Lib.hid (tag_any salt x j (by omega))
      have hwk : IntKind.u8.wrap (j : Int) = (j : Int) := by rw [IntKind.wrap_u8]; omega
      have NM := Lib.hid (Num_any (placeH salt x j).1 (placeH salt x j).2.1 bits)
      have hpb := placeI_bound bits salt x j (by omega)
      rw [place_num] at NM
      have HPL := Lib.hid (place_i bits salt x j (by omega))
      have hwp : IntKind.i64.wrap (placeI bits salt x j) = placeI bits salt x j := IntWalk.i64_in _ (by omega)
      have hw8 : j < 8 := by omega
      have c0r := c0
      have HP := Lib.hid hpb
      have i1 : IsU (placeH salt x j).1 := inferInstance
      have i2 : IsU (placeH salt x j).2.1 := inferInstance
      have PIb0 := hpb.1
      have PIb1 : placeI bits salt x j < 8192 := by omega
      clear hJs hKs SB NB hpb c0 c1 c3 HP
      generalize placeI bits salt x j = pv at *
      generalize (placeH salt x j).1 = h1v at *
      generalize (placeH salt x j).2.1 = h2v at *
      gi_wp2_with fail
      refine wpIn_wide.2 ?_
      have hW : Below wr.heap.size wr wr.drew := (Below.refl wr.heap.size wr).drew
      have hZ0 : wr.heap.size ≤ wr.drew.heap.size := Nat.le_refl _
      go_cut [5] from 11 to 20 (fun s5 wx => ∃ g : Nat, s5 = .pointer (some ⟨g, 0, none⟩) ∧ Blk wx g 56 #[.int .u64 h1v, .int .u64 h2v] ∧ Below wr.heap.size wr wx)
      case first =>
       go_region_held_law (fun w' => w'.cell? ⟨Bs, 2, none⟩ = some (.int .i64 salt) ∧ w'.cell? ⟨Bn, 0, none⟩ = some (.int .i64 x)) (first | with_reducible exact ⟨by assumption, by assumption⟩ | ((with_reducible refine ⟨far2 (by assumption) ?_ ?_, far2 (by assumption) ?_ ?_⟩) <;> omega) | go_keep)
        (first
          | (go_at_call_of 30 (Value.int IntKind.i64 salt); go_loud (refine (HCS.out _).mono ?_; rintro e w5 ⟨Av5, mv5, rfl, ho, b5⟩; have bb : Below wr.drew.heap.size wr.drew w5 := (by first | with_reducible exact bel0 b5 | with_reducible exact bel1 b5 | with_reducible exact bel2 b5 | with_reducible exact beld1 b5 | with_reducible exact beld2 b5); (first | (have KBk := Lib.hid (KBk.out.below bb KBk.out.lt)) | (have KBk := Lib.hid (show Blk w5 (wr.drew.heap.size) 5 #[.int .u8 (j : Int)] from by with_reducible exact blk00 b5)) | (have KBk := Lib.hid (show Blk w5 (wr.heap.size) 5 #[.int .u8 (j : Int)] from by with_reducible exact blkd00 b5)) | (have KBk := Lib.hid (show Blk w5 (wr.drew.heap.size) 5 #[.int .u8 (j : Int)] from by with_reducible exact blk01 b5)) | (have KBk := Lib.hid (show Blk w5 (wr.heap.size) 5 #[.int .u8 (j : Int)] from by with_reducible exact blkd01 b5)) | (have KBk := Lib.hid (show Blk w5 (wr.drew.heap.size + 1) 5 #[.int .u8 (j : Int)] from by with_reducible exact blk10 b5)) | (have KBk := Lib.hid (show Blk w5 (wr.heap.size + 1) 5 #[.int .u8 (j : Int)] from by with_reducible exact blkd10 b5)) | skip); (first | (have GB := Lib.hid (GB.out.below bb GB.out.lt)) | (have GB := Lib.hid (show Blk w5 (wr.drew.heap.size) 56 #[.int .u64 0, .int .u64 0] from by with_reducible exact blk00 b5)) | (have GB := Lib.hid (show Blk w5 (wr.heap.size) 56 #[.int .u64 0, .int .u64 0] from by with_reducible exact blkd00 b5)) | (have GB := Lib.hid (show Blk w5 (wr.drew.heap.size) 56 #[.int .u64 0, .int .u64 0] from by with_reducible exact blk01 b5)) | (have GB := Lib.hid (show Blk w5 (wr.heap.size) 56 #[.int .u64 0, .int .u64 0] from by with_reducible exact blkd01 b5)) | (have GB := Lib.hid (show Blk w5 (wr.drew.heap.size + 1) 56 #[.int .u64 0, .int .u64 0] from by with_reducible exact blk10 b5)) | (have GB := Lib.hid (show Blk w5 (wr.heap.size + 1) 56 #[.int .u64 0, .int .u64 0] from by with_reducible exact blkd10 b5)) | skip); have hW := belowOn hW bb; have hZq := hW.size; have k0 := (hW.cell (p := ⟨Bs, 2, none⟩) hsz).trans c2; have k1 := (hW.cell (p := ⟨Bn, 0, none⟩) hnz).trans cn; have Vv5 := Lib.hid ho; clear ho))
          | (go_at_call_of 30 (Value.int IntKind.i64 x); go_loud (refine (HCX.out _).mono ?_; rintro e w6 ⟨Av6, mv6, rfl, ho, b5⟩; have bb : Below w5.heap.size w5 w6 := (by first | with_reducible exact bel0 b5 | with_reducible exact bel1 b5 | with_reducible exact bel2 b5); (first | (have KBk := Lib.hid (KBk.out.below bb KBk.out.lt)) | (have KBk := Lib.hid (show Blk w6 (w5.heap.size) 5 #[.int .u8 (j : Int)] from by with_reducible exact blk00 b5)) | (have KBk := Lib.hid (show Blk w6 (w5.heap.size) 5 #[.int .u8 (j : Int)] from by with_reducible exact blk01 b5)) | (have KBk := Lib.hid (show Blk w6 (w5.heap.size + 1) 5 #[.int .u8 (j : Int)] from by with_reducible exact blk10 b5)) | skip); (first | (have GB := Lib.hid (GB.out.below bb GB.out.lt)) | (have GB := Lib.hid (show Blk w6 (w5.heap.size) 56 #[.int .u64 0, .int .u64 0] from by with_reducible exact blk00 b5)) | (have GB := Lib.hid (show Blk w6 (w5.heap.size) 56 #[.int .u64 0, .int .u64 0] from by with_reducible exact blk01 b5)) | (have GB := Lib.hid (show Blk w6 (w5.heap.size + 1) 56 #[.int .u64 0, .int .u64 0] from by with_reducible exact blk10 b5)) | skip); have hW := belowOn hW bb; have hZq := hW.size; have k0 := (hW.cell (p := ⟨Bs, 2, none⟩) hsz).trans c2; have k1 := (hW.cell (p := ⟨Bn, 0, none⟩) hnz).trans cn; have Vv6 := Lib.hid ho; clear ho; have Vv5 := Lib.hid (Vv5.out.on bb)))
          | (go_at_call 29; go_loud (refine Calls.mono (TG.out _ _ _ (by refine sp3_of (t := 24) (by (repeat' (with_reducible (first | exact ab0 | exact ab1 | exact ab2 | refine Blk.alloc ?_ _)))) ?_; exact ⟨Vv5.out.on (by (first | with_reducible exact nb0 _ _ | with_reducible exact nb1 _ _ _ | with_reducible exact nb2 _ _ _ _)), sli_k (by (repeat' (with_reducible (first | exact KBk.out | exact ab0 | exact ab1 | exact ab2 | refine Blk.alloc ?_ _)))), Vv6.out.on (by (first | with_reducible exact nb0 _ _ | with_reducible exact nb1 _ _ _ | with_reducible exact nb2 _ _ _ _))⟩)) ?_; rintro e w8 ⟨rfl, b8⟩; have bb : Below w6.heap.size w6 w8 := (by first | with_reducible exact bel0 b8 | with_reducible exact bel1 b8 | with_reducible exact bel2 b8 | with_reducible exact bel3 b8); (first | (have GB := Lib.hid (GB.out.below bb GB.out.lt)) | (have GB := Lib.hid (show Blk w8 (w6.heap.size) 56 #[.int .u64 0, .int .u64 0] from by with_reducible exact blk01 b8)) | (have GB := Lib.hid (show Blk w8 (w6.heap.size + 1) 56 #[.int .u64 0, .int .u64 0] from by with_reducible exact blk10 b8)) | (have GB := Lib.hid (show Blk w8 (w6.heap.size + 1) 56 #[.int .u64 0, .int .u64 0] from by with_reducible exact blk11 b8)) | (have GB := Lib.hid (show Blk w8 (w6.heap.size) 56 #[.int .u64 0, .int .u64 0] from by with_reducible exact blk02 b8)) | (have GB := Lib.hid (show Blk w8 (w6.heap.size + 1 + 1) 56 #[.int .u64 0, .int .u64 0] from by with_reducible exact blk20 b8)) | skip); have hW := belowOn hW bb; have hZq := hW.size; have k0 := (hW.cell (p := ⟨Bs, 2, none⟩) hsz).trans c2; have k1 := (hW.cell (p := ⟨Bn, 0, none⟩) hnz).trans cn; (first | (obtain ⟨⟨g0, g1⟩, f0, f1⟩ := GB.out.facts2) | skip))))
       all_goals
        clear HCS HCX
        go_wp2_with fail
        go_meet
        first
          | exact ⟨_, rfl, Blk.new_at w8 _ _ rfl, hW.alloc hW.size _⟩
          | exact ⟨_, rfl, GB.out.set2, (hW.setCell (by simp <;> omega) _).setCell (by simp <;> omega) _⟩
      case rest =>
        obtain ⟨g, rfl, hG, hB⟩ := hcut
        have SB2 := (HSB.out.below hB hsz).facts4
        obtain ⟨q0, q1, q2, q3⟩ := SB2
        obtain ⟨⟨g0, g1⟩, _, _⟩ := hG.facts2
        have HB := Lib.hid hB
        clear hG hB hW hZ0 HCS HCX TG
        gi_wp2_with fail
        refine ⟨trivial, ?_⟩
        refine (callsIn_wide.2 (NM.out _)).mono ?_
        rintro e w9 ⟨rfl, hb9⟩
        have hbb := belowOn HB.out hb9
        have hYj := HY.out _ j w9 (abides_below HAb.out HJs.out hbb) (by simp; omega)
        rw [HPL.out] at hYj
        obtain ⟨fn, tmps, assign, body, hy, hR⟩ := hYj
        have HR := Lib.hid hR
        have HBB := Lib.hid hbb
        clear hR hb9 hbb q0 q1 q2 q3 g0 g1
        gi_wp2_with fail
        refine HR.out.mono ?_
        rintro e W3 (⟨rfl, hJ3, hk3⟩ | ⟨rfl, hJx3⟩)
        · have HJ3 := Lib.hid hJ3
          have HK3 := Lib.hid hk3
          clear hJ3 hk3
          gi_wp2_with fail
          go_roundw
          case rel => exact ⟨j + 1, by omega, by go_num, by rw [List.range_succ]; exact HJ3.out, HKs.out.trans ((KP.below HBB.out hnr hsz hnz).trans HK3.out), Nat.le_trans hnr (Nat.le_trans HBB.out.size HK3.out.1.size)⟩
          case measure => simp [intOf]; omega
        · have HJ3 := Lib.hid hJx3
          clear hJx3
          gi_wp2_with fail
          refine bodyPost_ret (results_none rfl _ _ _) rfl ?_
          exact ⟨⟨_, rfl⟩, .inr ⟨_, ⟨j + 1, by omega, (List.range_succ).symm⟩, HJ3.out⟩⟩
    · obtain rfl : j = H := by omega
      gi_wp2
      go_end0
      exact ⟨⟨_, rfl⟩, .inl ⟨_, rfl, HJs.out⟩⟩

theorem places_stops (n : Nat) (hn : 1 ≤ n) (Bs Bn n₀ : Nat) (bits hashes salt x : Int) (sv : Value) (hm : mayN bits hashes salt = true) (hx : rightN x = true) (w : World) (hn₀ : n₀ ≤ w.heap.size)
    (hs : Blk w Bs 26 #[.int .i64 bits, .int .i64 hashes, .int .i64 salt, sv]) (hv : Blk w Bn 3 #[.int .i64 x]) :
    SeqStopsK Fence.wide n Try.prog 28 #[.pointer (some ⟨Bs, 0, none⟩), .pointer (some ⟨Bn, 0, none⟩)] (fun k : Nat => #[Value.int .i64 (place bits salt x k : Int)]) (KP n₀ Bs Bn)
      (fun ys => ys = List.range hashes.toNat) (fun pre => ∃ k, k ≤ hashes.toNat ∧ pre = List.range k) hashes.toNat w := fun l J Jx W hW hJ _ hY h0 =>
  places_in n hn l Bs Bn n₀ bits hashes salt x sv hm hx J Jx _ hJ hY W (Nat.le_trans hn₀ hW.size) (hs.below hW hs.lt) (hv.below hW hv.lt) h0

set_option maxHeartbeats 1000000 in
theorem placesF_in (n : Nat) (bits hashes salt x : Int) (A : Option Addr) (len c : Nat) (w : World) :
    CallsIn Fence.wide n Try.prog 21 #[svV bits hashes salt A len c, .int .i64 x] w fun e w' => e = .returned (.func (.func 28) #[] #[.pointer (some ⟨w.heap.size, 0, none⟩), .pointer (some ⟨w.heap.size + 1, 0, none⟩)]) ∧
      w' = (w.alloc (.cells #[.int .i64 bits, .int .i64 hashes, .int .i64 salt, .slice A len c] 26)).alloc (.cells #[.int .i64 x] 3) := by
  refine callsIn_of_wp Try.func21 rfl trivial ?_ rfl
  simp only [Try.ntmps21, List.size_toArray, List.length_cons, List.length_nil, Nat.reduceAdd, Nat.reduceSub, Array.replicate_succ, Array.replicate_zero, List.push_toArray, List.append_toArray, List.nil_append, List.cons_append]
  gi_wp2
  go_ret
  exact ⟨by simp, rfl⟩
end Go.Proofs.Ytgkdkkppeeikoaa
