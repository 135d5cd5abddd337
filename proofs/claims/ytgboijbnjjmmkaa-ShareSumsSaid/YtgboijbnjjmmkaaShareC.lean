/- Shares that a call has made: a row of them that is owned; the document's Public. -/
import Derived.Test.YtgboijbnjjmmkaaShareB
import Derived.Test.YtgboijbnjjmmkaaHashLib2
import Derived.Deep.RegionHeldLaw
import Derived.Deep.Cut
namespace Go.Proofs.Ytgboijbnjjmmkaa
open Go.ChangeShapes Go.WideShapes Go.ChangeAt Go.RowKit Gs
set_option linter.unusedVariables false

/-- The cells of shares. -/
def cells2 (l : List (Int × Int)) : List Value := l.flatMap fun p => [.int .i64 p.1, .int .u64 p.2]
theorem cells2_nil : cells2 [] = [] := rfl
theorem cells2_cons (p : Int × Int) (l : List (Int × Int)) : cells2 (p :: l) = .int .i64 p.1 :: .int .u64 p.2 :: cells2 l := rfl
theorem cells2_append (a b : List (Int × Int)) : cells2 (a ++ b) = cells2 a ++ cells2 b := by simp [cells2]
theorem cells2_length : ∀ l : List (Int × Int), (cells2 l).length = l.length * 2
  | [] => rfl
  | p :: l => by rw [cells2_cons]; simp [cells2_length l]; omega
theorem cells2_at : ∀ (l : List (Int × Int)) (j : Nat) (h : j < l.length), (cells2 l)[j * 2]? = some (.int .i64 l[j].1) ∧ (cells2 l)[j * 2 + 1]? = some (.int .u64 l[j].2)
  | p :: l, 0, _ => by simp [cells2_cons]
  | p :: l, j + 1, h => by
    have ih := cells2_at l j (by simpa using h)
    rw [cells2_cons, show (j + 1) * 2 = j * 2 + 1 + 1 by omega]
    simpa using ih
theorem cells2_one (l : List (Int × Int)) : ∀ u ∈ cells2 l, u.oneCell' = true := by
  intro u hu
  obtain ⟨p, _, hp⟩ := List.mem_flatMap.1 hu
  simp at hp
  rcases hp with rfl | rfl <;> rfl
/-- What a call has made: the slice value v owns the shares l, in blocks from B on. -/
def OwnS (w : World) (B : Nat) (v : Value) (l : List (Int × Int)) : Prop := w.ownsRow B 43 2 v l.length (cells2 l)
theorem own_s {w : World} {B n : Nat} {v : Value} {l : List (Int × Int)} {vs : List Value} (h : w.ownsRow B 43 2 v n vs) (hn : n = l.length) (hv : vs = cells2 l) : OwnS w B v l := by
  subst hn hv; exact h
theorem add_at (g j : Nat) : (Addr.mk g 0 none).add j = ⟨g, j, none⟩ := by
  unfold Addr.add
  split
  · rename_i hj; subst hj; rfl
  · simp
theorem own_sliceS {w : World} {B : Nat} {v : Value} {l : List (Int × Int)} (h : OwnS w B v l) : ∃ A c, v = .slice A l.length c ∧ l.length ≤ c ∧ c ≤ maxLen ∧ SS w w.heap.size A l ∧ ∀ ad, A = some ad → B ≤ ad.block := by
  have hge := own_ge h
  rcases h.2 with ⟨rfl, h0⟩ | ⟨g, cap, cur, rfl, hb, hg, hn, hc, _, _⟩
  · rw [h0]
    exact ⟨none, 0, rfl, Nat.le_refl _, by unfold maxLen; omega, fun j hj => by omega, fun ad e => by cases e⟩
  · refine ⟨some ⟨g, 0, none⟩, cap, rfl, hn, hc, fun j hj => ⟨_, rfl, (Array.getElem?_eq_some_iff.1 hg).1, ?_, ?_⟩, fun ad e => by cases e; exact hge _ rfl⟩
    · exact h.cells (g := g) rfl _ _ (cells2_at l j hj).1
    · have := h.cells (g := g) rfl _ _ (cells2_at l j hj).2
      rw [add_at] at this ⊢
      exact this
theorem Try.info43 : (Try.prog.info? 43).map (fun i => (i.zero, i.size, i.bytes)) = some (some (.agg #[.int .i64 0, .int .u64 0]), 2, 16) := by kernel_rfl
theorem own_noneS (w : World) {B : Nat} (hB : B ≤ w.heap.size) : OwnS (w.alloc (.cells #[] 43)) B (.slice (some ⟨w.heap.size, 0, none⟩) 0 0) [] :=
  ⟨rfl, .inr ⟨_, 0, #[], rfl, hB, World.alloc_heap_new w _, Nat.le_refl _, by unfold maxLen; omega, rfl, rfl⟩⟩
/-- A new block of shares is read. -/
theorem reads_new {w : World} {g : Nat} {t : TypeId} {l : List (Int × Int)} (h : Blk w g t (cells2 l).toArray) (n : Nat) (hn : l.length = n) : Reads w w.heap.size 2 (some ⟨g, 0, none⟩) n (cells2 l) := by
  subst hn
  refine ⟨cells2_length l, fun _ => ⟨_, rfl, h.lt, fun j u hu => ?_⟩⟩
  rw [add_at, h.cell j]
  simpa using hu
theorem pub_take (l : List (Int × Int)) (k : Nat) (h : k < l.length) : (l.map fun p => (p.1, qpow 4 p.2)).take (k + 1) = (l.map fun p => (p.1, qpow 4 p.2)).take k ++ [(l[k].1, qpow 4 l[k].2)] := by
  rw [List.take_succ_eq_append_getElem (by simpa using h)]; simp

/-- What Public tells. -/
def spubs (l : List (Int × Int)) : List (Int × Int) := l.map fun p => (p.1, qpow 4 p.2)
def PublicE (w0 : World) (ids : List Int) (l : List (Int × Int)) (e : Ending) (w : World) : Prop := (JoinI ids l → ∃ v, e = .returned (.tuple #[v, .int .i64 0]) ∧ OwnS w w0.heap.size v (spubs l)) ∧ (¬ JoinI ids l → e = .returned (.tuple #[.slice none 0 0, .int .i64 1]))

set_option maxRecDepth 100000 in
set_option maxHeartbeats 4000000 in
theorem refPublic_any (A : Option Addr) (c : Nat) (l : List (Int × Int)) (ids : List Int) (hids : l.map Prod.fst = ids) (hl : l.length ≤ 1048576) (hu : ∀ p ∈ l, 0 ≤ p.2 ∧ p.2 < 18446744073709551616) (w : World) (hs : SS w w.heap.size A l) :
    Calls Try.prog 16 #[.slice A l.length c] w fun e w' => PublicE w ids l e w' ∧ Below w.heap.size w w' := by
  have HS := Lib.hid hs
  have HU := Lib.hid hu
  have HN := Lib.hid (show ids.length = l.length by rw [← hids]; simp)
  have B0 := Lib.hid (Below.refl w.heap.size w)
  obtain ⟨i0, hi, hz0, hz1, hz2⟩ := info_parts Try.info43
  have HI := Lib.hid (And.intro hi (And.intro hz0 (And.intro hz1 hz2)))
  clear hi hz0 hz1 hz2 hs hu
  have P1 := Lib.hid (Ids_any A c l hl)
  rw [hids] at P1
  clear hids
  go_enter Try.func16, Try.ntmps16
  go_wp2_with fail
  refine (P1.out _ HS.out).mono ?_; rintro e w1 ⟨v, rfl, ho, b⟩
  obtain ⟨A', c', rfl, hc1, hc2, hs1, _⟩ := own_sliceI ho
  have HI1 := Lib.hid hs1
  have B1 := Lib.hid (below_on B0.out b)
  have HS1 := Lib.hid (HS.out.on B1.out)
  clear ho b hs1 P1
  by_cases hr : RightI ids
  · have P2 := Lib.hid (fun w hs => Right_yes A' c' ids hr w1.heap.size w hs)
    have HR := Lib.hid hr
    clear hr
    by_cases hb : l.all (fun p => decide (p.2 < 1152921504606845789)) = true
    · have HB := Lib.hid hb
      have P3 := Lib.hid (fun w hs => below_any A c l (by omega) w hs)
      rw [hb] at P3
      clear hb
      go_wp2_with fail
      refine (P2.out _ HI1.out).mono ?_; rintro e w2 ⟨rfl, hd⟩; have HD := Lib.hid hd; clear hd
      go_wp2_with fail
      refine (P3.out _ (HS1.out.on (HD.out.below _))).mono ?_; rintro e w' ⟨rfl, rfl⟩
      have B2 := Lib.hid (B1.out.trans (HD.out.below _))
      go_wp2_with fail
      go_loopw [4, 5] (fun o j wr => ∃ k : Nat, k ≤ l.length ∧ j = .int .i64 k ∧ OwnS wr w.heap.size o ((spubs l).take k) ∧ Below w.heap.size w wr) (fun _ j _ => l.length - (intOf j).toNat)
      case atStart => exact ⟨0, by omega, rfl, own_noneS _ B2.out.size, B2.out.alloc B2.out.size _⟩
      case round =>
        obtain ⟨k, hk, rfl, ho, hd⟩ := hrel
        have HE := Lib.hid hd
        have HO := Lib.hid ho
        have hz := hd.size
        clear hd ho
        by_cases hlt : k < l.length
        · obtain ⟨ad, rfl, had, c0, c1⟩ := (HS.out.below HE.out) k hlt
          have hx := HU.out l[k] (List.getElem_mem hlt)
          haveI : IsU l[k].2 := ⟨hx.1, hx.2⟩
          have HT := Lib.hid (pub_take l k hlt)
          have HLen := Lib.hid (show ((spubs l).take k).length = k by unfold spubs; rw [List.length_take, List.length_map, Nat.min_eq_left hk])
          have P4 := Lib.hid (ref_Base l[k].2)
          clear hx
          have HO2 := Lib.hid (show wr.ownsRow w.heap.size 43 2 _ k (cells2 ((spubs l).take k)) by have h := HO.out; unfold OwnS at h; rw [HLen.out] at h; exact h)
          have hbk : (ad.add (k * 2)).block < w.heap.size := by rw [block_of_add]; exact had
          go_wp2_with fail
          have hd : wr.heap.size ≤ wr.drew.heap.size := Nat.le_refl _
          go_region_held_law (fun w' => w'.cell? (ad.add (k * 2)) = some (.int .i64 l[k].1) ∧ w'.cell? ⟨(ad.add (k * 2)).block, (ad.add (k * 2)).off + 1, none⟩ = some (.int .u64 l[k].2)) (first | exact ⟨by assumption, by assumption⟩ | go_keep)
            (first
              | (go_at_call 46; refine (P4.out _).mono ?_; rintro e w' ⟨rfl, rfl⟩)
              | (refine step_append_any (by rfl) _ _ _ (by rfl) w.heap.size 43 i0 (.agg #[.int .i64 0, .int .u64 0]) 2 16 Try.underlying24 HI.out.1 HI.out.2.1 HI.out.2.2.1 HI.out.2.2.2 (by rfl) (by decide) _ k (cells2 ((spubs l).take k)) (by rfl) (own_below HO2.out ((Below.refl _ _).drew.alloc (Nat.le_refl _) _)) _ _ 1 _ (cells2 [(l[k].1, qpow 4 l[k].2)]) (by rfl) (reads_new (Blk.new_at _ _ _ (by rfl)) 1 rfl) (cells2_one _) (by unfold maxLen; omega) (by omega) (by simp; omega) ?_; intro v4 w4 ho4 hb4; have hX := ((Below.refl w.heap.size wr).drew.alloc hz _).trans hb4; have k0 := (hX.cell (p := ad.add (k * 2)) hbk).trans c0; have k1 := (hX.cell (p := ⟨(ad.add (k * 2)).block, (ad.add (k * 2)).off + 1, none⟩) hbk).trans c1))
          clear k0 k1
          have HX := Lib.hid hX
          have HO4 := Lib.hid ho4
          clear hX ho4 hb4
          go_wp2_with fail
          go_roundw
          case rel =>
            refine ⟨k + 1, by omega, by go_num, ?_, HE.out.trans HX.out⟩
            have h := HO4.out
            rw [← cells2_append] at h
            rw [show (spubs l).take (k + 1) = (spubs l).take k ++ [(l[k].1, qpow 4 l[k].2)] from HT.out]
            exact own_s h (by rw [List.length_append, HLen.out]; rfl) rfl
          case measure => simp [intOf]; omega
        · obtain rfl : k = l.length := by omega
          have HT := Lib.hid (show (spubs l).take l.length = spubs l by rw [List.take_of_length_le (by unfold spubs; simp)])
          go_wp2_with fail
          go_ret2
          refine ⟨⟨fun _ => ⟨_, rfl, by rw [← HT.out]; exact HO.out⟩, fun h => absurd ⟨HR.out, HB.out⟩ h⟩, HE.out⟩
    · have HB := Lib.hid hb
      have P3 := Lib.hid (fun w hs => below_any A c l (by omega) w hs)
      rw [Bool.eq_false_iff.2 hb] at P3
      clear hb
      go_wp2_with fail
      refine (P2.out _ HI1.out).mono ?_; rintro e w2 ⟨rfl, hd⟩; have HD := Lib.hid hd; clear hd
      go_wp2_with fail
      refine (P3.out _ (HS1.out.on (HD.out.below _))).mono ?_; rintro e w' ⟨rfl, rfl⟩
      go_wp2_with fail
      go_ret2
      exact ⟨⟨fun h => absurd h.2 HB.out, fun _ => rfl⟩, B1.out.trans (HD.out.below _)⟩
  · have P2 := Lib.hid (fun w hs => Right_no A' c' ids hr (by rw [HN.out]; omega) w1.heap.size w hs)
    have HR := Lib.hid hr
    clear hr
    go_wp2_with fail
    refine (P2.out _ HI1.out).mono ?_; rintro e w2 ⟨rfl, hd⟩; have HD := Lib.hid hd; clear hd
    go_wp2_with fail
    go_ret2
    exact ⟨⟨fun h => absurd h.1 HR.out, fun _ => rfl⟩, B1.out.trans (HD.out.below _)⟩
end Go.Proofs.Ytgboijbnjjmmkaa
