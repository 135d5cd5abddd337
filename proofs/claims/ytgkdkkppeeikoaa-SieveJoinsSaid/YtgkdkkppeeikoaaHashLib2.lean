/- Several texts of one kind, one behind the other: HashE, HashF, HashG, HashH. -/
import Derived.Test.YtgkdkkppeeikoaaHashLib
import Derived.Test.YtgkdkkppeeikoaaPlain
import Derived.RegionTactic
import Derived.Deep.RegionHeld3
import Derived.Deep.DrawnRows
import Derived.Lib.SmallJoins
import Derived.Lib.AppendStr
/- Contracts of the hash: numbers as bytes. -/
namespace Go.Proofs.Ytgkdkkppeeikoaa
open Go.ChangeShapes Go.WideShapes Go.ChangeAt Go.RowKit Gs
set_option linter.unusedVariables false

theorem Try.info5 : (Try.prog.info? 5).map (fun i => (i.zero, i.size, i.bytes)) = some (some (.int .u8 0), 1, 1) := by kernel_rfl

/-- What a call has made: the slice value v owns the bytes xs, in blocks from B on. -/
def OwnB (w : World) (B : Nat) (v : Value) (xs : List Int) : Prop := w.ownsRow B 5 1 v xs.length (xs.map (Value.int .u8))
theorem Blk.grown {w w' : World} {g : Nat} {t : TypeId} {cs : Array Value} {row : Option Nat} (h : Blk w g t cs) (hg : w.grownBy w' row) (hr : some g ≠ row) : Blk w' g t cs := (hg.block g h.lt hr).trans h
theorem own_b {w : World} {B n : Nat} {v : Value} {xs : List Int} {vs : List Value} (h : w.ownsRow B 5 1 v n vs) (hn : n = xs.length) (hv : vs = xs.map (Value.int .u8)) : OwnB w B v xs := by
  subst hn hv; exact h
theorem own_sliceB {w : World} {B : Nat} {v : Value} {xs : List Int} (h : OwnB w B v xs) : ∃ A c, v = .slice A xs.length c ∧ xs.length ≤ c ∧ c ≤ maxLen ∧ SI w w.heap.size .u8 A xs ∧ ∀ ad, A = some ad → B ≤ ad.block := by
  have hge := own_ge h
  rcases h.2 with ⟨rfl, h0⟩ | ⟨g, cap, cur, rfl, hb, hg, hn, hc, _, _⟩
  · rw [h0]
    exact ⟨none, 0, rfl, Nat.le_refl _, by unfold maxLen; omega, fun j hj => by omega, fun ad e => by cases e⟩
  · refine ⟨some ⟨g, 0, none⟩, cap, rfl, hn, hc, fun j hj => ⟨_, rfl, (Array.getElem?_eq_some_iff.1 hg).1, ?_⟩, fun ad e => by cases e; exact hge _ rfl⟩
    refine h.cells (g := g) rfl j _ ?_
    rw [List.getElem?_map, List.getElem?_eq_getElem hj]; rfl

set_option maxHeartbeats 1000000 in
theorem putNumber_any (v : Value) (xs : List Int) (n : Int) [IsU n] (size : Nat) (hs : size ≤ 8) (base : Nat) (w : World) (hown : OwnB w base v xs) (hbase : base ≤ w.heap.size) (hlen : xs.length ≤ 70368744177664) :
    Calls Try.prog 32 #[v, .int .u64 n, .int .i64 size] w fun e w' => ∃ v', e = .returned v' ∧ OwnB w' base v' (xs ++ be n size) ∧ Below base w w' := by
  have HO := Lib.hid hown
  clear hown
  obtain ⟨i0, hi, hz0, hz1, hz2⟩ := info_parts Try.info5
  have HI := Lib.hid (And.intro hi (And.intro hz0 (And.intro hz1 hz2)))
  clear hi hz0 hz1 hz2
  go_enter Try.func32, Try.ntmps32
  go_wp2_with fail
  go_loopw [0, 9] (fun b i wr => ∃ k : Nat, k ≤ size ∧ i = .int .i64 k ∧ OwnB wr base b (xs ++ (be n size).take k) ∧ Below base w wr) (fun _ i _ => size - (intOf i).toNat)
  case atStart => exact ⟨0, by omega, rfl, by simpa using HO.out, Below.refl _ _⟩
  case round =>
    obtain ⟨k, hk, rfl, ho, hb⟩ := hrel
    have HO' := Lib.hid ho
    have HB := Lib.hid hb
    clear ho hb
    by_cases hlt : k < size
    · have HBy := Lib.hid (be_take n size k hlt)
      have HLen := Lib.hid (show (xs ++ (be n size).take k).length = xs.length + k by rw [List.length_append, List.length_take, be_length, Nat.min_eq_left hk])
      go_wp2_with (at_builtin; refine wpList_append_own _ rfl _ _ 24 rfl base 5 i0 (.int .u8 0) 1 1 Try.underlying24 HI.out.1 HI.out.2.1 HI.out.2.2.1 HI.out.2.2.2 rfl (by decide) _ _ _ rfl (HO'.out.alloc _) ⟨wr.heap.size, 0, none⟩ 1 1 [.int .u8 (n / 2 ^ (8 * (size - 1 - k)) % 256)] rfl rfl (cell_one_new _ _ _) (by simp [Value.oneCell']) (by rw [HLen.out]; unfold maxLen; omega) (by rw [HLen.out]; omega) (by have := HB.out.size; simp; omega) ?_; intro v' w1 hown' hgrow _; have HO2 := Lib.hid hown'; have HG := Lib.hid hgrow; clear hown' hgrow)
      go_roundw
      case rel =>
        refine ⟨k + 1, by omega, by go_num, ?_, ?_⟩
        · rw [HBy.out, ← List.append_assoc]
          exact own_b HO2.out (by simp; omega) (by simp [byt])
        · refine (HB.out.alloc (Nat.le_trans hbase HB.out.size) _).grown HG.out (by have := HB.out.size; simp; omega) (fun g e => ?_)
          exact own_ge HO'.out g e
      case measure => simp [intOf]; omega
    · obtain rfl : k = size := by omega
      have HA := Lib.hid (be_all n k)
      go_wp2_with fail
      go_ret
      exact ⟨_, rfl, by have h := HO'.out; rwa [HA.out] at h, HB.out⟩

theorem putNumber_1 (v : Value) (xs : List Int) (n : Int) [IsU n] (base : Nat) (w : World) (hown : OwnB w base v xs) (hbase : base ≤ w.heap.size) (hlen : xs.length ≤ 70368744177664) :
    Calls Try.prog 32 #[v, .int .u64 n, .int .i64 1] w fun e w' => ∃ v', e = .returned v' ∧ OwnB w' base v' (xs ++ be n 1) ∧ Below base w w' := by
  have h := putNumber_any v xs n 1 (by omega) base w hown hbase hlen
  simpa using h
theorem putNumber_4 (v : Value) (xs : List Int) (n : Int) [IsU n] (base : Nat) (w : World) (hown : OwnB w base v xs) (hbase : base ≤ w.heap.size) (hlen : xs.length ≤ 70368744177664) :
    Calls Try.prog 32 #[v, .int .u64 n, .int .i64 4] w fun e w' => ∃ v', e = .returned v' ∧ OwnB w' base v' (xs ++ be n 4) ∧ Below base w w' := by
  have h := putNumber_any v xs n 4 (by omega) base w hown hbase hlen
  simpa using h
theorem putNumber_8 (v : Value) (xs : List Int) (n : Int) [IsU n] (base : Nat) (w : World) (hown : OwnB w base v xs) (hbase : base ≤ w.heap.size) (hlen : xs.length ≤ 70368744177664) :
    Calls Try.prog 32 #[v, .int .u64 n, .int .i64 8] w fun e w' => ∃ v', e = .returned v' ∧ OwnB w' base v' (xs ++ be n 8) ∧ Below base w w' := by
  have h := putNumber_any v xs n 8 (by omega) base w hown hbase hlen
  simpa using h

end Go.Proofs.Ytgkdkkppeeikoaa

/- Contracts of the hash: the plain bytes of a hash. -/
namespace Go.Proofs.Ytgkdkkppeeikoaa
open Go.ChangeShapes Go.WideShapes Go.ChangeAt Go.RowKit Gs
set_option linter.unusedVariables false
attribute [local go_sem ↓] Go.wp_at_zero Go.wp_at_succ

theorem step_append_any {P : Program} {w : World} {ops : Array Oper} {o : Oper} {a : Act} {K : Act → World → Prop} {Q : Exit → Act → World → Prop} {E : Prop} (hgd : o.guard = none) (s x : Operand) (t : TypeId)
    (ho : o.op = .call { callee := .builtin .append, args := #[s, x], argTypes := #[t, t] })
    (base : Nat) (e : TypeId) (i : TypeInfo) (z : Value) (size bytes : Nat) (ht : P.underlying t = some (.slice e)) (hi : P.info? e = some i) (hz : i.zero = some z)
    (hsize : i.size = size) (hby : i.bytes = bytes) (hzs : z.cells.size = size) (hsz : 0 < size)
    (v : Value) (n : Nat) (xs : List Value) (hs : a.eval s = v) (hown : w.ownsRow base e size v n xs)
    (B : Nat) (A : Option Addr) (m c : Nat) (news : List Value) (hx : a.eval x = .slice A m c) (hr : Reads w B size A m news) (h1 : ∀ u ∈ news, u.oneCell' = true)
    (h63 : n + m ≤ maxLen) (hbytes : (n + m) * bytes ≤ 140737488355328) (hbase : base ≤ w.heap.size)
    (h : ∀ v' w', w'.ownsRow base e size v' (n + m) (xs ++ news) → Below base w w' → K (a.put o.dst v') w') :
    if Region.wanted o (yielded ops a.tmps) = true then Oper.wp P o a w K Q else E := by
  have hw : Region.wanted o (yielded ops a.tmps) = true := by simp [Region.wanted, hgd]
  rw [if_pos hw]
  exact wp_append_any w s x t ho base e i z size bytes ht hi hz hsize hby hzs hsz v n xs hs hown B A m c news hx hr h1 h63 hbytes hbase (fun v' w' h2 h3 _ => h v' w' h2 ((Below.refl _ _).grown h3 hbase (fun k e => own_ge hown k e)))

theorem own_le {w : World} {B B' : Nat} {v : Value} {xs : List Int} (h : OwnB w B v xs) (hB : B' ≤ B) : OwnB w B' v xs := Go.Joins.ownsRow_le h hB

theorem one_u8 (xs : List Int) : ∀ u ∈ xs.map (Value.int .u8), u.oneCell' = true := by
  intro u hu
  obtain ⟨z, _, rfl⟩ := List.mem_map.1 hu
  rfl
theorem reads_be {w : World} {B : Nat} {A : Option Addr} {n : Int} (h : SI w B .u8 A (be n 8)) : Reads w B 1 A 8 ((be n 8).map (Value.int .u8)) := by
  have := reads_si h
  rwa [be_length] at this

end Go.Proofs.Ytgkdkkppeeikoaa

/- Contracts of the hash: parts under a tag. -/
namespace Go.Proofs.Ytgkdkkppeeikoaa
open Go.ChangeShapes Go.WideShapes Go.ChangeAt Go.RowKit Gs
set_option linter.unusedVariables false

/-- A string's bytes. -/
def sbytes (s : ByteArray) : List Int := s.data.toList.map fun c => (c.toNat : Int)
theorem sbytes_length (s : ByteArray) : (sbytes s).length = s.size := by simp [sbytes]
theorem sbytes_bound (s : ByteArray) : ∀ x ∈ sbytes s, 0 ≤ x ∧ x < 256 := by
  intro x hx
  obtain ⟨c, _, rfl⟩ := List.mem_map.1 hx
  have := c.toNat_lt
  omega
theorem strCells_eq (s : ByteArray) : Lib.strCells s = (sbytes s).map (Value.int .u8) := by
  simp [Lib.strCells, sbytes]

/-- The slice '.slice A ps.length c' holds slices of the bytes ps, all below block B. -/
def SP (w : World) (B : Nat) (A : Option Addr) (ps : List (List Int)) : Prop :=
  ∀ j (h : j < ps.length), ∃ ad, A = some ad ∧ ad.block < B ∧ ∃ A' c', w.cell? (ad.add j) = some (.slice A' ps[j].length c') ∧ ps[j].length ≤ c' ∧ c' ≤ maxLen ∧ SI w B .u8 A' ps[j]
theorem SP.below {w w' : World} {B : Nat} {A : Option Addr} {ps : List (List Int)} (h : SP w B A ps) (hb : Below B w w') : SP w' B A ps := fun j hj => by
  obtain ⟨ad, e, hB, A', c', hc, h1, h2, hs⟩ := h j hj
  exact ⟨ad, e, hB, A', c', (hb.cell (by rw [block_of_add]; exact hB)).trans hc, h1, h2, hs.below hb⟩
theorem SP.more {w : World} {B B' : Nat} {A : Option Addr} {ps : List (List Int)} (h : SP w B A ps) (hB : B ≤ B') : SP w B' A ps := fun j hj => by
  obtain ⟨ad, e, hB', A', c', hc, h1, h2, hs⟩ := h j hj
  exact ⟨ad, e, by omega, A', c', hc, h1, h2, hs.more hB⟩
theorem SP.on {w w' : World} {A : Option Addr} {ps : List (List Int)} (h : SP w w.heap.size A ps) (hb : Below w.heap.size w w') : SP w' w'.heap.size A ps := (h.below hb).more hb.size

set_option maxRecDepth 100000 in
set_option maxHeartbeats 4000000 in
theorem Tagged_any (s : ByteArray) (A : Option Addr) (c : Nat) (ps : List (List Int)) (hb : ∀ p ∈ ps, ∀ x ∈ p, 0 ≤ x ∧ x < 256) (hlen : s.size + psz ps ≤ 1099511627776) (hpl : ps.length ≤ 1099511627776) (w : World) (hp : SP w w.heap.size A ps) :
    Calls Try.prog 29 #[.string s, .slice A ps.length c] w fun e w' => e = .returned (.agg #[.int .u64 (hst (coded (sbytes s) ps)).1, .int .u64 (hst (coded (sbytes s) ps)).2.1]) ∧ Below w.heap.size w w' := by
  obtain ⟨i0, hi, hz0, hz1, hz2⟩ := info_parts Try.info5
  have HI := Lib.hid (And.intro hi (And.intro hz0 (And.intro hz1 hz2)))
  have HP := Lib.hid hp
  have HB := Lib.hid hb
  clear hi hz0 hz1 hz2 hp hb
  go_enter Try.func29, Try.ntmps29
  go_wp2_with fail
  go_loop [5, 16] (fun z i => ∃ k sz : Nat, k ≤ ps.length ∧ i = .int .i64 k ∧ z = .int .i64 (sz : Int) ∧ sz = 1 + s.size + psz (ps.take k)) (fun _ i => ps.length - (intOf i).toNat)
  case atStart => exact ⟨0, 1 + s.size, by omega, rfl, by simp, by simp [psz]⟩
  case round =>
    obtain ⟨k, sz, hk, rfl, rfl, hsz⟩ := hrel
    have hle := psz_le ps k
    by_cases hlt : k < ps.length
    · obtain ⟨ad, rfl, had, A', c', hc, h1, h2, hs⟩ := HP.out k hlt
      have HS := Lib.hid (psz_take ps k hlt)
      have hle1 := psz_le ps (k + 1)
      rw [HS.out] at hle1
      have hsz1 : sz ≤ 1099511627777 := by omega
      have hsz2 : ps[k].length ≤ 1099511627777 := by omega
      have HSZ := Lib.hid hsz
      have hca : ((w.alloc (.cells #[.int .u64 0, .int .u64 0] 56))).cell? (ad.add k) = some (.slice A' ps[k].length c') := (World.cell?_alloc_lt _ _ _ (by rw [block_of_add]; exact had)).trans hc
      clear hsz hle hle1 hs hc h1 h2
      go_wp2_with fail
      go_round
      case rel => exact ⟨k + 1, sz + (4 + ps[k].length), by omega, by go_num, congrArg (Value.int .i64) (by omega), by rw [HS.out, HSZ.out]; omega⟩
      case measure => simp [intOf]; omega
    · obtain rfl : k = ps.length := by omega
      have hsz1 : sz ≤ 1099511627777 := by omega
      have hsz0 : sz = 1 + s.size + psz ps := by rw [hsz, List.take_length]
      have HSZ := Lib.hid hsz0
      clear hsz hle hsz0
      go_wp2_with (at_make; refine wpList_make_own _ rfl _ _ 24 rfl (w.heap.size + 1) 5 i0 (.int .u8 0) 1 Try.underlying24 HI.out.1 HI.out.2.1 HI.out.2.2.1 _ _ _ sz rfl rfl (by omega) (by rw [HI.out.2.2.2]; omega) (by unfold maxLen; omega) (by simp) ?_; intro w1 hown1 hgrow1; rw [World.size_alloc] at hown1; have HO1 := Lib.hid hown1; have HG1 := Lib.hid hgrow1; have hB1 := (Blk.new_at w 56 #[.int .u64 0, .int .u64 0] rfl).grown hgrow1 (by simp); have HB1 := Lib.hid hB1; clear hown1 hgrow1 hB1)
      have hb1 : Below (w.heap.size + 1) (w.alloc (.cells #[.int .u64 0, .int .u64 0] 56)) w1 := (Below.refl _ _).grown HG1.out (by simp) (by simp)
      have HBe := Lib.hid (((Below.refl _ _).alloc (Nat.le_refl _) _).trans (hb1.mono (show w.heap.size ≤ w.heap.size + 1 by omega)))
      have hz1 : w.heap.size + 1 ≤ w1.heap.size := by have := hb1.size; simpa using this
      clear hb1
      haveI : IsU ((s.size : Nat) : Int) := ⟨by omega, by omega⟩
      refine (putNumber_1 _ [] s.size (w.heap.size + 1) _ (own_b HO1.out rfl rfl) hz1 (by simp)).mono ?_
      rintro e w2 ⟨v2, rfl, hown2, hb2⟩
      have HO2 := Lib.hid hown2
      have HL2 := Lib.hid (show ([] ++ be (s.size : Int) 1).length = 1 by simp [be_length])
      have HB2 := Lib.hid (HBe.out.trans (hb2.mono (by omega)))
      have HK2 := Lib.hid (HB1.out.below hb2 (by omega))
      have hz2 : w.heap.size + 1 ≤ w2.heap.size := by have := hb2.size; omega
      clear hown2 hb2
      go_wp2_with (at_builtin; refine Lib.wpList_append_own_string _ rfl _ _ 24 9 rfl (w.heap.size + 1) 5 i0 Try.underlying24 Try.underlying9 HI.out.1 HI.out.2.1 HI.out.2.2.1 HI.out.2.2.2 _ _ _ rfl HO2.out s rfl (by rw [HL2.out]; unfold maxLen; omega) (by rw [HL2.out]; omega) hz2 ?_; intro v3 w3 hown3 hgrow3 _; have HO3 := Lib.hid hown3; have HG3 := Lib.hid hgrow3; clear hown3 hgrow3)
      have hb3 : Below (w.heap.size + 1) w2 w3 := (Below.refl _ _).grown HG3.out hz2 (fun g e => own_ge HO2.out g e)
      have HO3' : Hid (OwnB w3 (w.heap.size + 1) v3 (be (s.size : Int) 1 ++ sbytes s)) := by
        have h := HO3.out
        rw [strCells_eq, ← List.map_append] at h
        exact own_b h (by simp [be_length, sbytes_length]) (by simp)
      have HB3 := Lib.hid (HB2.out.trans (hb3.mono (by omega)))
      have HK3 := Lib.hid (HK2.out.below hb3 (by omega))
      have hz3 : w.heap.size + 1 ≤ w3.heap.size := by have := hb3.size; omega
      clear hb3
      go_loopw [8, 37] (fun b i wr => ∃ k : Nat, k ≤ ps.length ∧ i = .int .i64 k ∧ OwnB wr (w.heap.size + 1) b (be (s.size : Int) 1 ++ sbytes s ++ pbytes (ps.take k)) ∧ Blk wr w.heap.size 56 #[.int .u64 0, .int .u64 0] ∧ Below w.heap.size w wr) (fun _ i _ => ps.length - (intOf i).toNat)
      case atStart => exact ⟨0, by omega, rfl, by simpa [pbytes] using HO3'.out, HK3.out, HB3.out⟩
      case round =>
        obtain ⟨k, hk, rfl, hoR, hkR, hbR⟩ := hrel
        have HOR := Lib.hid hoR
        have HKR := Lib.hid hkR
        have HBR := Lib.hid hbR
        have hzR : w.heap.size + 1 ≤ wr.heap.size := hkR.lt
        have HLR := Lib.hid (show (be (s.size : Int) 1 ++ sbytes s ++ pbytes (ps.take k)).length = 1 + s.size + psz (ps.take k) by rw [List.length_append, List.length_append, be_length, sbytes_length, pbytes_length])
        have hle := psz_le ps k
        clear hoR hkR hbR
        by_cases hlt : k < ps.length
        · obtain ⟨ad, rfl, had, A', c', hc, h1, h2, hs⟩ := HP.out k hlt
          have HS := Lib.hid (psz_take ps k hlt)
          have HPB := Lib.hid (pbytes_take ps k hlt)
          have hle1 := psz_le ps (k + 1)
          rw [HS.out] at hle1
          have hsz2 : ps[k].length ≤ 1099511627777 := by omega
          haveI : IsU ((ps[k].length : Nat) : Int) := ⟨by omega, by omega⟩
          have hca : wr.cell? (ad.add k) = some (.slice A' ps[k].length c') := (HBR.out.cell (by rw [block_of_add]; exact had)).trans hc
          have HSI := Lib.hid hs
          clear hs hc h1 h2
          go_wp2_with fail
          refine (putNumber_4 _ _ ps[k].length (w.heap.size + 1) _ HOR.out hzR (by rw [HLR.out]; omega)).mono ?_
          rintro e w5 ⟨v5, rfl, hown5, hb5⟩
          have HO5 := Lib.hid hown5
          have HL5 := Lib.hid (show (be (s.size : Int) 1 ++ sbytes s ++ pbytes (ps.take k) ++ be (ps[k].length : Int) 4).length = 1 + s.size + psz (ps.take k) + 4 by rw [List.length_append, HLR.out, be_length])
          have HB5 := Lib.hid (HBR.out.trans (hb5.mono (by omega)))
          have HK5 := Lib.hid (HKR.out.below hb5 (by omega))
          have hz5 : w.heap.size + 1 ≤ w5.heap.size := by have := hb5.size; omega
          have HR5 := Lib.hid (reads_si (HSI.out.below HB5.out))
          clear hown5 hb5
          go_wp2_with (at_builtin; refine wpList_append_any _ rfl _ _ 24 rfl (w.heap.size + 1) 5 i0 (.int .u8 0) 1 1 Try.underlying24 HI.out.1 HI.out.2.1 HI.out.2.2.1 HI.out.2.2.2 rfl (by decide) _ _ _ rfl HO5.out _ _ _ _ _ rfl HR5.out (one_u8 _) (by rw [HL5.out]; unfold maxLen; omega) (by rw [HL5.out]; omega) hz5 ?_; intro v6 w6 hown6 hgrow6 _; have HO6 := Lib.hid hown6; have HG6 := Lib.hid hgrow6; clear hown6 hgrow6)
          have HB6 := Lib.hid ((Below.refl (w.heap.size + 1) w5).grown HG6.out hz5 (fun g e => own_ge HO5.out g e))
          go_roundw
          case rel =>
            refine ⟨k + 1, by omega, by go_num, ?_, HK5.out.below HB6.out (by omega), HB5.out.trans (HB6.out.mono (by omega))⟩
            rw [HPB.out]
            have h := HO6.out
            rw [← List.map_append] at h
            exact own_b h (by simp; omega) (by simp)
          case measure => simp [intOf]; omega
        · obtain rfl : k = ps.length := by omega
          have HC := Lib.hid (show be (s.size : Int) 1 ++ sbytes s ++ pbytes (ps.take ps.length) = coded (sbytes s) ps by rw [List.take_length, coded, sbytes_length])
          rw [HC.out] at HOR
          obtain ⟨A7, c7, rfl, hl7, hm7, hs7, _⟩ := own_sliceB HOR.out
          have HS7 := Lib.hid hs7
          have HL7 := Lib.hid (show (coded (sbytes s) ps).length = 1 + s.size + psz ps by rw [coded_length, sbytes_length])
          have HBB := Lib.hid (coded_bound (sbytes s) ps (sbytes_bound s) HB.out)
          clear hs7 hle hm7
          go_wp2_with fail
          refine (Sum_any A7 c7 (coded (sbytes s) ps) HBB.out (by rw [HL7.out]; omega) hl7 _ HS7.out).mono ?_
          rintro e w8 ⟨rfl, hb8⟩
          obtain ⟨⟨c0, c1⟩, f0, f1⟩ := (HKR.out.below hb8 HKR.out.lt).facts2
          have HB8 := Lib.hid (HBR.out.trans (hb8.mono (by omega)))
          clear hb8
          go_wp2_with fail
          refine bodyPost_ret (v := .agg #[.int .u64 (hst (coded (sbytes s) ps)).1, .int .u64 (hst (coded (sbytes s) ps)).2.1]) (by simp [results, Try.results29, go_sem, c0, c1]) rfl ⟨rfl, ?_⟩
          exact (HB8.out.setCell (by simp) _).setCell (by simp) _
end Go.Proofs.Ytgkdkkppeeikoaa

/- Contracts of the hash: the plain answer of parts under a tag. -/
namespace Go.Proofs.Ytgkdkkppeeikoaa
open Go.ChangeShapes Go.WideShapes Go.ChangeAt Go.RowKit Gs
set_option linter.unusedVariables false

theorem be_drop (n : Int) : (be n 8).drop 4 = be n 4 := by simp [be]
theorem own_oneB (w : World) (z : Int) {B g : Nat} (hB : B ≤ g) (hg : g = w.heap.size) : OwnB (w.alloc (.cells #[.int .u8 z] 5)) B (.slice (some ⟨g, 0, none⟩) 1 1) [z] := by
  subst hg
  exact ⟨rfl, .inr ⟨_, 1, #[.int .u8 z], rfl, hB, World.alloc_heap_new w _, Nat.le_refl _, by unfold maxLen; omega, rfl, rfl⟩⟩

end Go.Proofs.Ytgkdkkppeeikoaa
