/- The contract of the reader that takes parts out of what was coded. -/
import Derived.Test.YtjcanehlnggffaaHashLive
import Derived.RegionTactic
import Derived.Deep.DrawnRows
import Derived.Deep.Cut
namespace Go.Proofs.Ytjcanehlnggffaa
open Go.ChangeShapes Go.WideShapes Go.ChangeAt Go.RowKit Gs
set_option linter.unusedVariables false

theorem infoBs : (Try.prog.info? 27).map (fun i => (i.zero, i.size, i.bytes)) = some (some (.slice none 0 0), 1, 24) := by kernel_rfl
/-- Where part k begins, in bytes behind a head of t. -/
def poff (t : Nat) (ps : List (List Int)) (k : Nat) : Nat := t + psz (ps.take k)
/-- The slices vs are the first k parts, each read below block B. -/
def Cuts (w : World) (B : Nat) (ps : List (List Int)) (k : Nat) (vs : List Value) : Prop :=
  vs.length = k ∧ ∀ j (h : j < ps.length), j < k → ∃ A' c', vs[j]? = some (.slice A' ps[j].length c') ∧ ps[j].length ≤ c' ∧ c' ≤ maxLen ∧ SI w B .u8 A' ps[j]
theorem Cuts.snoc {w : World} {B : Nat} {ps : List (List Int)} {k : Nat} {vs : List Value} (h : Cuts w B ps k vs) (hk : k < ps.length) {A' : Option Addr} {c' : Nat} (h1 : ps[k].length ≤ c') (h2 : c' ≤ maxLen) (hs : SI w B .u8 A' ps[k]) : Cuts w B ps (k + 1) (vs ++ [.slice A' ps[k].length c']) := by
  refine ⟨by rw [List.length_append, h.1]; rfl, fun j hj hjk => ?_⟩
  rcases Nat.lt_or_ge j k with g | g
  · obtain ⟨A, c, e, r⟩ := h.2 j hj g
    exact ⟨A, c, by rw [List.getElem?_append_left (by rw [h.1]; exact g)]; exact e, r⟩
  · obtain rfl : j = k := by omega
    refine ⟨A', c', ?_, h1, h2, hs⟩
    rw [List.getElem?_append_right (by rw [h.1]; omega), h.1, Nat.sub_self]; rfl
theorem reads_new1 (w : World) (V : Value) (t : TypeId) (B : Nat) (hB : w.heap.size < B) : Reads (w.alloc (.cells #[V] t)) B 1 (some ⟨w.heap.size, 0, none⟩) 1 [V] := by
  refine ⟨rfl, fun _ => ⟨_, rfl, hB, fun j u hj => ?_⟩⟩
  rcases j with _ | j
  · cases hj
    exact (Blk.new w t #[V]).cell 0
  · simp at hj
theorem sp_of_cuts {w w' : World} {B : Nat} {ps : List (List Int)} {v : Value} {vs : List Value} (ho : w'.ownsRow B 27 1 v ps.length vs) (hc : Cuts w w.heap.size ps ps.length vs) (hb : Below w.heap.size w w') : ∃ A c, v = .slice A ps.length c ∧ SP w' w'.heap.size A ps := by
  rcases ho.2 with ⟨rfl, h0⟩ | ⟨g, cap, cur, rfl, hg1, hg, hn, hcap, _, _⟩
  · exact ⟨none, 0, by rw [h0], fun j hj => by omega⟩
  · refine ⟨some ⟨g, 0, none⟩, cap, rfl, fun j hj => ?_⟩
    obtain ⟨A', c', e, h1, h2, hs⟩ := hc.2 j hj hj
    exact ⟨_, rfl, (Array.getElem?_eq_some_iff.1 hg).1, A', c', ho.cells (g := g) rfl j _ e, h1, h2, (hs.below hb).more hb.size⟩

/-- What stands where part k begins. -/
theorem at_part (pre : List Int) (ps : List (List Int)) (k : Nat) (h : k < ps.length) : ∃ r, (pre ++ pbytes ps).drop (poff pre.length ps k) = be ps[k].length 4 ++ (ps[k] ++ r) := by
  refine ⟨pbytes (ps.drop (k + 1)), ?_⟩
  have e : pbytes ps = pbytes (ps.take k) ++ (be ps[k].length 4 ++ (ps[k] ++ pbytes (ps.drop (k + 1)))) := by
    have h1 := pbytes_append (ps.take (k + 1)) (ps.drop (k + 1))
    rw [List.take_append_drop, pbytes_take ps k h] at h1
    rw [h1]; simp
  rw [e, ← List.append_assoc]
  exact List.drop_left' (by rw [List.length_append, pbytes_length]; rfl)
theorem be4_small (n : Nat) (h : n ≤ 400) : be (n : Int) 4 = [0, 0, (n : Int) / 256, (n : Int) % 256] := by
  simp only [be, byt]
  have h1 : (n : Int) / 2 ^ (8 * 3) % 256 = 0 := by omega
  have h2 : (n : Int) / 2 ^ (8 * 2) % 256 = 0 := by omega
  have h3 : (n : Int) / 2 ^ (8 * 1) % 256 = (n : Int) / 256 := by omega
  have h4 : (n : Int) / 2 ^ (8 * 0) % 256 = (n : Int) % 256 := by omega
  rw [h1, h2, h3, h4]
theorem get_part (pre : List Int) (ps : List (List Int)) (k : Nat) (h : k < ps.length) (hl : ps[k].length ≤ 400) :
    (pre ++ pbytes ps)[poff pre.length ps k]? = some 0 ∧ (pre ++ pbytes ps)[poff pre.length ps k + 1]? = some 0 ∧ (pre ++ pbytes ps)[poff pre.length ps k + 2]? = some ((ps[k].length : Int) / 256) ∧ (pre ++ pbytes ps)[poff pre.length ps k + 3]? = some ((ps[k].length : Int) % 256) := by
  obtain ⟨r, hr⟩ := at_part pre ps k h
  rw [be4_small _ hl] at hr
  have hd : ∀ j, (pre ++ pbytes ps)[poff pre.length ps k + j]? = ([0, 0, (ps[k].length : Int) / 256, (ps[k].length : Int) % 256] ++ (ps[k] ++ r))[j]? := fun j => by rw [← hr, List.getElem?_drop]
  exact ⟨hd 0, hd 1, hd 2, hd 3⟩
theorem parts_count : ∀ ps : List (List Int), 4 * ps.length ≤ psz ps
  | [] => by simp [psz]
  | p :: r => by have := parts_count r; simp [psz]; omega
theorem i64_or_small (a b : Nat) (ha : a < 4294967296) (hb : b < 4294967296) : bits .or .i64 (a : Int) (b : Int) = ((a ||| b : Nat) : Int) := by
  have hx : a ||| b < 2 ^ 32 := Nat.or_lt_two_pow (by omega) (by omega)
  show IntKind.i64.wrap ((BitVec.ofInt 64 (a : Int) ||| BitVec.ofInt 64 (b : Int)).toNat : Int) = _
  rw [BitVec.toNat_or, ofInt_u64 a (by omega), ofInt_u64 b (by omega), IntKind.wrap_i64]
  omega
theorem or_small (a b : Nat) (ha : a < 1000) (hb : b < 256) : bits .or .i64 ((a : Int) * 256) (b : Int) = (a : Int) * 256 + b := by
  rw [show (a : Int) * 256 = ((a * 256 : Nat) : Int) by omega, i64_or_small _ _ (by omega) (by omega)]
  have := Nat.shiftLeft_add_eq_or_of_lt (show b < 2 ^ 8 by omega) a
  rw [Nat.shiftLeft_eq, show 2 ^ 8 = 256 from rfl] at this
  rw [← this, Int.natCast_add, Int.natCast_mul]

set_option maxRecDepth 100000 in
set_option maxHeartbeats 2000000 in
theorem taken_any (pre : List Int) (t : Nat) (hpre : pre.length = 1 + t) (ps : List (List Int)) (ad : Addr) (c : Nat) (hsz : t + psz ps ≤ 400) (hc : (pre ++ pbytes ps).length ≤ c) (hm : c ≤ maxLen) (w : World) (hs : SI w w.heap.size .u8 (some ad) (pre ++ pbytes ps)) :
    Calls Try.prog 32 #[.slice (some ad) (pre ++ pbytes ps).length c, .int .i64 t] w fun e w' => ∃ A' c', e = .returned (.tuple #[.slice A' ps.length c', .bool true]) ∧ SP w' w'.heap.size A' ps ∧ Below w.heap.size w w' := by
  obtain ⟨i0, hi, hz0, hz1, hz2⟩ := info_parts infoBs
  have HI := Lib.hid (And.intro hi (And.intro hz0 (And.intro hz1 hz2)))
  have HS := Lib.hid hs
  have hlen : (pre ++ pbytes ps).length = 1 + t + psz ps := by rw [List.length_append, pbytes_length, hpre]
  obtain ⟨n, hn⟩ : ∃ n, (pre ++ pbytes ps).length = n := ⟨_, rfl⟩
  have HLN := Lib.hid hn
  rw [hn] at hlen hc ⊢
  have HLE := Lib.hid hlen
  have hn1 : n ≤ 401 := by omega
  have hn2 : 1 + t ≤ n := by omega
  have hcnt : 4 * ps.length ≤ psz ps := parts_count ps
  have hpss : ps.length ≤ 400 := by omega
  clear hi hz0 hz1 hz2 hs hn hlen hcnt
  unfold maxLen at hm
  go_enter Try.func32, Try.ntmps32
  go_wp2_with fail
  go_loopw [7, 6] (fun i l wr => ∃ k o : Nat, k ≤ ps.length ∧ i = .int .i64 (o : Int) ∧ o = poff (1 + t) ps k ∧ (∃ vs, wr.ownsRow w.heap.size 27 1 l k vs ∧ Cuts w w.heap.size ps k vs) ∧ Below w.heap.size w wr) (fun i _ _ => n - (intOf i).toNat)
  case atStart => exact ⟨0, 1 + t, by omega, by first | rfl | (congr 1), by simp [poff, psz], ⟨[], ⟨rfl, .inl ⟨rfl, rfl⟩⟩, rfl, fun j h g => by omega⟩, Below.refl _ _⟩
  case round =>
    obtain ⟨k, o, hk, rfl, ho, ⟨vs, hoR, hcuts⟩, hbR⟩ := hrel
    have HCU := Lib.hid hcuts
    have HO := Lib.hid ho
    have HOR := Lib.hid hoR
    have HBR := Lib.hid hbR
    have hzR := hbR.size
    clear hoR hbR hcuts
    by_cases hlt : k < ps.length
    · have ht := psz_take ps k hlt
      have hle := psz_le ps (k + 1)
      rw [ht] at hle
      have ho1 : o + 4 + ps[k].length ≤ n := by rw [HLE.out, ho]; unfold poff; omega
      have hpl : ps[k].length ≤ 400 := by omega
      obtain ⟨g0, g1, g2, g3⟩ := get_part pre ps k hlt hpl
      rw [hpre, ← ho] at g0 g1 g2 g3
      have hcell : ∀ j z, j < n → (pre ++ pbytes ps)[j]? = some z → wr.cell? (ad.add j) = some (.int .u8 z) := fun j z hj hz => by
        obtain ⟨ad', e, _, h⟩ := HS.out.below HBR.out j (by rw [HLN.out]; exact hj)
        cases e
        rw [h, hz]; rfl
      obtain ⟨o1, ho1'⟩ : ∃ x, o + 1 = x := ⟨_, rfl⟩
      obtain ⟨o2, ho2'⟩ : ∃ x, o + 2 = x := ⟨_, rfl⟩
      obtain ⟨o3, ho3'⟩ : ∃ x, o + 3 = x := ⟨_, rfl⟩
      rw [ho1'] at g1
      rw [ho2'] at g2
      rw [ho3'] at g3
      have c0 := hcell o _ (by omega) g0
      have c1 := hcell o1 _ (by omega) g1
      have c2 := hcell o2 _ (by omega) g2
      have c3 := hcell o3 _ (by omega) g3
      obtain ⟨o4, ho4'⟩ : ∃ x, o + 4 = x := ⟨_, rfl⟩
      obtain ⟨o5, ho5'⟩ : ∃ x, o4 + ps[k].length = x := ⟨_, rfl⟩
      have e10 : IntKind.i64.wrap ((o : Int) + 4) = (o4 : Int) := by rw [IntKind.wrap_i64]; omega
      have b4 : o4 ≤ o5 := by omega
      have b5 : o5 ≤ n := by omega
      have b6 : (0 : Int) ≤ (o4 : Int) := by omega
      have b1 : o1 < n := by omega
      have b2 : o2 < n := by omega
      have b3 : o3 < n := by omega
      obtain ⟨m, hmm⟩ : ∃ m, ps[k].length = m := ⟨_, rfl⟩
      rw [hmm] at c2 c3 ho1 hpl ho5'
      have e11 : IntKind.i64.wrap ((o4 : Int) + m) = (o5 : Int) := by rw [IntKind.wrap_i64]; omega
      obtain ⟨hi, hhi⟩ : ∃ x, m / 256 = x := ⟨_, rfl⟩
      obtain ⟨lo, hlo⟩ : ∃ x, m % 256 = x := ⟨_, rfl⟩
      rw [show (m : Int) / 256 = (hi : Int) by omega] at c2
      rw [show (m : Int) % 256 = (lo : Int) by omega] at c3
      have e0 : IntKind.i64.wrap 0 = 0 := by decide
      have e1 : IntKind.i64.wrap ((o : Int) + 1) = (o1 : Int) := by rw [IntKind.wrap_i64]; omega
      have e2 : IntKind.i64.wrap ((o : Int) + 2) = (o2 : Int) := by rw [IntKind.wrap_i64]; omega
      have e3 : IntKind.i64.wrap ((o : Int) + 3) = (o3 : Int) := by rw [IntKind.wrap_i64]; omega
      have e4 : IntKind.i64.wrap (hi : Int) = hi := by rw [IntKind.wrap_i64]; omega
      have e5 : IntKind.i64.wrap ((hi : Int) * 256) = (hi : Int) * 256 := by rw [IntKind.wrap_i64]; omega
      have e6 : IntKind.i64.wrap (lo : Int) = lo := by rw [IntKind.wrap_i64]; omega
      have e7 : bits .or .i64 0 0 = 0 := by decide
      have e8 : bits .or .i64 0 ((hi : Int) * 256) = (hi : Int) * 256 := by
        rw [show (hi : Int) * 256 = ((hi * 256 : Nat) : Int) by omega]
        have := i64_or_small 0 (hi * 256) (by omega) (by omega)
        simpa using this
      have e9 : bits .or .i64 ((hi : Int) * 256) (lo : Int) = (m : Int) := by rw [or_small hi lo (by omega) (by omega)]; omega
      have HM := Lib.hid hmm
      clear g0 g1 g2 g3 hcell ht hle hmm hhi hlo ho1' ho2' ho3'
      have HOE := Lib.hid ho
      clear ho
      have HO4 := Lib.hid ho4'
      have HO5 := Lib.hid ho5'
      clear ho4' ho5'
      go_wp2_with fail
      go_quiet (fail)
      have HPK : Hid (SI w w.heap.size .u8 (some (ad.add o4)) ps[k]) := by
        obtain ⟨r, hr⟩ := at_part pre ps k hlt
        have h := HS.out.part o4 m (by rw [HLN.out]; have := HO5.out; omega)
        have e : ((pre ++ pbytes ps).drop o4).take m = ps[k] := by
          rw [← HO4.out, HOE.out, ← List.drop_drop, ← hpre, hr, List.drop_left' (be_length _ 4), ← HM.out, List.take_left' rfl]
        rw [e] at h
        exact h
      go_upto_region 10 with (fail)
      go_wp2_with (at_builtin; refine wpList_append_any _ rfl _ _ 32 rfl w.heap.size 27 i0 (.slice none 0 0) 1 24 Try.underlying32 HI.out.1 HI.out.2.1 HI.out.2.2.1 HI.out.2.2.2 rfl (by decide) _ _ _ rfl (own_below HOR.out ((below_drewN (Below.refl _ _) nq).alloc (Nat.le_refl _) _)) (wr.heap.size + 1) _ _ _ _ rfl (reads_new1 _ _ _ _ (Nat.lt_succ_self _)) (by intro u hu; simp at hu; subst hu; rfl) (by unfold maxLen; omega) (by omega) (by have : wr.heap.size ≤ (wr.drewN nq).heap.size := Nat.le_refl _; simp; omega) ?_; intro v6 w6 hown6 hgrow6 _; have HO6 := Lib.hid hown6; have HG6 := Lib.hid hgrow6; clear hown6 hgrow6)
      refine ⟨⟨k + 1, o5, by omega, rfl, ?_, ⟨_, HO6.out, ?_⟩, ?_⟩, ?_⟩
      · have h1 := HOE.out
        have h2 := HO4.out
        have h3 := HO5.out
        have h4 := HM.out
        have h5 := psz_take ps k hlt
        unfold poff at h1 ⊢
        omega
      · have e : ps[k].length = o5 - o4 := by have := HO5.out; have := HM.out; omega
        have h := HCU.out.snoc hlt (A' := if c = o4 then some ad else some (ad.add o4)) (c' := c - o4) (by rw [e]; omega) (by unfold maxLen; omega) (by
          by_cases g : c = o4
          · rw [if_pos g]
            exact fun j hj => by omega
          · rw [if_neg g]
            exact HPK.out)
        rw [e] at h
        exact h
      · exact ((below_drewN HBR.out nq).alloc HBR.out.size _).grown HG6.out (by have : wr.heap.size ≤ (wr.drewN nq).heap.size := Nat.le_refl _; simp; omega) (fun g e => own_ge HOR.out g e)
      · simp [intOf]; have := HO4.out; omega
    · obtain rfl : k = ps.length := by omega
      have hon : o = n := by
        have h1 := HLE.out
        rw [ho, h1]
        unfold poff
        rw [List.take_length]
      obtain ⟨A', c', rfl, hsp⟩ := sp_of_cuts HOR.out HCU.out HBR.out
      have HSP := Lib.hid hsp
      clear ho hsp
      subst hon
      go_wp2_with fail
      go_ret2
      exact ⟨A', c', rfl, HSP.out, HBR.out⟩
end Go.Proofs.Ytjcanehlnggffaa
