/- Contracts of nonce: what is too old goes. -/
import Derived.Test.YtdiafbeohldbjaaNonceC
namespace Go.Proofs.Ytdiafbeohldbjaa
open Go.ChangeShapes Go.WideShapes Go.ChangeAt Go.RowKit Gs
set_option linter.unusedVariables false

theorem Try.zero41 (w : World) : (zeroValue 41).run Try.prog w = .ok (.agg #[.int .i64 0, .int .i64 0]) w := by first | rfl | kernel_rfl
theorem Blk.setCells {g : Nat} {t : TypeId} : ∀ (vs : List Value) (o : Nat) {w : World} {cs : Array Value}, Blk w g t cs → ∃ cs', Blk (w.setCells g o vs) g t cs' ∧ cs'.size = cs.size ∧ ∀ q, q < o → cs'[q]? = cs[q]?
  | [], _, _, cs, h => ⟨cs, h, rfl, fun _ _ => rfl⟩
  | v :: r, o, w, cs, h => by
    obtain ⟨cs', h', hs, hq⟩ := Blk.setCells r (o + 1) (h.set o v)
    refine ⟨cs', h', by simpa using hs, fun q hlt => ?_⟩
    rw [hq q (by omega), Array.getElem?_setIfInBounds_ne (by omega)]
theorem below_setR {B : Nat} {w w' : World} (h : Below B w w') {g o : Nat} (hg : B ≤ g) (v : Value) : Below B w (w'.setCell ⟨g, o, none⟩ v) := h.setCell hg v
theorem below_setCellsN {B b : Nat} {a : World} (hb : B ≤ b) : ∀ (vs : List Value) (o : Nat) (w : World), Below B a w → Below B a (w.setCells b o vs)
  | [], _, _, h => h
  | v :: r, o, w, h => below_setCellsN hb r (o + 1) _ (h.setCell hb v)
theorem run_clearN {P : Program} (w : World) (t e ty : TypeId) (ht : P.underlying t = some (.slice e)) (hv : ∀ w, (zeroValue e).run P w = .ok (.agg #[.int .i64 0, .int .i64 0]) w) (b o n c : Nat) (hn : 0 < n)
    (hc : ∀ j, j < n * 2 → (w.cell? ⟨b, o + j, none⟩).isSome = true) (hf : ∀ j, j < n * 2 → w.frozen? ⟨b, o + j, none⟩ = false) :
    (Builtin.clear_ #[t] ty #[.slice (some ⟨b, o, none⟩) n c]).run P w = .ok (.tuple #[]) (w.setCells b o (List.replicate (n * 2) (.int .i64 0))) := by
  have hzc : (Builtin.zeroCells #[.int .i64 0, .int .i64 0] n).toList = List.replicate (n * 2) (Value.int .i64 0) := by
    simp only [Builtin.zeroCells]
    apply List.ext_getElem
    · simp
    · intro i h1 h2
      have : i % 2 = 0 ∨ i % 2 = 1 := by omega
      rcases this with e | e <;> simp [e]
  have hst := run_storeCells_cells (P := P) b o (List.replicate (n * 2) (Value.int .i64 0)) 0 w (by simpa using hc) (by simpa using hf) (by intro v hv'; rw [List.eq_of_mem_replicate hv']; rfl)
  simp only [Nat.add_zero] at hst
  obtain ⟨m, rfl⟩ : ∃ m, n = m + 1 := ⟨n - 1, by omega⟩
  simp [Builtin.clear_, run_underlying ht, hv, Value.cells, hzc, hst]
/-- Two cells are laid. -/
theorem take_set2 {cs : Array Value} {i : Nat} (h : i * 2 + 1 < cs.size) (x y : Value) : ((cs.setIfInBounds (i * 2) x).setIfInBounds (i * 2 + 1) y).toList.take ((i + 1) * 2) = cs.toList.take (i * 2) ++ [x, y] := by
  apply List.ext_getElem?
  intro q
  rw [List.getElem?_take]
  simp only [Array.getElem?_toList]
  by_cases h1 : q < i * 2
  · rw [if_pos (by omega), Array.getElem?_setIfInBounds_ne (by omega), Array.getElem?_setIfInBounds_ne (by omega), List.getElem?_append_left (by simp; omega), List.getElem?_take, if_pos h1]; simp
  · rw [List.getElem?_append_right (by simp; omega)]
    have hl : (cs.toList.take (i * 2)).length = i * 2 := by simp; omega
    rw [hl]
    by_cases h2 : q = i * 2
    · subst h2; rw [if_pos (by omega), Array.getElem?_setIfInBounds_ne (by omega), Array.getElem?_setIfInBounds_self_of_lt (by omega)]; simp
    · by_cases h3 : q = i * 2 + 1
      · subst h3; rw [if_pos (by omega), Array.getElem?_setIfInBounds_self_of_lt (by simpa using h), show i * 2 + 1 - i * 2 = 1 by omega]; rfl
      · rw [if_neg (by omega), List.getElem?_eq_none (by simp; omega)]
theorem trim_take {now : Int} {L : List (Int × Int)} (k : Nat) (h : k < L.length) : trimF now (L.take (k + 1)) = if freshF now L[k] then trimF now (L.take k) ++ [L[k]] else trimF now (L.take k) := by
  unfold trimF
  rw [List.take_succ_eq_append_getElem h, List.filter_append]
  cases hq : freshF now L[k] <;> simp [hq]
theorem trim_len_le {now : Int} {L : List (Int × Int)} (k : Nat) : (trimF now (L.take k)).length ≤ k := by
  unfold trimF; exact Nat.le_trans (List.length_filter_le _ _) (List.length_take_le _ _)
theorem trim_all {now : Int} {L : List (Int × Int)} (h : ∀ j (h : j < L.length), freshF now L[j] = true) : trimF now L = L := by
  unfold trimF; rw [List.filter_eq_self]; intro p hp; obtain ⟨j, hj, rfl⟩ := List.getElem_of_mem hp; exact h j hj
theorem trim_first {now : Int} {L : List (Int × Int)} {k : Nat} (hk : k < L.length) (hq : freshF now L[k] = false) (h : ∀ j (g : j < k), freshF now L[j] = true) : trimF now (L.take (k + 1)) = L.take k := by
  rw [trim_take k hk, hq]
  exact trim_all (fun j hj => by
    have hj' : j < k := by simp at hj; omega
    rw [List.getElem_take]; exact h j hj')
/-- What DeleteFunc's loop keeps. -/
structure DelInv (now : Int) (L : List (Int × Int)) (g cap : Nat) (w0 wr : World) (i j : Nat) : Prop where
  len : (trimF now (L.take j)).length = i
  lt : i < j
  ex : ∃ cs, Blk wr g 41 cs ∧ cs.size = cap * 2 ∧ cs.toList.take (i * 2) = cellsN (trimF now (L.take j)) ∧ ∀ m (h : m < L.length), j ≤ m → cs[m * 2]? = some (.int .i64 L[m].1) ∧ cs[m * 2 + 1]? = some (.int .i64 L[m].2)
  bel : Below g w0 wr

set_option maxHeartbeats 4000000 in
theorem delete_any (now : Int) (b B : Nat) (v : Value) (L : List (Int × Int)) (hl : L.length ≤ 70368744177664) (w : World) (ho : OwnN w B v L) (hb : b < B) (hB : B ≤ w.heap.size) (hc : w.cell? ⟨b, 0, none⟩ = some (.int .i64 now)) :
    Calls Try.prog 25 #[v, oldV b] w fun e w' => ∃ v', e = .returned v' ∧ OwnN w' B v' (trimF now L) ∧ Below B w w' := by
  obtain ⟨A, c, rfl, hlc, hcm, hns, hge⟩ := own_sliceN ho
  have HI := Lib.hid (index_any now b A c L hl w hns (by omega) hc)
  have HO := Lib.hid ho
  have HC := Lib.hid hc
  clear ho hc hns hge
  go_enter Try.func25, Try.ntmps25
  go_wp2_with fail
  refine HI.out.mono ?_; rintro e w1 ⟨⟨r, rfl, hr⟩, k1⟩
  have K1 := Lib.hid k1
  clear k1
  rcases hr with ⟨rfl, hall⟩ | ⟨k0, hk0, rfl, hq0, hbef⟩
  · have HA := Lib.hid hall
    clear hall
    go_wp2_with fail
    go_ret
    exact ⟨_, rfl, by rw [trim_all HA.out]; exact HO.out.below K1.out, K1.out.mono hB⟩
  · have HT := Lib.hid (trim_first hk0 hq0 hbef)
    clear hq0 hbef
    rcases HO.out.2 with ⟨hv, h0⟩ | ⟨g, cap, cur, hv, hg, hblk, hn, hcp, hcs, htk⟩
    · omega
    cases hv
    have Bk := Lib.hid (Blk.below (w := w) (w' := w1) (show Blk w g _ cur from hblk) K1.out (Array.getElem?_eq_some_iff.1 hblk).1)
    have HM := Lib.hid (show ∀ m (h : m < L.length), cur[m * 2]? = some (.int .i64 L[m].1) ∧ cur[m * 2 + 1]? = some (.int .i64 L[m].2) from fun m h => by
      have := cellsN_at L m h
      rw [← htk] at this
      simp only [List.getElem?_take] at this
      rw [if_pos (by omega), if_pos (by omega)] at this
      simpa using this)
    have hs1 : cur.toList.take (k0 * 2) = cellsN (L.take k0) := by
      rw [← cellsN_take, ← htk, List.take_take, Nat.min_eq_left (by omega)]
    have HS1 := Lib.hid hs1
    have HCS := Lib.hid hcs
    have hgw : g < w.heap.size := (Array.getElem?_eq_some_iff.1 hblk).1
    have hne : ((k0 : Int) == -1) = false := beq_eq_false_iff_ne.2 (by omega)
    clear hblk hs1 hcs htk
    go_wp2_with fail
    go_loopw [5, 6] (fun s5 s6 wr => ∃ (i j : Nat), s5 = .int .i64 i ∧ s6 = .int .i64 j ∧ j ≤ L.length ∧ DelInv now L g c w1 wr i j) (fun _ s6 _ => L.length - (intOf s6).toNat)
    case atStart => exact ⟨k0, k0 + 1, rfl, by go_num, by omega, ⟨by rw [HT.out]; simp; omega, by omega, ⟨cur, Bk.out, HCS.out, by rw [HT.out]; exact HS1.out, fun m h _ => HM.out m h⟩, Below.refl _ _⟩⟩
    case round =>
      obtain ⟨i, j, rfl, rfl, hj, hinv⟩ := hrel
      have HV := Lib.hid hinv
      obtain ⟨hlen, hij, ⟨cs, hblk, hsz, htk, hhi⟩, hbel⟩ := hinv
      have BL := Lib.hid hblk
      have SZ := Lib.hid hsz
      have TK := Lib.hid htk
      have LN := Lib.hid hlen
      have HB := Lib.hid hbel
      have hgs := hblk.lt
      by_cases hlt : j < L.length
      · have HHI := Lib.hid (hhi j hlt (Nat.le_refl _))
        have HH := Lib.hid hhi
        have c0 : wr.cell? ⟨g, j * 2, none⟩ = some (.int .i64 L[j].1) := (hblk.cell _).trans HHI.out.1
        have c1 : wr.cell? ⟨g, j * 2 + 1, none⟩ = some (.int .i64 L[j].2) := (hblk.cell _).trans HHI.out.2
        have HTT := Lib.hid (trim_take (now := now) j hlt)
        clear hhi hblk hsz htk hlen hbel
        generalize hN : L[j].1 = n, hU : L[j].2 = u at c0 c1
        have HN := Lib.hid hN
        have HU := Lib.hid hU
        clear hN hU
        have P := Lib.hid (fun w hb hc => trim1_any n u now b w hb hc)
        have e0 : (wr.alloc (.cells #[.int .i64 n, .int .i64 u] 41)).cell? ⟨b, 0, none⟩ = some (.int .i64 now) := (World.cell?_alloc_lt wr _ _ (show b < wr.heap.size by omega)).trans ((HB.out.cell (p := ⟨b, 0, none⟩) (by show b < g; omega)).trans ((K1.out.cell (p := ⟨b, 0, none⟩) (by show b < w.heap.size; omega)).trans HC.out))
        have E0 := Lib.hid e0
        clear e0
        have BN := Lib.hid ((Blk.new wr 41 #[.int .i64 n, .int .i64 u]))
        have SW := Lib.hid (World.size_alloc wr (.cells #[.int .i64 n, .int .i64 u] 41))
        have P' := Lib.hid (P.out _ (by rw [SW.out]; omega) E0.out)
        have hi : i * 2 + 1 < cs.size := by rw [SZ.out]; omega
        clear P E0
        have HX : ∀ w2, Below (wr.alloc (.cells #[.int .i64 n, .int .i64 u] 41)).heap.size (wr.alloc (.cells #[.int .i64 n, .int .i64 u] 41)) w2 → Hid (Blk w2 g 41 cs ∧ Blk w2 wr.heap.size 41 #[.int .i64 n, .int .i64 u] ∧ Below g w1 w2) := fun w2 kb => by
          refine Lib.hid ⟨(BL.out.alloc _).below kb (by rw [SW.out]; omega), BN.out.below kb (by rw [SW.out]; omega), ?_⟩
          exact (HB.out.alloc (by omega) _).trans (kb.mono (by rw [SW.out]; omega))
        have HX := Lib.hid HX
        cases hq : freshF now (n, u) with
        | true =>
          rw [hq] at P'
          have HTT' := Lib.hid (show trimF now (L.take (j + 1)) = trimF now (L.take j) ++ [(n, u)] by rw [HTT.out, show L[j] = (n, u) by rw [← HN.out, ← HU.out], hq]; rfl)
          clear hq
          go_wp2_with fail
          refine P'.out.mono ?_; rintro e w2 ⟨rfl, kb⟩
          have X := HX.out w2 kb
          have a0 := (X.out.2.1.cell 0)
          have a1 := (X.out.2.1.cell 1)
          obtain ⟨y0, hy0⟩ : ∃ y, w2.cell? ⟨g, i * 2, none⟩ = some y := ⟨_, (X.out.1.cell (i * 2)).trans (Array.getElem?_eq_getElem (by omega))⟩
          obtain ⟨y1, hy1⟩ : ∃ y, w2.cell? ⟨g, i * 2 + 1, none⟩ = some y := ⟨_, (X.out.1.cell (i * 2 + 1)).trans (Array.getElem?_eq_getElem (by omega))⟩
          have f0 := X.out.1.free (i * 2)
          have f1 := X.out.1.free (i * 2 + 1)
          simp at a0 a1
          clear kb
          go_wp2_with fail
          go_roundw
          case rel =>
            refine ⟨i + 1, j + 1, by go_num, by go_num, by omega, ⟨by rw [HTT'.out]; simp [LN.out], by omega, ⟨_, (X.out.1.set (i * 2) _).set (i * 2 + 1) _, by simp [SZ.out], ?_, fun m h g' => ?_⟩, ?_⟩⟩
            · rw [take_set2 hi, TK.out, HTT'.out, cellsN_append]; rfl
            · have := HH.out m h (by omega)
              rw [Array.getElem?_setIfInBounds_ne (by omega), Array.getElem?_setIfInBounds_ne (by omega), Array.getElem?_setIfInBounds_ne (by omega), Array.getElem?_setIfInBounds_ne (by omega)]
              exact this
            · exact below_setR (below_setR X.out.2.2 (Nat.le_refl _) _) (Nat.le_refl _) _
          case measure => simp [intOf]; omega
        | false =>
          rw [hq] at P'
          have HTT' := Lib.hid (show trimF now (L.take (j + 1)) = trimF now (L.take j) by rw [HTT.out, show L[j] = (n, u) by rw [← HN.out, ← HU.out], hq]; rfl)
          clear hq
          go_wp2_with fail
          refine P'.out.mono ?_; rintro e w2 ⟨rfl, kb⟩
          have X := HX.out w2 kb
          clear kb
          go_wp2_with fail
          go_roundw
          case rel => exact ⟨i, j + 1, rfl, by go_num, by omega, ⟨by rw [HTT'.out]; exact LN.out, by omega, ⟨cs, X.out.1, SZ.out, by rw [HTT'.out]; exact TK.out, fun m h g' => HH.out m h (by omega)⟩, X.out.2.2⟩⟩
          case measure => simp [intOf]; omega
      · obtain rfl : j = L.length := by omega
        have HTT := Lib.hid (show trimF now (L.take L.length) = trimF now L by rw [List.take_length])
        have hcl : ∀ ty, (Builtin.clear_ #[22] ty #[.slice (some ⟨g, i * 2, none⟩) (L.length - i) (c - i)]).run Try.prog wr = .ok (.tuple #[]) (wr.setCells g (i * 2) (List.replicate ((L.length - i) * 2) (.int .i64 0))) :=
          fun ty => run_clearN wr _ _ ty Try.underlying22 Try.zero41 g (i * 2) _ _ (by omega) (fun t ht => by rw [hblk.cell, Array.getElem?_eq_getElem (by omega)]; rfl) (fun t ht => hblk.free _)
        obtain ⟨cs', hb', hs', hq'⟩ := Blk.setCells (List.replicate ((L.length - i) * 2) (Value.int .i64 0)) (i * 2) hblk
        have BL' := Lib.hid hb'
        have HQ := Lib.hid hq'
        have HS' := Lib.hid hs'
        clear hblk hsz htk hhi hbel hlen hb' hq' hs'
        go_wp2_with fail
        go_ret
        refine ⟨_, rfl, ?_, ?_⟩
        · rw [← HTT.out]
          refine own_n (n := i) ⟨by rw [cellsN_length, LN.out], .inr ⟨g, c, cs', rfl, hg, BL'.out, by omega, hcm, by rw [HS'.out, SZ.out], ?_⟩⟩ LN.out.symm rfl
          rw [← TK.out]
          apply List.ext_getElem?
          intro q
          simp only [List.getElem?_take, Array.getElem?_toList]
          by_cases h : q < i * 2
          · rw [if_pos h, if_pos h, HQ.out q h]
          · rw [if_neg h, if_neg h]
        · exact below_setCellsN hg _ _ _ ((K1.out.mono hB).trans (HB.out.mono (by omega)))

theorem Clone_any (A : Option Addr) (c : Nat) (L : List (Int × Int)) (hl : L.length ≤ 1048576) (w : World) (hs : NS w w.heap.size A L) :
    Calls Try.prog 26 #[.slice A L.length c] w fun e w' => ∃ v', e = .returned v' ∧ OwnN w' w.heap.size v' L ∧ Below w.heap.size w w' := by
  have HS := Lib.hid hs
  clear hs
  have q22 : ∀ (w : World) (a : Option Addr) (n c n' c' : Nat), (binOp .eql 22 (.slice a n c) (.slice none n' c')).run Try.prog w = .ok (.bool a.isNone) w := fun w a n c n' c' => Lib.run_eql_slice_nil w _ _ a n c n' c' Try.underlying22
  obtain ⟨i0, hi, hz0, hz1, hz2⟩ := info_parts Try.info41
  have HI := Lib.hid (And.intro hi (And.intro hz0 (And.intro hz1 hz2)))
  clear hi hz0 hz1 hz2
  cases A with
  | none =>
    obtain rfl : L = [] := by
      cases L with
      | nil => rfl
      | cons p r => obtain ⟨ad, e, _⟩ := HS.out 0 (by simp); cases e
    go_enter Try.func26, Try.ntmps26
    go_wp2_with fail
    go_ret
    exact ⟨_, rfl, own_nilN _ _, Below.refl _ _⟩
  | some ad =>
    have HR := Lib.hid ((reads_ns HS.out).alloc (Nat.le_refl _) (.cells #[] 41))
    have HO := Lib.hid (own_noneN w (Nat.le_refl w.heap.size))
    obtain ⟨n, hn⟩ : ∃ n, L.length = n := ⟨_, rfl⟩
    rw [hn] at hl HR ⊢
    have HN := Lib.hid hn
    clear hn
    go_enter Try.func26, Try.ntmps26
    go_wp2_with (at_builtin; first | (refine wpList_append_any _ (by rfl) _ _ 22 (by rfl) w.heap.size 41 i0 (.agg #[.int .i64 0, .int .i64 0]) 2 16 Try.underlying22 HI.out.1 HI.out.2.1 HI.out.2.2.1 HI.out.2.2.2 (by rfl) (by decide) _ 0 [] (by rfl) HO.out _ _ n _ _ (by rfl) HR.out (cellsN_one L) (by unfold maxLen; omega) (by omega) (by simp) ?_; intro v4 w4 ho4 hg4 hw4; have HO4 := Lib.hid ho4; have HG4 := Lib.hid hg4; clear ho4 hg4 hw4) | fail)
    go_wp2_with fail
    go_ret
    exact ⟨_, rfl, own_n HO4.out (by rw [HN.out]; simp) (by simp), ((Below.refl _ w).alloc (Nat.le_refl _) _).grown HG4.out (by simp) (by intro k hk; simp [Value.ownBlock] at hk; omega)⟩
end Go.Proofs.Ytdiafbeohldbjaa
