/- Contracts of nonce: the search by halves. -/
import Derived.Test.YtdiafbeohldbjaaNonceF
import Derived.Test.YtdiafbeohldbjaaNonceG
namespace Go.Proofs.Ytdiafbeohldbjaa
open Go.ChangeShapes Go.WideShapes Go.ChangeAt Go.RowKit Gs
set_option linter.unusedVariables false
set_option linter.unusedSimpArgs false

theorem use1_any (k : Nat) (n : Int) (A : Option Addr) (c : Nat) (L : List (Int × Int)) (hl : L.length ≤ 1048576) (bf bn : Nat) (w : World) (B : Nat) (hs : NS w B A L) (hk : k < L.length) (hf : w.cell? ⟨bf, 1, none⟩ = some (.slice A L.length c)) (hn : w.cell? ⟨bn, 0, none⟩ = some (.int .i64 n)) :
    Calls Try.prog 30 #[.int .i64 k, .pointer (some ⟨bf, 0, none⟩), .pointer (some ⟨bn, 0, none⟩)] w fun e w' => e = .returned (.bool (decide (n ≤ L[k].1))) ∧ Dr w w' := by
  obtain ⟨ad, rfl, had, c0, c1⟩ := hs k hk
  generalize L[k].1 = x at c0 ⊢
  clear c1 hs
  go_enter Try.func30, Try.ntmps30
  go_wp2_with fail
  go_quiet (fail)
  go_wp2_with fail
  go_ret
  exact ⟨rfl, Dr.drewN (Dr.refl _) _⟩
/-- What the search tells. -/
def SearchE (n : Int) (L : List (Int × Int)) (e : Ending) : Prop := ∃ k : Nat, e = .returned (.int .i64 k) ∧ k ≤ L.length ∧ (∀ j (h : j < L.length), j < k → L[j].1 < n) ∧ (∀ j (h : j < L.length), k ≤ j → n ≤ L[j].1)
theorem pair_le {L : List (Int × Int)} (h : L.Pairwise (fun p q => p.1 < q.1)) {i j : Nat} (hj : j < L.length) (hij : i ≤ j) : (L[i]'(by omega)).1 ≤ L[j].1 := by
  rcases Nat.lt_or_ge i j with g | g
  · have := List.pairwise_iff_getElem.1 h i j (by omega) hj g; omega
  · obtain rfl : i = j := by omega
    exact Int.le_refl _

set_option maxHeartbeats 2000000 in
theorem Search_any (n : Int) (A : Option Addr) (c : Nat) (L : List (Int × Int)) (hp : L.Pairwise (fun p q => p.1 < q.1)) (hl : L.length ≤ 1048576) (bf bn : Nat) (w : World) (hs : NS w w.heap.size A L) (hbf : bf < w.heap.size) (hbn : bn < w.heap.size) (hf : w.cell? ⟨bf, 1, none⟩ = some (.slice A L.length c)) (hn : w.cell? ⟨bn, 0, none⟩ = some (.int .i64 n)) :
    Calls Try.prog 29 #[.int .i64 L.length, .func (.func 30) #[] #[.pointer (some ⟨bf, 0, none⟩), .pointer (some ⟨bn, 0, none⟩)]] w fun e w' => SearchE n L e ∧ Below w.heap.size w w' := by
  have HP := Lib.hid hp
  have HU := Lib.hid (fun k w B hs hk hf hn => use1_any k n A c L hl bf bn w B hs hk hf hn)
  have HS := Lib.hid hs
  have HF := Lib.hid hf
  have HN := Lib.hid hn
  clear hp hs hf hn
  go_enter Try.func29, Try.ntmps29
  go_wp2_with fail
  go_loopw [5, 6, 7] (fun a b _ wr => ∃ (i j : Nat), a = .int .i64 i ∧ b = .int .i64 j ∧ i ≤ j ∧ j ≤ L.length ∧ (∀ q (h : q < L.length), q < i → L[q].1 < n) ∧ (∀ q (h : q < L.length), j ≤ q → n ≤ L[q].1) ∧ Below w.heap.size w wr) (fun a b _ _ => (intOf b - intOf a).toNat)
  case atStart => exact ⟨0, L.length, rfl, rfl, by omega, by omega, fun q h g => by omega, fun q h g => by omega, Below.refl _ _⟩
  case round =>
    obtain ⟨i, j, rfl, rfl, hij, hjl, hlo, hhi, hb⟩ := hrel
    have HLo := Lib.hid hlo
    have HHi := Lib.hid hhi
    have HB := Lib.hid hb
    clear hlo hhi hb
    by_cases hlt : i < j
    · obtain ⟨m, hm⟩ : ∃ m, m = (i + j) / 2 := ⟨_, rfl⟩
      have hm1 : i ≤ m := by omega
      have hm2 : m < j := by omega
      have q1 : ((i : Int) + (j : Int)) / 2 = (m : Int) := by omega
      have hmL : m < L.length := by omega
      clear hm
      have P := Lib.hid (HU.out m wr w.heap.size (HS.out.below HB.out) hmL ((HB.out.cell (p := ⟨bf, 1, none⟩) hbf).trans HF.out) ((HB.out.cell (p := ⟨bn, 0, none⟩) hbn).trans HN.out))
      have hml : m ≤ L.length := by omega
      generalize hr : decide (n ≤ L[m].1) = r at P
      have HR := Lib.hid hr
      clear hr
      cases r with
      | true =>
        go_wp2_with fail
        refine P.out.mono ?_; rintro e w1 ⟨rfl, hd⟩
        have HD := Lib.hid (show Below w.heap.size w w1 by obtain ⟨q, rfl⟩ := hd; exact below_drewN HB.out q)
        clear hd
        go_wp2_with fail
        go_roundw
        case rel => exact ⟨i, m, rfl, rfl, hm1, hml, HLo.out, fun q h g => by have h1 := of_decide_eq_true HR.out; have h2 := pair_le HP.out h g; omega, HD.out⟩
        case measure => simp [intOf]; omega
      | false =>
        go_wp2_with fail
        refine P.out.mono ?_; rintro e w1 ⟨rfl, hd⟩
        have HD := Lib.hid (show Below w.heap.size w w1 by obtain ⟨q, rfl⟩ := hd; exact below_drewN HB.out q)
        clear hd
        go_wp2_with fail
        go_roundw
        case rel => exact ⟨m + 1, j, by go_num, rfl, by omega, hjl, fun q h g => by have h1 := of_decide_eq_false HR.out; have h2 := pair_le HP.out hmL (show q ≤ m by omega); omega, HHi.out, HD.out⟩
        case measure => simp [intOf]; omega
    · obtain rfl : i = j := by omega
      go_wp2_with fail
      go_ret
      exact ⟨⟨i, rfl, hjl, HLo.out, HHi.out⟩, HB.out⟩

theorem NS.take {w : World} {B : Nat} {A : Option Addr} {l : List (Int × Int)} (h : NS w B A l) (k : Nat) : NS w B A (l.take k) := fun j hj => by
  have hj' : j < l.length := by simp at hj; omega
  obtain ⟨ad, e, hb, c0, c1⟩ := h j hj'
  exact ⟨ad, e, hb, by rw [List.getElem_take]; exact c0, by rw [List.getElem_take]; exact c1⟩
theorem cellsN_drop : ∀ (l : List (Int × Int)) (k : Nat), (cellsN l).drop (k * 2) = cellsN (l.drop k)
  | _, 0 => by simp
  | [], _ => by simp [cellsN_nil]
  | p :: l, k + 1 => by rw [cellsN_cons, show (k + 1) * 2 = k * 2 + 1 + 1 by omega, List.drop_succ_cons, List.drop_succ_cons, cellsN_drop l k, List.drop_succ_cons]
def UseE (w : World) (B : Nat) (r : Int × List (Int × Int) × Int) (e : Ending) : Prop := ∃ x, e = .returned (.tuple #[x, .int .i64 r.2.2]) ∧ FenceE w B r.1 r.2.1 x
theorem use_chk {nx n now : Int} {L : List (Int × Int)} (h : chkF nx L ≠ 0) : useF nx L n now = (0, [], chkF nx L) := by unfold useF; rw [if_neg h]
theorem use_arg {nx n now : Int} {L : List (Int × Int)} (h : chkF nx L = 0) (k : tm now = false) : useF nx L n now = (0, [], 1) := by unfold useF; rw [if_pos h, k]; rfl
theorem use_stale {nx n now : Int} {L : List (Int × Int)} (h : chkF nx L = 0) (k : tm now = true) (g : L.any (hitF n now) = false) : useF nx L n now = (0, [], 210) := by unfold useF; rw [if_pos h, k, if_pos rfl, g]; rfl
theorem use_ok {nx n now : Int} {L : List (Int × Int)} (h : chkF nx L = 0) (k : tm now = true) (g : L.any (hitF n now) = true) : useF nx L n now = (nx, L.filter (fun p => !hitF n now p), 0) := by unfold useF; rw [if_pos h, k, if_pos rfl, if_pos g]

set_option maxHeartbeats 4000000 in
theorem Use_any (nx n now : Int) (A : Option Addr) (c : Nat) (L : List (Int × Int)) (hl : L.length ≤ 1048576) (hcap : L.length ≤ c) (hmax : c ≤ maxLen) (w : World) (hs : NS w w.heap.size A L) :
    Calls Try.prog 20 #[fv nx A L.length c, .int .i64 n, .int .i64 now] w fun e w' => UseE w' w.heap.size (useF nx L n now) e ∧ Below w.heap.size w w' := by
  have HS := Lib.hid hs
  have HC := Lib.hid (fun w hs => Check_any nx A c L (by omega) w hs)
  have HT := Lib.hid (fun w => isTime_any now w)
  clear hs
  have Bw := Lib.hid ((((Below.refl w.heap.size w).alloc (Nat.le_refl _) (.cells #[.int .i64 nx, .slice A L.length c] 24)).alloc (by simp) (.cells #[.int .i64 n] 3)).alloc (by simp; omega) (.cells #[.int .i64 0, .slice none 0 0] 24))
  generalize hW : ((w.alloc (.cells #[.int .i64 nx, .slice A L.length c] 24)).alloc (.cells #[.int .i64 n] 3)).alloc (.cells #[.int .i64 0, .slice none 0 0] 24) = W at Bw
  have hz : W.heap.size = w.heap.size + 1 + 1 + 1 := by rw [← hW]; simp
  have b0 : Blk W w.heap.size 24 #[.int .i64 nx, .slice A L.length c] := by rw [← hW]; exact ((Blk.new _ _ _).alloc _).alloc _
  have b1 : Blk W (w.heap.size + 1) 3 #[.int .i64 n] := by rw [← hW]; exact (Blk.new_at _ _ _ (by simp)).alloc _
  have b2 : Blk W (w.heap.size + 1 + 1) 24 #[.int .i64 0, .slice none 0 0] := by rw [← hW]; exact Blk.new_at _ _ _ (by simp)
  have B0 := Lib.hid b0
  have B1 := Lib.hid b1
  have B2 := Lib.hid b2
  have HZ := Lib.hid hz
  have HW := Lib.hid hW
  clear b0 b1 b2 hz hW
  have HE : Hid (∀ w1 err, Below W.heap.size W w1 → useF nx L n now = (0, [], err) → UseE ((w1.setCell ⟨w.heap.size + 1 + 1, 0, none⟩ (.int .i64 0)).setCell ⟨w.heap.size + 1 + 1, 1, none⟩ (.slice none 0 0)) w.heap.size (useF nx L n now) (.returned (.tuple #[.agg #[.int .i64 0, .slice none 0 0], .int .i64 err])) ∧ Below w.heap.size w ((w1.setCell ⟨w.heap.size + 1 + 1, 0, none⟩ (.int .i64 0)).setCell ⟨w.heap.size + 1 + 1, 1, none⟩ (.slice none 0 0))) := Lib.hid fun w1 err hb he => ⟨⟨_, by rw [he], by rw [he]; exact fence_zero _ _⟩, below_setR (below_setR (Bw.out.trans (hb.mono (by rw [HZ.out]; omega))) (by omega) _) (by omega) _⟩
  by_cases h : chkF nx L = 0
  · cases ht : tm now with
    | true =>
      have hok := chk_ok.1 h
      have HSr := Lib.hid (fun bf bn w hs h1 h2 h3 h4 => Search_any n A c L (okF_pair hok.2.1) hl bf bn w hs h1 h2 h3 h4)
      have HPr := Lib.hid (okF_pair hok.2.1)
      rw [h] at HC
      rw [ht] at HT
      have HK := Lib.hid h
      have HTm := Lib.hid ht
      have hL := hok.2.2
      clear h ht hok
      go_enter Try.func20, Try.ntmps20
      go_wp2_with fail
      rw [HW.out]
      refine (HC.out _ (HS.out.on Bw.out)).mono ?_; rintro e w1 ⟨rfl, k1⟩
      have K1 := Lib.hid k1
      have D0 := Lib.hid (B0.out.below k1 (by rw [HZ.out]; omega))
      have D1 := Lib.hid (B1.out.below k1 (by rw [HZ.out]; omega))
      clear k1
      obtain ⟨⟨x0, x1⟩, x2, x3⟩ := D0.out.facts2
      go_wp2_with fail
      refine (HT.out _).mono ?_; rintro e w2 ⟨rfl, rfl⟩
      go_wp2_with fail
      refine (HSr.out _ _ _ ((HS.out.on Bw.out).on K1.out) D0.out.lt D1.out.lt x1 (D1.out.cell 0)).mono ?_; rintro e w2 ⟨⟨k, rfl, hkL, hlo, hhi⟩, k2⟩
      have K2 := Lib.hid (K1.out.trans (k2.mono K1.out.size))
      have E0 := Lib.hid (D0.out.below k2 D0.out.lt)
      have E1 := Lib.hid (D1.out.below k2 D1.out.lt)
      have E2 := Lib.hid (B2.out.below K2.out (by rw [HZ.out]; omega))
      have HLo := Lib.hid hlo
      have HHi := Lib.hid hhi
      clear k2 hlo hhi x0 x1 x2 x3
      obtain ⟨⟨x0, x1⟩, x2, x3⟩ := E0.out.facts2
      obtain ⟨⟨y0, y1⟩, y2, y3⟩ := E2.out.facts2
      have n0 := E1.out.cell 0
      simp at n0
      by_cases hlt : k < L.length
      · obtain ⟨ad, rfl, had, c0, c1⟩ := (((HS.out.on Bw.out).below K2.out)) k hlt
        have hlen1 : ((k : Int) == (L.length : Int)) = false := beq_eq_false_iff_ne.2 (by omega)
        by_cases hn : L[k].1 = n
        · have P := Lib.hid (isOld_any n L[k].2 now)
          have HLk : Hid (L[k] = (n, L[k].2)) := Lib.hid (by rw [← hn])
          have HA := Lib.hid (use_at (now := now) HPr.out k hlt hn)
          rw [hn] at c0
          have hne : (n != n) = false := by simp
          clear hn
          generalize L[k].2 = u at P c1 HLk
          cases hq : freshF now (n, u) with
          | true =>
            rw [hq] at P
            have HU := Lib.hid (use_ok (nx := nx) HK.out HTm.out (HA.out.1.trans (by rw [HLk.out]; exact hq)))
            have HF := Lib.hid (show L.filter (fun p => !hitF n now p) = L.take k ++ L.drop (k + 1) by rw [HA.out.2, HLk.out, hq]; simp)
            clear hq
            go_wp2_with fail
            go_still_tail 22, (by kernel_rfl)
            change wpList _ _ _ _ _ w2.drew
            clear x0 x1 x2 x3 y0 y1 y2 y3 n0 c0 c1
            go_wp2_with fail
            refine (P.out _).mono ?_; rintro e w3 ⟨rfl, k3⟩
            have K23 := Lib.hid ((Below.refl w2.heap.size w2).drew.trans k3)
            have K3 := Lib.hid (K2.out.trans (K23.out.mono K2.out.size))
            have F0 := Lib.hid (E0.out.below K23.out E0.out.lt)
            have F2 := Lib.hid (E2.out.below K23.out E2.out.lt)
            have HR := Lib.hid (reads_ns ((HS.out.on Bw.out).on K3.out))
            obtain ⟨⟨x0, x1⟩, x2, x3⟩ := F0.out.facts2
            have hb0 := F0.out.lt
            clear k3
            have hk1 : k + 1 ≤ c := by omega
            have hw1 : IntKind.i64.wrap ((k : Int) + 1) = (k : Int) + 1 := IntWalk.i64_in _ (by omega)
            have hw2 : ((k : Int) + 1).toNat = k + 1 := by omega
            have hw3 : (0 : Int) ≤ (k : Int) + 1 := by omega
            have hb2 := F2.out.lt
            have hA1 := Lib.hid (reads_ns ((((HS.out.on Bw.out).on K3.out)).take k))
            have hA2 := Lib.hid (Reads.cut HR.out (k := k + 1) (cap := c) (by omega) hcap)
            rw [cellsN_drop] at hA2
            have HLt := Lib.hid (show (L.take k).length = k by simp; omega)
            have HLd := Lib.hid (show (L.drop (k + 1)).length = L.length - (k + 1) by simp)
            rw [HLt.out] at hA1
            have PC : Hid (∀ A2 c2, Reads w3 w3.heap.size 2 A2 (L.length - (k + 1)) (cellsN (L.drop (k + 1))) → Calls Try.prog 31 #[.slice (some ⟨w3.heap.size, 0, none⟩) 2 2] ((w3.alloc (.cells #[.slice (some ad) k c, .slice A2 (L.length - (k + 1)) c2] 22)).drew) fun e w' => ∃ A5 c5 m5, e = .returned (.slice A5 m5 c5) ∧ Hid (OwnN w' w3.heap.size (.slice A5 m5 c5) (L.take k ++ L.drop (k + 1))) ∧ Hid (Below w3.heap.size w3 w') ∧ w'.cell? ⟨w.heap.size, 0, none⟩ = some (.int .i64 nx) ∧ w'.cell? ⟨w.heap.size, 1, none⟩ = some (.slice (some ad) L.length c) ∧ w'.cell? ⟨w.heap.size + 1 + 1, 0, none⟩ = some (.int .i64 0) ∧ w'.cell? ⟨w.heap.size + 1 + 1, 1, none⟩ = some (.slice none 0 0) ∧ w'.frozen? ⟨w.heap.size + 1 + 1, 0, none⟩ = false ∧ w'.frozen? ⟨w.heap.size + 1 + 1, 1, none⟩ = false) := Lib.hid fun A2 c2 hr2 => by
              have hb : Below w3.heap.size w3 ((w3.alloc (.cells #[.slice (some ad) k c, .slice A2 (L.length - (k + 1)) c2] 22)).drew) := ((Below.refl _ _).alloc (Nat.le_refl _) _).drew
              have hbk := (Blk.new w3 22 #[.slice (some ad) k c, .slice A2 (L.length - (k + 1)) c2]).drew
              refine (Concat_two w3.heap.size (some ad) A2 c c2 k (L.length - (k + 1)) (L.take k) (L.drop (k + 1)) HLt.out HLd.out (by omega) _ hbk.lt (hbk.cell 0) (hbk.cell 1) (reads_on hA1.out hb) (reads_on hr2 hb)).mono ?_
              rintro e w' ⟨v, rfl, ho, k4⟩
              obtain ⟨A5, c5, rfl, _⟩ := own_sliceN ho
              have hb' := hb.trans (k4.mono hb.size)
              have g0 := (F0.out.below hb' F0.out.lt).facts2
              have g2 := (F2.out.below hb' F2.out.lt).facts2
              exact ⟨A5, c5, _, rfl, Lib.hid (ho.base hb.size), Lib.hid hb', g0.1.1, g0.1.2, g2.1.1, g2.1.2, g2.2.1, g2.2.2⟩
            by_cases hck : c = k + 1
            · have HR2 := Lib.hid hA2.out
              rw [if_pos hck] at HR2
              clear hA1 hA2 HLt HLd
              obtain rfl := hck
              have hz0 : L.length - (k + 1) = 0 := by omega
              simp only [hz0] at PC HR2
              clear hz0
              go_wp2_with fail
              go_region_held_law (fun w' => w'.cell? ⟨w.heap.size, 0, none⟩ = some (.int .i64 nx) ∧ w'.cell? ⟨w.heap.size, 1, none⟩ = some (.slice (some ad) L.length (k + 1))) (first | exact ⟨by assumption, by assumption⟩ | exact ⟨cell_far (cell_far k0 (by show w.heap.size ≠ w.heap.size + 1 + 1; omega)) (by show w.heap.size ≠ w.heap.size + 1 + 1; omega), cell_far (cell_far k1 (by show w.heap.size ≠ w.heap.size + 1 + 1; omega)) (by show w.heap.size ≠ w.heap.size + 1 + 1; omega)⟩ | go_keep) (first | (go_at_call 31; refine (PC.out _ _ HR2.out).mono ?_; rintro _ w4 ⟨A5, c5, m5, rfl, ho, k4, k0, k1, r0, r1, r2, r3⟩))
              all_goals
                go_wp2_with fail
                refine bodyPost_ret (v := .tuple #[.agg #[.int .i64 nx, .slice A5 m5 c5], .int .i64 0]) (by simp [results, Try.results20, go_sem, r0, r1, r2, r3]) rfl ⟨⟨_, by rw [HU.out], ?_⟩, ?_⟩
                · rw [HU.out]
                  refine ⟨_, rfl, ?_⟩
                  show OwnN _ _ _ (L.filter (fun p => !hitF n now p))
                  rw [HF.out]
                  exact ((ho.out.set (g := w.heap.size + 1 + 1) (o := 0) hb2 (.int .i64 nx)).set (g := w.heap.size + 1 + 1) (o := 1) hb2 (.slice A5 m5 c5)).base (by omega)
                · have hq := Bw.out.trans ((K3.out.trans (k4.out.mono K3.out.size)).mono (by rw [HZ.out]; omega))
                  exact below_setR (below_setR hq (by omega) _) (by omega) _
            · have HR2 := Lib.hid hA2.out
              rw [if_neg hck] at HR2
              clear hA1 hA2 HLt HLd
              go_wp2_with fail
              go_region_held_law (fun w' => w'.cell? ⟨w.heap.size, 0, none⟩ = some (.int .i64 nx) ∧ w'.cell? ⟨w.heap.size, 1, none⟩ = some (.slice (some ad) L.length c)) (first | exact ⟨by assumption, by assumption⟩ | exact ⟨cell_far (cell_far k0 (by show w.heap.size ≠ w.heap.size + 1 + 1; omega)) (by show w.heap.size ≠ w.heap.size + 1 + 1; omega), cell_far (cell_far k1 (by show w.heap.size ≠ w.heap.size + 1 + 1; omega)) (by show w.heap.size ≠ w.heap.size + 1 + 1; omega)⟩ | go_keep) (first | (go_at_call 31; refine (PC.out _ _ HR2.out).mono ?_; rintro _ w4 ⟨A5, c5, m5, rfl, ho, k4, k0, k1, r0, r1, r2, r3⟩))
              all_goals
                go_wp2_with fail
                refine bodyPost_ret (v := .tuple #[.agg #[.int .i64 nx, .slice A5 m5 c5], .int .i64 0]) (by simp [results, Try.results20, go_sem, r0, r1, r2, r3]) rfl ⟨⟨_, by rw [HU.out], ?_⟩, ?_⟩
                · rw [HU.out]
                  refine ⟨_, rfl, ?_⟩
                  show OwnN _ _ _ (L.filter (fun p => !hitF n now p))
                  rw [HF.out]
                  exact ((ho.out.set (g := w.heap.size + 1 + 1) (o := 0) hb2 (.int .i64 nx)).set (g := w.heap.size + 1 + 1) (o := 1) hb2 (.slice A5 m5 c5)).base (by omega)
                · have hq := Bw.out.trans ((K3.out.trans (k4.out.mono K3.out.size)).mono (by rw [HZ.out]; omega))
                  exact below_setR (below_setR hq (by omega) _) (by omega) _
          | false =>
            rw [hq] at P
            have HU := Lib.hid (use_stale (nx := nx) HK.out HTm.out (HA.out.1.trans (by rw [HLk.out]; exact hq)))
            clear hq
            go_wp2_with fail
            go_still_tail 22, (by kernel_rfl)
            change wpList _ _ _ _ _ w2.drew
            clear x0 x1 x2 x3 y0 y1 y2 y3
            go_wp2_with fail
            refine (P.out _).mono ?_; rintro e w3 ⟨rfl, k3⟩
            have K3 := Lib.hid (K2.out.trans (((Below.refl w2.heap.size w2).drew.trans k3).mono K2.out.size))
            obtain ⟨⟨y0, y1⟩, y2, y3⟩ := (B2.out.below K3.out (by rw [HZ.out]; omega)).facts2
            clear k3
            go_wp2_with fail
            exact bodyPost_ret (v := .tuple #[.agg #[.int .i64 0, .slice none 0 0], .int .i64 210]) (by simp [results, Try.results20, go_sem, y0, y1, y2, y3]) rfl (HE.out _ _ K3.out HU.out)
        · have hne : (L[k].1 != n) = true := by simpa using hn
          have HU := Lib.hid (use_stale (nx := nx) HK.out HTm.out (use_none (L := L) (n := n) (now := now) (fun p hp => by
            obtain ⟨j, hj, rfl⟩ := List.getElem_of_mem hp
            rcases Nat.lt_or_ge j k with g | g
            · have := HLo.out j hj g; omega
            · have h1 := pair_le HPr.out hj g
              have h2 := HHi.out k hlt (Nat.le_refl _)
              omega)))
          clear hn
          generalize L[k].1 = y at c0 hne
          go_wp2_with fail
          go_quiet (fail)
          go_wp2_with fail
          exact bodyPost_ret (v := .tuple #[.agg #[.int .i64 0, .slice none 0 0], .int .i64 210]) (by simp [results, Try.results20, go_sem, y0, y1, y2, y3]) rfl (HE.out _ _ (below_drewN K2.out _) HU.out)
      · obtain rfl : k = L.length := by omega
        have hlen1 : ((L.length : Int) == (L.length : Int)) = true := by simp
        have HU := Lib.hid (use_stale (nx := nx) HK.out HTm.out (use_none (L := L) (n := n) (now := now) (fun p hp => by obtain ⟨j, hj, rfl⟩ := List.getElem_of_mem hp; have := HLo.out j hj hj; omega)))
        go_wp2_with fail
        go_quiet (fail)
        go_wp2_with fail
        exact bodyPost_ret (v := .tuple #[.agg #[.int .i64 0, .slice none 0 0], .int .i64 210]) (by simp [results, Try.results20, go_sem, y0, y1, y2, y3]) rfl (HE.out _ _ (below_drewN K2.out _) HU.out)
    | false =>
      have HU := Lib.hid (use_arg (n := n) h ht)
      rw [h] at HC
      rw [ht] at HT
      clear h ht
      go_enter Try.func20, Try.ntmps20
      go_wp2_with fail
      rw [HW.out]
      refine (HC.out _ (HS.out.on Bw.out)).mono ?_; rintro e w1 ⟨rfl, k1⟩
      have K1 := Lib.hid k1
      obtain ⟨⟨y0, y1⟩, y2, y3⟩ := (B2.out.below k1 (by rw [HZ.out]; omega)).facts2
      clear k1
      go_wp2_with fail
      refine (HT.out _).mono ?_; rintro e w2 ⟨rfl, rfl⟩
      go_wp2_with fail
      exact bodyPost_ret (v := .tuple #[.agg #[.int .i64 0, .slice none 0 0], .int .i64 1]) (by simp [results, Try.results20, go_sem, y0, y1, y2, y3]) rfl (HE.out _ _ K1.out HU.out)
  · have HU := Lib.hid (use_chk (n := n) (now := now) h)
    have hx : (chkF nx L != 0) = true := by simpa using h
    generalize chkF nx L = r at HC HU hx
    clear h
    go_enter Try.func20, Try.ntmps20
    go_wp2_with fail
    rw [HW.out]
    refine (HC.out _ (HS.out.on Bw.out)).mono ?_; rintro e w1 ⟨rfl, k1⟩
    have K1 := Lib.hid k1
    obtain ⟨⟨y0, y1⟩, y2, y3⟩ := (B2.out.below k1 (by rw [HZ.out]; omega)).facts2
    clear k1
    go_wp2_with fail
    exact bodyPost_ret (v := .tuple #[.agg #[.int .i64 0, .slice none 0 0], .int .i64 r]) (by simp [results, Try.results20, go_sem, y0, y1, y2, y3]) rfl (HE.out _ _ K1.out HU.out)
end Go.Proofs.Ytdiafbeohldbjaa
