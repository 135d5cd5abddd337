/- Contracts of budget: find. -/
import Derived.Test.YtnjmhijfaijopaaBudgetG
namespace Go.Proofs.Ytnjmhijfaijopaa
open Go.ChangeShapes Go.WideShapes Go.ChangeAt Go.RowKit Gs
set_option linter.unusedVariables false
/-- k is the place of the first one that does not stand ahead of the owner (or the list's end), fd: it is the owner's. -/
def FindS (acc rule : Int) (L : List Sp) (k : Nat) (fd : Bool) : Prop :=
  k ≤ L.length ∧ (∀ j (h : j < L.length), j < k → ltO L[j].1 L[j].2.1 acc rule = true) ∧ (∀ h : k < L.length, ltO L[k].1 L[k].2.1 acc rule = false ∧ fd = (decide (L[k].1 = acc) && decide (L[k].2.1 = rule))) ∧ (k = L.length → fd = false)
def FindE (acc rule : Int) (L : List Sp) (e : Ending) : Prop := ∃ k fd, e = .returned (.tuple #[.int .i64 (k : Nat), .bool fd]) ∧ FindS acc rule L k fd
set_option maxHeartbeats 4000000 in
theorem find_any (acc rule : Int) (A : Option Addr) (c : Nat) (L : List Sp) (hl : L.length ≤ 70368744177664) (w : World) (hs : QS w w.heap.size A L) :
    Calls Try.prog 30 #[.slice A L.length c, .agg #[.int .i64 acc, .int .i64 rule]] w fun e w' => FindE acc rule L e ∧ Below w.heap.size w w' := by
  have HS := Lib.hid hs
  clear hs
  have B1 := Lib.hid ((Below.refl w.heap.size w).alloc (Nat.le_refl _) (.cells #[.int .i64 acc, .int .i64 rule] 49))
  have X := Lib.hid (Blk.new w 49 #[.int .i64 acc, .int .i64 rule])
  go_enter Try.func30, Try.ntmps30
  go_wp2_with fail
  generalize w.alloc (.cells #[.int .i64 acc, .int .i64 rule] 49) = w1 at B1 X ⊢
  refine (index17_any acc rule w.heap.size A c L hl w1 (HS.out.on B1.out) X.out.lt (X.out.cell 0) (X.out.cell 1)).mono ?_; rintro e wX ⟨⟨r, rfl, hr⟩, b⟩
  have B2 := Lib.hid (below_on B1.out b)
  have X2 := Lib.hid (X.out.below b X.out.lt)
  clear b
  rcases hr with ⟨rfl, hall⟩ | ⟨k, hk, rfl, hge, hall⟩
  · have HA := Lib.hid hall
    clear hall
    go_wp2_with fail
    refine bodyPost_ret (v := .tuple #[.int .i64 (L.length : Nat), .bool false]) (by simp [results, Try.results30, go_sem]) rfl ?_
    exact ⟨⟨L.length, false, rfl, Nat.le_refl _, fun j h _ => HA.out j h, fun h => absurd h (Nat.lt_irrefl _), fun _ => rfl⟩, B2.out⟩
  · have HA := Lib.hid hall
    have HG := Lib.hid hge
    have HK := Lib.hid hk
    clear hall hge
    obtain ⟨ad, rfl, had, c0, c1, c2, c3⟩ := (HS.out.below B2.out) k hk
    have g0 : decide ((k : Int) < 0) = false := decide_eq_false (by omega)
    have hk0 : (0 : Int) ≤ (k : Int) := by omega
    have hk1 : (k : Int) < (L.length : Int) := by omega
    obtain ⟨⟨y0, y1⟩, y2, y3⟩ := X2.out.facts2
    have lx := X2.out.lt
    have ld : (ad.add (k * 4)).block < wX.heap.size := by rw [block_of_add]; have := B2.out.size; omega
    have P1 := Lib.hid (ownerOf_any L[k].1 L[k].2.1 L[k].2.2.1 L[k].2.2.2)
    obtain ⟨fd, hfd⟩ : ∃ fd, (decide (L[k].1 = acc) && decide (L[k].2.1 = rule)) = fd := ⟨_, rfl⟩
    have HD := Lib.hid hfd
    generalize L[k].1 = n, L[k].2.1 = u, L[k].2.2.1 = s, L[k].2.2.2 = m at c0 c1 c2 c3 P1 hfd
    rcases (by omega : (n = acc ∧ u = rule) ∨ (n = acc ∧ ¬ u = rule) ∨ ¬ n = acc) with ⟨hn, hu⟩ | ⟨hn, hu⟩ | hn
    · obtain rfl : fd = true := by rw [← hfd]; simp [hn, hu]
      clear hfd
      replace hn := hn.symm; replace hu := hu.symm; subst hn; subst hu
      go_wp2_with fail
      have hW := (Below.refl wX.heap.size wX).drew
      first | (go_loud (go_region_held_law (fun w' => w'.cell? ⟨w.heap.size, 0, none⟩ = some (.int .i64 acc) ∧ w'.cell? ⟨w.heap.size, 1, none⟩ = some (.int .i64 rule) ∧ w'.cell? (ad.add (k * 4)) = some (.int .i64 acc) ∧ w'.cell? ⟨(ad.add (k * 4)).block, (ad.add (k * 4)).off + 1, none⟩ = some (.int .i64 rule) ∧ w'.cell? ⟨(ad.add (k * 4)).block, (ad.add (k * 4)).off + 2, none⟩ = some (.int .i64 s) ∧ w'.cell? ⟨(ad.add (k * 4)).block, (ad.add (k * 4)).off + 3, none⟩ = some (.int .i64 m)) (first | exact ⟨by assumption, by assumption, by assumption, by assumption, by assumption, by assumption⟩ | go_keep)
        (first
          | (go_at_call 25; with_reducible refine (P1.out _).mono ?_; rintro _ wx ⟨rfl, b⟩; have hW := below_on hW b; have y0x := (hW.cell (p := ⟨w.heap.size, 0, none⟩) lx).trans y0; have y1x := (hW.cell (p := ⟨w.heap.size, 1, none⟩) lx).trans y1; have c0x := (hW.cell ld).trans c0; have c1x := (hW.cell (p := ⟨(ad.add (k * 4)).block, (ad.add (k * 4)).off + 1, none⟩) ld).trans c1; have c2x := (hW.cell (p := ⟨(ad.add (k * 4)).block, (ad.add (k * 4)).off + 2, none⟩) ld).trans c2; have c3x := (hW.cell (p := ⟨(ad.add (k * 4)).block, (ad.add (k * 4)).off + 3, none⟩) ld).trans c3)))) | fail "x"
      all_goals (try go_wp2_with fail)
      all_goals refine bodyPost_ret (v := .tuple #[.int .i64 (k : Nat), .bool true]) (by simp [results, Try.results30, go_sem]) rfl ?_
      all_goals exact ⟨⟨k, true, rfl, Nat.le_of_lt HK.out, fun j h g => HA.out j g, fun h => ⟨HG.out, HD.out.symm⟩, fun h => absurd h (Nat.ne_of_lt HK.out)⟩, below_on B2.out hW⟩
    · obtain rfl : fd = false := by rw [← hfd]; simp [hn, hu]
      clear hfd
      replace hn := hn.symm; subst hn
      go_wp2_with fail
      have hW := (Below.refl wX.heap.size wX).drew
      first | (go_loud (go_region_held_law (fun w' => w'.cell? ⟨w.heap.size, 0, none⟩ = some (.int .i64 acc) ∧ w'.cell? ⟨w.heap.size, 1, none⟩ = some (.int .i64 rule) ∧ w'.cell? (ad.add (k * 4)) = some (.int .i64 acc) ∧ w'.cell? ⟨(ad.add (k * 4)).block, (ad.add (k * 4)).off + 1, none⟩ = some (.int .i64 u) ∧ w'.cell? ⟨(ad.add (k * 4)).block, (ad.add (k * 4)).off + 2, none⟩ = some (.int .i64 s) ∧ w'.cell? ⟨(ad.add (k * 4)).block, (ad.add (k * 4)).off + 3, none⟩ = some (.int .i64 m)) (first | exact ⟨by assumption, by assumption, by assumption, by assumption, by assumption, by assumption⟩ | go_keep)
        (first
          | (go_at_call 25; with_reducible refine (P1.out _).mono ?_; rintro _ wx ⟨rfl, b⟩; have hW := below_on hW b; have y0x := (hW.cell (p := ⟨w.heap.size, 0, none⟩) lx).trans y0; have y1x := (hW.cell (p := ⟨w.heap.size, 1, none⟩) lx).trans y1; have c0x := (hW.cell ld).trans c0; have c1x := (hW.cell (p := ⟨(ad.add (k * 4)).block, (ad.add (k * 4)).off + 1, none⟩) ld).trans c1; have c2x := (hW.cell (p := ⟨(ad.add (k * 4)).block, (ad.add (k * 4)).off + 2, none⟩) ld).trans c2; have c3x := (hW.cell (p := ⟨(ad.add (k * 4)).block, (ad.add (k * 4)).off + 3, none⟩) ld).trans c3)))) | fail "x"
      all_goals (try go_wp2_with fail)
      all_goals refine bodyPost_ret (v := .tuple #[.int .i64 (k : Nat), .bool false]) (by simp [results, Try.results30, go_sem]) rfl ?_
      all_goals exact ⟨⟨k, false, rfl, Nat.le_of_lt HK.out, fun j h g => HA.out j g, fun h => ⟨HG.out, HD.out.symm⟩, fun h => absurd h (Nat.ne_of_lt HK.out)⟩, below_on B2.out hW⟩
    · obtain rfl : fd = false := by rw [← hfd]; simp [hn]
      clear hfd
      go_wp2_with fail
      have hW := (Below.refl wX.heap.size wX).drew
      first | (go_loud (go_region_held_law (fun w' => w'.cell? ⟨w.heap.size, 0, none⟩ = some (.int .i64 acc) ∧ w'.cell? ⟨w.heap.size, 1, none⟩ = some (.int .i64 rule) ∧ w'.cell? (ad.add (k * 4)) = some (.int .i64 n) ∧ w'.cell? ⟨(ad.add (k * 4)).block, (ad.add (k * 4)).off + 1, none⟩ = some (.int .i64 u) ∧ w'.cell? ⟨(ad.add (k * 4)).block, (ad.add (k * 4)).off + 2, none⟩ = some (.int .i64 s) ∧ w'.cell? ⟨(ad.add (k * 4)).block, (ad.add (k * 4)).off + 3, none⟩ = some (.int .i64 m)) (first | exact ⟨by assumption, by assumption, by assumption, by assumption, by assumption, by assumption⟩ | go_keep)
        (first
          | (go_at_call 25; with_reducible refine (P1.out _).mono ?_; rintro _ wx ⟨rfl, b⟩; have hW := below_on hW b; have y0x := (hW.cell (p := ⟨w.heap.size, 0, none⟩) lx).trans y0; have y1x := (hW.cell (p := ⟨w.heap.size, 1, none⟩) lx).trans y1; have c0x := (hW.cell ld).trans c0; have c1x := (hW.cell (p := ⟨(ad.add (k * 4)).block, (ad.add (k * 4)).off + 1, none⟩) ld).trans c1; have c2x := (hW.cell (p := ⟨(ad.add (k * 4)).block, (ad.add (k * 4)).off + 2, none⟩) ld).trans c2; have c3x := (hW.cell (p := ⟨(ad.add (k * 4)).block, (ad.add (k * 4)).off + 3, none⟩) ld).trans c3)))) | fail "x"
      all_goals (try go_wp2_with fail)
      all_goals refine bodyPost_ret (v := .tuple #[.int .i64 (k : Nat), .bool false]) (by simp [results, Try.results30, go_sem]) rfl ?_
      all_goals exact ⟨⟨k, false, rfl, Nat.le_of_lt HK.out, fun j h g => HA.out j g, fun h => ⟨HG.out, HD.out.symm⟩, fun h => absurd h (Nat.ne_of_lt HK.out)⟩, below_on B2.out hW⟩
end Go.Proofs.Ytnjmhijfaijopaa
