/- The document's Spend. (Printed by tools/gen_budget_u.py.) -/
import Derived.Test.YtnjmhijfaijopaaBudgetT
import Derived.Deep.Cut
namespace Go.Proofs.Ytnjmhijfaijopaa
open Go.ChangeShapes Go.WideShapes Go.ChangeAt Go.RowKit Gs
set_option linter.unusedVariables false
set_option linter.unusedSimpArgs false

theorem place_iff {acc rule : Int} {L : List Sp} (h : okS none L = true) (k : Nat) (hk : k < L.length) : (isO acc rule L[k] = true → ((k : Int) != placeS acc rule L) = false) ∧ (isO acc rule L[k] = false → ((k : Int) != placeS acc rule L) = true) := by
  rcases place_cases acc rule L with ⟨hp, hf⟩ | ⟨j, hj, hp, hf⟩
  · rw [hp]
    refine ⟨fun h1 => ?_, fun _ => by simp⟩
    have := List.find?_eq_none.1 hf _ (List.getElem_mem hk)
    rw [h1] at this; exact absurd rfl this
  · rw [hp]
    have hjo := List.find?_some hf
    refine ⟨fun h1 => ?_, fun h1 => ?_⟩
    · have : k = j := by
        rw [isO_iff] at h1 hjo
        rcases Nat.lt_trichotomy k j with g | g | g
        · have := okS_lt h k j hj g; omega
        · exact g
        · have := okS_lt h j k hk g; omega
      simp [this]
    · simp only [bne_iff_ne, ne_eq]
      intro e
      have : k = j := by omega
      subst this; rw [h1] at hjo; cases hjo
section
open Go
/-- append of one element. -/
theorem wpList_app1 (w : World) {ops : Array Oper} {rest : List Oper} {o : Oper} {a : Act} {Q : Exit → Act → World → Prop} (hgd : o.guard = none) (s x : Operand)
    (ho : o.op = .call { callee := .builtin .append, args := #[s, x], argTypes := #[22, 22] }) (B g : Nat) (v : Value) (l : List Sp) (p q r t : Int) (hs : a.eval s = v) (hx : a.eval x = .slice (some ⟨g, 0, none⟩) 1 1)
    (hown : OwnQ w B v l) (hb : Blk w g 45 #[.int .i64 p, .int .i64 q, .int .i64 r, .int .i64 t]) (hl : l.length ≤ 1048576) (hB : B ≤ w.heap.size)
    (h : ∀ v' w', OwnQ w' B v' (l ++ [(p, q, r, t)]) → Below B w w' → wpList Try.prog ops Q rest (a.put o.dst v') w') : wpList Try.prog ops Q (o :: rest) a w := by
  obtain ⟨i0, hi, hz0, hz1, hz2⟩ := info_parts Try.info45
  have hr : Reads w (g + 1) 4 (some ⟨g, 0, none⟩) 1 [.int .i64 p, .int .i64 q, .int .i64 r, .int .i64 t] := ⟨rfl, fun _ => ⟨_, rfl, Nat.lt_succ_self _, fun j u hu => rowK_read hb _ 0 (fun j v h => by simpa using h) j u hu⟩⟩
  refine wpList_append_any w hgd s x 22 ho B 45 i0 (.agg #[.int .i64 0, .int .i64 0, .int .i64 0, .int .i64 0]) 4 32 Try.underlying22 hi hz0 hz1 hz2 rfl (by decide) v l.length (cellsQ l) hs hown (g + 1) _ 1 1 _ hx hr (one_q p q r t) (by unfold maxLen; omega) (by omega) hB ?_
  intro v' w' ho' hg' _
  have hge := own_ge hown
  exact h v' w' (own_q ho' (by simp) (by rw [cellsQ_append]; rfl)) ((Below.refl B w).grown hg' hB (by intro k hk; exact hge k hk))
end
section
variable (A : Option Addr) (n c : Nat) (L : List Sp) (hn : L.length = n) (hl : n ≤ 1048576) (N : ByteArray) (al : Bool) (PA : Option Addr) (pn pc : Nat) (km lm mo wi : Int)
include hn hl
set_option maxHeartbeats 64000000 in
set_option maxRecDepth 100000 in
theorem refSpend17_any (rule acc now : Int) (w : World) (hs : QS w w.heap.size A L) : Calls Try.prog 18 #[.slice A n c, .agg (rcs N al PA pn pc km lm mo wi), .int .i64 rule, .int .i64 acc, .int .i64 now] w (SpendE L mo wi rule acc now w) := by
  have HS := Lib.hid (hs)
  have hl4 : n ≤ 70368744177664 := by omega
  have PC := Lib.hid (refCheck_k A n c L hn hl4)
  have PK := Lib.hid (asked17_any N al PA pn pc km lm mo wi rule acc now)
  have PH := Lib.hid (fun hok hnow w hs => had17_any A n c L hn hl4 N al PA pn pc km lm mo wi hok rule acc now hnow w hs)
  have PF := Lib.hid (find17_any A n c L hn hl4 rule acc)
  have HN := Lib.hid hn
  clear hs hn
  have X := Lib.hid (Blk.new w 28 #[.string N, .bool al, .slice PA pn pc, .int .u64 km, .int .i64 lm, .int .i64 mo, .int .i64 wi])
  have hb0 := (Below.refl w.heap.size w).alloc (Nat.le_refl _) (.cells #[.string N, .bool al, .slice PA pn pc, .int .u64 km, .int .i64 lm, .int .i64 mo, .int .i64 wi] 28)
  have B0 := Lib.hid (hb0)
  clear hb0
  by_cases hc0 : chkS L = 0
  rotate_left 1
  · obtain ⟨ch, hch⟩ : ∃ ch, chkS L = ch := ⟨_, rfl⟩
    have HE := Lib.hid (show spendS L mo wi rule acc now = ([], ch) by unfold spendS; have h1 : askE L mo wi rule acc now = ch := by { unfold askE; rw [if_neg hc0, hch] }; rw [if_neg (by rw [h1, ← hch]; exact hc0), h1])
    rw [hch] at PC hc0
    have gc : (ch != 0) = true := by simpa using hc0
    clear hc0 hch
    go_enter Try.func18, Try.ntmps18
    go_wp2_with fail
    generalize (w.alloc (.cells #[.string N, .bool al, .slice PA pn pc, .int .u64 km, .int .i64 lm, .int .i64 mo, .int .i64 wi] 28)) = w0 at B0 X ⊢
    have x0 : w0.cell? ⟨w.heap.size, 0, none⟩ = some (.string N) := X.out.cell 0
    have x1 : w0.cell? ⟨w.heap.size, 1, none⟩ = some (.bool al) := X.out.cell 1
    have x2 : w0.cell? ⟨w.heap.size, 2, none⟩ = some (.slice PA pn pc) := X.out.cell 2
    have x3 : w0.cell? ⟨w.heap.size, 3, none⟩ = some (.int .u64 km) := X.out.cell 3
    have x4 : w0.cell? ⟨w.heap.size, 4, none⟩ = some (.int .i64 lm) := X.out.cell 4
    have x5 : w0.cell? ⟨w.heap.size, 5, none⟩ = some (.int .i64 mo) := X.out.cell 5
    have x6 : w0.cell? ⟨w.heap.size, 6, none⟩ = some (.int .i64 wi) := X.out.cell 6
    (with_reducible refine (PC.out _ (HS.out.on B0.out)).mono ?_)
    rintro e w1 ⟨rfl, b⟩
    clear x0 x1 x2 x3 x4 x5 x6
    have B1 := Lib.hid (below_on B0.out b)
    replace X := Lib.hid (X.out.below b X.out.lt)
    clear b
    have x0 : w1.cell? ⟨w.heap.size, 0, none⟩ = some (.string N) := X.out.cell 0
    have x1 : w1.cell? ⟨w.heap.size, 1, none⟩ = some (.bool al) := X.out.cell 1
    have x2 : w1.cell? ⟨w.heap.size, 2, none⟩ = some (.slice PA pn pc) := X.out.cell 2
    have x3 : w1.cell? ⟨w.heap.size, 3, none⟩ = some (.int .u64 km) := X.out.cell 3
    have x4 : w1.cell? ⟨w.heap.size, 4, none⟩ = some (.int .i64 lm) := X.out.cell 4
    have x5 : w1.cell? ⟨w.heap.size, 5, none⟩ = some (.int .i64 mo) := X.out.cell 5
    have x6 : w1.cell? ⟨w.heap.size, 6, none⟩ = some (.int .i64 wi) := X.out.cell 6
    go_wp2_with fail
    refine bodyPost_ret (v := .tuple #[.slice none 0 0, .int .i64 ch]) (by simp [results, Try.results18, go_sem]) rfl ?_
    exact spendE_mk HE.out (own_nilQ _ _) B1.out
  rw [hc0] at PC
  cases ha : askB mo wi rule acc now with
  | false =>
    rw [ha] at PK
    have HE := Lib.hid (show spendS L mo wi rule acc now = ([], 1) by unfold spendS; have h1 : askE L mo wi rule acc now = 1 := by { unfold askE; rw [if_pos hc0, ha]; rfl }; rw [if_neg (by rw [h1]; decide), h1])
    clear ha hc0
    go_enter Try.func18, Try.ntmps18
    go_wp2_with fail
    generalize (w.alloc (.cells #[.string N, .bool al, .slice PA pn pc, .int .u64 km, .int .i64 lm, .int .i64 mo, .int .i64 wi] 28)) = w0 at B0 X ⊢
    have x0 : w0.cell? ⟨w.heap.size, 0, none⟩ = some (.string N) := X.out.cell 0
    have x1 : w0.cell? ⟨w.heap.size, 1, none⟩ = some (.bool al) := X.out.cell 1
    have x2 : w0.cell? ⟨w.heap.size, 2, none⟩ = some (.slice PA pn pc) := X.out.cell 2
    have x3 : w0.cell? ⟨w.heap.size, 3, none⟩ = some (.int .u64 km) := X.out.cell 3
    have x4 : w0.cell? ⟨w.heap.size, 4, none⟩ = some (.int .i64 lm) := X.out.cell 4
    have x5 : w0.cell? ⟨w.heap.size, 5, none⟩ = some (.int .i64 mo) := X.out.cell 5
    have x6 : w0.cell? ⟨w.heap.size, 6, none⟩ = some (.int .i64 wi) := X.out.cell 6
    (with_reducible refine (PC.out _ (HS.out.on B0.out)).mono ?_)
    rintro e w1 ⟨rfl, b⟩
    clear x0 x1 x2 x3 x4 x5 x6
    have B1 := Lib.hid (below_on B0.out b)
    replace X := Lib.hid (X.out.below b X.out.lt)
    clear b
    have x0 : w1.cell? ⟨w.heap.size, 0, none⟩ = some (.string N) := X.out.cell 0
    have x1 : w1.cell? ⟨w.heap.size, 1, none⟩ = some (.bool al) := X.out.cell 1
    have x2 : w1.cell? ⟨w.heap.size, 2, none⟩ = some (.slice PA pn pc) := X.out.cell 2
    have x3 : w1.cell? ⟨w.heap.size, 3, none⟩ = some (.int .u64 km) := X.out.cell 3
    have x4 : w1.cell? ⟨w.heap.size, 4, none⟩ = some (.int .i64 lm) := X.out.cell 4
    have x5 : w1.cell? ⟨w.heap.size, 5, none⟩ = some (.int .i64 mo) := X.out.cell 5
    have x6 : w1.cell? ⟨w.heap.size, 6, none⟩ = some (.int .i64 wi) := X.out.cell 6
    go_wp2_with fail
    (with_reducible refine (PK.out _).mono ?_)
    rintro e w2 ⟨rfl, b⟩
    clear x0 x1 x2 x3 x4 x5 x6
    have B2 := Lib.hid (below_on B1.out b)
    replace X := Lib.hid (X.out.below b X.out.lt)
    clear b
    go_wp2_with fail
    refine bodyPost_ret (v := .tuple #[.slice none 0 0, .int .i64 1]) (by simp [results, Try.results18, go_sem]) rfl ?_
    exact spendE_mk HE.out (own_nilQ _ _) B2.out
  | true =>
    rw [ha] at PK
    have hE := askE_is.2 ⟨hc0, ha⟩
    have HE := Lib.hid hE
    have hln := (chkS_ok hc0).2
    rw [HN.out] at hln
    obtain ⟨hok, hrm, -, -, hnow⟩ := askE_ok hE
    obtain ⟨⟨hmo0, hmo1⟩, -, -⟩ := rmB_iff.1 hrm
    have hhad := had_nonneg (acc := acc) (rule := rule) (wi := wi) (now := now) hok
    have hhad2 := had_le (acc := acc) (rule := rule) (wi := wi) (now := now) hok
    have HOK := Lib.hid hok
    have PH2 := Lib.hid (PH.out hok hnow)
    clear PH hE hok hrm hnow ha hc0
    by_cases hm0 : mo = 0
    · have gm : (mo == 0) = true := by simpa using hm0
      have HE2 := Lib.hid (show spendS L mo wi rule acc now = (L, 0) by unfold spendS; rw [if_pos HE.out, if_pos hm0])
      clear hm0
      obtain ⟨i0, hi, hz0, hz1, hz2⟩ := info_parts Try.info45
      have HI := Lib.hid (And.intro hi (And.intro hz0 (And.intro hz1 hz2)))
      clear hi hz0 hz1 hz2
      go_enter Try.func18, Try.ntmps18
      go_wp2_with fail
      generalize (w.alloc (.cells #[.string N, .bool al, .slice PA pn pc, .int .u64 km, .int .i64 lm, .int .i64 mo, .int .i64 wi] 28)) = w0 at B0 X ⊢
      have x0 : w0.cell? ⟨w.heap.size, 0, none⟩ = some (.string N) := X.out.cell 0
      have x1 : w0.cell? ⟨w.heap.size, 1, none⟩ = some (.bool al) := X.out.cell 1
      have x2 : w0.cell? ⟨w.heap.size, 2, none⟩ = some (.slice PA pn pc) := X.out.cell 2
      have x3 : w0.cell? ⟨w.heap.size, 3, none⟩ = some (.int .u64 km) := X.out.cell 3
      have x4 : w0.cell? ⟨w.heap.size, 4, none⟩ = some (.int .i64 lm) := X.out.cell 4
      have x5 : w0.cell? ⟨w.heap.size, 5, none⟩ = some (.int .i64 mo) := X.out.cell 5
      have x6 : w0.cell? ⟨w.heap.size, 6, none⟩ = some (.int .i64 wi) := X.out.cell 6
      (with_reducible refine (PC.out _ (HS.out.on B0.out)).mono ?_)
      rintro e w1 ⟨rfl, b⟩
      clear x0 x1 x2 x3 x4 x5 x6
      have B1 := Lib.hid (below_on B0.out b)
      replace X := Lib.hid (X.out.below b X.out.lt)
      clear b
      have x0 : w1.cell? ⟨w.heap.size, 0, none⟩ = some (.string N) := X.out.cell 0
      have x1 : w1.cell? ⟨w.heap.size, 1, none⟩ = some (.bool al) := X.out.cell 1
      have x2 : w1.cell? ⟨w.heap.size, 2, none⟩ = some (.slice PA pn pc) := X.out.cell 2
      have x3 : w1.cell? ⟨w.heap.size, 3, none⟩ = some (.int .u64 km) := X.out.cell 3
      have x4 : w1.cell? ⟨w.heap.size, 4, none⟩ = some (.int .i64 lm) := X.out.cell 4
      have x5 : w1.cell? ⟨w.heap.size, 5, none⟩ = some (.int .i64 mo) := X.out.cell 5
      have x6 : w1.cell? ⟨w.heap.size, 6, none⟩ = some (.int .i64 wi) := X.out.cell 6
      go_wp2_with fail
      (with_reducible refine (PK.out _).mono ?_)
      rintro e w2 ⟨rfl, b⟩
      clear x0 x1 x2 x3 x4 x5 x6
      have B2 := Lib.hid (below_on B1.out b)
      replace X := Lib.hid (X.out.below b X.out.lt)
      clear b
      have x0 : w2.cell? ⟨w.heap.size, 0, none⟩ = some (.string N) := X.out.cell 0
      have x1 : w2.cell? ⟨w.heap.size, 1, none⟩ = some (.bool al) := X.out.cell 1
      have x2 : w2.cell? ⟨w.heap.size, 2, none⟩ = some (.slice PA pn pc) := X.out.cell 2
      have x3 : w2.cell? ⟨w.heap.size, 3, none⟩ = some (.int .u64 km) := X.out.cell 3
      have x4 : w2.cell? ⟨w.heap.size, 4, none⟩ = some (.int .i64 lm) := X.out.cell 4
      have x5 : w2.cell? ⟨w.heap.size, 5, none⟩ = some (.int .i64 mo) := X.out.cell 5
      have x6 : w2.cell? ⟨w.heap.size, 6, none⟩ = some (.int .i64 wi) := X.out.cell 6
      have HR := Lib.hid ((HN.out ▸ reads_qs (HS.out.on B2.out) : Reads w2 w2.heap.size 4 A n (cellsQ L)).alloc (Nat.le_refl _) (.cells #[] 45))
      have HO := Lib.hid (own_noneQ w2 (Nat.le_refl w2.heap.size))
      go_wp2_with (at_builtin; first | (refine wpList_append_any _ (by rfl) _ _ 22 (by rfl) w2.heap.size 45 i0 (.agg #[.int .i64 0, .int .i64 0, .int .i64 0, .int .i64 0]) 4 32 Try.underlying22 HI.out.1 HI.out.2.1 HI.out.2.2.1 HI.out.2.2.2 (by rfl) (by decide) _ 0 [] (by rfl) HO.out _ _ n _ _ (by rfl) HR.out (cellsQ_one L) (by unfold maxLen; omega) (by omega) (by simp) ?_; intro v4 w4 ho4 hg4 hw4; have HO4 := Lib.hid ho4; have HG4 := Lib.hid hg4; clear ho4 hg4 hw4) | fail)
      go_wp2_with fail
      refine bodyPost_ret (v := .tuple #[v4, .int .i64 0]) (by simp [results, Try.results18, go_sem]) rfl ?_
      exact spendE_mk HE2.out (own_baseQ (own_q HO4.out (by rw [HN.out]; omega) (by simp)) B2.out.size) (below_on B2.out (((Below.refl _ w2).alloc (Nat.le_refl _) _).grown HG4.out (by simp) (by intro k hk; simp [Value.ownBlock] at hk; omega)))
    have gm : (mo == 0) = false := by simpa using hm0
    have HM0 := Lib.hid hm0
    have HHS := Lib.hid (@had_some acc rule wi now L)
    have HHZ := Lib.hid (fun h => had_zero (acc := acc) (rule := rule) (wi := wi) (now := now) HOK.out h)
    have HSP := Lib.hid (show spendS L mo wi rule acc now = if mo ≤ hadS acc rule wi now L then ([], 170) else if 1024 < (putS acc rule (newS acc rule wi now L) L).length then ([], 2) else (putS acc rule (newS acc rule wi now L) L, 0) by unfold spendS; rw [if_pos HE.out, if_neg hm0])
    clear hm0
    generalize hadS acc rule wi now L = hd at HHS HHZ HSP PH2 hhad hhad2
    by_cases hge : mo ≤ hd
    · have gge : decide (mo ≤ hd) = true := decide_eq_true hge
      have HE2 := Lib.hid (show spendS L mo wi rule acc now = ([], 170) from by rw [HSP.out, if_pos hge])
      go_enter Try.func18, Try.ntmps18
      go_wp2_with fail
      generalize (w.alloc (.cells #[.string N, .bool al, .slice PA pn pc, .int .u64 km, .int .i64 lm, .int .i64 mo, .int .i64 wi] 28)) = w0 at B0 X ⊢
      have x0 : w0.cell? ⟨w.heap.size, 0, none⟩ = some (.string N) := X.out.cell 0
      have x1 : w0.cell? ⟨w.heap.size, 1, none⟩ = some (.bool al) := X.out.cell 1
      have x2 : w0.cell? ⟨w.heap.size, 2, none⟩ = some (.slice PA pn pc) := X.out.cell 2
      have x3 : w0.cell? ⟨w.heap.size, 3, none⟩ = some (.int .u64 km) := X.out.cell 3
      have x4 : w0.cell? ⟨w.heap.size, 4, none⟩ = some (.int .i64 lm) := X.out.cell 4
      have x5 : w0.cell? ⟨w.heap.size, 5, none⟩ = some (.int .i64 mo) := X.out.cell 5
      have x6 : w0.cell? ⟨w.heap.size, 6, none⟩ = some (.int .i64 wi) := X.out.cell 6
      (with_reducible refine (PC.out _ (HS.out.on B0.out)).mono ?_)
      rintro e w1 ⟨rfl, b⟩
      clear x0 x1 x2 x3 x4 x5 x6
      have B1 := Lib.hid (below_on B0.out b)
      replace X := Lib.hid (X.out.below b X.out.lt)
      clear b
      have x0 : w1.cell? ⟨w.heap.size, 0, none⟩ = some (.string N) := X.out.cell 0
      have x1 : w1.cell? ⟨w.heap.size, 1, none⟩ = some (.bool al) := X.out.cell 1
      have x2 : w1.cell? ⟨w.heap.size, 2, none⟩ = some (.slice PA pn pc) := X.out.cell 2
      have x3 : w1.cell? ⟨w.heap.size, 3, none⟩ = some (.int .u64 km) := X.out.cell 3
      have x4 : w1.cell? ⟨w.heap.size, 4, none⟩ = some (.int .i64 lm) := X.out.cell 4
      have x5 : w1.cell? ⟨w.heap.size, 5, none⟩ = some (.int .i64 mo) := X.out.cell 5
      have x6 : w1.cell? ⟨w.heap.size, 6, none⟩ = some (.int .i64 wi) := X.out.cell 6
      go_wp2_with fail
      (with_reducible refine (PK.out _).mono ?_)
      rintro e w2 ⟨rfl, b⟩
      clear x0 x1 x2 x3 x4 x5 x6
      have B2 := Lib.hid (below_on B1.out b)
      replace X := Lib.hid (X.out.below b X.out.lt)
      clear b
      have x0 : w2.cell? ⟨w.heap.size, 0, none⟩ = some (.string N) := X.out.cell 0
      have x1 : w2.cell? ⟨w.heap.size, 1, none⟩ = some (.bool al) := X.out.cell 1
      have x2 : w2.cell? ⟨w.heap.size, 2, none⟩ = some (.slice PA pn pc) := X.out.cell 2
      have x3 : w2.cell? ⟨w.heap.size, 3, none⟩ = some (.int .u64 km) := X.out.cell 3
      have x4 : w2.cell? ⟨w.heap.size, 4, none⟩ = some (.int .i64 lm) := X.out.cell 4
      have x5 : w2.cell? ⟨w.heap.size, 5, none⟩ = some (.int .i64 mo) := X.out.cell 5
      have x6 : w2.cell? ⟨w.heap.size, 6, none⟩ = some (.int .i64 wi) := X.out.cell 6
      go_wp2_with fail
      (with_reducible refine (PH2.out _ (HS.out.on B2.out)).mono ?_)
      rintro e w3 ⟨rfl, b⟩
      clear x0 x1 x2 x3 x4 x5 x6
      have B3 := Lib.hid (below_on B2.out b)
      replace X := Lib.hid (X.out.below b X.out.lt)
      clear b
      have x0 : w3.cell? ⟨w.heap.size, 0, none⟩ = some (.string N) := X.out.cell 0
      have x1 : w3.cell? ⟨w.heap.size, 1, none⟩ = some (.bool al) := X.out.cell 1
      have x2 : w3.cell? ⟨w.heap.size, 2, none⟩ = some (.slice PA pn pc) := X.out.cell 2
      have x3 : w3.cell? ⟨w.heap.size, 3, none⟩ = some (.int .u64 km) := X.out.cell 3
      have x4 : w3.cell? ⟨w.heap.size, 4, none⟩ = some (.int .i64 lm) := X.out.cell 4
      have x5 : w3.cell? ⟨w.heap.size, 5, none⟩ = some (.int .i64 mo) := X.out.cell 5
      have x6 : w3.cell? ⟨w.heap.size, 6, none⟩ = some (.int .i64 wi) := X.out.cell 6
      go_wp2_with fail
      refine bodyPost_ret (v := .tuple #[.slice none 0 0, .int .i64 170]) (by simp [results, Try.results18, go_sem]) rfl ?_
      exact spendE_mk HE2.out (own_nilQ _ _) B3.out
    have gge : decide (mo ≤ hd) = false := decide_eq_false hge
    replace HSP := Lib.hid (show spendS L mo wi rule acc now = if 1024 < (putS acc rule (newS acc rule wi now L) L).length then ([], 2) else (putS acc rule (newS acc rule wi now L) L, 0) by rw [HSP.out, if_neg hge])
    have HPL := Lib.hid (fun (k : Nat) (hk : k < L.length) => place_iff HOK.out k hk (acc := acc) (rule := rule))
    rcases place_cases acc rule L with ⟨hp, hf⟩ | ⟨kp, hkp, hp, hf⟩
    · have hd0 : hd = 0 := Classical.byContradiction fun hne => by obtain ⟨s, h2, _⟩ := HHS.out (by omega); rw [hf] at h2; cases h2
      have NEW := Lib.hid (HHZ.out hd0)
      subst hd0
      clear hp hf
      go_enter Try.func18, Try.ntmps18
      go_wp2_with fail
      generalize (w.alloc (.cells #[.string N, .bool al, .slice PA pn pc, .int .u64 km, .int .i64 lm, .int .i64 mo, .int .i64 wi] 28)) = w0 at B0 X ⊢
      have x0 : w0.cell? ⟨w.heap.size, 0, none⟩ = some (.string N) := X.out.cell 0
      have x1 : w0.cell? ⟨w.heap.size, 1, none⟩ = some (.bool al) := X.out.cell 1
      have x2 : w0.cell? ⟨w.heap.size, 2, none⟩ = some (.slice PA pn pc) := X.out.cell 2
      have x3 : w0.cell? ⟨w.heap.size, 3, none⟩ = some (.int .u64 km) := X.out.cell 3
      have x4 : w0.cell? ⟨w.heap.size, 4, none⟩ = some (.int .i64 lm) := X.out.cell 4
      have x5 : w0.cell? ⟨w.heap.size, 5, none⟩ = some (.int .i64 mo) := X.out.cell 5
      have x6 : w0.cell? ⟨w.heap.size, 6, none⟩ = some (.int .i64 wi) := X.out.cell 6
      (with_reducible refine (PC.out _ (HS.out.on B0.out)).mono ?_)
      rintro e w1 ⟨rfl, b⟩
      clear x0 x1 x2 x3 x4 x5 x6
      have B1 := Lib.hid (below_on B0.out b)
      replace X := Lib.hid (X.out.below b X.out.lt)
      clear b
      have x0 : w1.cell? ⟨w.heap.size, 0, none⟩ = some (.string N) := X.out.cell 0
      have x1 : w1.cell? ⟨w.heap.size, 1, none⟩ = some (.bool al) := X.out.cell 1
      have x2 : w1.cell? ⟨w.heap.size, 2, none⟩ = some (.slice PA pn pc) := X.out.cell 2
      have x3 : w1.cell? ⟨w.heap.size, 3, none⟩ = some (.int .u64 km) := X.out.cell 3
      have x4 : w1.cell? ⟨w.heap.size, 4, none⟩ = some (.int .i64 lm) := X.out.cell 4
      have x5 : w1.cell? ⟨w.heap.size, 5, none⟩ = some (.int .i64 mo) := X.out.cell 5
      have x6 : w1.cell? ⟨w.heap.size, 6, none⟩ = some (.int .i64 wi) := X.out.cell 6
      go_wp2_with fail
      (with_reducible refine (PK.out _).mono ?_)
      rintro e w2 ⟨rfl, b⟩
      clear x0 x1 x2 x3 x4 x5 x6
      have B2 := Lib.hid (below_on B1.out b)
      replace X := Lib.hid (X.out.below b X.out.lt)
      clear b
      have x0 : w2.cell? ⟨w.heap.size, 0, none⟩ = some (.string N) := X.out.cell 0
      have x1 : w2.cell? ⟨w.heap.size, 1, none⟩ = some (.bool al) := X.out.cell 1
      have x2 : w2.cell? ⟨w.heap.size, 2, none⟩ = some (.slice PA pn pc) := X.out.cell 2
      have x3 : w2.cell? ⟨w.heap.size, 3, none⟩ = some (.int .u64 km) := X.out.cell 3
      have x4 : w2.cell? ⟨w.heap.size, 4, none⟩ = some (.int .i64 lm) := X.out.cell 4
      have x5 : w2.cell? ⟨w.heap.size, 5, none⟩ = some (.int .i64 mo) := X.out.cell 5
      have x6 : w2.cell? ⟨w.heap.size, 6, none⟩ = some (.int .i64 wi) := X.out.cell 6
      go_wp2_with fail
      (with_reducible refine (PH2.out _ (HS.out.on B2.out)).mono ?_)
      rintro e w3 ⟨rfl, b⟩
      clear x0 x1 x2 x3 x4 x5 x6
      have B3 := Lib.hid (below_on B2.out b)
      replace X := Lib.hid (X.out.below b X.out.lt)
      clear b
      have x0 : w3.cell? ⟨w.heap.size, 0, none⟩ = some (.string N) := X.out.cell 0
      have x1 : w3.cell? ⟨w.heap.size, 1, none⟩ = some (.bool al) := X.out.cell 1
      have x2 : w3.cell? ⟨w.heap.size, 2, none⟩ = some (.slice PA pn pc) := X.out.cell 2
      have x3 : w3.cell? ⟨w.heap.size, 3, none⟩ = some (.int .u64 km) := X.out.cell 3
      have x4 : w3.cell? ⟨w.heap.size, 4, none⟩ = some (.int .i64 lm) := X.out.cell 4
      have x5 : w3.cell? ⟨w.heap.size, 5, none⟩ = some (.int .i64 mo) := X.out.cell 5
      have x6 : w3.cell? ⟨w.heap.size, 6, none⟩ = some (.int .i64 wi) := X.out.cell 6
      have ZB0 := Lib.hid B3.out.size
      have HXL := Lib.hid X.out.lt
      have na := (Below.refl w3.heap.size w3).alloc (Nat.le_refl _) (.cells #[.int .i64 acc, .int .i64 rule, .int .i64 now, .int .i64 1] 45)
      replace X := Lib.hid (X.out.alloc (.cells #[.int .i64 acc, .int .i64 rule, .int .i64 now, .int .i64 1] 45))
      have B4 := Lib.hid (below_on B3.out na)
      have Z := Lib.hid (Blk.new w3 45 #[.int .i64 acc, .int .i64 rule, .int .i64 now, .int .i64 1])
      clear na
      have z0 : (w3.alloc (.cells #[.int .i64 acc, .int .i64 rule, .int .i64 now, .int .i64 1] 45)).cell? ⟨w3.heap.size, 0, none⟩ = some (.int .i64 acc) := Z.out.cell 0
      have z1 : (w3.alloc (.cells #[.int .i64 acc, .int .i64 rule, .int .i64 now, .int .i64 1] 45)).cell? ⟨w3.heap.size, 1, none⟩ = some (.int .i64 rule) := Z.out.cell 1
      have z2 : (w3.alloc (.cells #[.int .i64 acc, .int .i64 rule, .int .i64 now, .int .i64 1] 45)).cell? ⟨w3.heap.size, 2, none⟩ = some (.int .i64 now) := Z.out.cell 2
      have z3 : (w3.alloc (.cells #[.int .i64 acc, .int .i64 rule, .int .i64 now, .int .i64 1] 45)).cell? ⟨w3.heap.size, 3, none⟩ = some (.int .i64 1) := Z.out.cell 3
      go_wp2_with fail
      generalize w3.alloc (.cells #[.int .i64 acc, .int .i64 rule, .int .i64 now, .int .i64 1] 45) = w4 at B4 X Z x0 x1 x2 x3 x4 x5 x6 z0 z1 z2 z3 ⊢
      (with_reducible refine (PF.out _ (HS.out.on B4.out)).mono ?_)
      rintro e _ ⟨rfl, rfl⟩
      clear x0 x1 x2 x3 x4 x5 x6 z0 z1 z2 z3
      rw [NEW.out] at HSP
      have Q5 := Lib.hid (show QS w4 w4.heap.size _ L from HS.out.on B4.out)
      have Z5 := Lib.hid (Z.out)
      have na := (Below.refl w4.heap.size w4).alloc (Nat.le_refl _) (.cells #[] 45)
      replace X := Lib.hid (X.out.alloc (.cells #[] 45))
      replace Z := Lib.hid (Z.out.alloc (.cells #[] 45))
      have B5 := Lib.hid (below_on B4.out na)
      have E := Lib.hid (Blk.new w4 45 #[])
      clear na
      have BE := Lib.hid ((Below.refl w4.heap.size w4).alloc (Nat.le_refl _) (.cells #[] 45))
      have OE := Lib.hid (show OwnQ (w4.alloc (.cells #[] 45)) w4.heap.size (.slice (some ⟨w4.heap.size, 0, none⟩) 0 0) [] from own_noneQ w4 (Nat.le_refl _))
      go_wp2_with fail
      have HZL := Lib.hid Z5.out.lt
      have QE := Lib.hid (Q5.out.below BE.out)
      have ZE := Lib.hid (Z5.out.below BE.out Z5.out.lt)
      have BW := Lib.hid (below_on B4.out BE.out)
      have HSZ := Lib.hid BE.out.size
      have HB5 := Lib.hid B4.out.size
      clear Q5 Z5 X Z E BE B5
      generalize w4.alloc (.cells #[] 45) = w5 at QE ZE BW OE HSZ ⊢
      go_loopw [16, 17, 18] (fun out put i wr => ∃ (k : Nat) (v : Value) (pb : Bool), k ≤ n ∧ out = v ∧ put = .bool pb ∧ i = .int .i64 k ∧ Hid (OwnQ wr w4.heap.size v (outR acc rule (acc, rule, now, 1) (L.take k))) ∧ Hid (anyB acc rule (L.take k) = pb) ∧ Hid (Below w4.heap.size w5 wr)) (fun _ _ i _ => n - (intOf i).toNat)
      case atStart => exact ⟨0, _, false, Nat.zero_le _, rfl, rfl, rfl, Lib.hid OE.out, Lib.hid rfl, Lib.hid (Below.refl _ _)⟩
      case round =>
        obtain ⟨k, v, pb, hk, rfl, rfl, rfl, O, HANY, HB⟩ := hrel
        have HSW := Lib.hid (Nat.le_trans HSZ.out HB.out.size)
        have ZR := Lib.hid (ZE.out.below HB.out HZL.out)
        have z0 : wr.cell? ⟨w3.heap.size, 0, none⟩ = some (.int .i64 acc) := ZR.out.cell 0
        have z1 : wr.cell? ⟨w3.heap.size, 1, none⟩ = some (.int .i64 rule) := ZR.out.cell 1
        have z2 : wr.cell? ⟨w3.heap.size, 2, none⟩ = some (.int .i64 now) := ZR.out.cell 2
        have z3 : wr.cell? ⟨w3.heap.size, 3, none⟩ = some (.int .i64 1) := ZR.out.cell 3
        have HOL := Lib.hid (show (outR acc rule (acc, rule, now, 1) (L.take k)).length ≤ 2000 from by have := outR_len (acc := acc) (rule := rule) (x := (acc, rule, now, 1)) (l := L.take k); have h2 := List.length_take_le k L; omega)
        by_cases hlt : k < n
        · have hltX : k < L.length := by have := HN.out; omega
          obtain ⟨ad, eA, hadb, c0, c1, c2, c3⟩ := (QE.out.below HB.out) k hltX
          first | subst eA | (obtain rfl : ad = adp := by injection eA with h; exact h.symm)
          have hk0 : (0 : Int) ≤ (k : Int) := by omega
          have HTS := Lib.hid (take_snocS k hltX)
          have HAT := Lib.hid (fun h => any_take HOK.out k hltX (acc := acc) (rule := rule) h)
          have HPK := Lib.hid (HPL.out k hltX)
          have HAH := Lib.hid (@ahead_iff acc rule L[k])
          have HBH := Lib.hid (@behind_iff acc rule L[k])
          have HBN := Lib.hid (@behind_no acc rule L[k])
          have HIO := Lib.hid (@isO_iff acc rule L[k])
          have HLK := Lib.hid (show L[k] = (L[k].1, L[k].2.1, L[k].2.2.1, L[k].2.2.2) from rfl)
          generalize L[k].1 = a, L[k].2.1 = r0, L[k].2.2.1 = s, L[k].2.2.2 = m at c0 c1 c2 c3 HAH HBH HBN HIO HLK
          by_cases h1 : a < acc
          · have q1 : decide (a < acc) = true := decide_eq_true h1
            have HA0 := Lib.hid (HAT.out (HBN.out.2 (by omega)))
            have HA1 := Lib.hid (HAH.out.2 (by omega))
            have hpbf : pb = false := by rw [← HANY.out]; exact HA0.out
            subst hpbf
            have gk : ((k : Int) != placeS acc rule L) = true := HPK.out.2 (by rw [← Bool.not_eq_true, HIO.out]; omega)
            try rw [HPP.out] at gk
            have HX1 := Lib.hid (outR_ahead (x := (acc, rule, now, 1)) HA0.out HA1.out)
            rw [HLK.out] at HX1
            try clear h2
            have HSW2 := HSW
            have OL := Lib.hid (O.out.below ((Below.refl wr.heap.size wr).alloc (Nat.le_refl _) (.cells #[.int .i64 a, .int .i64 r0, .int .i64 s, .int .i64 m] 45)))
            have VL := Lib.hid (Blk.new wr 45 #[.int .i64 a, .int .i64 r0, .int .i64 s, .int .i64 m])
            go_wp2_with (at_builtin; first | (refine wpList_app1 _ (by rfl) _ _ (by rfl) w4.heap.size _ _ _ a r0 s m (by rfl) (by rfl) OL.out VL.out (by have := HOL.out; first | omega | (simp; omega)) (by simp; have := HSW2.out; omega) ?_; intro v5 w9 ho5 hb5; have O5 := Lib.hid ho5; have H5 := Lib.hid hb5; clear ho5 hb5) | fail)
            go_wp2_with fail
            go_roundw
            case rel => exact ⟨k + 1, v5, false, by omega, rfl, rfl, by go_num, Lib.hid (by rw [HTS.out, HLK.out, HX1.out.2]; exact O5.out), Lib.hid (by rw [HTS.out, HLK.out, HX1.out.1]), Lib.hid (HB.out.trans (((Below.refl _ wr).alloc (by have := HSW.out; omega) _).trans H5.out))⟩
            case measure => simp [intOf]; omega
          have q1 : decide (a < acc) = false := decide_eq_false h1
          by_cases h2 : a = acc
          rotate_left 1
          · have q2 : (a == acc) = false := by simpa using h2
            have HB1 := Lib.hid (outR_behind (x := (acc, rule, now, 1)) (l := L.take k) (HBH.out.2 (by omega)))
            have gk : ((k : Int) != placeS acc rule L) = true := HPK.out.2 (by rw [← Bool.not_eq_true, HIO.out]; omega)
            try rw [HPP.out] at gk
            rw [HANY.out, HLK.out] at HB1
            clear HANY
            try clear h2
            cases pb with
            | true =>
              have HSW2 := HSW
              have OL := Lib.hid (O.out.below ((Below.refl wr.heap.size wr).alloc (Nat.le_refl _) (.cells #[.int .i64 a, .int .i64 r0, .int .i64 s, .int .i64 m] 45)))
              have VL := Lib.hid (Blk.new wr 45 #[.int .i64 a, .int .i64 r0, .int .i64 s, .int .i64 m])
              go_wp2_with (at_builtin; first | (refine wpList_app1 _ (by rfl) _ _ (by rfl) w4.heap.size _ _ _ a r0 s m (by rfl) (by rfl) OL.out VL.out (by have := HOL.out; first | omega | (simp; omega)) (by simp; have := HSW2.out; omega) ?_; intro v5 w9 ho5 hb5; have O5 := Lib.hid ho5; have H5 := Lib.hid hb5; clear ho5 hb5) | fail)
              go_wp2_with fail
              go_roundw
              case rel => exact ⟨k + 1, v5, true, by omega, rfl, rfl, by go_num, Lib.hid (by rw [HTS.out, HLK.out, HB1.out.2, if_pos rfl]; exact O5.out), Lib.hid (by rw [HTS.out, HLK.out, HB1.out.1]), Lib.hid (HB.out.trans (((Below.refl _ wr).alloc (by have := HSW.out; omega) _).trans H5.out))⟩
              case measure => simp [intOf]; omega
            | false =>
              have OX := Lib.hid (O.out.below ((Below.refl wr.heap.size wr).alloc (Nat.le_refl _) (.cells #[.int .i64 acc, .int .i64 rule, .int .i64 now, .int .i64 1] 45)))
              have VX := Lib.hid (Blk.new wr 45 #[.int .i64 acc, .int .i64 rule, .int .i64 now, .int .i64 1])
              go_wp2_with (at_builtin; first | (refine wpList_app1 _ (by rfl) _ _ (by rfl) w4.heap.size _ _ _ a r0 s m (by rfl) (by rfl) OL.out VL.out (by have := HOL.out; first | omega | (simp; omega)) (by simp; have := HSW2.out; omega) ?_; intro v5 w9 ho5 hb5; have O5 := Lib.hid ho5; have H5 := Lib.hid hb5; clear ho5 hb5) | (refine wpList_app1 _ (by rfl) _ _ (by rfl) w4.heap.size _ _ _ acc rule now 1 (by rfl) (by rfl) OX.out VX.out (by have := HOL.out; omega) (by simp; have := HSW.out; omega) ?_; intro v4 w8 ho4 hb4; have O4 := Lib.hid ho4; have H4 := Lib.hid hb4; clear ho4 hb4; have HSW2 := Lib.hid (show w4.heap.size ≤ w8.heap.size from by have := H4.out.size; simp at this; have := HSW.out; omega); have c04 := (H4.out.cell (p := ad.add (k * 4)) (by rw [block_of_add]; exact hadb)).trans ((World.cell?_alloc_lt wr _ _ (by rw [block_of_add]; have := HSW.out; omega)).trans c0); have c14 := (H4.out.cell (p := ⟨(ad.add (k * 4)).block, (ad.add (k * 4)).off + 1, none⟩) (by show (ad.add (k * 4)).block < _; rw [block_of_add]; exact hadb)).trans ((World.cell?_alloc_lt wr _ ⟨(ad.add (k * 4)).block, (ad.add (k * 4)).off + 1, none⟩ (by show (ad.add (k * 4)).block < _; rw [block_of_add]; have := HSW.out; omega)).trans c1); have c24 := (H4.out.cell (p := ⟨(ad.add (k * 4)).block, (ad.add (k * 4)).off + 2, none⟩) (by show (ad.add (k * 4)).block < _; rw [block_of_add]; exact hadb)).trans ((World.cell?_alloc_lt wr _ ⟨(ad.add (k * 4)).block, (ad.add (k * 4)).off + 2, none⟩ (by show (ad.add (k * 4)).block < _; rw [block_of_add]; have := HSW.out; omega)).trans c2); have c34 := (H4.out.cell (p := ⟨(ad.add (k * 4)).block, (ad.add (k * 4)).off + 3, none⟩) (by show (ad.add (k * 4)).block < _; rw [block_of_add]; exact hadb)).trans ((World.cell?_alloc_lt wr _ ⟨(ad.add (k * 4)).block, (ad.add (k * 4)).off + 3, none⟩ (by show (ad.add (k * 4)).block < _; rw [block_of_add]; have := HSW.out; omega)).trans c3); have OL := Lib.hid (O4.out.below ((Below.refl w8.heap.size w8).alloc (Nat.le_refl _) (.cells #[.int .i64 a, .int .i64 r0, .int .i64 s, .int .i64 m] 45))); have VL := Lib.hid (Blk.new w8 45 #[.int .i64 a, .int .i64 r0, .int .i64 s, .int .i64 m])) | fail)
              go_wp2_with fail
              go_roundw
              case rel => exact ⟨k + 1, v5, true, by omega, rfl, rfl, by go_num, Lib.hid (by rw [HTS.out, HLK.out, HB1.out.2, if_neg (by decide)]; exact O5.out), Lib.hid (by rw [HTS.out, HLK.out, HB1.out.1]), Lib.hid (HB.out.trans ((((Below.refl _ wr).alloc (by have := HSW.out; omega) _).trans H4.out).trans (((Below.refl _ w8).alloc HSW2.out _).trans H5.out)))⟩
              case measure => simp [intOf]; omega
          have q2 : (a == acc) = true := by simpa using h2
          by_cases h3 : r0 < rule
          · have q3 : decide (r0 < rule) = true := decide_eq_true h3
            have HA0 := Lib.hid (HAT.out (HBN.out.2 (by omega)))
            have HA1 := Lib.hid (HAH.out.2 (by omega))
            have hpbf : pb = false := by rw [← HANY.out]; exact HA0.out
            subst hpbf
            have gk : ((k : Int) != placeS acc rule L) = true := HPK.out.2 (by rw [← Bool.not_eq_true, HIO.out]; omega)
            try rw [HPP.out] at gk
            have HX1 := Lib.hid (outR_ahead (x := (acc, rule, now, 1)) HA0.out HA1.out)
            rw [HLK.out] at HX1
            try clear h2
            have HSW2 := HSW
            have OL := Lib.hid (O.out.below ((Below.refl wr.heap.size wr).alloc (Nat.le_refl _) (.cells #[.int .i64 a, .int .i64 r0, .int .i64 s, .int .i64 m] 45)))
            have VL := Lib.hid (Blk.new wr 45 #[.int .i64 a, .int .i64 r0, .int .i64 s, .int .i64 m])
            go_wp2_with (at_builtin; first | (refine wpList_app1 _ (by rfl) _ _ (by rfl) w4.heap.size _ _ _ a r0 s m (by rfl) (by rfl) OL.out VL.out (by have := HOL.out; first | omega | (simp; omega)) (by simp; have := HSW2.out; omega) ?_; intro v5 w9 ho5 hb5; have O5 := Lib.hid ho5; have H5 := Lib.hid hb5; clear ho5 hb5) | fail)
            go_wp2_with fail
            go_roundw
            case rel => exact ⟨k + 1, v5, false, by omega, rfl, rfl, by go_num, Lib.hid (by rw [HTS.out, HLK.out, HX1.out.2]; exact O5.out), Lib.hid (by rw [HTS.out, HLK.out, HX1.out.1]), Lib.hid (HB.out.trans (((Below.refl _ wr).alloc (by have := HSW.out; omega) _).trans H5.out))⟩
            case measure => simp [intOf]; omega
          have q3 : decide (r0 < rule) = false := decide_eq_false h3
          by_cases h4 : r0 = rule
          rotate_left 1
          · skip
            have HB1 := Lib.hid (outR_behind (x := (acc, rule, now, 1)) (l := L.take k) (HBH.out.2 (by omega)))
            have gk : ((k : Int) != placeS acc rule L) = true := HPK.out.2 (by rw [← Bool.not_eq_true, HIO.out]; omega)
            try rw [HPP.out] at gk
            rw [HANY.out, HLK.out] at HB1
            clear HANY
            try clear h2
            cases pb with
            | true =>
              have HSW2 := HSW
              have OL := Lib.hid (O.out.below ((Below.refl wr.heap.size wr).alloc (Nat.le_refl _) (.cells #[.int .i64 a, .int .i64 r0, .int .i64 s, .int .i64 m] 45)))
              have VL := Lib.hid (Blk.new wr 45 #[.int .i64 a, .int .i64 r0, .int .i64 s, .int .i64 m])
              go_wp2_with (at_builtin; first | (refine wpList_app1 _ (by rfl) _ _ (by rfl) w4.heap.size _ _ _ a r0 s m (by rfl) (by rfl) OL.out VL.out (by have := HOL.out; first | omega | (simp; omega)) (by simp; have := HSW2.out; omega) ?_; intro v5 w9 ho5 hb5; have O5 := Lib.hid ho5; have H5 := Lib.hid hb5; clear ho5 hb5) | fail)
              go_wp2_with fail
              go_roundw
              case rel => exact ⟨k + 1, v5, true, by omega, rfl, rfl, by go_num, Lib.hid (by rw [HTS.out, HLK.out, HB1.out.2, if_pos rfl]; exact O5.out), Lib.hid (by rw [HTS.out, HLK.out, HB1.out.1]), Lib.hid (HB.out.trans (((Below.refl _ wr).alloc (by have := HSW.out; omega) _).trans H5.out))⟩
              case measure => simp [intOf]; omega
            | false =>
              have OX := Lib.hid (O.out.below ((Below.refl wr.heap.size wr).alloc (Nat.le_refl _) (.cells #[.int .i64 acc, .int .i64 rule, .int .i64 now, .int .i64 1] 45)))
              have VX := Lib.hid (Blk.new wr 45 #[.int .i64 acc, .int .i64 rule, .int .i64 now, .int .i64 1])
              go_wp2_with (at_builtin; first | (refine wpList_app1 _ (by rfl) _ _ (by rfl) w4.heap.size _ _ _ a r0 s m (by rfl) (by rfl) OL.out VL.out (by have := HOL.out; first | omega | (simp; omega)) (by simp; have := HSW2.out; omega) ?_; intro v5 w9 ho5 hb5; have O5 := Lib.hid ho5; have H5 := Lib.hid hb5; clear ho5 hb5) | (refine wpList_app1 _ (by rfl) _ _ (by rfl) w4.heap.size _ _ _ acc rule now 1 (by rfl) (by rfl) OX.out VX.out (by have := HOL.out; omega) (by simp; have := HSW.out; omega) ?_; intro v4 w8 ho4 hb4; have O4 := Lib.hid ho4; have H4 := Lib.hid hb4; clear ho4 hb4; have HSW2 := Lib.hid (show w4.heap.size ≤ w8.heap.size from by have := H4.out.size; simp at this; have := HSW.out; omega); have c04 := (H4.out.cell (p := ad.add (k * 4)) (by rw [block_of_add]; exact hadb)).trans ((World.cell?_alloc_lt wr _ _ (by rw [block_of_add]; have := HSW.out; omega)).trans c0); have c14 := (H4.out.cell (p := ⟨(ad.add (k * 4)).block, (ad.add (k * 4)).off + 1, none⟩) (by show (ad.add (k * 4)).block < _; rw [block_of_add]; exact hadb)).trans ((World.cell?_alloc_lt wr _ ⟨(ad.add (k * 4)).block, (ad.add (k * 4)).off + 1, none⟩ (by show (ad.add (k * 4)).block < _; rw [block_of_add]; have := HSW.out; omega)).trans c1); have c24 := (H4.out.cell (p := ⟨(ad.add (k * 4)).block, (ad.add (k * 4)).off + 2, none⟩) (by show (ad.add (k * 4)).block < _; rw [block_of_add]; exact hadb)).trans ((World.cell?_alloc_lt wr _ ⟨(ad.add (k * 4)).block, (ad.add (k * 4)).off + 2, none⟩ (by show (ad.add (k * 4)).block < _; rw [block_of_add]; have := HSW.out; omega)).trans c2); have c34 := (H4.out.cell (p := ⟨(ad.add (k * 4)).block, (ad.add (k * 4)).off + 3, none⟩) (by show (ad.add (k * 4)).block < _; rw [block_of_add]; exact hadb)).trans ((World.cell?_alloc_lt wr _ ⟨(ad.add (k * 4)).block, (ad.add (k * 4)).off + 3, none⟩ (by show (ad.add (k * 4)).block < _; rw [block_of_add]; have := HSW.out; omega)).trans c3); have OL := Lib.hid (O4.out.below ((Below.refl w8.heap.size w8).alloc (Nat.le_refl _) (.cells #[.int .i64 a, .int .i64 r0, .int .i64 s, .int .i64 m] 45))); have VL := Lib.hid (Blk.new w8 45 #[.int .i64 a, .int .i64 r0, .int .i64 s, .int .i64 m])) | fail)
              go_wp2_with fail
              go_roundw
              case rel => exact ⟨k + 1, v5, true, by omega, rfl, rfl, by go_num, Lib.hid (by rw [HTS.out, HLK.out, HB1.out.2, if_neg (by decide)]; exact O5.out), Lib.hid (by rw [HTS.out, HLK.out, HB1.out.1]), Lib.hid (HB.out.trans ((((Below.refl _ wr).alloc (by have := HSW.out; omega) _).trans H4.out).trans (((Below.refl _ w8).alloc HSW2.out _).trans H5.out)))⟩
              case measure => simp [intOf]; omega
          · have HA0 := Lib.hid (HAT.out (HBN.out.2 (by omega)))
            have HA1 := Lib.hid (HIO.out.2 ⟨h2, h4⟩)
            have hpbf : pb = false := by rw [← HANY.out]; exact HA0.out
            subst hpbf
            have gk : ((k : Int) != placeS acc rule L) = false := HPK.out.1 HA1.out
            try rw [HPP.out] at gk
            have HX1 := Lib.hid (outR_own (x := (acc, rule, now, 1)) HA0.out HA1.out)
            rw [HLK.out] at HX1
            clear h2 h4
            have OX := Lib.hid (O.out.below ((Below.refl wr.heap.size wr).alloc (Nat.le_refl _) (.cells #[.int .i64 acc, .int .i64 rule, .int .i64 now, .int .i64 1] 45)))
            have VX := Lib.hid (Blk.new wr 45 #[.int .i64 acc, .int .i64 rule, .int .i64 now, .int .i64 1])
            go_wp2_with (at_builtin; first | (refine wpList_app1 _ (by rfl) _ _ (by rfl) w4.heap.size _ _ _ acc rule now 1 (by rfl) (by rfl) OX.out VX.out (by have := HOL.out; omega) (by simp; have := HSW.out; omega) ?_; intro v4 w8 ho4 hb4; have O4 := Lib.hid ho4; have H4 := Lib.hid hb4; clear ho4 hb4) | fail)
            go_wp2_with fail
            go_roundw
            case rel => exact ⟨k + 1, v4, true, by omega, rfl, rfl, by go_num, Lib.hid (by rw [HTS.out, HLK.out, HX1.out.2]; exact O4.out), Lib.hid (by rw [HTS.out, HLK.out, HX1.out.1]), Lib.hid (HB.out.trans ((((Below.refl _ wr).alloc (by have := HSW.out; omega) _).trans H4.out)))⟩
            case measure => simp [intOf]; omega
        · obtain rfl : k = n := by omega
          have HTK := Lib.hid (show L.take k = L by rw [← HN.out, List.take_length])
          rw [HTK.out] at O HANY HOL
          have HPA := Lib.hid (outR_all (acc := acc) (rule := rule) (x := (acc, rule, now, 1)) (l := L))
          rw [HANY.out] at HPA
          cases pb with
          | true =>
            have HPA2 := Lib.hid (show putS acc rule (acc, rule, now, 1) L = outR acc rule (acc, rule, now, 1) L by rw [HPA.out, if_pos rfl])
            rw [HPA2.out] at HSP
            obtain ⟨A7, c7, rfl, hc7, hm7, -, -⟩ := own_sliceQ O.out
            have hm8 : (outR acc rule (acc, rule, now, 1) L).length ≤ 2000 := HOL.out
            obtain ⟨ml, hml⟩ : ∃ ml, (outR acc rule (acc, rule, now, 1) L).length = ml := ⟨_, rfl⟩
            have HML := Lib.hid hml
            rw [hml] at hm8
            have HLN7 := Lib.hid hml
            clear hml hc7 hm7
            skip
            by_cases h10 : 1024 < (outR acc rule (acc, rule, now, 1) L).length
            · have HE9 := Lib.hid (show spendS L mo wi rule acc now = ([], 2) by rw [HSP.out, if_pos h10])
              rw [HLN7.out] at h10 ⊢
              go_wp2_with fail
              refine bodyPost_ret (v := .tuple #[.slice none 0 0, .int .i64 2]) (by simp [results, Try.results18, go_sem]) rfl ?_
              exact spendE_mk HE9.out (own_nilQ _ _) (BW.out.trans (HB.out.mono HB5.out))
            · have HE9 := Lib.hid (show spendS L mo wi rule acc now = (outR acc rule (acc, rule, now, 1) L, 0) by rw [HSP.out, if_neg h10])
              rw [HLN7.out] at h10 ⊢
              go_wp2_with fail
              refine bodyPost_ret (v := .tuple #[.slice A7 ml c7, .int .i64 0]) (by simp [results, Try.results18, go_sem]) rfl ?_
              exact spendE_mk HE9.out (own_baseQ (by rw [← HLN7.out]; exact O.out) HB5.out) (BW.out.trans (HB.out.mono HB5.out))
          | false =>
            have HPA2 := Lib.hid (show putS acc rule (acc, rule, now, 1) L = outR acc rule (acc, rule, now, 1) L ++ [(acc, rule, now, 1)] by rw [HPA.out, if_neg (by decide)])
            rw [HPA2.out] at HSP
            obtain ⟨ml, hml⟩ : ∃ ml, (outR acc rule (acc, rule, now, 1) L ++ [(acc, rule, now, 1)]).length = ml := ⟨_, rfl⟩
            have HLN7 := Lib.hid hml
            clear hml
            by_cases h10 : 1024 < (outR acc rule (acc, rule, now, 1) L ++ [(acc, rule, now, 1)]).length
            · have HE9 := Lib.hid (show spendS L mo wi rule acc now = ([], 2) by rw [HSP.out, if_pos h10])
              rw [HLN7.out] at h10
              have OX := Lib.hid (O.out.below ((Below.refl wr.heap.size wr).alloc (Nat.le_refl _) (.cells #[.int .i64 acc, .int .i64 rule, .int .i64 now, .int .i64 1] 45)))
              have VX := Lib.hid (Blk.new wr 45 #[.int .i64 acc, .int .i64 rule, .int .i64 now, .int .i64 1])
              go_wp2_with (at_builtin; first | (refine wpList_app1 _ (by rfl) _ _ (by rfl) w4.heap.size _ _ _ acc rule now 1 (by rfl) (by rfl) OX.out VX.out (by have := HOL.out; omega) (by simp; have := HSW.out; omega) ?_; intro v4 w8 ho4 hb4; have H4 := Lib.hid hb4; obtain ⟨A7, c7, e7, hc7, hm7, -, -⟩ := own_sliceQ ho4; rw [HLN7.out] at e7; have O4 := Lib.hid ho4; clear ho4 hb4 hc7 hm7; subst e7) | fail)
              go_wp2_with fail
              refine bodyPost_ret (v := .tuple #[.slice none 0 0, .int .i64 2]) (by simp [results, Try.results18, go_sem]) rfl ?_
              exact spendE_mk HE9.out (own_nilQ _ _) (BW.out.trans ((HB.out.trans (((Below.refl _ wr).alloc (by have := HSW.out; omega) _).trans H4.out)).mono HB5.out))
            · have HE9 := Lib.hid (show spendS L mo wi rule acc now = (outR acc rule (acc, rule, now, 1) L ++ [(acc, rule, now, 1)], 0) by rw [HSP.out, if_neg h10])
              rw [HLN7.out] at h10
              have OX := Lib.hid (O.out.below ((Below.refl wr.heap.size wr).alloc (Nat.le_refl _) (.cells #[.int .i64 acc, .int .i64 rule, .int .i64 now, .int .i64 1] 45)))
              have VX := Lib.hid (Blk.new wr 45 #[.int .i64 acc, .int .i64 rule, .int .i64 now, .int .i64 1])
              go_wp2_with (at_builtin; first | (refine wpList_app1 _ (by rfl) _ _ (by rfl) w4.heap.size _ _ _ acc rule now 1 (by rfl) (by rfl) OX.out VX.out (by have := HOL.out; omega) (by simp; have := HSW.out; omega) ?_; intro v4 w8 ho4 hb4; have H4 := Lib.hid hb4; obtain ⟨A7, c7, e7, hc7, hm7, -, -⟩ := own_sliceQ ho4; rw [HLN7.out] at e7; have O4 := Lib.hid ho4; clear ho4 hb4 hc7 hm7; subst e7) | fail)
              go_wp2_with fail
              refine bodyPost_ret (v := .tuple #[.slice A7 ml c7, .int .i64 0]) (by simp [results, Try.results18, go_sem]) rfl ?_
              exact spendE_mk HE9.out (own_baseQ O4.out HB5.out) (BW.out.trans ((HB.out.trans (((Below.refl _ wr).alloc (by have := HSW.out; omega) _).trans H4.out)).mono HB5.out))
    · have hkn : kp < n := by have := HN.out; omega
      by_cases hpos : 0 < hd
      rotate_left 1
      · have hd0 : hd = 0 := by omega
        have NEW := Lib.hid (HHZ.out hd0)
        subst hd0
        clear hp hf
        go_enter Try.func18, Try.ntmps18
        go_wp2_with fail
        generalize (w.alloc (.cells #[.string N, .bool al, .slice PA pn pc, .int .u64 km, .int .i64 lm, .int .i64 mo, .int .i64 wi] 28)) = w0 at B0 X ⊢
        have x0 : w0.cell? ⟨w.heap.size, 0, none⟩ = some (.string N) := X.out.cell 0
        have x1 : w0.cell? ⟨w.heap.size, 1, none⟩ = some (.bool al) := X.out.cell 1
        have x2 : w0.cell? ⟨w.heap.size, 2, none⟩ = some (.slice PA pn pc) := X.out.cell 2
        have x3 : w0.cell? ⟨w.heap.size, 3, none⟩ = some (.int .u64 km) := X.out.cell 3
        have x4 : w0.cell? ⟨w.heap.size, 4, none⟩ = some (.int .i64 lm) := X.out.cell 4
        have x5 : w0.cell? ⟨w.heap.size, 5, none⟩ = some (.int .i64 mo) := X.out.cell 5
        have x6 : w0.cell? ⟨w.heap.size, 6, none⟩ = some (.int .i64 wi) := X.out.cell 6
        (with_reducible refine (PC.out _ (HS.out.on B0.out)).mono ?_)
        rintro e w1 ⟨rfl, b⟩
        clear x0 x1 x2 x3 x4 x5 x6
        have B1 := Lib.hid (below_on B0.out b)
        replace X := Lib.hid (X.out.below b X.out.lt)
        clear b
        have x0 : w1.cell? ⟨w.heap.size, 0, none⟩ = some (.string N) := X.out.cell 0
        have x1 : w1.cell? ⟨w.heap.size, 1, none⟩ = some (.bool al) := X.out.cell 1
        have x2 : w1.cell? ⟨w.heap.size, 2, none⟩ = some (.slice PA pn pc) := X.out.cell 2
        have x3 : w1.cell? ⟨w.heap.size, 3, none⟩ = some (.int .u64 km) := X.out.cell 3
        have x4 : w1.cell? ⟨w.heap.size, 4, none⟩ = some (.int .i64 lm) := X.out.cell 4
        have x5 : w1.cell? ⟨w.heap.size, 5, none⟩ = some (.int .i64 mo) := X.out.cell 5
        have x6 : w1.cell? ⟨w.heap.size, 6, none⟩ = some (.int .i64 wi) := X.out.cell 6
        go_wp2_with fail
        (with_reducible refine (PK.out _).mono ?_)
        rintro e w2 ⟨rfl, b⟩
        clear x0 x1 x2 x3 x4 x5 x6
        have B2 := Lib.hid (below_on B1.out b)
        replace X := Lib.hid (X.out.below b X.out.lt)
        clear b
        have x0 : w2.cell? ⟨w.heap.size, 0, none⟩ = some (.string N) := X.out.cell 0
        have x1 : w2.cell? ⟨w.heap.size, 1, none⟩ = some (.bool al) := X.out.cell 1
        have x2 : w2.cell? ⟨w.heap.size, 2, none⟩ = some (.slice PA pn pc) := X.out.cell 2
        have x3 : w2.cell? ⟨w.heap.size, 3, none⟩ = some (.int .u64 km) := X.out.cell 3
        have x4 : w2.cell? ⟨w.heap.size, 4, none⟩ = some (.int .i64 lm) := X.out.cell 4
        have x5 : w2.cell? ⟨w.heap.size, 5, none⟩ = some (.int .i64 mo) := X.out.cell 5
        have x6 : w2.cell? ⟨w.heap.size, 6, none⟩ = some (.int .i64 wi) := X.out.cell 6
        go_wp2_with fail
        (with_reducible refine (PH2.out _ (HS.out.on B2.out)).mono ?_)
        rintro e w3 ⟨rfl, b⟩
        clear x0 x1 x2 x3 x4 x5 x6
        have B3 := Lib.hid (below_on B2.out b)
        replace X := Lib.hid (X.out.below b X.out.lt)
        clear b
        have x0 : w3.cell? ⟨w.heap.size, 0, none⟩ = some (.string N) := X.out.cell 0
        have x1 : w3.cell? ⟨w.heap.size, 1, none⟩ = some (.bool al) := X.out.cell 1
        have x2 : w3.cell? ⟨w.heap.size, 2, none⟩ = some (.slice PA pn pc) := X.out.cell 2
        have x3 : w3.cell? ⟨w.heap.size, 3, none⟩ = some (.int .u64 km) := X.out.cell 3
        have x4 : w3.cell? ⟨w.heap.size, 4, none⟩ = some (.int .i64 lm) := X.out.cell 4
        have x5 : w3.cell? ⟨w.heap.size, 5, none⟩ = some (.int .i64 mo) := X.out.cell 5
        have x6 : w3.cell? ⟨w.heap.size, 6, none⟩ = some (.int .i64 wi) := X.out.cell 6
        have ZB0 := Lib.hid B3.out.size
        have HXL := Lib.hid X.out.lt
        have na := (Below.refl w3.heap.size w3).alloc (Nat.le_refl _) (.cells #[.int .i64 acc, .int .i64 rule, .int .i64 now, .int .i64 1] 45)
        replace X := Lib.hid (X.out.alloc (.cells #[.int .i64 acc, .int .i64 rule, .int .i64 now, .int .i64 1] 45))
        have B4 := Lib.hid (below_on B3.out na)
        have Z := Lib.hid (Blk.new w3 45 #[.int .i64 acc, .int .i64 rule, .int .i64 now, .int .i64 1])
        clear na
        have z0 : (w3.alloc (.cells #[.int .i64 acc, .int .i64 rule, .int .i64 now, .int .i64 1] 45)).cell? ⟨w3.heap.size, 0, none⟩ = some (.int .i64 acc) := Z.out.cell 0
        have z1 : (w3.alloc (.cells #[.int .i64 acc, .int .i64 rule, .int .i64 now, .int .i64 1] 45)).cell? ⟨w3.heap.size, 1, none⟩ = some (.int .i64 rule) := Z.out.cell 1
        have z2 : (w3.alloc (.cells #[.int .i64 acc, .int .i64 rule, .int .i64 now, .int .i64 1] 45)).cell? ⟨w3.heap.size, 2, none⟩ = some (.int .i64 now) := Z.out.cell 2
        have z3 : (w3.alloc (.cells #[.int .i64 acc, .int .i64 rule, .int .i64 now, .int .i64 1] 45)).cell? ⟨w3.heap.size, 3, none⟩ = some (.int .i64 1) := Z.out.cell 3
        go_wp2_with fail
        generalize w3.alloc (.cells #[.int .i64 acc, .int .i64 rule, .int .i64 now, .int .i64 1] 45) = w4 at B4 X Z x0 x1 x2 x3 x4 x5 x6 z0 z1 z2 z3 ⊢
        (with_reducible refine (PF.out _ (HS.out.on B4.out)).mono ?_)
        rintro e _ ⟨rfl, rfl⟩
        clear x0 x1 x2 x3 x4 x5 x6 z0 z1 z2 z3
        rw [NEW.out] at HSP
        have Q5 := Lib.hid (show QS w4 w4.heap.size _ L from HS.out.on B4.out)
        have Z5 := Lib.hid (Z.out)
        have na := (Below.refl w4.heap.size w4).alloc (Nat.le_refl _) (.cells #[] 45)
        replace X := Lib.hid (X.out.alloc (.cells #[] 45))
        replace Z := Lib.hid (Z.out.alloc (.cells #[] 45))
        have B5 := Lib.hid (below_on B4.out na)
        have E := Lib.hid (Blk.new w4 45 #[])
        clear na
        have BE := Lib.hid ((Below.refl w4.heap.size w4).alloc (Nat.le_refl _) (.cells #[] 45))
        have OE := Lib.hid (show OwnQ (w4.alloc (.cells #[] 45)) w4.heap.size (.slice (some ⟨w4.heap.size, 0, none⟩) 0 0) [] from own_noneQ w4 (Nat.le_refl _))
        go_wp2_with fail
        have HZL := Lib.hid Z5.out.lt
        have QE := Lib.hid (Q5.out.below BE.out)
        have ZE := Lib.hid (Z5.out.below BE.out Z5.out.lt)
        have BW := Lib.hid (below_on B4.out BE.out)
        have HSZ := Lib.hid BE.out.size
        have HB5 := Lib.hid B4.out.size
        clear Q5 Z5 X Z E BE B5
        generalize w4.alloc (.cells #[] 45) = w5 at QE ZE BW OE HSZ ⊢
        go_loopw [16, 17, 18] (fun out put i wr => ∃ (k : Nat) (v : Value) (pb : Bool), k ≤ n ∧ out = v ∧ put = .bool pb ∧ i = .int .i64 k ∧ Hid (OwnQ wr w4.heap.size v (outR acc rule (acc, rule, now, 1) (L.take k))) ∧ Hid (anyB acc rule (L.take k) = pb) ∧ Hid (Below w4.heap.size w5 wr)) (fun _ _ i _ => n - (intOf i).toNat)
        case atStart => exact ⟨0, _, false, Nat.zero_le _, rfl, rfl, rfl, Lib.hid OE.out, Lib.hid rfl, Lib.hid (Below.refl _ _)⟩
        case round =>
          obtain ⟨k, v, pb, hk, rfl, rfl, rfl, O, HANY, HB⟩ := hrel
          have HSW := Lib.hid (Nat.le_trans HSZ.out HB.out.size)
          have ZR := Lib.hid (ZE.out.below HB.out HZL.out)
          have z0 : wr.cell? ⟨w3.heap.size, 0, none⟩ = some (.int .i64 acc) := ZR.out.cell 0
          have z1 : wr.cell? ⟨w3.heap.size, 1, none⟩ = some (.int .i64 rule) := ZR.out.cell 1
          have z2 : wr.cell? ⟨w3.heap.size, 2, none⟩ = some (.int .i64 now) := ZR.out.cell 2
          have z3 : wr.cell? ⟨w3.heap.size, 3, none⟩ = some (.int .i64 1) := ZR.out.cell 3
          have HOL := Lib.hid (show (outR acc rule (acc, rule, now, 1) (L.take k)).length ≤ 2000 from by have := outR_len (acc := acc) (rule := rule) (x := (acc, rule, now, 1)) (l := L.take k); have h2 := List.length_take_le k L; omega)
          by_cases hlt : k < n
          · have hltX : k < L.length := by have := HN.out; omega
            obtain ⟨ad, eA, hadb, c0, c1, c2, c3⟩ := (QE.out.below HB.out) k hltX
            first | subst eA | (obtain rfl : ad = adp := by injection eA with h; exact h.symm)
            have hk0 : (0 : Int) ≤ (k : Int) := by omega
            have HTS := Lib.hid (take_snocS k hltX)
            have HAT := Lib.hid (fun h => any_take HOK.out k hltX (acc := acc) (rule := rule) h)
            have HPK := Lib.hid (HPL.out k hltX)
            have HAH := Lib.hid (@ahead_iff acc rule L[k])
            have HBH := Lib.hid (@behind_iff acc rule L[k])
            have HBN := Lib.hid (@behind_no acc rule L[k])
            have HIO := Lib.hid (@isO_iff acc rule L[k])
            have HLK := Lib.hid (show L[k] = (L[k].1, L[k].2.1, L[k].2.2.1, L[k].2.2.2) from rfl)
            generalize L[k].1 = a, L[k].2.1 = r0, L[k].2.2.1 = s, L[k].2.2.2 = m at c0 c1 c2 c3 HAH HBH HBN HIO HLK
            by_cases h1 : a < acc
            · have q1 : decide (a < acc) = true := decide_eq_true h1
              have HA0 := Lib.hid (HAT.out (HBN.out.2 (by omega)))
              have HA1 := Lib.hid (HAH.out.2 (by omega))
              have hpbf : pb = false := by rw [← HANY.out]; exact HA0.out
              subst hpbf
              have gk : ((k : Int) != placeS acc rule L) = true := HPK.out.2 (by rw [← Bool.not_eq_true, HIO.out]; omega)
              try rw [HPP.out] at gk
              have HX1 := Lib.hid (outR_ahead (x := (acc, rule, now, 1)) HA0.out HA1.out)
              rw [HLK.out] at HX1
              try clear h2
              have HSW2 := HSW
              have OL := Lib.hid (O.out.below ((Below.refl wr.heap.size wr).alloc (Nat.le_refl _) (.cells #[.int .i64 a, .int .i64 r0, .int .i64 s, .int .i64 m] 45)))
              have VL := Lib.hid (Blk.new wr 45 #[.int .i64 a, .int .i64 r0, .int .i64 s, .int .i64 m])
              go_wp2_with (at_builtin; first | (refine wpList_app1 _ (by rfl) _ _ (by rfl) w4.heap.size _ _ _ a r0 s m (by rfl) (by rfl) OL.out VL.out (by have := HOL.out; first | omega | (simp; omega)) (by simp; have := HSW2.out; omega) ?_; intro v5 w9 ho5 hb5; have O5 := Lib.hid ho5; have H5 := Lib.hid hb5; clear ho5 hb5) | fail)
              go_wp2_with fail
              go_roundw
              case rel => exact ⟨k + 1, v5, false, by omega, rfl, rfl, by go_num, Lib.hid (by rw [HTS.out, HLK.out, HX1.out.2]; exact O5.out), Lib.hid (by rw [HTS.out, HLK.out, HX1.out.1]), Lib.hid (HB.out.trans (((Below.refl _ wr).alloc (by have := HSW.out; omega) _).trans H5.out))⟩
              case measure => simp [intOf]; omega
            have q1 : decide (a < acc) = false := decide_eq_false h1
            by_cases h2 : a = acc
            rotate_left 1
            · have q2 : (a == acc) = false := by simpa using h2
              have HB1 := Lib.hid (outR_behind (x := (acc, rule, now, 1)) (l := L.take k) (HBH.out.2 (by omega)))
              have gk : ((k : Int) != placeS acc rule L) = true := HPK.out.2 (by rw [← Bool.not_eq_true, HIO.out]; omega)
              try rw [HPP.out] at gk
              rw [HANY.out, HLK.out] at HB1
              clear HANY
              try clear h2
              cases pb with
              | true =>
                have HSW2 := HSW
                have OL := Lib.hid (O.out.below ((Below.refl wr.heap.size wr).alloc (Nat.le_refl _) (.cells #[.int .i64 a, .int .i64 r0, .int .i64 s, .int .i64 m] 45)))
                have VL := Lib.hid (Blk.new wr 45 #[.int .i64 a, .int .i64 r0, .int .i64 s, .int .i64 m])
                go_wp2_with (at_builtin; first | (refine wpList_app1 _ (by rfl) _ _ (by rfl) w4.heap.size _ _ _ a r0 s m (by rfl) (by rfl) OL.out VL.out (by have := HOL.out; first | omega | (simp; omega)) (by simp; have := HSW2.out; omega) ?_; intro v5 w9 ho5 hb5; have O5 := Lib.hid ho5; have H5 := Lib.hid hb5; clear ho5 hb5) | fail)
                go_wp2_with fail
                go_roundw
                case rel => exact ⟨k + 1, v5, true, by omega, rfl, rfl, by go_num, Lib.hid (by rw [HTS.out, HLK.out, HB1.out.2, if_pos rfl]; exact O5.out), Lib.hid (by rw [HTS.out, HLK.out, HB1.out.1]), Lib.hid (HB.out.trans (((Below.refl _ wr).alloc (by have := HSW.out; omega) _).trans H5.out))⟩
                case measure => simp [intOf]; omega
              | false =>
                have OX := Lib.hid (O.out.below ((Below.refl wr.heap.size wr).alloc (Nat.le_refl _) (.cells #[.int .i64 acc, .int .i64 rule, .int .i64 now, .int .i64 1] 45)))
                have VX := Lib.hid (Blk.new wr 45 #[.int .i64 acc, .int .i64 rule, .int .i64 now, .int .i64 1])
                go_wp2_with (at_builtin; first | (refine wpList_app1 _ (by rfl) _ _ (by rfl) w4.heap.size _ _ _ a r0 s m (by rfl) (by rfl) OL.out VL.out (by have := HOL.out; first | omega | (simp; omega)) (by simp; have := HSW2.out; omega) ?_; intro v5 w9 ho5 hb5; have O5 := Lib.hid ho5; have H5 := Lib.hid hb5; clear ho5 hb5) | (refine wpList_app1 _ (by rfl) _ _ (by rfl) w4.heap.size _ _ _ acc rule now 1 (by rfl) (by rfl) OX.out VX.out (by have := HOL.out; omega) (by simp; have := HSW.out; omega) ?_; intro v4 w8 ho4 hb4; have O4 := Lib.hid ho4; have H4 := Lib.hid hb4; clear ho4 hb4; have HSW2 := Lib.hid (show w4.heap.size ≤ w8.heap.size from by have := H4.out.size; simp at this; have := HSW.out; omega); have c04 := (H4.out.cell (p := ad.add (k * 4)) (by rw [block_of_add]; exact hadb)).trans ((World.cell?_alloc_lt wr _ _ (by rw [block_of_add]; have := HSW.out; omega)).trans c0); have c14 := (H4.out.cell (p := ⟨(ad.add (k * 4)).block, (ad.add (k * 4)).off + 1, none⟩) (by show (ad.add (k * 4)).block < _; rw [block_of_add]; exact hadb)).trans ((World.cell?_alloc_lt wr _ ⟨(ad.add (k * 4)).block, (ad.add (k * 4)).off + 1, none⟩ (by show (ad.add (k * 4)).block < _; rw [block_of_add]; have := HSW.out; omega)).trans c1); have c24 := (H4.out.cell (p := ⟨(ad.add (k * 4)).block, (ad.add (k * 4)).off + 2, none⟩) (by show (ad.add (k * 4)).block < _; rw [block_of_add]; exact hadb)).trans ((World.cell?_alloc_lt wr _ ⟨(ad.add (k * 4)).block, (ad.add (k * 4)).off + 2, none⟩ (by show (ad.add (k * 4)).block < _; rw [block_of_add]; have := HSW.out; omega)).trans c2); have c34 := (H4.out.cell (p := ⟨(ad.add (k * 4)).block, (ad.add (k * 4)).off + 3, none⟩) (by show (ad.add (k * 4)).block < _; rw [block_of_add]; exact hadb)).trans ((World.cell?_alloc_lt wr _ ⟨(ad.add (k * 4)).block, (ad.add (k * 4)).off + 3, none⟩ (by show (ad.add (k * 4)).block < _; rw [block_of_add]; have := HSW.out; omega)).trans c3); have OL := Lib.hid (O4.out.below ((Below.refl w8.heap.size w8).alloc (Nat.le_refl _) (.cells #[.int .i64 a, .int .i64 r0, .int .i64 s, .int .i64 m] 45))); have VL := Lib.hid (Blk.new w8 45 #[.int .i64 a, .int .i64 r0, .int .i64 s, .int .i64 m])) | fail)
                go_wp2_with fail
                go_roundw
                case rel => exact ⟨k + 1, v5, true, by omega, rfl, rfl, by go_num, Lib.hid (by rw [HTS.out, HLK.out, HB1.out.2, if_neg (by decide)]; exact O5.out), Lib.hid (by rw [HTS.out, HLK.out, HB1.out.1]), Lib.hid (HB.out.trans ((((Below.refl _ wr).alloc (by have := HSW.out; omega) _).trans H4.out).trans (((Below.refl _ w8).alloc HSW2.out _).trans H5.out)))⟩
                case measure => simp [intOf]; omega
            have q2 : (a == acc) = true := by simpa using h2
            by_cases h3 : r0 < rule
            · have q3 : decide (r0 < rule) = true := decide_eq_true h3
              have HA0 := Lib.hid (HAT.out (HBN.out.2 (by omega)))
              have HA1 := Lib.hid (HAH.out.2 (by omega))
              have hpbf : pb = false := by rw [← HANY.out]; exact HA0.out
              subst hpbf
              have gk : ((k : Int) != placeS acc rule L) = true := HPK.out.2 (by rw [← Bool.not_eq_true, HIO.out]; omega)
              try rw [HPP.out] at gk
              have HX1 := Lib.hid (outR_ahead (x := (acc, rule, now, 1)) HA0.out HA1.out)
              rw [HLK.out] at HX1
              try clear h2
              have HSW2 := HSW
              have OL := Lib.hid (O.out.below ((Below.refl wr.heap.size wr).alloc (Nat.le_refl _) (.cells #[.int .i64 a, .int .i64 r0, .int .i64 s, .int .i64 m] 45)))
              have VL := Lib.hid (Blk.new wr 45 #[.int .i64 a, .int .i64 r0, .int .i64 s, .int .i64 m])
              go_wp2_with (at_builtin; first | (refine wpList_app1 _ (by rfl) _ _ (by rfl) w4.heap.size _ _ _ a r0 s m (by rfl) (by rfl) OL.out VL.out (by have := HOL.out; first | omega | (simp; omega)) (by simp; have := HSW2.out; omega) ?_; intro v5 w9 ho5 hb5; have O5 := Lib.hid ho5; have H5 := Lib.hid hb5; clear ho5 hb5) | fail)
              go_wp2_with fail
              go_roundw
              case rel => exact ⟨k + 1, v5, false, by omega, rfl, rfl, by go_num, Lib.hid (by rw [HTS.out, HLK.out, HX1.out.2]; exact O5.out), Lib.hid (by rw [HTS.out, HLK.out, HX1.out.1]), Lib.hid (HB.out.trans (((Below.refl _ wr).alloc (by have := HSW.out; omega) _).trans H5.out))⟩
              case measure => simp [intOf]; omega
            have q3 : decide (r0 < rule) = false := decide_eq_false h3
            by_cases h4 : r0 = rule
            rotate_left 1
            · skip
              have HB1 := Lib.hid (outR_behind (x := (acc, rule, now, 1)) (l := L.take k) (HBH.out.2 (by omega)))
              have gk : ((k : Int) != placeS acc rule L) = true := HPK.out.2 (by rw [← Bool.not_eq_true, HIO.out]; omega)
              try rw [HPP.out] at gk
              rw [HANY.out, HLK.out] at HB1
              clear HANY
              try clear h2
              cases pb with
              | true =>
                have HSW2 := HSW
                have OL := Lib.hid (O.out.below ((Below.refl wr.heap.size wr).alloc (Nat.le_refl _) (.cells #[.int .i64 a, .int .i64 r0, .int .i64 s, .int .i64 m] 45)))
                have VL := Lib.hid (Blk.new wr 45 #[.int .i64 a, .int .i64 r0, .int .i64 s, .int .i64 m])
                go_wp2_with (at_builtin; first | (refine wpList_app1 _ (by rfl) _ _ (by rfl) w4.heap.size _ _ _ a r0 s m (by rfl) (by rfl) OL.out VL.out (by have := HOL.out; first | omega | (simp; omega)) (by simp; have := HSW2.out; omega) ?_; intro v5 w9 ho5 hb5; have O5 := Lib.hid ho5; have H5 := Lib.hid hb5; clear ho5 hb5) | fail)
                go_wp2_with fail
                go_roundw
                case rel => exact ⟨k + 1, v5, true, by omega, rfl, rfl, by go_num, Lib.hid (by rw [HTS.out, HLK.out, HB1.out.2, if_pos rfl]; exact O5.out), Lib.hid (by rw [HTS.out, HLK.out, HB1.out.1]), Lib.hid (HB.out.trans (((Below.refl _ wr).alloc (by have := HSW.out; omega) _).trans H5.out))⟩
                case measure => simp [intOf]; omega
              | false =>
                have OX := Lib.hid (O.out.below ((Below.refl wr.heap.size wr).alloc (Nat.le_refl _) (.cells #[.int .i64 acc, .int .i64 rule, .int .i64 now, .int .i64 1] 45)))
                have VX := Lib.hid (Blk.new wr 45 #[.int .i64 acc, .int .i64 rule, .int .i64 now, .int .i64 1])
                go_wp2_with (at_builtin; first | (refine wpList_app1 _ (by rfl) _ _ (by rfl) w4.heap.size _ _ _ a r0 s m (by rfl) (by rfl) OL.out VL.out (by have := HOL.out; first | omega | (simp; omega)) (by simp; have := HSW2.out; omega) ?_; intro v5 w9 ho5 hb5; have O5 := Lib.hid ho5; have H5 := Lib.hid hb5; clear ho5 hb5) | (refine wpList_app1 _ (by rfl) _ _ (by rfl) w4.heap.size _ _ _ acc rule now 1 (by rfl) (by rfl) OX.out VX.out (by have := HOL.out; omega) (by simp; have := HSW.out; omega) ?_; intro v4 w8 ho4 hb4; have O4 := Lib.hid ho4; have H4 := Lib.hid hb4; clear ho4 hb4; have HSW2 := Lib.hid (show w4.heap.size ≤ w8.heap.size from by have := H4.out.size; simp at this; have := HSW.out; omega); have c04 := (H4.out.cell (p := ad.add (k * 4)) (by rw [block_of_add]; exact hadb)).trans ((World.cell?_alloc_lt wr _ _ (by rw [block_of_add]; have := HSW.out; omega)).trans c0); have c14 := (H4.out.cell (p := ⟨(ad.add (k * 4)).block, (ad.add (k * 4)).off + 1, none⟩) (by show (ad.add (k * 4)).block < _; rw [block_of_add]; exact hadb)).trans ((World.cell?_alloc_lt wr _ ⟨(ad.add (k * 4)).block, (ad.add (k * 4)).off + 1, none⟩ (by show (ad.add (k * 4)).block < _; rw [block_of_add]; have := HSW.out; omega)).trans c1); have c24 := (H4.out.cell (p := ⟨(ad.add (k * 4)).block, (ad.add (k * 4)).off + 2, none⟩) (by show (ad.add (k * 4)).block < _; rw [block_of_add]; exact hadb)).trans ((World.cell?_alloc_lt wr _ ⟨(ad.add (k * 4)).block, (ad.add (k * 4)).off + 2, none⟩ (by show (ad.add (k * 4)).block < _; rw [block_of_add]; have := HSW.out; omega)).trans c2); have c34 := (H4.out.cell (p := ⟨(ad.add (k * 4)).block, (ad.add (k * 4)).off + 3, none⟩) (by show (ad.add (k * 4)).block < _; rw [block_of_add]; exact hadb)).trans ((World.cell?_alloc_lt wr _ ⟨(ad.add (k * 4)).block, (ad.add (k * 4)).off + 3, none⟩ (by show (ad.add (k * 4)).block < _; rw [block_of_add]; have := HSW.out; omega)).trans c3); have OL := Lib.hid (O4.out.below ((Below.refl w8.heap.size w8).alloc (Nat.le_refl _) (.cells #[.int .i64 a, .int .i64 r0, .int .i64 s, .int .i64 m] 45))); have VL := Lib.hid (Blk.new w8 45 #[.int .i64 a, .int .i64 r0, .int .i64 s, .int .i64 m])) | fail)
                go_wp2_with fail
                go_roundw
                case rel => exact ⟨k + 1, v5, true, by omega, rfl, rfl, by go_num, Lib.hid (by rw [HTS.out, HLK.out, HB1.out.2, if_neg (by decide)]; exact O5.out), Lib.hid (by rw [HTS.out, HLK.out, HB1.out.1]), Lib.hid (HB.out.trans ((((Below.refl _ wr).alloc (by have := HSW.out; omega) _).trans H4.out).trans (((Below.refl _ w8).alloc HSW2.out _).trans H5.out)))⟩
                case measure => simp [intOf]; omega
            · have HA0 := Lib.hid (HAT.out (HBN.out.2 (by omega)))
              have HA1 := Lib.hid (HIO.out.2 ⟨h2, h4⟩)
              have hpbf : pb = false := by rw [← HANY.out]; exact HA0.out
              subst hpbf
              have gk : ((k : Int) != placeS acc rule L) = false := HPK.out.1 HA1.out
              try rw [HPP.out] at gk
              have HX1 := Lib.hid (outR_own (x := (acc, rule, now, 1)) HA0.out HA1.out)
              rw [HLK.out] at HX1
              clear h2 h4
              have OX := Lib.hid (O.out.below ((Below.refl wr.heap.size wr).alloc (Nat.le_refl _) (.cells #[.int .i64 acc, .int .i64 rule, .int .i64 now, .int .i64 1] 45)))
              have VX := Lib.hid (Blk.new wr 45 #[.int .i64 acc, .int .i64 rule, .int .i64 now, .int .i64 1])
              go_wp2_with (at_builtin; first | (refine wpList_app1 _ (by rfl) _ _ (by rfl) w4.heap.size _ _ _ acc rule now 1 (by rfl) (by rfl) OX.out VX.out (by have := HOL.out; omega) (by simp; have := HSW.out; omega) ?_; intro v4 w8 ho4 hb4; have O4 := Lib.hid ho4; have H4 := Lib.hid hb4; clear ho4 hb4) | fail)
              go_wp2_with fail
              go_roundw
              case rel => exact ⟨k + 1, v4, true, by omega, rfl, rfl, by go_num, Lib.hid (by rw [HTS.out, HLK.out, HX1.out.2]; exact O4.out), Lib.hid (by rw [HTS.out, HLK.out, HX1.out.1]), Lib.hid (HB.out.trans ((((Below.refl _ wr).alloc (by have := HSW.out; omega) _).trans H4.out)))⟩
              case measure => simp [intOf]; omega
          · obtain rfl : k = n := by omega
            have HTK := Lib.hid (show L.take k = L by rw [← HN.out, List.take_length])
            rw [HTK.out] at O HANY HOL
            have HPA := Lib.hid (outR_all (acc := acc) (rule := rule) (x := (acc, rule, now, 1)) (l := L))
            rw [HANY.out] at HPA
            cases pb with
            | true =>
              have HPA2 := Lib.hid (show putS acc rule (acc, rule, now, 1) L = outR acc rule (acc, rule, now, 1) L by rw [HPA.out, if_pos rfl])
              rw [HPA2.out] at HSP
              obtain ⟨A7, c7, rfl, hc7, hm7, -, -⟩ := own_sliceQ O.out
              have hm8 : (outR acc rule (acc, rule, now, 1) L).length ≤ 2000 := HOL.out
              obtain ⟨ml, hml⟩ : ∃ ml, (outR acc rule (acc, rule, now, 1) L).length = ml := ⟨_, rfl⟩
              have HML := Lib.hid hml
              rw [hml] at hm8
              have HLN7 := Lib.hid hml
              clear hml hc7 hm7
              skip
              by_cases h10 : 1024 < (outR acc rule (acc, rule, now, 1) L).length
              · have HE9 := Lib.hid (show spendS L mo wi rule acc now = ([], 2) by rw [HSP.out, if_pos h10])
                rw [HLN7.out] at h10 ⊢
                go_wp2_with fail
                refine bodyPost_ret (v := .tuple #[.slice none 0 0, .int .i64 2]) (by simp [results, Try.results18, go_sem]) rfl ?_
                exact spendE_mk HE9.out (own_nilQ _ _) (BW.out.trans (HB.out.mono HB5.out))
              · have HE9 := Lib.hid (show spendS L mo wi rule acc now = (outR acc rule (acc, rule, now, 1) L, 0) by rw [HSP.out, if_neg h10])
                rw [HLN7.out] at h10 ⊢
                go_wp2_with fail
                refine bodyPost_ret (v := .tuple #[.slice A7 ml c7, .int .i64 0]) (by simp [results, Try.results18, go_sem]) rfl ?_
                exact spendE_mk HE9.out (own_baseQ (by rw [← HLN7.out]; exact O.out) HB5.out) (BW.out.trans (HB.out.mono HB5.out))
            | false =>
              have HPA2 := Lib.hid (show putS acc rule (acc, rule, now, 1) L = outR acc rule (acc, rule, now, 1) L ++ [(acc, rule, now, 1)] by rw [HPA.out, if_neg (by decide)])
              rw [HPA2.out] at HSP
              obtain ⟨ml, hml⟩ : ∃ ml, (outR acc rule (acc, rule, now, 1) L ++ [(acc, rule, now, 1)]).length = ml := ⟨_, rfl⟩
              have HLN7 := Lib.hid hml
              clear hml
              by_cases h10 : 1024 < (outR acc rule (acc, rule, now, 1) L ++ [(acc, rule, now, 1)]).length
              · have HE9 := Lib.hid (show spendS L mo wi rule acc now = ([], 2) by rw [HSP.out, if_pos h10])
                rw [HLN7.out] at h10
                have OX := Lib.hid (O.out.below ((Below.refl wr.heap.size wr).alloc (Nat.le_refl _) (.cells #[.int .i64 acc, .int .i64 rule, .int .i64 now, .int .i64 1] 45)))
                have VX := Lib.hid (Blk.new wr 45 #[.int .i64 acc, .int .i64 rule, .int .i64 now, .int .i64 1])
                go_wp2_with (at_builtin; first | (refine wpList_app1 _ (by rfl) _ _ (by rfl) w4.heap.size _ _ _ acc rule now 1 (by rfl) (by rfl) OX.out VX.out (by have := HOL.out; omega) (by simp; have := HSW.out; omega) ?_; intro v4 w8 ho4 hb4; have H4 := Lib.hid hb4; obtain ⟨A7, c7, e7, hc7, hm7, -, -⟩ := own_sliceQ ho4; rw [HLN7.out] at e7; have O4 := Lib.hid ho4; clear ho4 hb4 hc7 hm7; subst e7) | fail)
                go_wp2_with fail
                refine bodyPost_ret (v := .tuple #[.slice none 0 0, .int .i64 2]) (by simp [results, Try.results18, go_sem]) rfl ?_
                exact spendE_mk HE9.out (own_nilQ _ _) (BW.out.trans ((HB.out.trans (((Below.refl _ wr).alloc (by have := HSW.out; omega) _).trans H4.out)).mono HB5.out))
              · have HE9 := Lib.hid (show spendS L mo wi rule acc now = (outR acc rule (acc, rule, now, 1) L ++ [(acc, rule, now, 1)], 0) by rw [HSP.out, if_neg h10])
                rw [HLN7.out] at h10
                have OX := Lib.hid (O.out.below ((Below.refl wr.heap.size wr).alloc (Nat.le_refl _) (.cells #[.int .i64 acc, .int .i64 rule, .int .i64 now, .int .i64 1] 45)))
                have VX := Lib.hid (Blk.new wr 45 #[.int .i64 acc, .int .i64 rule, .int .i64 now, .int .i64 1])
                go_wp2_with (at_builtin; first | (refine wpList_app1 _ (by rfl) _ _ (by rfl) w4.heap.size _ _ _ acc rule now 1 (by rfl) (by rfl) OX.out VX.out (by have := HOL.out; omega) (by simp; have := HSW.out; omega) ?_; intro v4 w8 ho4 hb4; have H4 := Lib.hid hb4; obtain ⟨A7, c7, e7, hc7, hm7, -, -⟩ := own_sliceQ ho4; rw [HLN7.out] at e7; have O4 := Lib.hid ho4; clear ho4 hb4 hc7 hm7; subst e7) | fail)
                go_wp2_with fail
                refine bodyPost_ret (v := .tuple #[.slice A7 ml c7, .int .i64 0]) (by simp [results, Try.results18, go_sem]) rfl ?_
                exact spendE_mk HE9.out (own_baseQ O4.out HB5.out) (BW.out.trans ((HB.out.trans (((Below.refl _ wr).alloc (by have := HSW.out; omega) _).trans H4.out)).mono HB5.out))
      have gpos : decide (0 < hd) = true := decide_eq_true hpos
      obtain ⟨s0, hs0, hnew⟩ := HHS.out hpos
      rw [hf] at hs0
      injection hs0 with hs0
      subst hs0
      have NEW := Lib.hid hnew
      have HPP := Lib.hid hp
      have hkp0 : (0 : Int) ≤ (kp : Int) := by omega
      have hkp1 : (kp : Int) < (n : Int) := by omega
      have hwd : IntKind.i64.wrap (hd + 1) = hd + 1 := IntWalk.i64_in _ (by omega)
      clear hf hnew hp
      go_enter Try.func18, Try.ntmps18
      go_wp2_with fail
      generalize (w.alloc (.cells #[.string N, .bool al, .slice PA pn pc, .int .u64 km, .int .i64 lm, .int .i64 mo, .int .i64 wi] 28)) = w0 at B0 X ⊢
      have x0 : w0.cell? ⟨w.heap.size, 0, none⟩ = some (.string N) := X.out.cell 0
      have x1 : w0.cell? ⟨w.heap.size, 1, none⟩ = some (.bool al) := X.out.cell 1
      have x2 : w0.cell? ⟨w.heap.size, 2, none⟩ = some (.slice PA pn pc) := X.out.cell 2
      have x3 : w0.cell? ⟨w.heap.size, 3, none⟩ = some (.int .u64 km) := X.out.cell 3
      have x4 : w0.cell? ⟨w.heap.size, 4, none⟩ = some (.int .i64 lm) := X.out.cell 4
      have x5 : w0.cell? ⟨w.heap.size, 5, none⟩ = some (.int .i64 mo) := X.out.cell 5
      have x6 : w0.cell? ⟨w.heap.size, 6, none⟩ = some (.int .i64 wi) := X.out.cell 6
      (with_reducible refine (PC.out _ (HS.out.on B0.out)).mono ?_)
      rintro e w1 ⟨rfl, b⟩
      clear x0 x1 x2 x3 x4 x5 x6
      have B1 := Lib.hid (below_on B0.out b)
      replace X := Lib.hid (X.out.below b X.out.lt)
      clear b
      have x0 : w1.cell? ⟨w.heap.size, 0, none⟩ = some (.string N) := X.out.cell 0
      have x1 : w1.cell? ⟨w.heap.size, 1, none⟩ = some (.bool al) := X.out.cell 1
      have x2 : w1.cell? ⟨w.heap.size, 2, none⟩ = some (.slice PA pn pc) := X.out.cell 2
      have x3 : w1.cell? ⟨w.heap.size, 3, none⟩ = some (.int .u64 km) := X.out.cell 3
      have x4 : w1.cell? ⟨w.heap.size, 4, none⟩ = some (.int .i64 lm) := X.out.cell 4
      have x5 : w1.cell? ⟨w.heap.size, 5, none⟩ = some (.int .i64 mo) := X.out.cell 5
      have x6 : w1.cell? ⟨w.heap.size, 6, none⟩ = some (.int .i64 wi) := X.out.cell 6
      go_wp2_with fail
      (with_reducible refine (PK.out _).mono ?_)
      rintro e w2 ⟨rfl, b⟩
      clear x0 x1 x2 x3 x4 x5 x6
      have B2 := Lib.hid (below_on B1.out b)
      replace X := Lib.hid (X.out.below b X.out.lt)
      clear b
      have x0 : w2.cell? ⟨w.heap.size, 0, none⟩ = some (.string N) := X.out.cell 0
      have x1 : w2.cell? ⟨w.heap.size, 1, none⟩ = some (.bool al) := X.out.cell 1
      have x2 : w2.cell? ⟨w.heap.size, 2, none⟩ = some (.slice PA pn pc) := X.out.cell 2
      have x3 : w2.cell? ⟨w.heap.size, 3, none⟩ = some (.int .u64 km) := X.out.cell 3
      have x4 : w2.cell? ⟨w.heap.size, 4, none⟩ = some (.int .i64 lm) := X.out.cell 4
      have x5 : w2.cell? ⟨w.heap.size, 5, none⟩ = some (.int .i64 mo) := X.out.cell 5
      have x6 : w2.cell? ⟨w.heap.size, 6, none⟩ = some (.int .i64 wi) := X.out.cell 6
      go_wp2_with fail
      (with_reducible refine (PH2.out _ (HS.out.on B2.out)).mono ?_)
      rintro e w3 ⟨rfl, b⟩
      clear x0 x1 x2 x3 x4 x5 x6
      have B3 := Lib.hid (below_on B2.out b)
      replace X := Lib.hid (X.out.below b X.out.lt)
      clear b
      have x0 : w3.cell? ⟨w.heap.size, 0, none⟩ = some (.string N) := X.out.cell 0
      have x1 : w3.cell? ⟨w.heap.size, 1, none⟩ = some (.bool al) := X.out.cell 1
      have x2 : w3.cell? ⟨w.heap.size, 2, none⟩ = some (.slice PA pn pc) := X.out.cell 2
      have x3 : w3.cell? ⟨w.heap.size, 3, none⟩ = some (.int .u64 km) := X.out.cell 3
      have x4 : w3.cell? ⟨w.heap.size, 4, none⟩ = some (.int .i64 lm) := X.out.cell 4
      have x5 : w3.cell? ⟨w.heap.size, 5, none⟩ = some (.int .i64 mo) := X.out.cell 5
      have x6 : w3.cell? ⟨w.heap.size, 6, none⟩ = some (.int .i64 wi) := X.out.cell 6
      have ZB0 := Lib.hid B3.out.size
      have HXL := Lib.hid X.out.lt
      have na := (Below.refl w3.heap.size w3).alloc (Nat.le_refl _) (.cells #[.int .i64 acc, .int .i64 rule, .int .i64 now, .int .i64 1] 45)
      replace X := Lib.hid (X.out.alloc (.cells #[.int .i64 acc, .int .i64 rule, .int .i64 now, .int .i64 1] 45))
      have B4 := Lib.hid (below_on B3.out na)
      have Z := Lib.hid (Blk.new w3 45 #[.int .i64 acc, .int .i64 rule, .int .i64 now, .int .i64 1])
      clear na
      have z0 : (w3.alloc (.cells #[.int .i64 acc, .int .i64 rule, .int .i64 now, .int .i64 1] 45)).cell? ⟨w3.heap.size, 0, none⟩ = some (.int .i64 acc) := Z.out.cell 0
      have z1 : (w3.alloc (.cells #[.int .i64 acc, .int .i64 rule, .int .i64 now, .int .i64 1] 45)).cell? ⟨w3.heap.size, 1, none⟩ = some (.int .i64 rule) := Z.out.cell 1
      have z2 : (w3.alloc (.cells #[.int .i64 acc, .int .i64 rule, .int .i64 now, .int .i64 1] 45)).cell? ⟨w3.heap.size, 2, none⟩ = some (.int .i64 now) := Z.out.cell 2
      have z3 : (w3.alloc (.cells #[.int .i64 acc, .int .i64 rule, .int .i64 now, .int .i64 1] 45)).cell? ⟨w3.heap.size, 3, none⟩ = some (.int .i64 1) := Z.out.cell 3
      go_wp2_with fail
      generalize w3.alloc (.cells #[.int .i64 acc, .int .i64 rule, .int .i64 now, .int .i64 1] 45) = w4 at B4 X Z x0 x1 x2 x3 x4 x5 x6 z0 z1 z2 z3 ⊢
      (with_reducible refine (PF.out _ (HS.out.on B4.out)).mono ?_)
      rintro e _ ⟨rfl, rfl⟩
      clear x0 x1 x2 x3 x4 x5 x6 z0 z1 z2 z3
      obtain ⟨adp, hA, hbp, -, -, p2, -⟩ := (HS.out.on B4.out) kp hkp
      generalize L[kp].2.2.1 = sc at p2 NEW
      have z0 : w4.cell? ⟨w3.heap.size, 0, none⟩ = some (.int .i64 acc) := Z.out.cell 0
      have z0f : w4.frozen? ⟨w3.heap.size, 0, none⟩ = false := Z.out.free 0
      have z1 : w4.cell? ⟨w3.heap.size, 1, none⟩ = some (.int .i64 rule) := Z.out.cell 1
      have z1f : w4.frozen? ⟨w3.heap.size, 1, none⟩ = false := Z.out.free 1
      have z2 : w4.cell? ⟨w3.heap.size, 2, none⟩ = some (.int .i64 now) := Z.out.cell 2
      have z2f : w4.frozen? ⟨w3.heap.size, 2, none⟩ = false := Z.out.free 2
      have z3 : w4.cell? ⟨w3.heap.size, 3, none⟩ = some (.int .i64 1) := Z.out.cell 3
      have z3f : w4.frozen? ⟨w3.heap.size, 3, none⟩ = false := Z.out.free 3
      rw [HPP.out]
      subst hA
      have HZG := Lib.hid (show w.heap.size ≤ w3.heap.size from ZB0.out)
      have HXZ := Lib.hid (show w.heap.size ≠ w3.heap.size from by have := X.out.lt; have := HXL.out; omega)
      have ZS := Lib.hid (show Blk ((w4.setCell ⟨w3.heap.size, 2, none⟩ (.int .i64 sc)).setCell ⟨w3.heap.size, 3, none⟩ (.int .i64 (hd + 1))) w3.heap.size 45 #[.int .i64 acc, .int .i64 rule, .int .i64 sc, .int .i64 (hd + 1)] from (Z.out.set 2 _).set 3 _)
      have BS := Lib.hid (show Below w.heap.size w ((w4.setCell ⟨w3.heap.size, 2, none⟩ (.int .i64 sc)).setCell ⟨w3.heap.size, 3, none⟩ (.int .i64 (hd + 1))) from (B4.out.setCell (by exact HZG.out) _).setCell (by exact HZG.out) _)
      have XS := Lib.hid (show Blk ((w4.setCell ⟨w3.heap.size, 2, none⟩ (.int .i64 sc)).setCell ⟨w3.heap.size, 3, none⟩ (.int .i64 (hd + 1))) w.heap.size 28 #[.string N, .bool al, .slice PA pn pc, .int .u64 km, .int .i64 lm, .int .i64 mo, .int .i64 wi] from (X.out.other (by exact HXZ.out) _).other (by exact HXZ.out) _)
      clear X Z B4
      go_upto_region 16 with (fail)
      generalize ((w4.setCell ⟨w3.heap.size, 2, none⟩ (.int .i64 sc)).setCell ⟨w3.heap.size, 3, none⟩ (.int .i64 (hd + 1))) = w5 at ZS BS XS ⊢
      clear z0 z0f z1 z1f z2 z2f z3 z3f
      have X := XS
      have Z := ZS
      rw [NEW.out] at HSP
      have Q5 := Lib.hid (show QS w5 w5.heap.size _ L from HS.out.on BS.out)
      have Z5 := Lib.hid (Z.out)
      have na := (Below.refl w5.heap.size w5).alloc (Nat.le_refl _) (.cells #[] 45)
      replace X := Lib.hid (X.out.alloc (.cells #[] 45))
      replace Z := Lib.hid (Z.out.alloc (.cells #[] 45))
      have B5 := Lib.hid (below_on BS.out na)
      have E := Lib.hid (Blk.new w5 45 #[])
      clear na
      have BE := Lib.hid ((Below.refl w5.heap.size w5).alloc (Nat.le_refl _) (.cells #[] 45))
      have OE := Lib.hid (show OwnQ (w5.alloc (.cells #[] 45)) w5.heap.size (.slice (some ⟨w5.heap.size, 0, none⟩) 0 0) [] from own_noneQ w5 (Nat.le_refl _))
      go_wp2_with fail
      have HZL := Lib.hid Z5.out.lt
      have QE := Lib.hid (Q5.out.below BE.out)
      have ZE := Lib.hid (Z5.out.below BE.out Z5.out.lt)
      have BW := Lib.hid (below_on BS.out BE.out)
      have HSZ := Lib.hid BE.out.size
      have HB5 := Lib.hid BS.out.size
      clear Q5 Z5 X Z E BE B5
      generalize w5.alloc (.cells #[] 45) = w6 at QE ZE BW OE HSZ ⊢
      go_loopw [16, 17, 18] (fun out put i wr => ∃ (k : Nat) (v : Value) (pb : Bool), k ≤ n ∧ out = v ∧ put = .bool pb ∧ i = .int .i64 k ∧ Hid (OwnQ wr w5.heap.size v (outR acc rule (acc, rule, sc, (hd + 1)) (L.take k))) ∧ Hid (anyB acc rule (L.take k) = pb) ∧ Hid (Below w5.heap.size w6 wr)) (fun _ _ i _ => n - (intOf i).toNat)
      case atStart => exact ⟨0, _, false, Nat.zero_le _, rfl, rfl, rfl, Lib.hid OE.out, Lib.hid rfl, Lib.hid (Below.refl _ _)⟩
      case round =>
        obtain ⟨k, v, pb, hk, rfl, rfl, rfl, O, HANY, HB⟩ := hrel
        have HSW := Lib.hid (Nat.le_trans HSZ.out HB.out.size)
        have ZR := Lib.hid (ZE.out.below HB.out HZL.out)
        have z0 : wr.cell? ⟨w3.heap.size, 0, none⟩ = some (.int .i64 acc) := ZR.out.cell 0
        have z1 : wr.cell? ⟨w3.heap.size, 1, none⟩ = some (.int .i64 rule) := ZR.out.cell 1
        have z2 : wr.cell? ⟨w3.heap.size, 2, none⟩ = some (.int .i64 sc) := ZR.out.cell 2
        have z3 : wr.cell? ⟨w3.heap.size, 3, none⟩ = some (.int .i64 ((hd + 1))) := ZR.out.cell 3
        have HOL := Lib.hid (show (outR acc rule (acc, rule, sc, (hd + 1)) (L.take k)).length ≤ 2000 from by have := outR_len (acc := acc) (rule := rule) (x := (acc, rule, sc, (hd + 1))) (l := L.take k); have h2 := List.length_take_le k L; omega)
        by_cases hlt : k < n
        · have hltX : k < L.length := by have := HN.out; omega
          obtain ⟨ad, eA, hadb, c0, c1, c2, c3⟩ := (QE.out.below HB.out) k hltX
          first | subst eA | (obtain rfl : ad = adp := by injection eA with h; exact h.symm)
          have hk0 : (0 : Int) ≤ (k : Int) := by omega
          have HTS := Lib.hid (take_snocS k hltX)
          have HAT := Lib.hid (fun h => any_take HOK.out k hltX (acc := acc) (rule := rule) h)
          have HPK := Lib.hid (HPL.out k hltX)
          have HAH := Lib.hid (@ahead_iff acc rule L[k])
          have HBH := Lib.hid (@behind_iff acc rule L[k])
          have HBN := Lib.hid (@behind_no acc rule L[k])
          have HIO := Lib.hid (@isO_iff acc rule L[k])
          have HLK := Lib.hid (show L[k] = (L[k].1, L[k].2.1, L[k].2.2.1, L[k].2.2.2) from rfl)
          generalize L[k].1 = a, L[k].2.1 = r0, L[k].2.2.1 = s, L[k].2.2.2 = m at c0 c1 c2 c3 HAH HBH HBN HIO HLK
          by_cases h1 : a < acc
          · have q1 : decide (a < acc) = true := decide_eq_true h1
            have HA0 := Lib.hid (HAT.out (HBN.out.2 (by omega)))
            have HA1 := Lib.hid (HAH.out.2 (by omega))
            have hpbf : pb = false := by rw [← HANY.out]; exact HA0.out
            subst hpbf
            have gk : ((k : Int) != placeS acc rule L) = true := HPK.out.2 (by rw [← Bool.not_eq_true, HIO.out]; omega)
            try rw [HPP.out] at gk
            have HX1 := Lib.hid (outR_ahead (x := (acc, rule, sc, (hd + 1))) HA0.out HA1.out)
            rw [HLK.out] at HX1
            try clear h2
            have HSW2 := HSW
            have OL := Lib.hid (O.out.below ((Below.refl wr.heap.size wr).alloc (Nat.le_refl _) (.cells #[.int .i64 a, .int .i64 r0, .int .i64 s, .int .i64 m] 45)))
            have VL := Lib.hid (Blk.new wr 45 #[.int .i64 a, .int .i64 r0, .int .i64 s, .int .i64 m])
            go_wp2_with (at_builtin; first | (refine wpList_app1 _ (by rfl) _ _ (by rfl) w5.heap.size _ _ _ a r0 s m (by rfl) (by rfl) OL.out VL.out (by have := HOL.out; first | omega | (simp; omega)) (by simp; have := HSW2.out; omega) ?_; intro v5 w9 ho5 hb5; have O5 := Lib.hid ho5; have H5 := Lib.hid hb5; clear ho5 hb5) | fail)
            go_wp2_with fail
            go_roundw
            case rel => exact ⟨k + 1, v5, false, by omega, rfl, rfl, by go_num, Lib.hid (by rw [HTS.out, HLK.out, HX1.out.2]; exact O5.out), Lib.hid (by rw [HTS.out, HLK.out, HX1.out.1]), Lib.hid (HB.out.trans (((Below.refl _ wr).alloc (by have := HSW.out; omega) _).trans H5.out))⟩
            case measure => simp [intOf]; omega
          have q1 : decide (a < acc) = false := decide_eq_false h1
          by_cases h2 : a = acc
          rotate_left 1
          · have q2 : (a == acc) = false := by simpa using h2
            have HB1 := Lib.hid (outR_behind (x := (acc, rule, sc, (hd + 1))) (l := L.take k) (HBH.out.2 (by omega)))
            have gk : ((k : Int) != placeS acc rule L) = true := HPK.out.2 (by rw [← Bool.not_eq_true, HIO.out]; omega)
            try rw [HPP.out] at gk
            rw [HANY.out, HLK.out] at HB1
            clear HANY
            try clear h2
            cases pb with
            | true =>
              have HSW2 := HSW
              have OL := Lib.hid (O.out.below ((Below.refl wr.heap.size wr).alloc (Nat.le_refl _) (.cells #[.int .i64 a, .int .i64 r0, .int .i64 s, .int .i64 m] 45)))
              have VL := Lib.hid (Blk.new wr 45 #[.int .i64 a, .int .i64 r0, .int .i64 s, .int .i64 m])
              go_wp2_with (at_builtin; first | (refine wpList_app1 _ (by rfl) _ _ (by rfl) w5.heap.size _ _ _ a r0 s m (by rfl) (by rfl) OL.out VL.out (by have := HOL.out; first | omega | (simp; omega)) (by simp; have := HSW2.out; omega) ?_; intro v5 w9 ho5 hb5; have O5 := Lib.hid ho5; have H5 := Lib.hid hb5; clear ho5 hb5) | fail)
              go_wp2_with fail
              go_roundw
              case rel => exact ⟨k + 1, v5, true, by omega, rfl, rfl, by go_num, Lib.hid (by rw [HTS.out, HLK.out, HB1.out.2, if_pos rfl]; exact O5.out), Lib.hid (by rw [HTS.out, HLK.out, HB1.out.1]), Lib.hid (HB.out.trans (((Below.refl _ wr).alloc (by have := HSW.out; omega) _).trans H5.out))⟩
              case measure => simp [intOf]; omega
            | false =>
              have OX := Lib.hid (O.out.below ((Below.refl wr.heap.size wr).alloc (Nat.le_refl _) (.cells #[.int .i64 acc, .int .i64 rule, .int .i64 sc, .int .i64 (hd + 1)] 45)))
              have VX := Lib.hid (Blk.new wr 45 #[.int .i64 acc, .int .i64 rule, .int .i64 sc, .int .i64 (hd + 1)])
              go_wp2_with (at_builtin; first | (refine wpList_app1 _ (by rfl) _ _ (by rfl) w5.heap.size _ _ _ a r0 s m (by rfl) (by rfl) OL.out VL.out (by have := HOL.out; first | omega | (simp; omega)) (by simp; have := HSW2.out; omega) ?_; intro v5 w9 ho5 hb5; have O5 := Lib.hid ho5; have H5 := Lib.hid hb5; clear ho5 hb5) | (refine wpList_app1 _ (by rfl) _ _ (by rfl) w5.heap.size _ _ _ acc rule sc ((hd + 1)) (by rfl) (by rfl) OX.out VX.out (by have := HOL.out; omega) (by simp; have := HSW.out; omega) ?_; intro v4 w8 ho4 hb4; have O4 := Lib.hid ho4; have H4 := Lib.hid hb4; clear ho4 hb4; have HSW2 := Lib.hid (show w5.heap.size ≤ w8.heap.size from by have := H4.out.size; simp at this; have := HSW.out; omega); have c04 := (H4.out.cell (p := ad.add (k * 4)) (by rw [block_of_add]; exact hadb)).trans ((World.cell?_alloc_lt wr _ _ (by rw [block_of_add]; have := HSW.out; omega)).trans c0); have c14 := (H4.out.cell (p := ⟨(ad.add (k * 4)).block, (ad.add (k * 4)).off + 1, none⟩) (by show (ad.add (k * 4)).block < _; rw [block_of_add]; exact hadb)).trans ((World.cell?_alloc_lt wr _ ⟨(ad.add (k * 4)).block, (ad.add (k * 4)).off + 1, none⟩ (by show (ad.add (k * 4)).block < _; rw [block_of_add]; have := HSW.out; omega)).trans c1); have c24 := (H4.out.cell (p := ⟨(ad.add (k * 4)).block, (ad.add (k * 4)).off + 2, none⟩) (by show (ad.add (k * 4)).block < _; rw [block_of_add]; exact hadb)).trans ((World.cell?_alloc_lt wr _ ⟨(ad.add (k * 4)).block, (ad.add (k * 4)).off + 2, none⟩ (by show (ad.add (k * 4)).block < _; rw [block_of_add]; have := HSW.out; omega)).trans c2); have c34 := (H4.out.cell (p := ⟨(ad.add (k * 4)).block, (ad.add (k * 4)).off + 3, none⟩) (by show (ad.add (k * 4)).block < _; rw [block_of_add]; exact hadb)).trans ((World.cell?_alloc_lt wr _ ⟨(ad.add (k * 4)).block, (ad.add (k * 4)).off + 3, none⟩ (by show (ad.add (k * 4)).block < _; rw [block_of_add]; have := HSW.out; omega)).trans c3); have OL := Lib.hid (O4.out.below ((Below.refl w8.heap.size w8).alloc (Nat.le_refl _) (.cells #[.int .i64 a, .int .i64 r0, .int .i64 s, .int .i64 m] 45))); have VL := Lib.hid (Blk.new w8 45 #[.int .i64 a, .int .i64 r0, .int .i64 s, .int .i64 m])) | fail)
              go_wp2_with fail
              go_roundw
              case rel => exact ⟨k + 1, v5, true, by omega, rfl, rfl, by go_num, Lib.hid (by rw [HTS.out, HLK.out, HB1.out.2, if_neg (by decide)]; exact O5.out), Lib.hid (by rw [HTS.out, HLK.out, HB1.out.1]), Lib.hid (HB.out.trans ((((Below.refl _ wr).alloc (by have := HSW.out; omega) _).trans H4.out).trans (((Below.refl _ w8).alloc HSW2.out _).trans H5.out)))⟩
              case measure => simp [intOf]; omega
          have q2 : (a == acc) = true := by simpa using h2
          by_cases h3 : r0 < rule
          · have q3 : decide (r0 < rule) = true := decide_eq_true h3
            have HA0 := Lib.hid (HAT.out (HBN.out.2 (by omega)))
            have HA1 := Lib.hid (HAH.out.2 (by omega))
            have hpbf : pb = false := by rw [← HANY.out]; exact HA0.out
            subst hpbf
            have gk : ((k : Int) != placeS acc rule L) = true := HPK.out.2 (by rw [← Bool.not_eq_true, HIO.out]; omega)
            try rw [HPP.out] at gk
            have HX1 := Lib.hid (outR_ahead (x := (acc, rule, sc, (hd + 1))) HA0.out HA1.out)
            rw [HLK.out] at HX1
            try clear h2
            have HSW2 := HSW
            have OL := Lib.hid (O.out.below ((Below.refl wr.heap.size wr).alloc (Nat.le_refl _) (.cells #[.int .i64 a, .int .i64 r0, .int .i64 s, .int .i64 m] 45)))
            have VL := Lib.hid (Blk.new wr 45 #[.int .i64 a, .int .i64 r0, .int .i64 s, .int .i64 m])
            go_wp2_with (at_builtin; first | (refine wpList_app1 _ (by rfl) _ _ (by rfl) w5.heap.size _ _ _ a r0 s m (by rfl) (by rfl) OL.out VL.out (by have := HOL.out; first | omega | (simp; omega)) (by simp; have := HSW2.out; omega) ?_; intro v5 w9 ho5 hb5; have O5 := Lib.hid ho5; have H5 := Lib.hid hb5; clear ho5 hb5) | fail)
            go_wp2_with fail
            go_roundw
            case rel => exact ⟨k + 1, v5, false, by omega, rfl, rfl, by go_num, Lib.hid (by rw [HTS.out, HLK.out, HX1.out.2]; exact O5.out), Lib.hid (by rw [HTS.out, HLK.out, HX1.out.1]), Lib.hid (HB.out.trans (((Below.refl _ wr).alloc (by have := HSW.out; omega) _).trans H5.out))⟩
            case measure => simp [intOf]; omega
          have q3 : decide (r0 < rule) = false := decide_eq_false h3
          by_cases h4 : r0 = rule
          rotate_left 1
          · skip
            have HB1 := Lib.hid (outR_behind (x := (acc, rule, sc, (hd + 1))) (l := L.take k) (HBH.out.2 (by omega)))
            have gk : ((k : Int) != placeS acc rule L) = true := HPK.out.2 (by rw [← Bool.not_eq_true, HIO.out]; omega)
            try rw [HPP.out] at gk
            rw [HANY.out, HLK.out] at HB1
            clear HANY
            try clear h2
            cases pb with
            | true =>
              have HSW2 := HSW
              have OL := Lib.hid (O.out.below ((Below.refl wr.heap.size wr).alloc (Nat.le_refl _) (.cells #[.int .i64 a, .int .i64 r0, .int .i64 s, .int .i64 m] 45)))
              have VL := Lib.hid (Blk.new wr 45 #[.int .i64 a, .int .i64 r0, .int .i64 s, .int .i64 m])
              go_wp2_with (at_builtin; first | (refine wpList_app1 _ (by rfl) _ _ (by rfl) w5.heap.size _ _ _ a r0 s m (by rfl) (by rfl) OL.out VL.out (by have := HOL.out; first | omega | (simp; omega)) (by simp; have := HSW2.out; omega) ?_; intro v5 w9 ho5 hb5; have O5 := Lib.hid ho5; have H5 := Lib.hid hb5; clear ho5 hb5) | fail)
              go_wp2_with fail
              go_roundw
              case rel => exact ⟨k + 1, v5, true, by omega, rfl, rfl, by go_num, Lib.hid (by rw [HTS.out, HLK.out, HB1.out.2, if_pos rfl]; exact O5.out), Lib.hid (by rw [HTS.out, HLK.out, HB1.out.1]), Lib.hid (HB.out.trans (((Below.refl _ wr).alloc (by have := HSW.out; omega) _).trans H5.out))⟩
              case measure => simp [intOf]; omega
            | false =>
              have OX := Lib.hid (O.out.below ((Below.refl wr.heap.size wr).alloc (Nat.le_refl _) (.cells #[.int .i64 acc, .int .i64 rule, .int .i64 sc, .int .i64 (hd + 1)] 45)))
              have VX := Lib.hid (Blk.new wr 45 #[.int .i64 acc, .int .i64 rule, .int .i64 sc, .int .i64 (hd + 1)])
              go_wp2_with (at_builtin; first | (refine wpList_app1 _ (by rfl) _ _ (by rfl) w5.heap.size _ _ _ a r0 s m (by rfl) (by rfl) OL.out VL.out (by have := HOL.out; first | omega | (simp; omega)) (by simp; have := HSW2.out; omega) ?_; intro v5 w9 ho5 hb5; have O5 := Lib.hid ho5; have H5 := Lib.hid hb5; clear ho5 hb5) | (refine wpList_app1 _ (by rfl) _ _ (by rfl) w5.heap.size _ _ _ acc rule sc ((hd + 1)) (by rfl) (by rfl) OX.out VX.out (by have := HOL.out; omega) (by simp; have := HSW.out; omega) ?_; intro v4 w8 ho4 hb4; have O4 := Lib.hid ho4; have H4 := Lib.hid hb4; clear ho4 hb4; have HSW2 := Lib.hid (show w5.heap.size ≤ w8.heap.size from by have := H4.out.size; simp at this; have := HSW.out; omega); have c04 := (H4.out.cell (p := ad.add (k * 4)) (by rw [block_of_add]; exact hadb)).trans ((World.cell?_alloc_lt wr _ _ (by rw [block_of_add]; have := HSW.out; omega)).trans c0); have c14 := (H4.out.cell (p := ⟨(ad.add (k * 4)).block, (ad.add (k * 4)).off + 1, none⟩) (by show (ad.add (k * 4)).block < _; rw [block_of_add]; exact hadb)).trans ((World.cell?_alloc_lt wr _ ⟨(ad.add (k * 4)).block, (ad.add (k * 4)).off + 1, none⟩ (by show (ad.add (k * 4)).block < _; rw [block_of_add]; have := HSW.out; omega)).trans c1); have c24 := (H4.out.cell (p := ⟨(ad.add (k * 4)).block, (ad.add (k * 4)).off + 2, none⟩) (by show (ad.add (k * 4)).block < _; rw [block_of_add]; exact hadb)).trans ((World.cell?_alloc_lt wr _ ⟨(ad.add (k * 4)).block, (ad.add (k * 4)).off + 2, none⟩ (by show (ad.add (k * 4)).block < _; rw [block_of_add]; have := HSW.out; omega)).trans c2); have c34 := (H4.out.cell (p := ⟨(ad.add (k * 4)).block, (ad.add (k * 4)).off + 3, none⟩) (by show (ad.add (k * 4)).block < _; rw [block_of_add]; exact hadb)).trans ((World.cell?_alloc_lt wr _ ⟨(ad.add (k * 4)).block, (ad.add (k * 4)).off + 3, none⟩ (by show (ad.add (k * 4)).block < _; rw [block_of_add]; have := HSW.out; omega)).trans c3); have OL := Lib.hid (O4.out.below ((Below.refl w8.heap.size w8).alloc (Nat.le_refl _) (.cells #[.int .i64 a, .int .i64 r0, .int .i64 s, .int .i64 m] 45))); have VL := Lib.hid (Blk.new w8 45 #[.int .i64 a, .int .i64 r0, .int .i64 s, .int .i64 m])) | fail)
              go_wp2_with fail
              go_roundw
              case rel => exact ⟨k + 1, v5, true, by omega, rfl, rfl, by go_num, Lib.hid (by rw [HTS.out, HLK.out, HB1.out.2, if_neg (by decide)]; exact O5.out), Lib.hid (by rw [HTS.out, HLK.out, HB1.out.1]), Lib.hid (HB.out.trans ((((Below.refl _ wr).alloc (by have := HSW.out; omega) _).trans H4.out).trans (((Below.refl _ w8).alloc HSW2.out _).trans H5.out)))⟩
              case measure => simp [intOf]; omega
          · have HA0 := Lib.hid (HAT.out (HBN.out.2 (by omega)))
            have HA1 := Lib.hid (HIO.out.2 ⟨h2, h4⟩)
            have hpbf : pb = false := by rw [← HANY.out]; exact HA0.out
            subst hpbf
            have gk : ((k : Int) != placeS acc rule L) = false := HPK.out.1 HA1.out
            try rw [HPP.out] at gk
            have HX1 := Lib.hid (outR_own (x := (acc, rule, sc, (hd + 1))) HA0.out HA1.out)
            rw [HLK.out] at HX1
            clear h2 h4
            have OX := Lib.hid (O.out.below ((Below.refl wr.heap.size wr).alloc (Nat.le_refl _) (.cells #[.int .i64 acc, .int .i64 rule, .int .i64 sc, .int .i64 (hd + 1)] 45)))
            have VX := Lib.hid (Blk.new wr 45 #[.int .i64 acc, .int .i64 rule, .int .i64 sc, .int .i64 (hd + 1)])
            go_wp2_with (at_builtin; first | (refine wpList_app1 _ (by rfl) _ _ (by rfl) w5.heap.size _ _ _ acc rule sc ((hd + 1)) (by rfl) (by rfl) OX.out VX.out (by have := HOL.out; omega) (by simp; have := HSW.out; omega) ?_; intro v4 w8 ho4 hb4; have O4 := Lib.hid ho4; have H4 := Lib.hid hb4; clear ho4 hb4) | fail)
            go_wp2_with fail
            go_roundw
            case rel => exact ⟨k + 1, v4, true, by omega, rfl, rfl, by go_num, Lib.hid (by rw [HTS.out, HLK.out, HX1.out.2]; exact O4.out), Lib.hid (by rw [HTS.out, HLK.out, HX1.out.1]), Lib.hid (HB.out.trans ((((Below.refl _ wr).alloc (by have := HSW.out; omega) _).trans H4.out)))⟩
            case measure => simp [intOf]; omega
        · obtain rfl : k = n := by omega
          have HTK := Lib.hid (show L.take k = L by rw [← HN.out, List.take_length])
          rw [HTK.out] at O HANY HOL
          have HPA := Lib.hid (outR_all (acc := acc) (rule := rule) (x := (acc, rule, sc, (hd + 1))) (l := L))
          rw [HANY.out] at HPA
          cases pb with
          | true =>
            have HPA2 := Lib.hid (show putS acc rule (acc, rule, sc, (hd + 1)) L = outR acc rule (acc, rule, sc, (hd + 1)) L by rw [HPA.out, if_pos rfl])
            rw [HPA2.out] at HSP
            obtain ⟨A7, c7, rfl, hc7, hm7, -, -⟩ := own_sliceQ O.out
            have hm8 : (outR acc rule (acc, rule, sc, (hd + 1)) L).length ≤ 2000 := HOL.out
            obtain ⟨ml, hml⟩ : ∃ ml, (outR acc rule (acc, rule, sc, (hd + 1)) L).length = ml := ⟨_, rfl⟩
            have HML := Lib.hid hml
            rw [hml] at hm8
            have HLN7 := Lib.hid hml
            clear hml hc7 hm7
            skip
            by_cases h10 : 1024 < (outR acc rule (acc, rule, sc, (hd + 1)) L).length
            · have HE9 := Lib.hid (show spendS L mo wi rule acc now = ([], 2) by rw [HSP.out, if_pos h10])
              rw [HLN7.out] at h10 ⊢
              go_wp2_with fail
              refine bodyPost_ret (v := .tuple #[.slice none 0 0, .int .i64 2]) (by simp [results, Try.results18, go_sem]) rfl ?_
              exact spendE_mk HE9.out (own_nilQ _ _) (BW.out.trans (HB.out.mono HB5.out))
            · have HE9 := Lib.hid (show spendS L mo wi rule acc now = (outR acc rule (acc, rule, sc, (hd + 1)) L, 0) by rw [HSP.out, if_neg h10])
              rw [HLN7.out] at h10 ⊢
              go_wp2_with fail
              refine bodyPost_ret (v := .tuple #[.slice A7 ml c7, .int .i64 0]) (by simp [results, Try.results18, go_sem]) rfl ?_
              exact spendE_mk HE9.out (own_baseQ (by rw [← HLN7.out]; exact O.out) HB5.out) (BW.out.trans (HB.out.mono HB5.out))
          | false =>
            have HPA2 := Lib.hid (show putS acc rule (acc, rule, sc, (hd + 1)) L = outR acc rule (acc, rule, sc, (hd + 1)) L ++ [(acc, rule, sc, (hd + 1))] by rw [HPA.out, if_neg (by decide)])
            rw [HPA2.out] at HSP
            obtain ⟨ml, hml⟩ : ∃ ml, (outR acc rule (acc, rule, sc, (hd + 1)) L ++ [(acc, rule, sc, (hd + 1))]).length = ml := ⟨_, rfl⟩
            have HLN7 := Lib.hid hml
            clear hml
            by_cases h10 : 1024 < (outR acc rule (acc, rule, sc, (hd + 1)) L ++ [(acc, rule, sc, (hd + 1))]).length
            · have HE9 := Lib.hid (show spendS L mo wi rule acc now = ([], 2) by rw [HSP.out, if_pos h10])
              rw [HLN7.out] at h10
              have OX := Lib.hid (O.out.below ((Below.refl wr.heap.size wr).alloc (Nat.le_refl _) (.cells #[.int .i64 acc, .int .i64 rule, .int .i64 sc, .int .i64 (hd + 1)] 45)))
              have VX := Lib.hid (Blk.new wr 45 #[.int .i64 acc, .int .i64 rule, .int .i64 sc, .int .i64 (hd + 1)])
              go_wp2_with (at_builtin; first | (refine wpList_app1 _ (by rfl) _ _ (by rfl) w5.heap.size _ _ _ acc rule sc ((hd + 1)) (by rfl) (by rfl) OX.out VX.out (by have := HOL.out; omega) (by simp; have := HSW.out; omega) ?_; intro v4 w8 ho4 hb4; have H4 := Lib.hid hb4; obtain ⟨A7, c7, e7, hc7, hm7, -, -⟩ := own_sliceQ ho4; rw [HLN7.out] at e7; have O4 := Lib.hid ho4; clear ho4 hb4 hc7 hm7; subst e7) | fail)
              go_wp2_with fail
              refine bodyPost_ret (v := .tuple #[.slice none 0 0, .int .i64 2]) (by simp [results, Try.results18, go_sem]) rfl ?_
              exact spendE_mk HE9.out (own_nilQ _ _) (BW.out.trans ((HB.out.trans (((Below.refl _ wr).alloc (by have := HSW.out; omega) _).trans H4.out)).mono HB5.out))
            · have HE9 := Lib.hid (show spendS L mo wi rule acc now = (outR acc rule (acc, rule, sc, (hd + 1)) L ++ [(acc, rule, sc, (hd + 1))], 0) by rw [HSP.out, if_neg h10])
              rw [HLN7.out] at h10
              have OX := Lib.hid (O.out.below ((Below.refl wr.heap.size wr).alloc (Nat.le_refl _) (.cells #[.int .i64 acc, .int .i64 rule, .int .i64 sc, .int .i64 (hd + 1)] 45)))
              have VX := Lib.hid (Blk.new wr 45 #[.int .i64 acc, .int .i64 rule, .int .i64 sc, .int .i64 (hd + 1)])
              go_wp2_with (at_builtin; first | (refine wpList_app1 _ (by rfl) _ _ (by rfl) w5.heap.size _ _ _ acc rule sc ((hd + 1)) (by rfl) (by rfl) OX.out VX.out (by have := HOL.out; omega) (by simp; have := HSW.out; omega) ?_; intro v4 w8 ho4 hb4; have H4 := Lib.hid hb4; obtain ⟨A7, c7, e7, hc7, hm7, -, -⟩ := own_sliceQ ho4; rw [HLN7.out] at e7; have O4 := Lib.hid ho4; clear ho4 hb4 hc7 hm7; subst e7) | fail)
              go_wp2_with fail
              refine bodyPost_ret (v := .tuple #[.slice A7 ml c7, .int .i64 0]) (by simp [results, Try.results18, go_sem]) rfl ?_
              exact spendE_mk HE9.out (own_baseQ O4.out HB5.out) (BW.out.trans ((HB.out.trans (((Below.refl _ wr).alloc (by have := HSW.out; omega) _).trans H4.out)).mono HB5.out))
end
end Go.Proofs.Ytnjmhijfaijopaa
