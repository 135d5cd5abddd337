/- Contracts of budget: Spend. (Printed by tools/gen_budget_k.py.) -/
import Derived.Test.YtnjmhijfaijopaaBudgetJ
import Derived.Test.YtnjmhijfaijopaaBudgetPlace
import Derived.Deep.QuietTactic
import Derived.BigQuiet
import Derived.WalkSmall
namespace Go.Proofs.Ytnjmhijfaijopaa
open Go.ChangeShapes Go.WideShapes Go.ChangeAt Go.RowKit Gs
set_option linter.unusedVariables false
set_option linter.unusedSimpArgs false

theorem own_baseQ {w : World} {B B' : Nat} {v : Value} {l : List Sp} (h : OwnQ w B v l) (hB : B' ≤ B) : OwnQ w B' v l := by
  refine ⟨h.1, ?_⟩
  rcases h.2 with h | ⟨g, cap, cur, e1, e2, e3⟩
  · exact .inl h
  · exact .inr ⟨g, cap, cur, e1, by omega, e3⟩
theorem row_cellsQ {w : World} {g : Nat} {cur : Array Value} {l : List Sp} (h : Blk w g 45 cur) (ht : cur.toList.take (l.length * 4) = cellsQ l) (k : Nat) (hk : k < l.length) :
    w.cell? ⟨g, k * 4, none⟩ = some (.int .i64 l[k].1) ∧ w.cell? ⟨g, k * 4 + 1, none⟩ = some (.int .i64 l[k].2.1) ∧ w.cell? ⟨g, k * 4 + 2, none⟩ = some (.int .i64 l[k].2.2.1) ∧ w.cell? ⟨g, k * 4 + 3, none⟩ = some (.int .i64 l[k].2.2.2) := by
  have := cellsQ_at l k hk
  rw [← ht] at this
  simp only [List.getElem?_take] at this
  rw [if_pos (by omega), if_pos (by omega), if_pos (by omega), if_pos (by omega)] at this
  rw [h.cell, h.cell, h.cell, h.cell]
  simpa using this
theorem take_set {l : List Value} {n i : Nat} (v : Value) : (l.set i v).take n = (l.take n).set i v := by
  apply List.ext_getElem?
  intro q
  simp only [List.getElem?_take, List.getElem?_set, List.length_take]
  by_cases h1 : q < n
  · by_cases h2 : i = q
    · subst h2; simp only [h1, if_true]; by_cases h3 : i < l.length
      · rw [if_pos h3, if_pos (by omega)]
      · rw [if_neg h3, if_neg (by omega)]
    · simp [h1, h2]
  · by_cases h2 : i = q
    · subst h2; simp only [h1, if_false, if_true]; rw [if_neg (by omega)]
    · simp [h1, h2]
theorem set_self : ∀ {l : List Value} {i : Nat} {v : Value}, l[i]? = some v → l.set i v = l
  | [], _, _, h => by simp at h
  | x :: l, 0, v, h => by simp at h; subst h; rfl
  | x :: l, i + 1, v, h => by rw [List.set_cons_succ, set_self (by simpa using h)]
theorem row_one (l : List Sp) (k : Nat) (hk : k < l.length) (acc rule m : Int) (h1 : l[k].1 = acc) (h2 : l[k].2.1 = rule) : cellsQ (l.set k (acc, rule, l[k].2.2.1, m)) = (cellsQ l).set (k * 4 + 3) (.int .i64 m) := by
  obtain ⟨c0, c1, c2, c3⟩ := cellsQ_at l k hk
  have e0 : (cellsQ l).set (k * 4) (.int .i64 acc) = cellsQ l := set_self (by rw [c0, h1])
  have e1 : (cellsQ l).set (k * 4 + 1) (.int .i64 rule) = cellsQ l := set_self (by rw [c1, h2])
  rw [cellsQ_set l k _ hk, e0, e1, set_self c2]
theorem row_setK {w : World} {B g cap n : Nat} {cur : Array Value} {cs : List Value} (h : Blk w g 45 cur) (hB : B ≤ g) (hc : n ≤ cap) (hm : cap ≤ maxLen) (hs : cur.size = cap * 4) (ht : cur.toList.take (n * 4) = cs) : w.ownsRow B 45 4 (.slice (some ⟨g, 0, none⟩) n cap) n cs :=
  ⟨by rw [← ht]; simp [hs]; omega, .inr ⟨g, cap, cur, rfl, hB, h, hc, hm, hs, ht⟩⟩
theorem own_lt {w : World} {B : Nat} {e : TypeId} {size n : Nat} {v : Value} {xs : List Value} (h : w.ownsRow B e size v n xs) : ∀ k, v.ownBlock = some k → k < w.heap.size := by
  intro k hk
  rcases h.2 with ⟨rfl, _⟩ | ⟨g, cap, cur, rfl, _, hg, _⟩
  · cases hk
  · cases hk; exact (Array.getElem?_eq_some_iff.1 hg).1
theorem OwnQ.raw {w : World} {B : Nat} {v : Value} {l : List Sp} (h : OwnQ w B v l) : w.ownsRow B 45 4 v l.length (cellsQ l) := h
theorem one_q (a b c d : Int) : ∀ u ∈ [Value.int .i64 a, .int .i64 b, .int .i64 c, .int .i64 d], u.oneCell' = true := cellsQ_one [(a, b, c, d)]
theorem own_blkQ2 {w : World} {B c n : Nat} {A : Option Addr} {l : List Sp} (h : OwnQ w B (.slice A n c) l) (h0 : 0 < l.length) : ∃ g cur, A = some ⟨g, 0, none⟩ ∧ B ≤ g ∧ Blk w g 45 cur ∧ l.length ≤ c ∧ c ≤ maxLen ∧ cur.size = c * 4 ∧ cur.toList.take (l.length * 4) = cellsQ l := by
  obtain ⟨g, cap, cur, hv, h1, h2, h3, h4, h5, h6⟩ := own_blkQ h h0
  injection hv with e1 e2 e3
  subst e1 e3
  exact ⟨g, cur, rfl, h1, h2, h3, h4, h5, h6⟩
theorem cellsQ_drop : ∀ (l : List Sp) (k : Nat), (cellsQ l).drop (k * 4) = cellsQ (l.drop k)
  | _, 0 => by simp
  | [], _ => by simp [cellsQ_nil]
  | p :: l, k + 1 => by rw [cellsQ_cons, show (k + 1) * 4 = k * 4 + 1 + 1 + 1 + 1 by omega, List.drop_succ_cons, List.drop_succ_cons, List.drop_succ_cons, List.drop_succ_cons, cellsQ_drop l k, List.drop_succ_cons]
theorem cellsQ_ins (l : List Sp) (k : Nat) (x : Sp) : cellsQ (l.take k ++ x :: l.drop k) = (cellsQ l).take (k * 4) ++ [.int .i64 x.1, .int .i64 x.2.1, .int .i64 x.2.2.1, .int .i64 x.2.2.2] ++ (cellsQ l).drop (k * 4) := by
  rw [cellsQ_append, cellsQ_cons, cellsQ_take, cellsQ_drop]; simp
def SpendE (L : List Sp) (mo wi rule acc now : Int) (w0 : World) (e : Ending) (w' : World) : Prop := ∃ v, e = .returned (.tuple #[v, .int .i64 (spendS L mo wi rule acc now).2]) ∧ OwnQ w' w0.heap.size v (spendS L mo wi rule acc now).1 ∧ Below w0.heap.size w0 w'
theorem spendE_mk {L X : List Sp} {mo wi rule acc now er : Int} {w0 w' : World} {v : Value} (h : spendS L mo wi rule acc now = (X, er)) (ho : OwnQ w' w0.heap.size v X) (hb : Below w0.heap.size w0 w') : SpendE L mo wi rule acc now w0 (.returned (.tuple #[v, .int .i64 er])) w' := by
  unfold SpendE; rw [h]; exact ⟨v, rfl, ho, hb⟩
section
variable (N : ByteArray) (al : Bool) (PA : Option Addr) (pn pc : Nat) (km lm mo wi : Int)
set_option maxHeartbeats 16000000 in
theorem Spend17_any (A : Option Addr) (c : Nat) (L : List Sp) (hl : L.length ≤ 1048576) (rule acc now : Int) (w : World) (hs : QS w w.heap.size A L) :
    Calls Try.prog 17 #[.slice A L.length c, .agg (rcs N al PA pn pc km lm mo wi), .int .i64 rule, .int .i64 acc, .int .i64 now] w (SpendE L mo wi rule acc now w) := by
  have hl0 : L.length ≤ 70368744177664 := by omega
  have HS := Lib.hid (hs)
  clear hs
  have P1 := Lib.hid (mayAsk_any N al PA pn pc km lm mo wi A c L hl0 rule acc now)
  have P2 := Lib.hid (limits_any N al PA pn pc km lm mo wi)
  have PL := Lib.hid (fun A c w hs => Left17_any N al PA pn pc km lm mo wi A c L hl0 rule acc now w hs)
  have PF := Lib.hid (fun A c w hs => find_any acc rule A c L hl0 w hs)
  have X := Lib.hid ((Blk.new w 28 #[.string N, .bool al, .slice PA pn pc, .int .u64 km, .int .i64 lm, .int .i64 mo, .int .i64 wi]).alloc (.cells #[.int .i64 acc, .int .i64 rule] 49))
  have Y := Lib.hid (Blk.new_at (g := w.heap.size + 1) (w.alloc (.cells #[.string N, .bool al, .slice PA pn pc, .int .u64 km, .int .i64 lm, .int .i64 mo, .int .i64 wi] 28)) 49 #[.int .i64 acc, .int .i64 rule] (by simp))
  have hb0 := (Below.refl w.heap.size w).alloc (Nat.le_refl _) (.cells #[.string N, .bool al, .slice PA pn pc, .int .u64 km, .int .i64 lm, .int .i64 mo, .int .i64 wi] 28)
  have hb1 := hb0.alloc hb0.size (.cells #[.int .i64 acc, .int .i64 rule] 49)
  have B0 := Lib.hid (hb1)
  clear hb0 hb1
  by_cases hE : askE L mo wi rule acc now = 0
  rotate_left 1
  · have hee : (askE L mo wi rule acc now != 0) = true := by simpa using hE
    have HE := Lib.hid (show spendS L mo wi rule acc now = ([], askE L mo wi rule acc now) from if_neg hE)
    clear hE
    go_enter Try.func17, Try.ntmps17
    go_wp2_with fail
    generalize ((w.alloc (.cells #[.string N, .bool al, .slice PA pn pc, .int .u64 km, .int .i64 lm, .int .i64 mo, .int .i64 wi] 28)).alloc (.cells #[.int .i64 acc, .int .i64 rule] 49)) = w0 at B0 X Y ⊢
    have x0 : w0.cell? ⟨w.heap.size, 0, none⟩ = some (.string N) := X.out.cell 0
    have x1 : w0.cell? ⟨w.heap.size, 1, none⟩ = some (.bool al) := X.out.cell 1
    have x2 : w0.cell? ⟨w.heap.size, 2, none⟩ = some (.slice PA pn pc) := X.out.cell 2
    have x3 : w0.cell? ⟨w.heap.size, 3, none⟩ = some (.int .u64 km) := X.out.cell 3
    have x4 : w0.cell? ⟨w.heap.size, 4, none⟩ = some (.int .i64 lm) := X.out.cell 4
    have x5 : w0.cell? ⟨w.heap.size, 5, none⟩ = some (.int .i64 mo) := X.out.cell 5
    have x6 : w0.cell? ⟨w.heap.size, 6, none⟩ = some (.int .i64 wi) := X.out.cell 6
    have y0 : w0.cell? ⟨w.heap.size + 1, 0, none⟩ = some (.int .i64 acc) := Y.out.cell 0
    have y1 : w0.cell? ⟨w.heap.size + 1, 1, none⟩ = some (.int .i64 rule) := Y.out.cell 1
    go_wp2_with fail
    (with_reducible refine (P1.out _ (HS.out.on B0.out)).mono ?_)
    rintro e w1 ⟨rfl, b⟩
    clear x0 x1 x2 x3 x4 x5 x6 y0 y1
    have B1 := Lib.hid (below_on B0.out b)
    replace X := Lib.hid (X.out.below b X.out.lt)
    replace Y := Lib.hid (Y.out.below b Y.out.lt)
    clear b
    go_wp2_with fail
    refine bodyPost_ret (v := .tuple #[.slice none 0 0, .int .i64 (askE L mo wi rule acc now)]) (by simp [results, Try.results17, go_sem]) rfl ?_
    exact spendE_mk HE.out (own_nilQ _ _) B1.out
  have HOK := Lib.hid (askE_ok hE)
  have HLN := Lib.hid (chkS_ok (askE_is.1 hE).1).2
  have HE := Lib.hid hE
  rw [hE] at P1
  clear hE
  go_enter Try.func17, Try.ntmps17
  go_wp2_with fail
  generalize ((w.alloc (.cells #[.string N, .bool al, .slice PA pn pc, .int .u64 km, .int .i64 lm, .int .i64 mo, .int .i64 wi] 28)).alloc (.cells #[.int .i64 acc, .int .i64 rule] 49)) = w0 at B0 X Y ⊢
  have x0 : w0.cell? ⟨w.heap.size, 0, none⟩ = some (.string N) := X.out.cell 0
  have x1 : w0.cell? ⟨w.heap.size, 1, none⟩ = some (.bool al) := X.out.cell 1
  have x2 : w0.cell? ⟨w.heap.size, 2, none⟩ = some (.slice PA pn pc) := X.out.cell 2
  have x3 : w0.cell? ⟨w.heap.size, 3, none⟩ = some (.int .u64 km) := X.out.cell 3
  have x4 : w0.cell? ⟨w.heap.size, 4, none⟩ = some (.int .i64 lm) := X.out.cell 4
  have x5 : w0.cell? ⟨w.heap.size, 5, none⟩ = some (.int .i64 mo) := X.out.cell 5
  have x6 : w0.cell? ⟨w.heap.size, 6, none⟩ = some (.int .i64 wi) := X.out.cell 6
  have y0 : w0.cell? ⟨w.heap.size + 1, 0, none⟩ = some (.int .i64 acc) := Y.out.cell 0
  have y1 : w0.cell? ⟨w.heap.size + 1, 1, none⟩ = some (.int .i64 rule) := Y.out.cell 1
  go_wp2_with fail
  (with_reducible refine (P1.out _ (HS.out.on B0.out)).mono ?_)
  rintro e w1 ⟨rfl, b⟩
  clear x0 x1 x2 x3 x4 x5 x6 y0 y1
  have B1 := Lib.hid (below_on B0.out b)
  replace X := Lib.hid (X.out.below b X.out.lt)
  replace Y := Lib.hid (Y.out.below b Y.out.lt)
  clear b
  have x0 : w1.cell? ⟨w.heap.size, 0, none⟩ = some (.string N) := X.out.cell 0
  have x1 : w1.cell? ⟨w.heap.size, 1, none⟩ = some (.bool al) := X.out.cell 1
  have x2 : w1.cell? ⟨w.heap.size, 2, none⟩ = some (.slice PA pn pc) := X.out.cell 2
  have x3 : w1.cell? ⟨w.heap.size, 3, none⟩ = some (.int .u64 km) := X.out.cell 3
  have x4 : w1.cell? ⟨w.heap.size, 4, none⟩ = some (.int .i64 lm) := X.out.cell 4
  have x5 : w1.cell? ⟨w.heap.size, 5, none⟩ = some (.int .i64 mo) := X.out.cell 5
  have x6 : w1.cell? ⟨w.heap.size, 6, none⟩ = some (.int .i64 wi) := X.out.cell 6
  have y0 : w1.cell? ⟨w.heap.size + 1, 0, none⟩ = some (.int .i64 acc) := Y.out.cell 0
  have y1 : w1.cell? ⟨w.heap.size + 1, 1, none⟩ = some (.int .i64 rule) := Y.out.cell 1
  go_wp2_with fail
  (with_reducible refine (Clone_anyQ A L.length c (cellsQ L) hl _ (reads_qs (HS.out.on B1.out)) (cellsQ_one L)).mono ?_)
  rintro e w2 ⟨v, rfl, ho, b⟩
  clear x0 x1 x2 x3 x4 x5 x6 y0 y1
  have B2 := Lib.hid (below_on B1.out b)
  replace X := Lib.hid (X.out.below b X.out.lt)
  replace Y := Lib.hid (Y.out.below b Y.out.lt)
  clear b
  have O := Lib.hid (own_baseQ (own_q ho rfl rfl) B1.out.size)
  clear ho
  obtain ⟨A2, c2, rfl, hlc, hcm, hqs, hge⟩ := own_sliceQ O.out
  have Q := Lib.hid hqs
  have HC2 := Lib.hid (And.intro hlc hcm)
  clear hqs hge hlc hcm
  have x0 : w2.cell? ⟨w.heap.size, 0, none⟩ = some (.string N) := X.out.cell 0
  have x1 : w2.cell? ⟨w.heap.size, 1, none⟩ = some (.bool al) := X.out.cell 1
  have x2 : w2.cell? ⟨w.heap.size, 2, none⟩ = some (.slice PA pn pc) := X.out.cell 2
  have x3 : w2.cell? ⟨w.heap.size, 3, none⟩ = some (.int .u64 km) := X.out.cell 3
  have x4 : w2.cell? ⟨w.heap.size, 4, none⟩ = some (.int .i64 lm) := X.out.cell 4
  have x5 : w2.cell? ⟨w.heap.size, 5, none⟩ = some (.int .i64 mo) := X.out.cell 5
  have x6 : w2.cell? ⟨w.heap.size, 6, none⟩ = some (.int .i64 wi) := X.out.cell 6
  have y0 : w2.cell? ⟨w.heap.size + 1, 0, none⟩ = some (.int .i64 acc) := Y.out.cell 0
  have y1 : w2.cell? ⟨w.heap.size + 1, 1, none⟩ = some (.int .i64 rule) := Y.out.cell 1
  go_wp2_with fail
  (with_reducible refine (P2.out _).mono ?_)
  rintro e w3 ⟨rfl, b⟩
  clear x0 x1 x2 x3 x4 x5 x6 y0 y1
  have B3 := Lib.hid (below_on B2.out b)
  replace X := Lib.hid (X.out.below b X.out.lt)
  replace Y := Lib.hid (Y.out.below b Y.out.lt)
  replace O := Lib.hid (O.out.below b)
  replace Q := Lib.hid (Q.out.on b)
  clear b
  by_cases hm0 : mo = 0
  · have g0 : decide (0 < mo) = false := decide_eq_false (by omega)
    have HR := Lib.hid (show spendS L mo wi rule acc now = (L, 0) from by unfold spendS; rw [if_pos HE.out, if_pos hm0])
    clear hm0
    go_wp2_with fail
    refine bodyPost_ret (v := .tuple #[.slice A2 L.length c2, .int .i64 0]) (by simp [results, Try.results17, go_sem]) rfl ?_
    exact spendE_mk HR.out O.out B3.out
  have g0 : decide (0 < mo) = true := decide_eq_true (by have := (rmB_iff.1 HOK.out.2.1).1.1; omega)
  have HM0 := Lib.hid (hm0)
  clear hm0
  have x0 : w3.cell? ⟨w.heap.size, 0, none⟩ = some (.string N) := X.out.cell 0
  have x1 : w3.cell? ⟨w.heap.size, 1, none⟩ = some (.bool al) := X.out.cell 1
  have x2 : w3.cell? ⟨w.heap.size, 2, none⟩ = some (.slice PA pn pc) := X.out.cell 2
  have x3 : w3.cell? ⟨w.heap.size, 3, none⟩ = some (.int .u64 km) := X.out.cell 3
  have x4 : w3.cell? ⟨w.heap.size, 4, none⟩ = some (.int .i64 lm) := X.out.cell 4
  have x5 : w3.cell? ⟨w.heap.size, 5, none⟩ = some (.int .i64 mo) := X.out.cell 5
  have x6 : w3.cell? ⟨w.heap.size, 6, none⟩ = some (.int .i64 wi) := X.out.cell 6
  have y0 : w3.cell? ⟨w.heap.size + 1, 0, none⟩ = some (.int .i64 acc) := Y.out.cell 0
  have y1 : w3.cell? ⟨w.heap.size + 1, 1, none⟩ = some (.int .i64 rule) := Y.out.cell 1
  obtain ⟨lf, hlf⟩ : ∃ lf, leftS L mo wi rule acc now = lf := ⟨_, rfl⟩
  have HLF := Lib.hid hlf
  rw [hlf] at PL
  clear hlf
  go_wp2_with fail
  (with_reducible refine (PL.out A2 c2 _ Q.out).mono ?_)
  rintro e w4 ⟨rfl, b⟩
  clear x0 x1 x2 x3 x4 x5 x6 y0 y1
  have B4 := Lib.hid (below_on B3.out b)
  replace X := Lib.hid (X.out.below b X.out.lt)
  replace Y := Lib.hid (Y.out.below b Y.out.lt)
  replace O := Lib.hid (O.out.below b)
  replace Q := Lib.hid (Q.out.on b)
  clear b
  by_cases hlf0 : lf = 0
  · subst hlf0
    go_wp2_with fail
    refine bodyPost_ret (v := .tuple #[.slice none 0 0, .int .i64 170]) (by simp [results, Try.results17, go_sem]) rfl ?_
    exact spendE_mk ((left_zero HE.out HM0.out).1 HLF.out) (own_nilQ _ _) B4.out
  have glf : (lf == 0) = false := by simpa using hlf0
  have HLN0 := Lib.hid (show ¬ leftS L mo wi rule acc now = 0 from by rw [HLF.out]; exact hlf0)
  clear hlf0
  have na := (Below.refl w4.heap.size w4).alloc (Nat.le_refl _) (.cells #[.int .i64 acc, .int .i64 rule, .int .i64 now, .int .i64 1] 45)
  replace X := Lib.hid (X.out.alloc (.cells #[.int .i64 acc, .int .i64 rule, .int .i64 now, .int .i64 1] 45))
  replace Y := Lib.hid (Y.out.alloc (.cells #[.int .i64 acc, .int .i64 rule, .int .i64 now, .int .i64 1] 45))
  replace O := Lib.hid (O.out.below na)
  replace Q := Lib.hid (Q.out.on na)
  have B5 := Lib.hid (below_on B4.out na)
  have Z := Lib.hid (Blk.new w4 45 #[.int .i64 acc, .int .i64 rule, .int .i64 now, .int .i64 1])
  clear na
  have x0 : (w4.alloc (.cells #[.int .i64 acc, .int .i64 rule, .int .i64 now, .int .i64 1] 45)).cell? ⟨w.heap.size, 0, none⟩ = some (.string N) := X.out.cell 0
  have x1 : (w4.alloc (.cells #[.int .i64 acc, .int .i64 rule, .int .i64 now, .int .i64 1] 45)).cell? ⟨w.heap.size, 1, none⟩ = some (.bool al) := X.out.cell 1
  have x2 : (w4.alloc (.cells #[.int .i64 acc, .int .i64 rule, .int .i64 now, .int .i64 1] 45)).cell? ⟨w.heap.size, 2, none⟩ = some (.slice PA pn pc) := X.out.cell 2
  have x3 : (w4.alloc (.cells #[.int .i64 acc, .int .i64 rule, .int .i64 now, .int .i64 1] 45)).cell? ⟨w.heap.size, 3, none⟩ = some (.int .u64 km) := X.out.cell 3
  have x4 : (w4.alloc (.cells #[.int .i64 acc, .int .i64 rule, .int .i64 now, .int .i64 1] 45)).cell? ⟨w.heap.size, 4, none⟩ = some (.int .i64 lm) := X.out.cell 4
  have x5 : (w4.alloc (.cells #[.int .i64 acc, .int .i64 rule, .int .i64 now, .int .i64 1] 45)).cell? ⟨w.heap.size, 5, none⟩ = some (.int .i64 mo) := X.out.cell 5
  have x6 : (w4.alloc (.cells #[.int .i64 acc, .int .i64 rule, .int .i64 now, .int .i64 1] 45)).cell? ⟨w.heap.size, 6, none⟩ = some (.int .i64 wi) := X.out.cell 6
  have y0 : (w4.alloc (.cells #[.int .i64 acc, .int .i64 rule, .int .i64 now, .int .i64 1] 45)).cell? ⟨w.heap.size + 1, 0, none⟩ = some (.int .i64 acc) := Y.out.cell 0
  have y1 : (w4.alloc (.cells #[.int .i64 acc, .int .i64 rule, .int .i64 now, .int .i64 1] 45)).cell? ⟨w.heap.size + 1, 1, none⟩ = some (.int .i64 rule) := Y.out.cell 1
  have z0 : (w4.alloc (.cells #[.int .i64 acc, .int .i64 rule, .int .i64 now, .int .i64 1] 45)).cell? ⟨w4.heap.size, 0, none⟩ = some (.int .i64 acc) := Z.out.cell 0
  have z1 : (w4.alloc (.cells #[.int .i64 acc, .int .i64 rule, .int .i64 now, .int .i64 1] 45)).cell? ⟨w4.heap.size, 1, none⟩ = some (.int .i64 rule) := Z.out.cell 1
  have z2 : (w4.alloc (.cells #[.int .i64 acc, .int .i64 rule, .int .i64 now, .int .i64 1] 45)).cell? ⟨w4.heap.size, 2, none⟩ = some (.int .i64 now) := Z.out.cell 2
  have z3 : (w4.alloc (.cells #[.int .i64 acc, .int .i64 rule, .int .i64 now, .int .i64 1] 45)).cell? ⟨w4.heap.size, 3, none⟩ = some (.int .i64 1) := Z.out.cell 3
  go_wp2_with fail
  generalize w4.alloc (.cells #[.int .i64 acc, .int .i64 rule, .int .i64 now, .int .i64 1] 45) = w5 at B5 X Y Z O Q x0 x1 x2 x3 x4 x5 x6 y0 y1 z0 z1 z2 z3 ⊢
  (with_reducible refine (PF.out A2 c2 _ Q.out).mono ?_)
  rintro e w6 ⟨⟨k, fd, rfl, hk, hbef, hat, hend⟩, b⟩
  clear x0 x1 x2 x3 x4 x5 x6 y0 y1 z0 z1 z2 z3
  have B6 := Lib.hid (below_on B5.out b)
  replace X := Lib.hid (X.out.below b X.out.lt)
  replace Y := Lib.hid (Y.out.below b Y.out.lt)
  replace Z := Lib.hid (Z.out.below b Z.out.lt)
  replace O := Lib.hid (O.out.below b)
  replace Q := Lib.hid (Q.out.on b)
  clear b
  have HBF := Lib.hid hbef
  have HAT := Lib.hid hat
  clear hbef hat
  cases fd with
  | true =>
    have hkl : k < L.length := by
      rcases Nat.lt_or_ge k L.length with h | h
      · exact h
      · exact absurd (hend (by omega)) (by decide)
    obtain ⟨hge, hfd⟩ := HAT.out hkl
    have HGE := Lib.hid hge
    have HO1 := Lib.hid (show isO acc rule L[k] = true by unfold isO; rw [← hfd])
    clear hend hge hfd
    obtain ⟨g, cur, rfl, hg, hblk, hcap, hcapm, hcs, htk⟩ := own_blkQ2 O.out (by omega)
    have BK := Lib.hid hblk
    have RW := Lib.hid (And.intro hg (And.intro hcap (And.intro hcapm (And.intro hcs htk))))
    obtain ⟨y0, y1, y2, y3⟩ := row_cellsQ hblk htk k hkl
    have HMY := Lib.hid (mayS_iff.1 (okS_may HOK.out.1 L[k] (List.getElem_mem hkl)))
    have HON := Lib.hid (fun hon => spend_on HOK.out.1 k HBF.out (fun _ => HGE.out) HE.out HM0.out HLN0.out HLN.out hkl HO1.out (now := now) hon)
    have HOF := Lib.hid (fun hon => spend_off HOK.out.1 k HBF.out (fun _ => HGE.out) HE.out HM0.out HLN0.out HLN.out hkl HO1.out (now := now) hon)
    have HR1 := Lib.hid (fun m => row_one L k hkl acc rule m (isO_iff.1 HO1.out).1 (isO_iff.1 HO1.out).2)
    have HR4 := Lib.hid (fun x => cellsQ_set L k x hkl)
    have hk0 : (0 : Int) ≤ (k : Int) := by omega
    have hk1 : (k : Int) < (L.length : Int) := by omega
    clear hblk hg hcap hcapm hcs htk
    generalize L[k].1 = a, L[k].2.1 = r0, L[k].2.2.1 = s, L[k].2.2.2 = m at y0 y1 y2 y3 HMY HON HOF HR1
    have hw0 : IntKind.i64.wrap (now - s) = now - s := IntWalk.i64_in _ (by have := HMY.out; have := nmB_iff.1 HOK.out.2.2.2.2; omega)
    have hwm : IntKind.i64.wrap (m + 1) = m + 1 := IntWalk.i64_in _ (by have := HMY.out; omega)
    have PI := Lib.hid (isOn_any N al PA pn pc km lm mo wi a r0 s m now hw0)
    clear hw0
    have x0 : w6.cell? ⟨w.heap.size, 0, none⟩ = some (.string N) := X.out.cell 0
    have x1 : w6.cell? ⟨w.heap.size, 1, none⟩ = some (.bool al) := X.out.cell 1
    have x2 : w6.cell? ⟨w.heap.size, 2, none⟩ = some (.slice PA pn pc) := X.out.cell 2
    have x3 : w6.cell? ⟨w.heap.size, 3, none⟩ = some (.int .u64 km) := X.out.cell 3
    have x4 : w6.cell? ⟨w.heap.size, 4, none⟩ = some (.int .i64 lm) := X.out.cell 4
    have x5 : w6.cell? ⟨w.heap.size, 5, none⟩ = some (.int .i64 mo) := X.out.cell 5
    have x6 : w6.cell? ⟨w.heap.size, 6, none⟩ = some (.int .i64 wi) := X.out.cell 6
    by_cases hu : now - s < wi
    · have gu : decide (now - s < wi) = true := decide_eq_true hu
      rw [gu] at PI
      have HR := Lib.hid (HON.out hu)
      clear hu gu HON HOF
      go_wp2_with fail
      have hW := (Below.refl w6.heap.size w6).drew
      have lt0 := BK.out.lt
      have lt1 := BK.out.lt
      have lt2 := BK.out.lt
      have lt3 := BK.out.lt
      have lt4 := X.out.lt
      have lt5 := X.out.lt
      have lt6 := X.out.lt
      have lt7 := X.out.lt
      have lt8 := X.out.lt
      have lt9 := X.out.lt
      have lt10 := X.out.lt
      first | (go_loud (go_region_held_law (fun w' => w'.cell? ⟨g, k * 4, none⟩ = some (.int .i64 a) ∧ w'.cell? ⟨g, k * 4 + 1, none⟩ = some (.int .i64 r0) ∧ w'.cell? ⟨g, k * 4 + 2, none⟩ = some (.int .i64 s) ∧ w'.cell? ⟨g, k * 4 + 3, none⟩ = some (.int .i64 m) ∧ w'.cell? ⟨w.heap.size, 0, none⟩ = some (.string N) ∧ w'.cell? ⟨w.heap.size, 1, none⟩ = some (.bool al) ∧ w'.cell? ⟨w.heap.size, 2, none⟩ = some (.slice PA pn pc) ∧ w'.cell? ⟨w.heap.size, 3, none⟩ = some (.int .u64 km) ∧ w'.cell? ⟨w.heap.size, 4, none⟩ = some (.int .i64 lm) ∧ w'.cell? ⟨w.heap.size, 5, none⟩ = some (.int .i64 mo) ∧ w'.cell? ⟨w.heap.size, 6, none⟩ = some (.int .i64 wi)) (first | exact ⟨by assumption, by assumption, by assumption, by assumption, by assumption, by assumption, by assumption, by assumption, by assumption, by assumption, by assumption⟩ | go_keep)
        (first
          | (go_at_call 31; with_reducible refine (PI.out _).mono ?_; rintro _ wx ⟨rfl, b⟩; have hW := below_on hW b; have y0x := (hW.cell (p := ⟨g, k * 4, none⟩) lt0).trans y0; have y1x := (hW.cell (p := ⟨g, k * 4 + 1, none⟩) lt1).trans y1; have y2x := (hW.cell (p := ⟨g, k * 4 + 2, none⟩) lt2).trans y2; have y3x := (hW.cell (p := ⟨g, k * 4 + 3, none⟩) lt3).trans y3; have x0x := (hW.cell (p := ⟨w.heap.size, 0, none⟩) lt4).trans x0; have x1x := (hW.cell (p := ⟨w.heap.size, 1, none⟩) lt5).trans x1; have x2x := (hW.cell (p := ⟨w.heap.size, 2, none⟩) lt6).trans x2; have x3x := (hW.cell (p := ⟨w.heap.size, 3, none⟩) lt7).trans x3; have x4x := (hW.cell (p := ⟨w.heap.size, 4, none⟩) lt8).trans x4; have x5x := (hW.cell (p := ⟨w.heap.size, 5, none⟩) lt9).trans x5; have x6x := (hW.cell (p := ⟨w.heap.size, 6, none⟩) lt10).trans x6)))) | fail "held"
      have BK2 := Lib.hid (BK.out.below hW BK.out.lt)
      have Z2 := Lib.hid (Z.out.below hW Z.out.lt)
      have BW := Lib.hid (below_on B6.out hW)
      have f0 := BK2.out.free (k * 4)
      have f1 := BK2.out.free (k * 4 + 1)
      have f2 := BK2.out.free (k * 4 + 2)
      have f3 := BK2.out.free (k * 4 + 3)
      all_goals (try go_wp2_with fail)
      refine bodyPost_ret (v := .tuple #[.slice (some ⟨g, 0, none⟩) L.length c2, .int .i64 0]) (by simp [results, Try.results17, go_sem]) rfl ?_
      refine spendE_mk HR.out ?_ (BW.out.setCell (by have := RW.out.1; omega) _)
      refine own_q (row_setK (BK2.out.set (k * 4 + 3) _) RW.out.1 RW.out.2.1 RW.out.2.2.1 (by simp [RW.out.2.2.2.1]) ?_) (by simp) (HR1.out _).symm
      rw [Array.toList_setIfInBounds, take_set, RW.out.2.2.2.2]
    · have gu : decide (now - s < wi) = false := decide_eq_false hu
      rw [gu] at PI
      have HR := Lib.hid (HOF.out hu)
      clear hu gu HON HOF
      go_wp2_with fail
      have hW := (Below.refl w6.heap.size w6).drew
      have lt0 := BK.out.lt
      have lt1 := BK.out.lt
      have lt2 := BK.out.lt
      have lt3 := BK.out.lt
      have lt4 := X.out.lt
      have lt5 := X.out.lt
      have lt6 := X.out.lt
      have lt7 := X.out.lt
      have lt8 := X.out.lt
      have lt9 := X.out.lt
      have lt10 := X.out.lt
      first | (go_loud (go_region_held_law (fun w' => w'.cell? ⟨g, k * 4, none⟩ = some (.int .i64 a) ∧ w'.cell? ⟨g, k * 4 + 1, none⟩ = some (.int .i64 r0) ∧ w'.cell? ⟨g, k * 4 + 2, none⟩ = some (.int .i64 s) ∧ w'.cell? ⟨g, k * 4 + 3, none⟩ = some (.int .i64 m) ∧ w'.cell? ⟨w.heap.size, 0, none⟩ = some (.string N) ∧ w'.cell? ⟨w.heap.size, 1, none⟩ = some (.bool al) ∧ w'.cell? ⟨w.heap.size, 2, none⟩ = some (.slice PA pn pc) ∧ w'.cell? ⟨w.heap.size, 3, none⟩ = some (.int .u64 km) ∧ w'.cell? ⟨w.heap.size, 4, none⟩ = some (.int .i64 lm) ∧ w'.cell? ⟨w.heap.size, 5, none⟩ = some (.int .i64 mo) ∧ w'.cell? ⟨w.heap.size, 6, none⟩ = some (.int .i64 wi)) (first | exact ⟨by assumption, by assumption, by assumption, by assumption, by assumption, by assumption, by assumption, by assumption, by assumption, by assumption, by assumption⟩ | go_keep)
        (first
          | (go_at_call 31; with_reducible refine (PI.out _).mono ?_; rintro _ wx ⟨rfl, b⟩; have hW := below_on hW b; have y0x := (hW.cell (p := ⟨g, k * 4, none⟩) lt0).trans y0; have y1x := (hW.cell (p := ⟨g, k * 4 + 1, none⟩) lt1).trans y1; have y2x := (hW.cell (p := ⟨g, k * 4 + 2, none⟩) lt2).trans y2; have y3x := (hW.cell (p := ⟨g, k * 4 + 3, none⟩) lt3).trans y3; have x0x := (hW.cell (p := ⟨w.heap.size, 0, none⟩) lt4).trans x0; have x1x := (hW.cell (p := ⟨w.heap.size, 1, none⟩) lt5).trans x1; have x2x := (hW.cell (p := ⟨w.heap.size, 2, none⟩) lt6).trans x2; have x3x := (hW.cell (p := ⟨w.heap.size, 3, none⟩) lt7).trans x3; have x4x := (hW.cell (p := ⟨w.heap.size, 4, none⟩) lt8).trans x4; have x5x := (hW.cell (p := ⟨w.heap.size, 5, none⟩) lt9).trans x5; have x6x := (hW.cell (p := ⟨w.heap.size, 6, none⟩) lt10).trans x6)))) | fail "held"
      have BK2 := Lib.hid (BK.out.below hW BK.out.lt)
      have Z2 := Lib.hid (Z.out.below hW Z.out.lt)
      have BW := Lib.hid (below_on B6.out hW)
      have f0 := BK2.out.free (k * 4)
      have f1 := BK2.out.free (k * 4 + 1)
      have f2 := BK2.out.free (k * 4 + 2)
      have f3 := BK2.out.free (k * 4 + 3)
      have z0 : wx.cell? ⟨w4.heap.size, 0, none⟩ = some (.int .i64 acc) := Z2.out.cell 0
      have z1 : wx.cell? ⟨w4.heap.size, 1, none⟩ = some (.int .i64 rule) := Z2.out.cell 1
      have z2 : wx.cell? ⟨w4.heap.size, 2, none⟩ = some (.int .i64 now) := Z2.out.cell 2
      have z3 : wx.cell? ⟨w4.heap.size, 3, none⟩ = some (.int .i64 1) := Z2.out.cell 3
      all_goals (try go_wp2_with fail)
      refine bodyPost_ret (v := .tuple #[.slice (some ⟨g, 0, none⟩) L.length c2, .int .i64 0]) (by simp [results, Try.results17, go_sem]) rfl ?_
      refine spendE_mk HR.out ?_ ((((BW.out.setCell (by have := RW.out.1; omega) _).setCell (by have := RW.out.1; omega) _).setCell (by have := RW.out.1; omega) _).setCell (by have := RW.out.1; omega) _)
      refine own_q (row_setK ((((BK2.out.set (k * 4) _).set (k * 4 + 1) _).set (k * 4 + 2) _).set (k * 4 + 3) _) RW.out.1 RW.out.2.1 RW.out.2.2.1 (by simp [RW.out.2.2.2.1]) ?_) (by simp) (HR4.out _).symm
      rw [Array.toList_setIfInBounds, take_set, Array.toList_setIfInBounds, take_set, Array.toList_setIfInBounds, take_set, Array.toList_setIfInBounds, take_set, RW.out.2.2.2.2]
  | false =>
    have HNO := Lib.hid (show ∀ h : k < L.length, isO acc rule L[k] = false from fun h => by unfold isO; rw [← (HAT.out h).2])
    have HR := Lib.hid (spend_ins HOK.out.1 k HBF.out (fun h => (HAT.out h).1) HE.out HM0.out HLN0.out hk HNO.out (now := now))
    clear hend
    by_cases hfull : L.length = 1024
    · have gf : ((L.length : Int) == 1024) = true := by rw [hfull]; rfl
      have HF := Lib.hid (hfull)
      clear hfull
      go_wp2_with fail
      go_quiet (fail)
      have b := below_drewN (Below.refl w6.heap.size w6) nq
      generalize w6.drewN nq = w7 at b ⊢
      have B7 := Lib.hid (below_on B6.out b)
      replace X := Lib.hid (X.out.below b X.out.lt)
      replace Y := Lib.hid (Y.out.below b Y.out.lt)
      replace Z := Lib.hid (Z.out.below b Z.out.lt)
      replace O := Lib.hid (O.out.below b)
      replace Q := Lib.hid (Q.out.on b)
      clear b
      go_wp2_with fail
      refine bodyPost_ret (v := .tuple #[.slice none 0 0, .int .i64 2]) (by simp [results, Try.results17, go_sem]) rfl ?_
      exact spendE_mk (by rw [HR.out, if_pos (by have := HF.out; omega)]) (own_nilQ _ _) B7.out
    · have gf : ((L.length : Int) == 1024) = false := by simpa using (fun e : (L.length : Int) = 1024 => hfull (by omega))
      have HF := Lib.hid (hfull)
      clear hfull
      go_wp2_with fail
      go_quiet (fail)
      have b := below_drewN (Below.refl w6.heap.size w6) nq
      generalize w6.drewN nq = w7 at b ⊢
      have B7 := Lib.hid (below_on B6.out b)
      replace X := Lib.hid (X.out.below b X.out.lt)
      replace Y := Lib.hid (Y.out.below b Y.out.lt)
      replace Z := Lib.hid (Z.out.below b Z.out.lt)
      replace O := Lib.hid (O.out.below b)
      replace Q := Lib.hid (Q.out.on b)
      clear b
      have HLT := Lib.hid (own_lt O.out)
      have z0 : w7.cell? ⟨w4.heap.size, 0, none⟩ = some (.int .i64 acc) := Z.out.cell 0
      have z1 : w7.cell? ⟨w4.heap.size, 1, none⟩ = some (.int .i64 rule) := Z.out.cell 1
      have z2 : w7.cell? ⟨w4.heap.size, 2, none⟩ = some (.int .i64 now) := Z.out.cell 2
      have z3 : w7.cell? ⟨w4.heap.size, 3, none⟩ = some (.int .i64 1) := Z.out.cell 3
      have na := (Below.refl w7.heap.size w7).alloc (Nat.le_refl _) (.cells #[.int .i64 acc, .int .i64 rule, .int .i64 now, .int .i64 1] 45)
      replace X := Lib.hid (X.out.alloc (.cells #[.int .i64 acc, .int .i64 rule, .int .i64 now, .int .i64 1] 45))
      replace Y := Lib.hid (Y.out.alloc (.cells #[.int .i64 acc, .int .i64 rule, .int .i64 now, .int .i64 1] 45))
      replace Z := Lib.hid (Z.out.alloc (.cells #[.int .i64 acc, .int .i64 rule, .int .i64 now, .int .i64 1] 45))
      replace O := Lib.hid (O.out.below na)
      replace Q := Lib.hid (Q.out.on na)
      have B8 := Lib.hid (below_on B7.out na)
      have V := Lib.hid (Blk.new w7 45 #[.int .i64 acc, .int .i64 rule, .int .i64 now, .int .i64 1])
      clear na
      go_wp2_with fail
      generalize w7.alloc (.cells #[.int .i64 acc, .int .i64 rule, .int .i64 now, .int .i64 1] 45) = w8 at B8 X Y Z V O Q z0 z1 z2 z3 ⊢
      (with_reducible refine (Insert_any w.heap.size _ L.length k (cellsQ L) [.int .i64 acc, .int .i64 rule, .int .i64 now, .int .i64 1] w7.heap.size hk hl _ B8.out.size O.out.raw (cellsQ_one L) V.out rfl (one_q acc rule now 1) (fun g e => by have := HLT.out g e; omega)).mono ?_)
      rintro e wz ⟨v, rfl, ho, b⟩
      have HZ := Lib.hid (And.intro ho (B8.out.trans b))
      clear ho b
      clear z0 z1 z2 z3
      go_wp2_with fail
      refine bodyPost_ret (v := .tuple #[v, .int .i64 0]) (by simp [results, Try.results17, go_sem]) rfl ?_
      exact spendE_mk (by rw [HR.out, if_neg (by have := HF.out; have := HLN.out; omega)]) (own_q HZ.out.1 (by simp; omega) (cellsQ_ins L k (acc, rule, now, 1)).symm) HZ.out.2
end
end Go.Proofs.Ytnjmhijfaijopaa
