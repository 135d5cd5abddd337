/- The walk of the law DerOnly. -/
import Derived.Test.YtdphepglcecdjaaDerX
namespace Go.Proofs.Ytdphepglcecdjaa
open Go.ChangeShapes Go.WideShapes Go.ChangeAt Go.RowKit Gs
set_option linter.unusedVariables false

theorem getP_err {b : List Int} {a e : Int} (h : getP b a = .bad e) : e ≠ 0 := by
  unfold getP at h
  by_cases ha : a < 0 ∨ (b.length : Int) < a
  · rw [if_pos ha] at h; injection h with h; omega
  · rw [if_neg ha] at h
    cases hr : rawG (b.drop a.toNat) with
    | bad e' =>
      rw [hr] at h
      have h2 : GR.bad e' = GR.bad e := h
      injection h2 with h2
      have := rawG_err hr
      omega
    | ok x n =>
      rw [hr] at h
      cases hm : mayI 8 x with
      | true => rw [getK_yes hm] at h; cases h
      | false => rw [getK_no hm] at h; injection h with h; omega
theorem getP_ok {b : List Int} (hb : ∀ x ∈ b, 0 ≤ x ∧ x < 256) {a : Int} {x : It} {n : Nat} (h : getP b a = .ok x n) :
    ∃ k m : Nat, a = (k : Int) ∧ n = k + m ∧ k + m ≤ b.length ∧ 2 ≤ m ∧ m ≤ 8192 ∧ mayI 8 x = true ∧ x.enc = (b.drop k).take m ∧ x.enc.length = m ∧ x.wf ∧ x.wt ≤ m := by
  unfold getP at h
  by_cases ha : a < 0 ∨ (b.length : Int) < a
  · rw [if_pos ha] at h; cases h
  · rw [if_neg ha] at h
    cases hr : rawG (b.drop a.toNat) with
    | bad e' => rw [hr] at h; cases h
    | ok y m =>
      rw [hr] at h
      cases hm : mayI 8 y with
      | false => rw [getK_no hm] at h; cases h
      | true =>
        rw [getK_yes hm] at h
        injection h with h1 h2
        subst h1
        have hk := rawG_ok hr
        have hl : (b.drop a.toNat).length = b.length - a.toNat := List.length_drop
        obtain ⟨g1, g2, g3⟩ := (raw_back _ (b.drop a.toNat) (Nat.le_refl _) (fun z hz => hb z (List.mem_of_mem_drop hz))).1 y m hr
        refine ⟨a.toNat, m, by omega, h2.symm, by omega, hk.2.2.2.2, hk.2.2.2.1, hm, g1, ?_, g3, g2⟩
        rw [g1, List.length_take]; omega

set_option maxRecDepth 100000 in
set_option maxHeartbeats 8000000 in
theorem only_walk7 (A : Option Addr) (c : Nat) (b : List Int) (a : Int) (w : World) (hs : SI w w.heap.size .u8 A b) (hl : b.length ≤ c) (hm : c ≤ maxLen) (hx : ∀ n ∈ b, (Lit.int .u8 n).wf = true) :
    Calls Try.prog 8 #[.slice A b.length c, .int .i64 a] w fun e w' => e = .returned (.bool true) ∧ Below w.heap.size w w' := by
  have hb : ∀ x ∈ b, 0 ≤ x ∧ x < 256 := fun x h => u8_wf (hx x h)
  have HS := Lib.hid hs
  by_cases h9 : 9000 < b.length
  · have q : decide ((9000 : Int) < (b.length : Int)) = true := decide_eq_true (by omega)
    clear hs hl hm hx hb h9
    generalize b.length = n at *
    go_enter Try.func8, Try.ntmps8
    go_wp2_with fail
    refine (live7 _).mono ?_; rintro _ w1 ⟨rfl, bb⟩
    have B1 := Lib.hid bb
    clear bb
    go_wp2_with fail
    go_ret
    exact ⟨rfl, B1.out⟩
  have q : decide ((9000 : Int) < (b.length : Int)) = false := decide_eq_false (by omega)
  have q' : decide (9000 < b.length) = false := decide_eq_false h9
  have PG := Lib.hid (fun W (h : SI W W.heap.size .u8 A b) => Get_any b hb (by omega) a A c W hl hm h)
  cases hg : getP b a with
  | bad e =>
    have he : (e == 0) = false := beq_eq_false_iff_ne.2 (getP_err hg)
    rw [hg] at PG
    clear hs hl hm hx hb h9 hg
    generalize b.length = n at *
    go_enter Try.func8, Try.ntmps8
    go_wp2_with fail
    refine (live7 _).mono ?_; rintro _ w1 ⟨rfl, bb⟩
    have B1 := Lib.hid bb
    clear bb
    go_wp2_with fail
    refine (PG.out _ (HS.out.on B1.out)).mono ?_; rintro _ w2 ⟨h, bb⟩
    obtain rfl : _ = _ := h
    have B2 := Lib.hid ((below_on B1.out bb).alloc (below_on B1.out bb).size (.cells #[.int .i64 0, .slice none 0 0, .slice none 0 0] 25))
    clear bb
    go_wp2_with fail
    go_ret
    exact ⟨rfl, B2.out⟩
  | ok x n =>
    rw [hg] at PG
    obtain ⟨k, m, rfl, hn, hkm, hm2, hm8, hmay, henc, hel, hwf, hwt⟩ := getP_ok hb hg
    have PP := Lib.hid (fun A1 c1 A2 c2 W (h : IR W W.heap.size x A1 c1 A2 c2) => Put_any x hwf (by omega) A1 c1 A2 c2 W h)
    have e1 : putE x = 0 := by unfold putE; rw [if_pos hmay, if_neg (by omega)]
    have e2 : putB x = x.enc := by unfold putB; rw [if_pos hmay, if_neg (by omega)]
    rw [e1, e2] at PP
    obtain ⟨ad, rfl⟩ : ∃ ad, A = some ad := by
      obtain ⟨ad, e, _⟩ := hs 0 (by omega)
      exact ⟨ad, e⟩
    have HC := Lib.hid (fun (W : World) (h : SI W W.heap.size .u8 (some ad) b) => conv_si (c := c - k) (n := n - k) (xs := (b.drop k).take m) (by rw [List.length_take, List.length_drop]; omega) (si_part h k m hkm))
    rw [← henc] at HC
    have HEl := Lib.hid hel
    have hck : ¬ c = k := by omega
    have g1 : (0 : Int) ≤ (k : Int) := by omega
    have g2 : (k : Int) < (n : Int) := by omega
    have g3 : (n : Int) ≤ (b.length : Int) := by omega
    have g1' : k ≤ n := by omega
    have g2' : k < n := by omega
    have g3' : n ≤ b.length := by omega
    have g4 : n ≤ c := by omega
    have d1 : decide ((k : Int) < (n : Int)) = true := decide_eq_true g2
    have d2 : decide ((n : Int) ≤ (b.length : Int)) = true := decide_eq_true g3
    have HI2 := Lib.hid (And.intro hn (And.intro hkm hl))
    clear hs hl hm hx hb h9 hg hn hkm hm2 hm8 hmay henc hel hwf hwt e1 e2
    generalize b.length = bl at *
    go_enter Try.func8, Try.ntmps8
    go_wp2_with fail
    refine (live7 _).mono ?_; rintro _ w1 ⟨rfl, bb⟩
    have B1 := Lib.hid bb
    clear bb
    go_wp2_with fail
    refine (PG.out _ (HS.out.on B1.out)).mono ?_; rintro _ w2 ⟨⟨A1, c1, A2, c2, rfl, hit⟩, bb⟩
    obtain ⟨Ab, cb, Al, cl, e3, e4, hi⟩ := IR.of (hit.more (S' := (· < w2.heap.size)) (fun g hg => hg.2))
    injection e3 with e31 e32 e33
    injection e4 with e41 e42 e43
    subst e31 e33 e41 e43
    have bb2 := (Below.refl w2.heap.size w2).alloc (Nat.le_refl _) (.cells #[.int .i64 x.tag, .slice A1 x.b.length c1, .slice A2 x.l.length c2] 25)
    have B2 := Lib.hid (below_on (below_on B1.out bb) bb2)
    have HI := Lib.hid (hi.on bb2)
    clear bb bb2 hit hi e32 e42
    go_wp2_with fail
    refine (PP.out _ _ _ _ _ HI.out).mono ?_; rintro _ w3 ⟨⟨v3, rfl, ho⟩, bb⟩
    obtain ⟨A3, c3, rfl, _, _, s3, _⟩ := own_sliceB ho
    have B3 := Lib.hid (below_on B2.out bb)
    have cv1 := conv_si (c := c3) (n := x.enc.length) rfl (w := w3.drew) (B := w3.heap.size) s3
    have cv2 := HC.out w3.drew (HS.out.on B3.out.drew)
    rw [HEl.out] at cv1 ⊢
    generalize strOfNums x.enc = sv at *
    clear ho bb s3
    go_wp2_with fail
    go_region_held_law (fun w' => (convert 22 9 (.slice A3 m c3)).run Try.prog w' = .ok (.string sv) w' ∧ (convert 22 9 (.slice (some (ad.add k)) (n - k) (c - k))).run Try.prog w' = .ok (.string sv) w') (first | exact ⟨by assumption, by assumption⟩ | go_keep) (fail)
    all_goals
      clear cv1 cv2
      go_wp2_with fail
      go_ret
      exact ⟨by first | rfl | simp, B3.out.drew⟩
end Go.Proofs.Ytdphepglcecdjaa
