/- The walk of NonceOnce. -/
import Derived.Test.YtdiafbeohldbjaaNonceLive
import Derived.Test.YtdiafbeohldbjaaNonceOnceW
namespace Go.Proofs.Ytdiafbeohldbjaa
open Go.ChangeShapes Go.WideShapes Go.ChangeAt Go.RowKit Gs
set_option linter.unusedVariables false
set_option linter.unusedSimpArgs false

set_option maxRecDepth 100000 in
set_option maxHeartbeats 8000000 in
theorem once_walk21 (A : Option Addr) (n c : Nat) (l : List (Int × Int × Int)) (hn : l.length = n) (W : World) (hs : TS W W.heap.size A l) (hc : n ≤ c) (hm : c ≤ maxLen) :
    Calls Try.prog 5 #[.slice A n c] W fun e w' => e = .returned (.bool true) ∧ Below W.heap.size W w' := by
  have HS := Lib.hid hs
  have HN := Lib.hid hn
  unfold maxLen at hm
  clear hs hn
  by_cases h60 : n ≤ 60
  · have hgt : decide (60 < (n : Int)) = false := decide_eq_false (by omega)
    have hgt2 : decide (60 < n) = false := decide_eq_false (by omega)
    obtain ⟨i0, hi, hz0, hz1, hz2⟩ := info_parts Try.info41
    have HI := Lib.hid (And.intro hi (And.intro hz0 (And.intro hz1 hz2)))
    clear hi hz0 hz1 hz2
    go_enter Try.func5, Try.ntmps5
    go_wp2_with fail
    refine (live21 _).mono ?_; rintro _ w1 ⟨rfl, b⟩
    have HB1 := Lib.hid b
    clear b
    go_wp2_with fail
    have HGF := Lib.hid HB1.out.size
    go_loopw [4, 5, 6] (fun t4 t5 t6 wr => ∃ (i : Nat) (now nx : Int) (F T : List (Int × Int)) (B : Option Addr) (m d t : Nat) (Ad : Option Addr) (ct : Nat), t6 = .int .i64 i ∧ t5 = .int .i64 now ∧ t4 = .slice Ad t ct ∧ T.length = t ∧ i ≤ n ∧ 0 ≤ now ∧ now ≤ 1000 * i ∧ t ≤ i ∧ OnceW W w1.heap.size wr nx now F T (.slice Ad t ct) B m d) (fun _ _ t6 _ => n - (intOf t6).toNat)
    case atStart =>
      refine ⟨0, 0, 0, [], [], none, 0, 0, 0, none, 0, rfl, rfl, rfl, rfl, by omega, by omega, by omega, by omega, ⟨OnceI.zero, rfl, ⟨by omega, by unfold maxLen; omega⟩, Blk.new_at _ _ _ rfl, NS.nil _ _ _, own_nilN _ _, fun g hg => .inl rfl, HB1.out.alloc HB1.out.size _⟩⟩
    case round =>
      obtain ⟨i, now, nx, F, T, B, m, d, t, Ad, ct, rfl, rfl, rfl, hT, hin, hn0, hn1, hti, hO⟩ := hrel
      have HT := Lib.hid hT
      have HO := Lib.hid hO
      clear hT hO
      by_cases hlt : i < n
      · have hltL : i < l.length := by rw [HN.out]; exact hlt
        obtain ⟨ad, rfl, had, c0, c1, c2⟩ := (HS.out.on HO.out.bel) i hltL
        generalize l[i].1 = kd, l[i].2.1 = sn, l[i].2.2 = sb at c0 c1 c2
        obtain ⟨y, hy⟩ : ∃ y, min (max sb 0) 1000 = y := ⟨_, rfl⟩
        have hy0 : 0 ≤ y := by omega
        have hy1 : y ≤ 1000 := by omega
        have na := nb0 wr (.cells #[.int .i64 kd, .int .i64 sn, .int .i64 sb] 39)
        have HO1 := Lib.hid ((HO.out.on na).later (show now ≤ now + y by omega))
        have HX := Lib.hid (Blk.new wr 39 #[.int .i64 kd, .int .i64 sn, .int .i64 sb])
        obtain ⟨now', hnow⟩ : ∃ now', now + y = now' := ⟨_, rfl⟩
        rw [hnow] at HO1
        have hn0' : 0 ≤ now' := by omega
        have hn1' : now' ≤ 1000 * (i + 1 : Nat) := by omega
        clear na
        go_wp2_with fail
        clear hnow
        generalize (wr.alloc (.cells #[.int .i64 kd, .int .i64 sn, .int .i64 sb] 39)) = v1 at HO1 HX ⊢
        have HTold : Hid (NS v1 v1.heap.size Ad T) := Lib.hid (by
          obtain ⟨A', c', e, _, _, hns, _⟩ := own_sliceN HO1.out.own
          injection e with e1 e2 e3
          rw [e1]; exact hns)
        obtain ⟨⟨x0, x1, x2⟩, x3, x4, x5⟩ := HX.out.facts3
        go_loopw [8, 9] (fun t8 t9 wq => ∃ (k : Nat) (q : Nat), k ≤ t ∧ t9 = .int .i64 k ∧ t8 = .int .i64 (opF sn (T.take k)) ∧ wq = v1.drewN q) (fun _ t9 _ => t - (intOf t9).toNat)
        case atStart => exact ⟨0, 0, by omega, rfl, by simp [opF], rfl⟩
        case round =>
          obtain ⟨k, q, hk, rfl, rfl, rfl⟩ := hrel
          by_cases hkt : k < t
          · have hkT : k < T.length := by rw [HT.out]; exact hkt
            obtain ⟨adt, hadt, _, e0, e1⟩ := HTold.out k hkT
            have HOp := Lib.hid (op_le (n := sn) T k hkT)
            have HAd := Lib.hid hadt
            by_cases hq : T[k].1 = sn
            · have hqb : (T[k].1 == sn) = true := by simpa using hq
              rw [if_pos hq] at HOp
              generalize T[k].1 = a, T[k].2 = b at e0 e1 hqb HOp
              generalize opF sn (T.take k) = o at *
              clear hq
              subst hadt
              go_wp2_with fail
              go_quiet (fail)
              go_wp2_with fail
              go_roundw
              case rel => exact ⟨k + 1, _, by omega, by go_num, by rw [HOp.out], by first | rfl | exact (drewN_drewN v1 q _)⟩
              case measure => simp [intOf]; omega
            · have hqb : (T[k].1 == sn) = false := by simpa using hq
              rw [if_neg hq] at HOp
              generalize T[k].1 = a, T[k].2 = b at e0 e1 hqb
              generalize opF sn (T.take k) = o at *
              clear hq
              subst hadt
              go_wp2_with fail
              go_quiet (fail)
              go_wp2_with fail
              go_roundw
              case rel => exact ⟨k + 1, _, by omega, by go_num, by rw [HOp.out], by first | rfl | exact (drewN_drewN v1 q _)⟩
              case measure => simp [intOf]; omega
          · obtain rfl : t = k := by omega
            have HTk : Hid (T.take t = T) := Lib.hid (by rw [← HT.out, List.take_length])
            rw [HTk.out]
            have HO2 := Lib.hid (HO1.out.drewN q)
            have HX2 := Lib.hid (HX.out.drewN q)
            have HT2 : Hid (NS (v1.drewN q) (v1.drewN q).heap.size Ad T) := Lib.hid HTold.out
            clear x0 x1 x2 x3 x4 x5 HTold HO1 HX
            generalize v1.drewN q = v2 at HO2 HX2 HT2 ⊢
            obtain ⟨⟨x0, x1, x2⟩, x3, x4, x5⟩ := HX2.out.facts3
            by_cases hk0 : kd = 0
            · subst hk0
              obtain ⟨⟨y0, y1⟩, y2, y3⟩ := HO2.out.box.facts2
              have hm64 := HO2.out.m64
              rcases tell_cases nx F now' sn with ⟨hck, hak, hlen, hnx, htl⟩ | ⟨e, he, htl⟩
              · obtain ⟨m', hm'⟩ : ∃ m', (trimF now' F ++ [(nx, now' + sn)]).length = m' := ⟨_, rfl⟩
                have P := Lib.hid (Tell_f nx B m d F HO2.out.len (by omega) now' sn (nx + 1) _ m' nx 0 htl hm' _ HO2.out.ns)
                have hak' := ask_iff.1 hak
                have hI := Lib.hid (HO2.out.inv.tell hak hlen hnx)
                have HNew := Lib.hid (HO2.out.inv.new)
                have HM' := Lib.hid hm'
                clear hm' htl hck hak hlen
                go_wp2_with fail
                refine P.out.mono ?_; rintro _ w5 ⟨B', d', rfl, hcc, hns, hof, b⟩
                have na := nb0 w5 (.cells #[.int .i64 (nx + 1), .slice B' m' d'] 24)
                have HOn := Lib.hid ((HO2.out.on b).on na)
                have HCc := Lib.hid hcc
                have HNs := Lib.hid (hns.on na)
                have HOf := Lib.hid hof
                have HY := Lib.hid (show Blk (w5.alloc (.cells #[.int .i64 (nx + 1), .slice B' m' d'] 24)) w5.heap.size 24 #[.int .i64 (nx + 1), .slice B' m' d'] from Blk.new_at _ _ _ rfl)
                have HXn := Lib.hid ((HX2.out.below b HX2.out.lt).below na (Nat.lt_of_lt_of_le HX2.out.lt b.size))
                have HTn := Lib.hid ((HT2.out.on b).on na)
                have HW5 := Lib.hid b.size
                clear y0 y1 y2 y3 x0 x1 x2 x3 x4 x5 hcc hns hof b na
                go_wp2_with fail
                generalize hgy : w5.heap.size = gy at HY HW5 ⊢
                generalize (w5.alloc (.cells #[.int .i64 (nx + 1), .slice B' m' d'] 24)) = w6 at HOn HNs HY HXn HTn ⊢
                clear hgy
                obtain ⟨⟨x0, x1, x2⟩, x3, x4, x5⟩ := HXn.out.facts3
                go_loop [13] (fun t13 => ∃ k : Nat, k ≤ t ∧ t13 = .int .i64 k) (fun t13 => t - (intOf t13).toNat)
                case atStart => exact ⟨0, by omega, rfl⟩
                case round =>
                  obtain ⟨k, hk, rfl⟩ := hrel
                  by_cases hkt : k < t
                  · have hkT : k < T.length := by rw [HT.out]; exact hkt
                    obtain ⟨adt, hadt, _, e0, e1⟩ := HTn.out k hkT
                    have hne : (T[k].1 == nx) = false := by have := HNew.out k hkT; simpa using this
                    generalize T[k].1 = a at e0 hne
                    subst hadt
                    go_wp2_with fail
                    go_round
                    case rel => exact ⟨k + 1, by omega, by go_num⟩
                    case measure => simp [intOf]; omega
                  · obtain rfl : t = k := by omega
                    have HOW := Lib.hid (show (w6.alloc (.cells #[.int .i64 nx, .int .i64 (now' + sn)] 41)).ownsRow (w1.heap.size + 1) 41 2 (.slice Ad t ct) t (cellsN T) from by have h := HOn.out.own; unfold OwnN at h; rw [HT.out] at h; exact h.alloc _)
                    have HN4 := Lib.hid (show Blk (w6.alloc (.cells #[.int .i64 nx, .int .i64 (now' + sn)] 41)) w6.heap.size 41 (cellsN [(nx, now' + sn)]).toArray from Blk.new_at _ _ _ rfl)
                    have HS4 := Lib.hid (show w1.heap.size + 1 ≤ (w6.alloc (.cells #[.int .i64 nx, .int .i64 (now' + sn)] 41)).heap.size by have := HOn.out.box.lt; simp; omega)
                    have FB := Lib.hid (HOn.out.box.alloc (.cells #[.int .i64 nx, .int .i64 (now' + sn)] 41))
                    have FY := Lib.hid (HY.out.alloc (.cells #[.int .i64 nx, .int .i64 (now' + sn)] 41))
                    have NEY : Hid (∀ g, (Value.slice Ad t ct).ownBlock = some g → g < gy) := Lib.hid fun g e => by have := (HO2.out.own.lt g e).2; have := HW5.out; omega
                    go_wp2_with (at_builtin; first | (refine wpList_append_any _ (by rfl) _ _ 22 (by rfl) (w1.heap.size + 1) 41 i0 (.agg #[.int .i64 0, .int .i64 0]) 2 16 Try.underlying22 HI.out.1 HI.out.2.1 HI.out.2.2.1 HI.out.2.2.2 (by rfl) (by decide) _ t (cellsN T) (by rfl) HOW.out _ _ 1 _ (cellsN [(nx, now' + sn)]) (by rfl) (reads_newN HN4.out 1 rfl) (cellsN_one _) (by unfold maxLen; omega) (by omega) HS4.out ?_; intro v4 w7 ho4 hg4 hw4; have HO5 := Lib.hid (own_n (l := T ++ [(nx, now' + sn)]) ho4 (by simp [HT.out]) (by rw [cellsN_append])); obtain ⟨A4, c4, rfl, _, _, _, _⟩ := own_sliceN HO5.out; have HG4 := Lib.hid hg4; have HW4 := Lib.hid hw4; clear ho4 hg4 hw4; have F1 := Lib.hid (FB.out.grown HG4.out (fun e => by have := (HOW.out.lt _ e.symm).1; omega)); have F2 := Lib.hid (FY.out.grown HG4.out (fun e => by have := NEY.out _ e.symm; omega)); obtain ⟨⟨s0, s1⟩, s2, s3⟩ := F1.out.facts2; obtain ⟨⟨r0, r1⟩, r2, r3⟩ := F2.out.facts2) | fail)
                    have HT5 : Hid ((T ++ [(nx, now' + sn)]).length = t + 1) := Lib.hid (by simp [HT.out])
                    have HtT : T.length = t := HT.out
                    have HO4 : Hid (OnceW W w1.heap.size ((w7.setCell ⟨w1.heap.size, 0, none⟩ (.int .i64 (nx + 1))).setCell ⟨w1.heap.size, 1, none⟩ (.slice B' m' d')) (nx + 1) now' (trimF now' F ++ [(nx, now' + sn)]) (T ++ [(nx, now' + sn)]) (.slice A4 (t + 1) c4) B' m' d') := Lib.hid (by
                      have hog := HOf.out _ HO2.out.box.lt
                      have hoo : ∀ g, (Value.slice Ad t ct).ownBlock = some g → Off g B' (trimF now' F ++ [(nx, now' + sn)]) := fun g e => HOf.out g (HO2.out.own.lt g e).2
                      have hns7 := (HNs.out.on (nb0 w6 (.cells #[.int .i64 nx, .int .i64 (now' + sn)] 41))).grown HG4.out hoo
                      refine ⟨hI.out, HM'.out, HCc.out, F1.out.set2, ?_, ?_, fun g e => ?_, ?_⟩
                      · have := (hns7.set (o := 0) hog (.int .i64 (nx + 1))).set (o := 1) hog (.slice B' m' d'); simpa [World.setCell] using this
                      · have h := (HO5.out.set (g := w1.heap.size) (o := 0) (by omega) (.int .i64 (nx + 1))).set (g := w1.heap.size) (o := 1) (by omega) (.slice B' m' d')
                        rw [HT5.out] at h; exact h
                      · have e' : (Value.slice A4 (T ++ [(nx, now' + sn)]).length c4).ownBlock = some g := by rw [← e]; cases A4 <;> rfl
                        rcases HW4.out with h | h
                        · rw [h] at e'; exact hoo g e'
                        · rw [h] at e'; injection e' with e'
                          exact off_old (HNs.out.on (nb0 w6 (.cells #[.int .i64 nx, .int .i64 (now' + sn)] 41))) (by omega)
                      · exact below_setR (below_setR ((below_on HOn.out.bel (nb0 w6 (.cells #[.int .i64 nx, .int .i64 (now' + sn)] 41))).grown HG4.out (by have := HS4.out; have := HGF.out; omega) (fun g e => by have := (HOW.out.lt g e).1; have := HGF.out; omega)) HGF.out _) HGF.out _)
                    refine (Check_k (nx + 1) B' m' d' (trimF now' F ++ [(nx, now' + sn)]) HO4.out.len (by have := HO4.out.m64; omega) 0 HO4.out.inv.chk _ HO4.out.ns).mono ?_; rintro _ wz ⟨rfl, b⟩
                    have HO3 := Lib.hid (HO4.out.on b)
                    clear b
                    go_wp2_with fail
                    go_roundw
                    case rel => exact ⟨i + 1, now', (nx + 1), (trimF now' F ++ [(nx, now' + sn)]), (T ++ [(nx, now' + sn)]), B', m', d', (t + 1), A4, c4, by go_num, rfl, rfl, HT5.out, by omega, hn0', hn1', by omega, HO3.out⟩
                    case measure => simp [intOf]; omega
              · have P := Lib.hid (Tell_f nx B m d F HO2.out.len (by omega) now' sn 0 [] 0 0 e htl rfl _ HO2.out.ns)
                have hee : (e != 0) = true := by simpa using he
                clear htl he
                go_wp2_with fail
                refine P.out.mono ?_; rintro _ w5 ⟨B', d', rfl, _, _, _, b⟩
                have HO4 := Lib.hid ((HO2.out.on b).on (nb0 w5 (.cells #[.int .i64 0, .slice B' 0 d'] 24)))
                clear b
                go_wp2_with fail
                go_roundw
                case rel => exact ⟨i + 1, now', nx, F, T, B, m, d, t, Ad, ct, by go_num, rfl, rfl, HT.out, by omega, hn0', hn1', by omega, HO4.out⟩
                case measure => simp [intOf]; omega
            · by_cases hk1 : kd = 1
              · subst hk1
                obtain ⟨⟨y0, y1⟩, y2, y3⟩ := HO2.out.box.facts2
                have hm64 := HO2.out.m64
                have HOp := Lib.hid (HO2.out.inv.any (n := sn) hn0')
                obtain ⟨o, ho⟩ : ∃ o, opF sn T = o := ⟨_, rfl⟩
                rw [ho] at HOp
                rw [ho]
                have htm : tm now' = true := tm_iff.2 (by omega)
                have h00 : ((1 : Int) == 0) = false := rfl
                clear ho hk0
                rcases use_cases nx F sn now' with ⟨hck, hak, hhit, hul⟩ | ⟨e, he, hul⟩
                · obtain ⟨m', hm'⟩ : ∃ m', (F.filter (fun p => !hitF sn now' p)).length = m' := ⟨_, rfl⟩
                  have P := Lib.hid (Use_f nx B m d F HO2.out.len (by omega) sn now' nx _ m' 0 hul hm' HO2.out.cap _ HO2.out.ns)
                  have hon : now' ≤ o := by have := HOp.out; rw [hhit] at this; exact of_decide_eq_true this.symm
                  have hI := Lib.hid (HO2.out.inv.use hn0' hhit)
                  have HM' := Lib.hid hm'
                  have hod : decide (now' ≤ o) = true := decide_eq_true hon
                  clear hm' hul hck hak hhit
                  go_wp2_with fail
                  refine P.out.mono ?_; rintro _ w5 ⟨B', d', rfl, hcc, hns, hof, b⟩
                  have na := nb0 w5 (.cells #[.int .i64 nx, .slice B' m' d'] 24)
                  have HOn := Lib.hid ((HO2.out.on b).on na)
                  have HCc := Lib.hid hcc
                  have HNs := Lib.hid (hns.on na)
                  have HOf := Lib.hid hof
                  have HY := Lib.hid (show Blk (w5.alloc (.cells #[.int .i64 nx, .slice B' m' d'] 24)) w5.heap.size 24 #[.int .i64 nx, .slice B' m' d'] from Blk.new_at _ _ _ rfl)
                  have HXn := Lib.hid ((HX2.out.below b HX2.out.lt).below na (Nat.lt_of_lt_of_le HX2.out.lt b.size))
                  have HW5 := Lib.hid b.size
                  clear y0 y1 y2 y3 x0 x1 x2 x3 x4 x5 hcc hns hof b na
                  go_wp2_with fail
                  have HGY := Lib.hid (show w1.heap.size < w5.heap.size from Nat.lt_of_lt_of_le HO2.out.box.lt HW5.out)
                  have HGS := Lib.hid (show wr.heap.size < w5.heap.size from Nat.lt_of_lt_of_le HX2.out.lt HW5.out)
                  have HOwn5 : Hid (∀ g, (Value.slice Ad t ct).ownBlock = some g → w1.heap.size < g ∧ g < w5.heap.size) := Lib.hid fun g e => by have := HO2.out.own.lt g e; have := HW5.out; omega
                  have HGSO : Hid (∀ g, (Value.slice Ad t ct).ownBlock = some g → g ≠ wr.heap.size) := Lib.hid fun g e => by have := HO.out.own.lt g e; omega
                  generalize hgy : w5.heap.size = gy at HY HW5 HGY HGS HOwn5 ⊢
                  generalize (w5.alloc (.cells #[.int .i64 nx, .slice B' m' d'] 24)) = w6 at HOn HNs HY HXn ⊢
                  clear hgy
                  have HOf2 : Hid (∀ g, (Value.slice Ad t ct).ownBlock = some g → Off g B' (F.filter (fun p => !hitF sn now' p))) := Lib.hid fun g e => HOf.out g (HO2.out.own.lt g e).2
                  have HMl := Lib.hid (fun k => (mk_len (n := sn) (T := T) k).trans HT.out)
                  go_loopw [16] (fun t16 wq => ∃ (k : Nat), k ≤ t ∧ t16 = .int .i64 k ∧ Blk wq w1.heap.size 24 #[.int .i64 nx, .slice B m d] ∧ Blk wq gy 24 #[.int .i64 nx, .slice B' m' d'] ∧ Blk wq wr.heap.size 39 #[.int .i64 1, .int .i64 sn, .int .i64 sb] ∧ NS wq wq.heap.size B' (F.filter (fun p => !hitF sn now' p)) ∧ OwnN wq (w1.heap.size + 1) (.slice Ad t ct) (mkF sn T k) ∧ Below W.heap.size W wq) (fun t16 _ => t - (intOf t16).toNat)
                  case atStart => exact ⟨0, by omega, rfl, HOn.out.box, HY.out, HXn.out, HNs.out, by have h := HOn.out.own; simpa [mkF] using h, HOn.out.bel⟩
                  case round =>
                    obtain ⟨k, hk, rfl, b0, b1, b2, bn, bo, bb⟩ := hrel
                    have Q0 := Lib.hid b0
                    have Q1 := Lib.hid b1
                    have Q2 := Lib.hid b2
                    have QN := Lib.hid bn
                    have QO := Lib.hid bo
                    have QB := Lib.hid bb
                    clear b0 b1 b2 bn bo bb
                    obtain ⟨⟨x0, x1, x2⟩, x3, x4, x5⟩ := Q2.out.facts3
                    by_cases hkt : k < t
                    · have hkT : k < T.length := by rw [HT.out]; exact hkt
                      have hkM : k < (mkF sn T k).length := by rw [HMl.out]; exact hkt
                      obtain ⟨g, hAd, hg1, hg2⟩ := own_head QO.out (by omega)
                      have HOg := Lib.hid (HOwn5.out g (by rw [hAd]; rfl))
                      have HOs := Lib.hid (HGSO.out g (by rw [hAd]; rfl))
                      have HOo := Lib.hid (HOf2.out g (by rw [hAd]; rfl))
                      have HM1 := Lib.hid (mk_hit (n := sn) k hkT hkM)
                      have HM0 := Lib.hid (mk_miss (n := sn) k hkT hkM)
                      have HMa := Lib.hid (mk_at (n := sn) k hkT hkM)
                      subst hAd
                      obtain ⟨e0, e1, e2⟩ := own_atN QO.out (HMl.out k) k hkM
                      rw [HMa.out] at e0 e1
                      by_cases hq : T[k].1 = sn
                      · have hqb : (T[k].1 == sn) = true := by simpa using hq
                        have HQ1 := Lib.hid (HM1.out hq)
                        have HQO := Lib.hid (own_storeN QO.out (HMl.out k) k hkM (-1))
                        generalize T[k].1 = a, T[k].2 = b at e0 e1 hqb
                        clear hq
                        go_wp2_with fail
                        go_quiet (fail)
                        go_wp2_with fail
                        go_roundw
                        case rel =>
                          refine ⟨k + 1, by omega, by go_num, Blk.other (w := wr.drewN nq) Q0.out (by show w1.heap.size ≠ g; have := HOg.out; omega) _, Blk.other (w := wr.drewN nq) Q1.out (by show gy ≠ g; have := HOg.out; omega) _, Blk.other (w := wr.drewN nq) Q2.out (fun e => HOs.out e.symm) _, ?_, ?_, ?_⟩
                          · have := NS.set (w := wr.drewN nq) (o := k * 2 + 1) QN.out HOo.out (.int .i64 (-1)); simpa [World.setCell] using this
                          · rw [HQ1.out]; exact own_storeN (w := wr.drewN nq) QO.out (HMl.out k) k hkM (-1)
                          · exact below_setR (below_drewN QB.out _) (by have := HOg.out; have := HGF.out; omega) _
                        case measure => simp [intOf]; omega
                      · have hqb : (T[k].1 == sn) = false := by simpa using hq
                        have HQ0 := Lib.hid (HM0.out hq)
                        generalize T[k].1 = a, T[k].2 = b at e0 e1 hqb
                        clear hq
                        go_wp2_with fail
                        go_quiet (fail)
                        go_wp2_with fail
                        go_roundw
                        case rel => exact ⟨k + 1, by omega, by go_num, Q0.out, Q1.out, Q2.out, QN.out, by rw [HQ0.out]; exact QO.out, below_drewN QB.out _⟩
                        case measure => simp [intOf]; omega
                    · obtain rfl : t = k := by omega
                      have HO4 : Hid (OnceW W w1.heap.size ((wr.setCell ⟨w1.heap.size, 0, none⟩ (.int .i64 nx)).setCell ⟨w1.heap.size, 1, none⟩ (.slice B' m' d')) nx now' (F.filter (fun p => !hitF sn now' p)) (T.map (markF sn)) (.slice Ad t ct) B' m' d') := Lib.hid (by
                        have hog := HOf.out _ HO2.out.box.lt
                        have ho : OwnN wr (w1.heap.size + 1) (.slice Ad t ct) (T.map (markF sn)) := by
                          have h := QO.out
                          rw [show mkF sn T t = T.map (markF sn) by rw [← HT.out]; exact mk_all] at h
                          exact h
                        refine ⟨hI.out, HM'.out, HCc.out, Q0.out.set2, ?_, (ho.set (by omega) _).set (by omega) _, HOf2.out, below_setR (below_setR QB.out HGF.out _) HGF.out _⟩
                        have := (QN.out.set (o := 0) hog (.int .i64 nx)).set (o := 1) hog (.slice B' m' d'); simpa [World.setCell] using this)
                      obtain ⟨⟨y0, y1⟩, y2, y3⟩ := Q0.out.facts2
                      obtain ⟨⟨z0, z1⟩, z2, z3⟩ := Q1.out.facts2
                      have HTm : Hid ((T.map (markF sn)).length = t) := Lib.hid (by rw [List.length_map]; exact HT.out)
                      go_wp2_with fail
                      refine (Check_k nx B' m' d' (F.filter (fun p => !hitF sn now' p)) HO4.out.len (by have := HO4.out.m64; omega) 0 HO4.out.inv.chk _ HO4.out.ns).mono ?_; rintro _ wz ⟨rfl, b⟩
                      have HO3 := Lib.hid (HO4.out.on b)
                      clear b
                      go_wp2_with fail
                      go_roundw
                      case rel => exact ⟨i + 1, now', nx, (F.filter (fun p => !hitF sn now' p)), (T.map (markF sn)), B', m', d', t, Ad, ct, by go_num, rfl, rfl, HTm.out, by omega, hn0', hn1', by omega, HO3.out⟩
                      case measure => simp [intOf]; omega
                · have P := Lib.hid (Use_f nx B m d F HO2.out.len (by omega) sn now' 0 [] 0 e hul rfl HO2.out.cap _ HO2.out.ns)
                  have hee : (e == 0) = false := by simpa using he
                  have hon : ¬ now' ≤ o := fun h => by
                    have h1 := HOp.out
                    rw [decide_eq_true h] at h1
                    have h2 := use_ok (nx := nx) HO2.out.inv.chk htm h1
                    rw [hul] at h2
                    injection h2 with _ h2; injection h2 with _ h2
                    exact he h2
                  have hod : decide (now' ≤ o) = false := decide_eq_false hon
                  clear hul he hon
                  go_wp2_with fail
                  refine P.out.mono ?_; rintro _ w5 ⟨B', d', rfl, _, _, _, b⟩
                  have na := nb0 w5 (.cells #[.int .i64 0, .slice B' 0 d'] 24)
                  have HOn := Lib.hid ((HO2.out.on b).on na)
                  clear y0 y1 y2 y3 x0 x1 x2 x3 x4 x5 b na
                  go_wp2_with fail
                  generalize (w5.alloc (.cells #[.int .i64 0, .slice B' 0 d'] 24)) = w6 at HOn ⊢
                  go_loopw [16] (fun t16 wq => ∃ (k q : Nat), k ≤ t ∧ t16 = .int .i64 k ∧ wq = w6.drewN q) (fun t16 _ => t - (intOf t16).toNat)
                  case atStart => exact ⟨0, 0, by omega, rfl, rfl⟩
                  case round =>
                    obtain ⟨k, q, hk, rfl, rfl⟩ := hrel
                    by_cases hkt : k < t
                    · go_wp2_with fail
                      go_quiet (fail)
                      go_wp2_with fail
                      go_roundw
                      case rel => exact ⟨k + 1, _, by omega, by go_num, by first | rfl | exact World.drewN_drewN⟩
                      case measure => simp [intOf]; omega
                    · obtain rfl : t = k := by omega
                      have HO4 := Lib.hid (HOn.out.drewN q)
                      generalize w6.drewN q = w7 at HO4 ⊢
                      obtain ⟨⟨y0, y1⟩, y2, y3⟩ := HO4.out.box.facts2
                      go_wp2_with fail
                      refine (Check_k nx B m d F HO4.out.len (by have := HO4.out.m64; omega) 0 HO4.out.inv.chk _ HO4.out.ns).mono ?_; rintro _ wz ⟨rfl, b⟩
                      have HO3 := Lib.hid (HO4.out.on b)
                      clear b
                      go_wp2_with fail
                      go_roundw
                      case rel => exact ⟨i + 1, now', nx, F, T, B, m, d, t, Ad, ct, by go_num, rfl, rfl, HT.out, by omega, hn0', hn1', by omega, HO3.out⟩
                      case measure => simp [intOf]; omega
              · by_cases hk2 : kd = 2
                · subst hk2
                  obtain ⟨⟨y0, y1⟩, y2, y3⟩ := HO2.out.box.facts2
                  obtain ⟨m', hm'⟩ : ∃ m', (trimF now' F).length = m' := ⟨_, rfl⟩
                  have P := Lib.hid (Trim_f nx B m d F HO2.out.len (by have := HO2.out.m64; omega) now' _ m' rfl hm' _ HO2.out.ns)
                  have HM' := Lib.hid hm'
                  clear hm' hk0 hk1
                  go_wp2_with fail
                  refine P.out.mono ?_; rintro _ w5 ⟨B', d', rfl, hcc, hns, hof, b⟩
                  have HOn := Lib.hid (HO2.out.on b)
                  have HO4 := Lib.hid (HOn.out.put HGF.out HOn.out.inv.trim HM'.out hcc hns (fun g hg => hof g (HO2.out.own.lt g hg).2) (hof _ HO2.out.box.lt))
                  clear y0 y1 y2 y3 hcc hns hof b
                  obtain ⟨⟨y0, y1⟩, y2, y3⟩ := HOn.out.box.facts2
                  go_wp2_with fail
                  refine (Check_k nx B' m' d' (trimF now' F) HO4.out.len (by have := HO4.out.m64; omega) 0 HO4.out.inv.chk _ HO4.out.ns).mono ?_; rintro _ wz ⟨rfl, b⟩
                  have HO3 := Lib.hid (HO4.out.on b)
                  clear b
                  go_wp2_with fail
                  go_roundw
                  case rel => exact ⟨i + 1, now', nx, (trimF now' F), T, B', m', d', t, Ad, ct, by go_num, rfl, rfl, HT.out, by omega, hn0', hn1', by omega, HO3.out⟩
                  case measure => simp [intOf]; omega
                · have g0 : (kd == 0) = false := by simpa using hk0
                  have g1 : (kd == 1) = false := by simpa using hk1
                  have g2 : (kd == 2) = false := by simpa using hk2
                  obtain ⟨⟨y0, y1⟩, y2, y3⟩ := HO2.out.box.facts2
                  have hgx : w1.heap.size ≠ wr.heap.size := by have := HO.out.box.lt; omega
                  clear hk0 hk1 hk2
                  go_wp2_with fail
                  refine (Check_k nx B m d F HO2.out.len (by have := HO2.out.m64; omega) 0 HO2.out.inv.chk _ HO2.out.ns).mono ?_; rintro _ wz ⟨rfl, b⟩
                  have HO3 := Lib.hid (HO2.out.on b)
                  clear b
                  go_wp2_with fail
                  go_roundw
                  case rel => exact ⟨i + 1, now', nx, F, T, B, m, d, t, Ad, ct, by go_num, rfl, rfl, HT.out, by omega, hn0', hn1', by omega, HO3.out⟩
                  case measure => simp [intOf]; omega
      · obtain rfl : n = i := by omega
        go_wp2_with fail
        go_ret
        exact ⟨rfl, HO.out.bel⟩
  · have hgt : decide (60 < (n : Int)) = true := decide_eq_true (by omega)
    have hgt2 : decide (60 < n) = true := decide_eq_true (by omega)
    go_enter Try.func5, Try.ntmps5
    go_wp2_with fail
    refine (live21 _).mono ?_; rintro _ w1 ⟨rfl, b⟩
    have HB1 := Lib.hid b
    clear b
    go_wp2_with fail
    go_ret
    exact ⟨rfl, HB1.out⟩
end Go.Proofs.Ytdiafbeohldbjaa
