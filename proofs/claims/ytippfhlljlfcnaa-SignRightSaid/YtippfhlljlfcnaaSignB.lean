/- Contracts of the signatures: what is hashed of parts, as a number; a secret of a seed. -/
import Derived.Test.YtippfhlljlfcnaaSignA
namespace Go.Proofs.Ytippfhlljlfcnaa
open Go.ChangeShapes Go.WideShapes Go.ChangeAt Go.RowKit Gs
set_option linter.unusedVariables false

/-- What is hashed of a tag and parts, as a number below m. -/
def hof (s : ByteArray) (ps : List (List Int)) (m : Int) : Int := hnum (hst (coded (sbytes s) ps)).1 (hst (coded (sbytes s) ps)).2.1 m
theorem hnum_bound (a b : Int) {m : Int} (h : 0 < m) : 0 ≤ hnum a b m ∧ hnum a b m < m := by
  unfold hnum
  rw [if_neg (by omega)]
  exact ⟨Int.emod_nonneg _ (by omega), Int.emod_lt_of_pos _ h⟩
theorem hof_bound (s : ByteArray) (ps : List (List Int)) {m : Int} (h : 0 < m) : 0 ≤ hof s ps m ∧ hof s ps m < m := hnum_bound _ _ h
instance (l : List Int) : IsU (hst l).1 := IsU.of (hst_el l).1.u64
instance (l : List Int) : IsU (hst l).2.1 := IsU.of (hst_el l).2.1.u64

/-- Bytes that a slice holds. -/
def Sli (w : World) (v : Value) (xs : List Int) : Prop := ∃ A c, v = .slice A xs.length c ∧ xs.length ≤ c ∧ c ≤ maxLen ∧ SI w w.heap.size .u8 A xs
theorem Sli.on {w w' : World} {v : Value} {xs : List Int} (h : Sli w v xs) (hb : Below w.heap.size w w') : Sli w' v xs := by
  obtain ⟨A, c, e, h1, h2, hs⟩ := h
  exact ⟨A, c, e, h1, h2, hs.on hb⟩
theorem sli_at {w : World} {xs : List Int} {ps : List (List Int)} {j : Nat} (hj : j < ps.length) (e : ps[j] = xs) {v : Value} (h : Sli w v xs) {ad : Addr} (hb : ad.block < w.heap.size) (hc : w.cell? (ad.add j) = some v) :
    ∃ ad', some ad = some ad' ∧ ad'.block < w.heap.size ∧ ∃ A' c', w.cell? (ad'.add j) = some (.slice A' ps[j].length c') ∧ ps[j].length ≤ c' ∧ c' ≤ maxLen ∧ SI w w.heap.size .u8 A' ps[j] := by
  subst e
  obtain ⟨A, c, rfl, h1, h2, hs⟩ := h
  exact ⟨ad, rfl, hb, A, c, hc, h1, h2, hs⟩
theorem sp1 {w : World} {g : Nat} {t : TypeId} {v : Value} {xs : List Int} (h : Blk w g t #[v]) (hv : Sli w v xs) : SP w w.heap.size (some ⟨g, 0, none⟩) [xs] := fun j hj => by
  rcases j with _ | j
  · exact sli_at (ps := [xs]) (j := 0) hj rfl hv h.lt (h.cell 0)
  · simp at hj
theorem sp2 {w : World} {g : Nat} {t : TypeId} {v u : Value} {xs ys : List Int} (h : Blk w g t #[v, u]) (hv : Sli w v xs) (hu : Sli w u ys) : SP w w.heap.size (some ⟨g, 0, none⟩) [xs, ys] := fun j hj => by
  rcases j with _ | _ | j
  · exact sli_at (ps := [xs, ys]) (j := 0) hj rfl hv h.lt (h.cell 0)
  · exact sli_at (ps := [xs, ys]) (j := 1) hj rfl hu h.lt (h.cell 1)
  · exact absurd hj (by simp)
theorem sp3 {w : World} {g : Nat} {t : TypeId} {v u z : Value} {xs ys zs : List Int} (h : Blk w g t #[v, u, z]) (hv : Sli w v xs) (hu : Sli w u ys) (hz : Sli w z zs) : SP w w.heap.size (some ⟨g, 0, none⟩) [xs, ys, zs] := fun j hj => by
  rcases j with _ | _ | _ | j
  · exact sli_at (ps := [xs, ys, zs]) (j := 0) hj rfl hv h.lt (h.cell 0)
  · exact sli_at (ps := [xs, ys, zs]) (j := 1) hj rfl hu h.lt (h.cell 1)
  · exact sli_at (ps := [xs, ys, zs]) (j := 2) hj rfl hz h.lt (h.cell 2)
  · exact absurd hj (by simp)

/-- What parts are: bytes, not too long in all. -/
structure Parts (s : ByteArray) (ps : List (List Int)) : Prop where
  byte : ∀ p ∈ ps, ∀ x ∈ p, 0 ≤ x ∧ x < 256
  len : s.size + psz ps ≤ 1099511627776
  few : ps.length ≤ 1099511627776

theorem numberOf_any (m : Int) [IsU m] (s : ByteArray) (A : Option Addr) (c k : Nat) (ps : List (List Int)) (hk : ps.length = k) (hp : Parts s ps) (w : World) (h : SP w w.heap.size A ps) :
    Calls Try.prog 38 #[.int .u64 m, .string s, .slice A k c] w fun e w' => e = .returned (.int .u64 (hof s ps m)) ∧ Below w.heap.size w w' := by
  subst hk
  have B0 := Lib.hid (Below.refl w.heap.size w)
  have T := Lib.hid (Tagged_any s A c ps hp.byte hp.len hp.few)
  have M := Lib.hid (Num_any (hst (coded (sbytes s) ps)).1 (hst (coded (sbytes s) ps)).2.1 m)
  have H := Lib.hid h
  clear h hp
  go_enter Try.func38, Try.ntmps38
  go_wp2_with fail
  refine (T.out _ H.out).mono ?_; rintro e w1 ⟨rfl, b⟩; have B1 := Lib.hid (below_on B0.out b); clear b
  go_wp2_with fail
  refine (M.out _).mono ?_; rintro e w2 ⟨rfl, b⟩; have B2 := Lib.hid (below_on B1.out b); clear b
  go_wp2_with fail
  go_ret
  exact ⟨rfl, B2.out⟩

theorem secretOf_any (s : ByteArray) (A : Option Addr) (c k : Nat) (ps : List (List Int)) (hk : ps.length = k) (hp : Parts s ps) (w : World) (h : SP w w.heap.size A ps) :
    Calls Try.prog 34 #[.string s, .slice A k c] w fun e w' => e = .returned (.int .u64 (1 + hof s ps 1152921504606845788)) ∧ Below w.heap.size w w' := by
  have B0 := Lib.hid (Below.refl w.heap.size w)
  haveI : IsU 1152921504606845788 := ⟨by omega, by omega⟩
  have T := Lib.hid (numberOf_any 1152921504606845788 s A c k ps hk hp)
  have hb := hof_bound s ps (m := 1152921504606845788) (by omega)
  have H := Lib.hid h
  clear h hp
  generalize hof s ps 1152921504606845788 = x at T hb ⊢
  have x0 := hb.1
  have x1 := hb.2
  clear hb
  go_enter Try.func34, Try.ntmps34
  go_wp2_with fail
  refine (T.out _ H.out).mono ?_; rintro e w1 ⟨rfl, b⟩; have B1 := Lib.hid (below_on B0.out b); clear b
  go_wp2_with fail
  go_ret
  exact ⟨rfl, B1.out⟩

/-- What a seed's secret is. -/
def ssecret (xs : List Int) : Int := 1 + hof ⟨#[115, 101, 99, 114, 101, 116]⟩ [xs] 1152921504606845788
theorem ssecret_bound (xs : List Int) : 1 ≤ ssecret xs ∧ ssecret xs < 1152921504606845789 := by
  have h := hof_bound ⟨#[115, 101, 99, 114, 101, 116]⟩ [xs] (m := 1152921504606845788) (by omega)
  unfold ssecret; omega
instance (xs : List Int) : IsU (ssecret xs) := ⟨by have := ssecret_bound xs; omega, by have := ssecret_bound xs; omega⟩

theorem Secret_any (A : Option Addr) (c : Nat) (xs : List Int) (hx : ∀ x ∈ xs, 0 ≤ x ∧ x < 256) (hl : xs.length ≤ 1000) (hc : xs.length ≤ c) (hm : c ≤ maxLen) (w : World) (hs : SI w w.heap.size .u8 A xs) :
    Calls Try.prog 15 #[.slice A xs.length c] w fun e w' => e = .returned (.int .u64 (ssecret xs)) ∧ Below w.heap.size w w' := by
  have V := Lib.hid (show Sli w (.slice A xs.length c) xs from ⟨A, c, rfl, hc, hm, hs⟩)
  have T := Lib.hid (fun A c => secretOf_any ⟨#[115, 101, 99, 114, 101, 116]⟩ A c 1 [xs] rfl ⟨by simpa using hx, by simp [psz, ByteArray.size]; omega, by simp⟩)
  clear hs hx hm
  go_enter Try.func15, Try.ntmps15
  go_wp2_with fail
  refine (T.out _ _ _ (sp1 (Blk.new_at w _ _ rfl) (V.out.on ((Below.refl _ _).alloc (Nat.le_refl _) _)))).mono ?_
  rintro e w1 ⟨rfl, b⟩
  have B1 := Lib.hid (below_on ((Below.refl w.heap.size w).alloc (Nat.le_refl _) _) b)
  clear b
  go_wp2_with fail
  go_ret
  exact ⟨rfl, B1.out⟩

theorem refSecret_any (A : Option Addr) (c : Nat) (xs : List Int) (hx : ∀ x ∈ xs, 0 ≤ x ∧ x < 256) (hl : xs.length ≤ 1000) (hc : xs.length ≤ c) (hm : c ≤ maxLen) (w : World) (hs : SI w w.heap.size .u8 A xs) :
    Calls Try.prog 16 #[.slice A xs.length c] w fun e w' => e = .returned (.int .u64 (ssecret xs)) ∧ Below w.heap.size w w' := by
  have V := Lib.hid (show Sli w (.slice A xs.length c) xs from ⟨A, c, rfl, hc, hm, hs⟩)
  haveI : IsU 1152921504606845788 := ⟨by omega, by omega⟩
  have T := Lib.hid (fun A c => refTagged_any ⟨#[115, 101, 99, 114, 101, 116]⟩ A c [xs] (by simpa using hx) (by simp [psz, ByteArray.size]; omega) (by simp))
  have M := Lib.hid (refNum_any (hst (coded (sbytes ⟨#[115, 101, 99, 114, 101, 116]⟩) [xs])).1 (hst (coded (sbytes ⟨#[115, 101, 99, 114, 101, 116]⟩) [xs])).2.1 1152921504606845788)
  have hb := hof_bound ⟨#[115, 101, 99, 114, 101, 116]⟩ [xs] (m := 1152921504606845788) (by omega)
  unfold ssecret
  rw [show hnum (hst (coded (sbytes ⟨#[115, 101, 99, 114, 101, 116]⟩) [xs])).1 (hst (coded (sbytes ⟨#[115, 101, 99, 114, 101, 116]⟩) [xs])).2.1 1152921504606845788 = hof ⟨#[115, 101, 99, 114, 101, 116]⟩ [xs] 1152921504606845788 from rfl] at M
  generalize hof ⟨#[115, 101, 99, 114, 101, 116]⟩ [xs] 1152921504606845788 = x at M hb ⊢
  have x0 := hb.1
  have x1 := hb.2
  clear hs hx hm hb
  go_enter Try.func16, Try.ntmps16
  go_wp2_with fail
  refine (T.out _ _ _ (sp1 (Blk.new_at w _ _ rfl) (V.out.on ((Below.refl _ _).alloc (Nat.le_refl _) _)))).mono ?_
  rintro e w1 ⟨rfl, b⟩
  have B1 := Lib.hid (below_on ((Below.refl w.heap.size w).alloc (Nat.le_refl _) _) b)
  clear b
  go_wp2_with fail
  refine (M.out _).mono ?_; rintro e w2 ⟨rfl, b⟩; have B2 := Lib.hid (below_on B1.out b); clear b
  go_wp2_with fail
  go_ret
  exact ⟨rfl, B2.out⟩

/-- What is hashed of a commitment. -/
def schal (c p : Int) (xs : List Int) : Int := hof ⟨#[115, 105, 103, 110]⟩ [be c 8, be p 8, xs] 1152921504606845789
theorem schal_bound (c p : Int) (xs : List Int) : 0 ≤ schal c p xs ∧ schal c p xs < 1152921504606845789 := hof_bound _ _ (by omega)
instance (c p : Int) (xs : List Int) : IsU (schal c p xs) := ⟨by have := schal_bound c p xs; omega, by have := schal_bound c p xs; omega⟩
theorem chal_parts (c p : Int) {xs : List Int} (hx : ∀ x ∈ xs, 0 ≤ x ∧ x < 256) (hl : xs.length ≤ 1000) : Parts ⟨#[115, 105, 103, 110]⟩ [be c 8, be p 8, xs] :=
  ⟨by
    intro q hq
    simp only [List.mem_cons, List.not_mem_nil, or_false] at hq
    rcases hq with rfl | rfl | rfl
    · exact be_bound _ _
    · exact be_bound _ _
    · exact hx, by simp [psz, ByteArray.size, be_length]; omega, by simp⟩

theorem Challenge_any (c p : Int) [IsU c] [IsU p] (A : Option Addr) (cp : Nat) (xs : List Int) (hx : ∀ x ∈ xs, 0 ≤ x ∧ x < 256) (hl : xs.length ≤ 1000) (hc : xs.length ≤ cp) (hm : cp ≤ maxLen) (w : World) (hs : SI w w.heap.size .u8 A xs) :
    Calls Try.prog 17 #[.int .u64 c, .int .u64 p, .slice A xs.length cp] w fun e w' => e = .returned (.int .u64 (schal c p xs)) ∧ Below w.heap.size w w' := by
  have V := Lib.hid (show Sli w (.slice A xs.length cp) xs from ⟨A, cp, rfl, hc, hm, hs⟩)
  haveI : IsU 1152921504606845789 := ⟨by omega, by omega⟩
  have T := Lib.hid (fun A c' => numberOf_any 1152921504606845789 ⟨#[115, 105, 103, 110]⟩ A c' 3 [be c 8, be p 8, xs] rfl (chal_parts c p hx hl))
  have P1 := Lib.hid (bytesOf_any c)
  have P2 := Lib.hid (bytesOf_any p)
  unfold be8 at P1 P2
  clear hs hx hm
  go_enter Try.func17, Try.ntmps17
  go_wp2_with fail
  refine (P1.out _).mono ?_; rintro e w1 ⟨rfl, b⟩; have B1 := Lib.hid b; clear b
  go_wp2_with fail
  refine (P2.out _).mono ?_; rintro e w2 ⟨rfl, b⟩; have B2 := Lib.hid (below_on B1.out b); clear b
  go_wp2_with fail
  refine wp_named (fun W => Blk W w2.heap.size 52 #[.int .u8 (byt c 7), .int .u8 (byt c 6), .int .u8 (byt c 5), .int .u8 (byt c 4), .int .u8 (byt c 3), .int .u8 (byt c 2), .int .u8 (byt c 1), .int .u8 (byt c 0)] ∧ Blk W (w2.heap.size + 1) 52 #[.int .u8 (byt p 7), .int .u8 (byt p 6), .int .u8 (byt p 5), .int .u8 (byt p 4), .int .u8 (byt p 3), .int .u8 (byt p 2), .int .u8 (byt p 1), .int .u8 (byt p 0)] ∧ Below w.heap.size w W) ⟨(Blk.new_at w2 _ _ rfl).alloc _, Blk.new_at _ _ _ (by simp), (B2.out.alloc B2.out.size _).alloc (by have := B2.out.size; simp; omega) _⟩ ?_
  rintro W ⟨q1, q2, b3⟩
  have B3 := Lib.hid b3
  have V1 := Lib.hid (show Sli W (.slice (some ⟨w2.heap.size, 0, none⟩) 8 8) (be c 8) from ⟨_, 8, by rw [be_length], by rw [be_length]; omega, by unfold maxLen; omega, si_be8 q1⟩)
  have V2 := Lib.hid (show Sli W (.slice (some ⟨w2.heap.size + 1, 0, none⟩) 8 8) (be p 8) from ⟨_, 8, by rw [be_length], by rw [be_length]; omega, by unfold maxLen; omega, si_be8 q2⟩)
  have V3 := Lib.hid (V.out.on B3.out)
  clear q1 q2 b3 P1 P2
  go_region_with
    (first | (go_at_call 38; refine (T.out _ _ _ (sp3 (Blk.drew (Blk.new_at W _ _ rfl)) (V1.out.on ((Below.refl _ _).alloc (Nat.le_refl _) _).drew) (V2.out.on ((Below.refl _ _).alloc (Nat.le_refl _) _).drew) (V3.out.on ((Below.refl _ _).alloc (Nat.le_refl _) _).drew))).mono ?_; rintro e w5 ⟨rfl, b5⟩; have hW := below_on ((Below.refl W.heap.size W).alloc (Nat.le_refl _) _).drew b5))
  all_goals
    go_wp2_with fail
    go_ret
    exact ⟨rfl, B3.out.trans (hW.mono B3.out.size)⟩

theorem refChallenge_any (c p : Int) [IsU c] [IsU p] (A : Option Addr) (cp : Nat) (xs : List Int) (hx : ∀ x ∈ xs, 0 ≤ x ∧ x < 256) (hl : xs.length ≤ 1000) (hc : xs.length ≤ cp) (hm : cp ≤ maxLen) (w : World) (hs : SI w w.heap.size .u8 A xs) :
    Calls Try.prog 18 #[.int .u64 c, .int .u64 p, .slice A xs.length cp] w fun e w' => e = .returned (.int .u64 (schal c p xs)) ∧ Below w.heap.size w w' := by
  have B0 := Lib.hid (Below.refl w.heap.size w)
  have V := Lib.hid (show Sli w (.slice A xs.length cp) xs from ⟨A, cp, rfl, hc, hm, hs⟩)
  haveI : IsU 1152921504606845789 := ⟨by omega, by omega⟩
  have K := Lib.hid (chal_parts c p hx hl)
  have T := Lib.hid (fun A c' => refTagged_any ⟨#[115, 105, 103, 110]⟩ A c' [be c 8, be p 8, xs] K.out.byte K.out.len K.out.few)
  have M := Lib.hid (refNum_any (hst (coded (sbytes ⟨#[115, 105, 103, 110]⟩) [be c 8, be p 8, xs])).1 (hst (coded (sbytes ⟨#[115, 105, 103, 110]⟩) [be c 8, be p 8, xs])).2.1 1152921504606845789)
  have P1 := Lib.hid (eight_slice c)
  have P2 := Lib.hid (eight_slice p)
  clear hs hx hm
  go_enter Try.func18, Try.ntmps18
  go_wp2_with fail
  refine (P1.out _).mono ?_; rintro e w1 ⟨A1, rfl, s1, b⟩; have B1 := Lib.hid (below_on B0.out b); clear b
  have S1 := Lib.hid s1
  clear s1
  go_wp2_with fail
  refine (P2.out _).mono ?_; rintro e w2 ⟨A2, rfl, s2, b⟩
  have V1 := Lib.hid (show Sli w2 (.slice A1 8 8) (be c 8) from ⟨A1, 8, by rw [be_length], by rw [be_length]; omega, by unfold maxLen; omega, S1.out.on b⟩)
  have V2 := Lib.hid (show Sli w2 (.slice A2 8 8) (be p 8) from ⟨A2, 8, by rw [be_length], by rw [be_length]; omega, by unfold maxLen; omega, s2⟩)
  have B2 := Lib.hid (below_on B1.out b)
  have V3 := Lib.hid (V.out.on B2.out)
  clear b s2
  go_wp2_with fail
  refine (T.out _ _ _ (sp3 (Blk.new_at w2 _ _ rfl) (V1.out.on ((Below.refl _ _).alloc (Nat.le_refl _) _)) (V2.out.on ((Below.refl _ _).alloc (Nat.le_refl _) _)) (V3.out.on ((Below.refl _ _).alloc (Nat.le_refl _) _)))).mono ?_
  rintro e w3 ⟨rfl, b⟩
  have B3 := Lib.hid (below_on (B2.out.alloc B2.out.size _) b)
  clear b
  go_wp2_with fail
  refine (M.out _).mono ?_; rintro e w4 ⟨rfl, b⟩; have B4 := Lib.hid (below_on B3.out b); clear b
  go_wp2_with fail
  go_ret
  exact ⟨rfl, B4.out⟩
end Go.Proofs.Ytippfhlljlfcnaa
