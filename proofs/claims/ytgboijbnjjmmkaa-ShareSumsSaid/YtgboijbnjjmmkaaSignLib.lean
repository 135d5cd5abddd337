/- Several texts of one kind, one behind the other: SignA, SignB, SignC, SignD. -/
import Derived.Test.YtgboijbnjjmmkaaHashLib2
import Derived.Test.YtgboijbnjjmmkaaHashLib4
import Derived.Test.YtgboijbnjjmmkaaCycLib
import Derived.RegionTactic
import Derived.Deep.DrawnRows
import Derived.Test.YtgboijbnjjmmkaaPlain
/- Contracts of the signatures: a number's eight bytes, as an array and as a slice. -/
namespace Go.Proofs.Ytgboijbnjjmmkaa
open Go.ChangeShapes Go.WideShapes Go.ChangeAt Go.RowKit Gs
set_option linter.unusedVariables false

/-- A number's eight bytes as a value of an array. -/
def be8 (n : Int) : Value := .agg #[.int .u8 (byt n 7), .int .u8 (byt n 6), .int .u8 (byt n 5), .int .u8 (byt n 4), .int .u8 (byt n 3), .int .u8 (byt n 2), .int .u8 (byt n 1), .int .u8 (byt n 0)]

theorem si_be8 {w : World} {g : Nat} {t : TypeId} {n : Int} (h : Blk w g t #[.int .u8 (byt n 7), .int .u8 (byt n 6), .int .u8 (byt n 5), .int .u8 (byt n 4), .int .u8 (byt n 3), .int .u8 (byt n 2), .int .u8 (byt n 1), .int .u8 (byt n 0)]) : SI w w.heap.size .u8 (some ⟨g, 0, none⟩) (be n 8) := fun j hj => by
  rw [be_length] at hj
  refine ⟨_, rfl, h.lt, ?_⟩
  rcases j with _ | _ | _ | _ | _ | _ | _ | _ | j
  · exact h.cell 0
  · exact h.cell 1
  · exact h.cell 2
  · exact h.cell 3
  · exact h.cell 4
  · exact h.cell 5
  · exact h.cell 6
  · exact h.cell 7
  · omega

/-- Between two rounds of a loop: the world under a new name, with what is known of it. -/
theorem rounds_named {P : Program} {c : Code} {K : Exit → Act → World → Prop} {n : Nat} {a : Act} {W : World} (Q : World → Prop) (hQ : Q W) (h : ∀ w2, Q w2 → Code.rounds P c K n a w2) : Code.rounds P c K n a W := h W hQ

end Go.Proofs.Ytgboijbnjjmmkaa

/- Contracts of the signatures: what is hashed of parts, as a number; a secret of a seed. -/
namespace Go.Proofs.Ytgboijbnjjmmkaa
open Go.ChangeShapes Go.WideShapes Go.ChangeAt Go.RowKit Gs
set_option linter.unusedVariables false

/-- What is hashed of a tag and parts, as a number below m. -/
def hof (s : ByteArray) (ps : List (List Int)) (m : Int) : Int := hnum (hst (coded (sbytes s) ps)).1 (hst (coded (sbytes s) ps)).2.1 m
theorem hnum_bound (a b : Int) {m : Int} (h : 0 < m) : 0 ≤ hnum a b m ∧ hnum a b m < m := by
  unfold hnum
  rw [if_neg (by omega)]
  exact ⟨Int.emod_nonneg _ (by omega), Int.emod_lt_of_pos _ h⟩
theorem hof_bound (s : ByteArray) (ps : List (List Int)) {m : Int} (h : 0 < m) : 0 ≤ hof s ps m ∧ hof s ps m < m := hnum_bound _ _ h
instance (l : List Int) : IsU (hst l).1 := IsU.of (hst_el l).1.u64
instance (l : List Int) : IsU (hst l).2.1 := IsU.of (hst_el l).2.1.u64

/-- Bytes that a slice holds. -/
def Sli (w : World) (v : Value) (xs : List Int) : Prop := ∃ A c, v = .slice A xs.length c ∧ xs.length ≤ c ∧ c ≤ maxLen ∧ SI w w.heap.size .u8 A xs
theorem Sli.on {w w' : World} {v : Value} {xs : List Int} (h : Sli w v xs) (hb : Below w.heap.size w w') : Sli w' v xs := by
  obtain ⟨A, c, e, h1, h2, hs⟩ := h
  exact ⟨A, c, e, h1, h2, hs.on hb⟩
theorem sli_at {w : World} {xs : List Int} {ps : List (List Int)} {j : Nat} (hj : j < ps.length) (e : ps[j] = xs) {v : Value} (h : Sli w v xs) {ad : Addr} (hb : ad.block < w.heap.size) (hc : w.cell? (ad.add j) = some v) :
    ∃ ad', some ad = some ad' ∧ ad'.block < w.heap.size ∧ ∃ A' c', w.cell? (ad'.add j) = some (.slice A' ps[j].length c') ∧ ps[j].length ≤ c' ∧ c' ≤ maxLen ∧ SI w w.heap.size .u8 A' ps[j] := by
  subst e
  obtain ⟨A, c, rfl, h1, h2, hs⟩ := h
  exact ⟨ad, rfl, hb, A, c, hc, h1, h2, hs⟩
theorem sp1 {w : World} {g : Nat} {t : TypeId} {v : Value} {xs : List Int} (h : Blk w g t #[v]) (hv : Sli w v xs) : SP w w.heap.size (some ⟨g, 0, none⟩) [xs] := fun j hj => by
  rcases j with _ | j
  · exact sli_at (ps := [xs]) (j := 0) hj rfl hv h.lt (h.cell 0)
  · simp at hj
theorem sp2 {w : World} {g : Nat} {t : TypeId} {v u : Value} {xs ys : List Int} (h : Blk w g t #[v, u]) (hv : Sli w v xs) (hu : Sli w u ys) : SP w w.heap.size (some ⟨g, 0, none⟩) [xs, ys] := fun j hj => by
  rcases j with _ | _ | j
  · exact sli_at (ps := [xs, ys]) (j := 0) hj rfl hv h.lt (h.cell 0)
  · exact sli_at (ps := [xs, ys]) (j := 1) hj rfl hu h.lt (h.cell 1)
  · exact absurd hj (by simp)
theorem sp3 {w : World} {g : Nat} {t : TypeId} {v u z : Value} {xs ys zs : List Int} (h : Blk w g t #[v, u, z]) (hv : Sli w v xs) (hu : Sli w u ys) (hz : Sli w z zs) : SP w w.heap.size (some ⟨g, 0, none⟩) [xs, ys, zs] := fun j hj => by
  rcases j with _ | _ | _ | j
  · exact sli_at (ps := [xs, ys, zs]) (j := 0) hj rfl hv h.lt (h.cell 0)
  · exact sli_at (ps := [xs, ys, zs]) (j := 1) hj rfl hu h.lt (h.cell 1)
  · exact sli_at (ps := [xs, ys, zs]) (j := 2) hj rfl hz h.lt (h.cell 2)
  · exact absurd hj (by simp)

/-- What parts are: bytes, not too long in all. -/
structure Parts (s : ByteArray) (ps : List (List Int)) : Prop where
  byte : ∀ p ∈ ps, ∀ x ∈ p, 0 ≤ x ∧ x < 256
  len : s.size + psz ps ≤ 1099511627776
  few : ps.length ≤ 1099511627776

/-- What a seed's secret is. -/
def ssecret (xs : List Int) : Int := 1 + hof ⟨#[115, 101, 99, 114, 101, 116]⟩ [xs] 1152921504606845788
theorem ssecret_bound (xs : List Int) : 1 ≤ ssecret xs ∧ ssecret xs < 1152921504606845789 := by
  have h := hof_bound ⟨#[115, 101, 99, 114, 101, 116]⟩ [xs] (m := 1152921504606845788) (by omega)
  unfold ssecret; omega
instance (xs : List Int) : IsU (ssecret xs) := ⟨by have := ssecret_bound xs; omega, by have := ssecret_bound xs; omega⟩

/-- What is hashed of a commitment. -/
def schal (c p : Int) (xs : List Int) : Int := hof ⟨#[115, 105, 103, 110]⟩ [be c 8, be p 8, xs] 1152921504606845789
theorem schal_bound (c p : Int) (xs : List Int) : 0 ≤ schal c p xs ∧ schal c p xs < 1152921504606845789 := hof_bound _ _ (by omega)
instance (c p : Int) (xs : List Int) : IsU (schal c p xs) := ⟨by have := schal_bound c p xs; omega, by have := schal_bound c p xs; omega⟩
theorem chal_parts (c p : Int) {xs : List Int} (hx : ∀ x ∈ xs, 0 ≤ x ∧ x < 256) (hl : xs.length ≤ 1000) : Parts ⟨#[115, 105, 103, 110]⟩ [be c 8, be p 8, xs] :=
  ⟨by
    intro q hq
    simp only [List.mem_cons, List.not_mem_nil, or_false] at hq
    rcases hq with rfl | rfl | rfl
    · exact be_bound _ _
    · exact be_bound _ _
    · exact hx, by simp [psz, ByteArray.size, be_length]; omega, by simp⟩

end Go.Proofs.Ytgboijbnjjmmkaa

/- Contracts of the signatures: public keys, what is signed. -/
namespace Go.Proofs.Ytgboijbnjjmmkaa
open Go.ChangeShapes Go.WideShapes Go.ChangeAt Go.RowKit Gs
set_option linter.unusedVariables false

/-- The nonce of a secret and a message. -/
def snonce (s : Int) (xs : List Int) : Int := 1 + hof ⟨#[110, 111, 110, 99, 101]⟩ [be s 8, xs] 1152921504606845788
theorem snonce_bound (s : Int) (xs : List Int) : 1 ≤ snonce s xs ∧ snonce s xs < 1152921504606845789 := by
  have h := hof_bound ⟨#[110, 111, 110, 99, 101]⟩ [be s 8, xs] (m := 1152921504606845788) (by omega)
  unfold snonce; omega
instance (s : Int) (xs : List Int) : IsU (snonce s xs) := ⟨by have := snonce_bound s xs; omega, by have := snonce_bound s xs; omega⟩
theorem nonce_parts (s : Int) {xs : List Int} (hx : ∀ x ∈ xs, 0 ≤ x ∧ x < 256) (hl : xs.length ≤ 1000) : Parts ⟨#[110, 111, 110, 99, 101]⟩ [be s 8, xs] :=
  ⟨by
    intro q hq
    simp only [List.mem_cons, List.not_mem_nil, or_false] at hq
    rcases hq with rfl | rfl
    · exact be_bound _ _
    · exact hx, by simp [psz, ByteArray.size, be_length]; omega, by simp⟩
/-- The two numbers of what is signed. -/
def ssigE (s : Int) (xs : List Int) : Int := schal (qpow 4 (snonce s xs)) (qpow 4 s) xs
def ssigS (s : Int) (xs : List Int) : Int := radd (snonce s xs) (rmul (ssigE s xs) s)
instance (s : Int) (xs : List Int) : IsU (ssigE s xs) := by unfold ssigE; infer_instance
instance (s : Int) (xs : List Int) : IsU (ssigS s xs) := by unfold ssigS; infer_instance
theorem ssigE_bound (s : Int) (xs : List Int) : 0 ≤ ssigE s xs ∧ ssigE s xs < 1152921504606845789 := schal_bound _ _ _
theorem ssigS_bound (s : Int) (xs : List Int) : 0 ≤ ssigS s xs ∧ ssigS s xs < 1152921504606845789 := radd_bound _ _

end Go.Proofs.Ytgboijbnjjmmkaa

/- Contracts of the document's own answers: public keys, what is signed. -/
namespace Go.Proofs.Ytgboijbnjjmmkaa
open Go.ChangeShapes Go.WideShapes Go.ChangeAt Go.RowKit Gs
set_option linter.unusedVariables false

end Go.Proofs.Ytgboijbnjjmmkaa
