/- Items, plainly: what may be, how deep, how heavy, the bytes. -/
import Derived.Test.YteafbfhojhpbgaaDerBase
namespace Go.Proofs.Yteafbfhojhpbgaa
open Go.ChangeShapes Go.WideShapes Go.ChangeAt Go.RowKit Gs
set_option linter.unusedVariables false

/-- An item: its tag, its bytes, its items. -/
inductive It where
  | mk (tag : Int) (b : List Int) (l : List It) : It
def It.tag : It → Int | .mk t _ _ => t
def It.b : It → List Int | .mk _ b _ => b
def It.l : It → List It | .mk _ _ l => l

mutual
/-- How heavy: 2 for each item, 1 for each byte. -/
def It.wt : It → Nat | .mk _ b l => 2 + b.length + wts l
def wts : List It → Nat | [] => 0 | x :: r => x.wt + wts r
end
theorem wt_pos (x : It) : 2 ≤ x.wt := by cases x; rw [It.wt]; omega
theorem wts_mem : ∀ {l : List It} {x : It}, x ∈ l → x.wt ≤ wts l
  | y :: r, x, h => by
    rw [wts]
    rcases List.mem_cons.1 h with rfl | h
    · omega
    · have := wts_mem h; omega
theorem wt_child {x y : It} (h : y ∈ x.l) : y.wt < x.wt := by
  cases x with | mk t b l =>
  have := wts_mem (l := l) h
  rw [It.wt]; omega
theorem wts_len : ∀ l : List It, 2 * l.length ≤ wts l
  | [] => by simp [wts]
  | x :: r => by
    have := wts_len r
    have := wt_pos x
    rw [wts, List.length_cons]; omega
theorem wts_append : ∀ (a c : List It), wts (a ++ c) = wts a + wts c
  | [], c => by simp [wts]
  | x :: a, c => by rw [List.cons_append, wts, wts, wts_append a c]; omega
theorem It.eta (x : It) : x = .mk x.tag x.b x.l := by cases x; rfl
theorem wt_is (x : It) : x.wt = 2 + x.b.length + wts x.l := by cases x; rw [It.wt]; rfl

/-- Induction over items: from all that are lighter. -/
theorem it_ind {p : It → Prop} (h : ∀ x, (∀ y ∈ x.l, p y) → p x) : ∀ x, p x := by
  suffices ∀ n x, It.wt x ≤ n → p x from fun x => this _ x (Nat.le_refl _)
  intro n
  induction n with
  | zero => intro x hx; have := wt_pos x; omega
  | succ n ih => exact fun x hx => h x fun y hy => ih y (by have := wt_child hy; omega)

def boolB (b : List Int) : Bool := decide (b = [0]) || decide (b = [255])
def intB (b : List Int) : Bool := decide (1 ≤ b.length ∧ b.length ≤ 8) && (decide (b.length = 1) || !(decide (b[0]?.getD 0 = 0) && decide (b[1]?.getD 0 < 128) || decide (b[0]?.getD 0 = 255) && decide ((128 : Int) ≤ b[1]?.getD 0)))
def textB (b : List Int) : Bool := b.all fun x => decide (32 ≤ x ∧ x ≤ 126)
/-- Are they bytes that the tag lets be? -/
def okB (t : Int) (b : List Int) : Bool :=
  if t = 1 then boolB b else if t = 2 then intB b else if t = 4 then true else if t = 12 then textB b else if t = 48 then decide (b.length = 0) else false
def isTag (t : Int) : Bool := decide (t = 1 ∨ t = 2 ∨ t = 4 ∨ t = 12 ∨ t = 48)
theorem okB_tag {t : Int} {b : List Int} (h : okB t b = true) : isTag t = true := by
  unfold okB at h
  unfold isTag
  apply decide_eq_true
  by_cases h1 : t = 1
  · exact .inl h1
  rw [if_neg h1] at h
  by_cases h2 : t = 2
  · exact .inr (.inl h2)
  rw [if_neg h2] at h
  by_cases h3 : t = 4
  · exact .inr (.inr (.inl h3))
  rw [if_neg h3] at h
  by_cases h4 : t = 12
  · exact .inr (.inr (.inr (.inl h4)))
  rw [if_neg h4] at h
  by_cases h5 : t = 48
  · exact .inr (.inr (.inr (.inr h5)))
  rw [if_neg h5] at h
  cases h

/-- May it be, so deep at most? -/
def mayI : Nat → It → Bool
  | 0, _ => false
  | d + 1, x => okB x.tag x.b && (if x.tag = 48 then x.l.all (mayI d) else decide (x.l.length = 0))

mutual
def It.deep : It → Nat | .mk _ _ l => deeps l + 1
def deeps : List It → Nat | [] => 0 | x :: r => max x.deep (deeps r)
end
mutual
def It.form : It → Bool | .mk t b l => okB t b && (if t = 48 then forms l else decide (l.length = 0))
def forms : List It → Bool | [] => true | x :: r => x.form && forms r
end
theorem deep_is (x : It) : x.deep = deeps x.l + 1 := by cases x; rw [It.deep]; rfl
theorem form_is (x : It) : x.form = (okB x.tag x.b && (if x.tag = 48 then forms x.l else decide (x.l.length = 0))) := by cases x; rw [It.form]; rfl
theorem deeps_le : ∀ {l : List It} {d : Nat}, deeps l ≤ d ↔ ∀ x ∈ l, x.deep ≤ d
  | [], d => by simp [deeps]
  | x :: r, d => by
    rw [deeps, Nat.max_le, deeps_le]
    simp
theorem forms_all : ∀ {l : List It}, forms l = true ↔ ∀ x ∈ l, x.form = true
  | [] => by simp [forms]
  | x :: r => by
    rw [forms, Bool.and_eq_true, forms_all]
    simp
/-- May be, so deep at most: has the form, and is so deep at most. -/
theorem may_iff : ∀ (d : Nat) (x : It), mayI d x = true ↔ x.form = true ∧ x.deep ≤ d
  | 0, x => by
    have := deep_is x
    simp [mayI]
    omega
  | d + 1, x => by
    rw [mayI, form_is, deep_is]
    simp only [Bool.and_eq_true]
    by_cases h : x.tag = 48
    · simp only [if_pos h, List.all_eq_true, forms_all, Nat.add_le_add_iff_right, deeps_le]
      constructor
      · exact fun ⟨a, b⟩ => ⟨⟨a, fun y hy => ((may_iff d y).1 (b y hy)).1⟩, fun y hy => ((may_iff d y).1 (b y hy)).2⟩
      · exact fun ⟨⟨a, b⟩, c⟩ => ⟨a, fun y hy => (may_iff d y).2 ⟨b y hy, c y hy⟩⟩
    · simp only [if_neg h, decide_eq_true_eq]
      constructor
      · intro ⟨a, b⟩
        have : x.l = [] := List.length_eq_zero_iff.1 b
        rw [this, deeps]
        exact ⟨⟨a, rfl⟩, by omega⟩
      · exact fun ⟨a, _⟩ => a
theorem may_bool (d : Nat) (x : It) : mayI d x = (x.form && decide (x.deep ≤ d)) := by
  rw [Bool.eq_iff_iff, may_iff]
  simp

/-- A length, as bytes. -/
def lenB (n : Nat) : List Int := if n < 128 then [(n : Int)] else if n < 256 then [129, (n : Int)] else [130, (n / 256 % 256 : Nat), (n % 256 : Nat)]
theorem lenB_pos (n : Nat) : 1 ≤ (lenB n).length := by unfold lenB; split <;> (try split) <;> simp
theorem lenB_le (n : Nat) : (lenB n).length ≤ 3 := by unfold lenB; split <;> (try split) <;> simp
mutual
/-- An item's bytes. -/
def It.enc : It → List Int | .mk t b l => t % 256 :: (lenB (b.length + (encs l).length) ++ (b ++ encs l))
def encs : List It → List Int | [] => [] | x :: r => x.enc ++ encs r
end
theorem enc_is (x : It) : x.enc = x.tag % 256 :: (lenB (x.b.length + (encs x.l).length) ++ (x.b ++ encs x.l)) := by cases x; rw [It.enc]; rfl
theorem encs_append : ∀ (a c : List It), encs (a ++ c) = encs a ++ encs c
  | [], c => by simp [encs]
  | x :: a, c => by rw [List.cons_append, encs, encs, encs_append a c, List.append_assoc]
/-- How many bytes, within the content. -/
def It.cont (x : It) : Nat := x.b.length + (encs x.l).length
theorem enc_len (x : It) : x.enc.length = 1 + (lenB x.cont).length + x.cont := by
  rw [enc_is]; unfold It.cont; simp; omega
theorem encs_wt {l : List It} (h : ∀ x ∈ l, x.enc.length ≤ 2 * x.wt) : (encs l).length ≤ 2 * wts l := by
  induction l with
  | nil => simp [encs, wts]
  | cons x r ih =>
    rw [encs, wts, List.length_append]
    have h1 := h x (by simp)
    have h2 := ih (fun y hy => h y (by simp [hy]))
    omega
theorem enc_wt : ∀ x : It, x.enc.length ≤ 2 * x.wt := it_ind fun x ih => by
  have h := encs_wt ih
  have h3 := lenB_le x.cont
  have hc : x.cont = x.b.length + (encs x.l).length := rfl
  rw [enc_len, wt_is]
  omega
theorem cont_wt (x : It) : x.cont ≤ 2 * x.wt := by have := enc_wt x; rw [enc_len] at this; omega
mutual
/-- Tags and bytes that are numbers of their kinds. -/
def It.wf : It → Prop | .mk t b l => (-9223372036854775808 ≤ t ∧ t < 9223372036854775808) ∧ (∀ x ∈ b, 0 ≤ x ∧ x < 256) ∧ wfs l
def wfs : List It → Prop | [] => True | x :: r => x.wf ∧ wfs r
end
theorem wf_is (x : It) : x.wf ↔ (-9223372036854775808 ≤ x.tag ∧ x.tag < 9223372036854775808) ∧ (∀ y ∈ x.b, 0 ≤ y ∧ y < 256) ∧ wfs x.l := by cases x; rw [It.wf]; rfl
theorem wfs_all : ∀ {l : List It}, wfs l ↔ ∀ x ∈ l, x.wf
  | [] => by simp [wfs]
  | x :: r => by rw [wfs, wfs_all]; simp
end Go.Proofs.Yteafbfhojhpbgaa
