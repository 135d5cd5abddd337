/- Bytes read as items: the program's own. -/
import Derived.Test.YteafbfhojhpbgaaDerQ
namespace Go.Proofs.Yteafbfhojhpbgaa
open Go.ChangeShapes Go.WideShapes Go.ChangeAt Go.RowKit Gs
set_option linter.unusedVariables false

/-- What reading tells: an item out of fresh memory and how many bytes it has, or why it is none. -/
def GetRes (r : GR) (base : Nat) (e : Ending) (w : World) : Prop := match r with
  | .bad k => e = .returned (.tuple #[.agg #[.int .i64 0, .slice none 0 0, .slice none 0 0], .int .i64 0, .int .i64 k])
  | .ok x n => ∃ A c A' c', e = .returned (.tuple #[.agg #[.int .i64 x.tag, .slice A x.b.length c, .slice A' x.l.length c'], .int .i64 n, .int .i64 0]) ∧ ItR w (fun g => base ≤ g ∧ g < w.heap.size) x (.slice A x.b.length c) (.slice A' x.l.length c')
def GetOf (b : List Int) : Prop := ∀ (A : Option Addr) (c : Nat) (w : World), b.length ≤ c → c ≤ maxLen → SI w w.heap.size .u8 A b →
  Calls Try.prog 48 #[.slice A b.length c] w fun e w' => GetRes (rawG b) w.heap.size e w' ∧ Below w.heap.size w w'
def GetAllRes (r : Option (List It)) (base : Nat) (e : Ending) (w : World) : Prop := match r with
  | none => e = .returned (.tuple #[.slice none 0 0, .int .i64 71])
  | some l => ∃ v, e = .returned (.tuple #[v, .int .i64 0]) ∧ OwnIt w base base v l
def GetAllOf (b : List Int) : Prop := ∀ (A : Option Addr) (c : Nat) (w : World), b.length ≤ c → c ≤ maxLen → SI w w.heap.size .u8 A b →
  Calls Try.prog 74 #[.slice A b.length c] w fun e w' => GetAllRes (rawL b) w.heap.size e w' ∧ Below w.heap.size w w'

theorem si_part {w : World} {B : Nat} {k : IntKind} {ad : Addr} {xs : List Int} (h : SI w B k (some ad) xs) (i n : Nat) (hn : i + n ≤ xs.length) : SI w B k (some (ad.add i)) ((xs.drop i).take n) := fun j hj => by
  have hl : ((xs.drop i).take n).length = n := by rw [List.length_take, List.length_drop]; omega
  rw [hl] at hj
  obtain ⟨ad', e, hb, hc⟩ := h (i + j) (by omega)
  cases e
  refine ⟨_, rfl, by rw [block_of_add]; exact hb, ?_⟩
  rw [add_of_add, hc, List.getElem?_take_of_lt hj, List.getElem?_drop]

set_option maxRecDepth 100000 in
set_option maxHeartbeats 8000000 in
theorem get_leaf (b : List Int) (hb : ∀ x ∈ b, 0 ≤ x ∧ x < 256) (hl : b.length ≤ 100000) (k cc : Nat) (t : Int) (h0 : hdS b = (k, cc, 0)) (hk : 2 ≤ k) (ht : b[0]?.getD 0 = t) (htag : isTag t = true) (h48 : t ≠ 48) (h8 : k + cc ≤ 8192) (hm : k + cc ≤ b.length)
    (A : Option Addr) (c : Nat) (w : World) (hbc : b.length ≤ c) (hc : c ≤ maxLen) (hs : SI w w.heap.size .u8 A b) :
    Calls Try.prog 48 #[.slice A b.length c] w fun e w' => GetRes (.ok (.mk t ((b.drop k).take cc) []) (k + cc)) w.heap.size e w' ∧ Below w.heap.size w w' := by
  obtain ⟨ad, rfl, had, c00⟩ : ∃ ad, A = some ad ∧ ad.block < w.heap.size ∧ w.cell? ad = some (.int .u8 t) := by
    obtain ⟨ad, e, h, c⟩ := hs 0 (by omega)
    rw [ht] at c
    exact ⟨ad, e, h, by simpa [Addr.add] using c⟩
  have htb : 0 ≤ t ∧ t < 256 := by
    rw [← ht, List.getElem?_eq_getElem (show 0 < b.length by omega)]
    exact hb _ (List.getElem_mem _)
  have ht0 := htb.1
  have ht1 := htb.2
  have PH := Lib.hid (fun W (h : SI W W.heap.size .u8 (some ad) b) => getHead_any b hb (some ad) b.length c rfl hbc hc W h)
  rw [h0] at PH
  have PD := Lib.hid (fun W => (demandOf_any t W).mono fun e w' h => (⟨h.1.1 htag, h.2⟩ : e = .returned (.tuple #[.agg #[.int .i64 t, .func (.func (dmdF t)) #[] #[], .bool (decide (t = 48))], .bool true]) ∧ Below W.heap.size W w'))
  rw [decide_eq_false h48] at PD
  have hcl : ((b.drop k).take cc).length = cc := by rw [List.length_take, List.length_drop]; omega
  have PCb := Lib.hid (fun W (h : SI W W.heap.size .u8 (some ad) b) => clone_any (some (ad.add k)) (k + cc - k) (c - k) ((b.drop k).take cc) (by omega) (by omega) W (si_part h k cc hm))
  have PCa := Lib.hid (fun (h : c = k) W => clone_any (some ad) (k + cc - k) 0 ((b.drop k).take cc) (by omega) (by omega) W (fun j hj => by omega))
  have HIt := Lib.hid (fun (W : World) (B0 : Nat) (A5 : Option Addr) (c5 : Nat) (OB : OwnB W B0 (.slice A5 ((b.drop k).take cc).length c5) ((b.drop k).take cc)) => (show ItR W (fun g => B0 ≤ g ∧ g < W.heap.size) (.mk t ((b.drop k).take cc) []) (.slice A5 ((b.drop k).take cc).length c5) (.slice none 0 0) from
    (itR_fresh (x := .mk t ((b.drop k).take cc) []) (v := .slice none 0 0) (C := B0) OB (OwnIt.nil W B0 B0) (fun g e => by cases e) (Nat.le_refl _)).more (fun g hg => ⟨hg.1, hg.2.1⟩)))
  have HS := Lib.hid hs
  obtain ⟨m, hmm⟩ : ∃ m, b.length = m := ⟨_, rfl⟩
  rw [hmm] at PH hm hl hbc ⊢
  obtain ⟨s, hss⟩ : ∃ s, k + cc = s := ⟨_, rfl⟩
  have hw : IntKind.i64.wrap ((k : Int) + (cc : Int)) = (s : Int) := by rw [show (k : Int) + (cc : Int) = (s : Int) by omega]; exact IntWalk.i64_in _ (by omega)
  have q1 : decide ((8192 : Int) < (s : Int)) = false := decide_eq_false (by omega)
  have q2 : decide ((m : Int) < (s : Int)) = false := decide_eq_false (by omega)
  have q1' : decide (8192 < s) = false := decide_eq_false (by omega)
  have q2' : decide (m < s) = false := decide_eq_false (by omega)
  have g1 : (k : Int) ≤ (s : Int) := by omega
  have g1' : k ≤ s := by omega
  have g2' : s ≤ c := by omega
  have g2 : (s : Int) ≤ (c : Int) := by omega
  have g3 : (0 : Int) ≤ (k : Int) := by omega
  have g4 : (0 : Int) < (m : Int) := by omega
  rw [hss] at PCa PCb ⊢
  clear hcl
  generalize (b.drop k).take cc = ct at *
  have D0 := Lib.hid ((Below.refl w.heap.size w).alloc (Nat.le_refl _) (.cells #[.int .i64 0, .slice none 0 0, .slice none 0 0] 25))
  have K0 := Lib.hid (Blk.new w 25 #[.int .i64 0, .slice none 0 0, .slice none 0 0])
  have HK := Lib.hid (And.intro hk (And.intro hss (And.intro hm hbc)))
  clear hs hb h0 hk ht htag h48 h8 hm hbc hc hl hmm hss htb
  go_enter Try.func48, Try.ntmps48
  go_wp2_with fail
  refine (PH.out _ (HS.out.on D0.out)).mono ?_; rintro _ w2 ⟨rfl, bb⟩
  have B2 := Lib.hid (below_on D0.out bb)
  have K2 := Lib.hid (K0.out.below bb K0.out.lt)
  clear bb
  have hadl : ad.block < w.heap.size := had
  have e0 := (B2.out.cell (p := ad) hadl).trans c00
  have k0 := K2.out.cell 0
  have f0 := K2.out.free 0
  go_wp2_with fail
  refine (PD.out _).mono ?_; rintro _ w3 ⟨rfl, bb⟩
  have B3 := Lib.hid (((B2.out.setCell (Nat.le_refl _) _).trans (bb.mono (by simpa using B2.out.size))))
  have K3 := Lib.hid ((K2.out.set 0 (.int .i64 t)).below bb (by simpa using K2.out.lt))
  clear bb e0 k0 f0
  have k1 := K3.out.cell 1
  have f1 := K3.out.free 1
  go_wp2_with fail
  all_goals
    have B3' := Lib.hid (B3.out.alloc B3.out.size (.cells #[.int .i64 t, .func (.func (dmdF t)) #[] #[], .bool false] 75))
    first
      | (refine (PCb.out _ (HS.out.on B3'.out)).mono ?_; rintro _ w4 ⟨⟨v4, rfl, ho⟩, bb⟩)
      | (refine (PCa.out (by assumption) _).mono ?_; rintro _ w4 ⟨⟨v4, rfl, ho⟩, bb⟩)
    obtain ⟨A4, c4, rfl, _, _, _, _⟩ := own_sliceB ho
    have HO := Lib.hid (own_less ho (show w.heap.size + 1 ≤ _ by have := K3.out.lt; simp; omega))
    have B4 := Lib.hid (below_on B3'.out bb)
    have K4 := Lib.hid ((K3.out.alloc (.cells #[.int .i64 t, .func (.func (dmdF t)) #[] #[], .bool false] 75)).below bb (by have := K3.out.lt; simp; omega))
    clear ho bb k1 f1
    have j0 := K4.out.cell 0
    have j1 := K4.out.cell 1
    have j2 := K4.out.cell 2
    have f0 := K4.out.free 0
    have f1 := K4.out.free 1
    have f2 := K4.out.free 2
    have hlt : w.heap.size < w.heap.size + 1 := Nat.lt_succ_self _
    have HI := Lib.hid (HIt.out _ _ _ _ (own_far (own_far (own_far (own_far HO.out (p := ⟨w.heap.size, 1, none⟩) hlt (.slice A4 ct.length c4)) (p := ⟨w.heap.size, 0, none⟩) hlt (.int .i64 t)) (p := ⟨w.heap.size, 1, none⟩) hlt (.slice A4 ct.length c4)) (p := ⟨w.heap.size, 2, none⟩) hlt (.slice none 0 0)))
    go_wp2_with fail
    have hk := (((K4.out.set 1 (.slice A4 ct.length c4)).set 0 (.int .i64 t)).set 1 (.slice A4 ct.length c4)).set 2 (.slice none 0 0)
    have x0 := hk.cell 0
    have x1 := hk.cell 1
    have x2 := hk.cell 2
    refine bodyPost_ret (v := .tuple #[.agg #[.int .i64 t, .slice A4 ct.length c4, .slice none 0 0], .int .i64 s, .int .i64 0]) (by simp [results, Try.results48, go_sem, x0, x1, x2]) rfl ⟨⟨A4, c4, none, 0, rfl, HI.out.more (fun g hg => ⟨by omega, hg.2⟩)⟩, ?_⟩
    exact below_setR (below_setR (below_setR (below_setR B4.out (Nat.le_refl _) _) (Nat.le_refl _) _) (Nat.le_refl _) _) (Nat.le_refl _) _
end Go.Proofs.Yteafbfhojhpbgaa
