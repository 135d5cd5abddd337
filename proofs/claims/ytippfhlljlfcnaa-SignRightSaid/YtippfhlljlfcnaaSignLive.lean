/- The chapter's example holds; what is few; a secret of any number. -/
import Derived.Test.YtippfhlljlfcnaaSignMath
namespace Go.Proofs.Ytippfhlljlfcnaa
open Go.ChangeShapes Go.WideShapes Go.ChangeAt Go.RowKit Gs
set_option linter.unusedVariables false

theorem few_any (A : Option Addr) (n c : Nat) (w : World) :
    Calls Try.prog 12 #[.slice A n c] w fun e w' => e = .returned (.bool (decide ((n : Int) ≤ 1000))) ∧ w = w' := by
  go_enter Try.func12, Try.ntmps12
  go_wp2_with fail
  go_ret
  exact ⟨rfl, rfl⟩
theorem few_yes (A : Option Addr) (n c : Nat) (h : n ≤ 1000) (w : World) :
    Calls Try.prog 12 #[.slice A n c] w fun e w' => e = .returned (.bool true) ∧ w = w' := by
  have h := few_any A n c w
  rwa [decide_eq_true (by omega)] at h
theorem few_no (A : Option Addr) (n c : Nat) (h : ¬ n ≤ 1000) (w : World) :
    Calls Try.prog 12 #[.slice A n c] w fun e w' => e = .returned (.bool false) ∧ w = w' := by
  have h := few_any A n c w
  rwa [decide_eq_false (by omega)] at h

/-- A secret of any number. -/
def ssn (n : Int) : Int := 1 + n % 1152921504606845788
theorem ssn_bound (n : Int) : 1 ≤ ssn n ∧ ssn n < 1152921504606845789 := by unfold ssn; omega
instance (n : Int) : IsU (ssn n) := ⟨by have := ssn_bound n; omega, by have := ssn_bound n; omega⟩
theorem secret_any (n : Int) [hn : IsU n] (w : World) :
    Calls Try.prog 23 #[.int .u64 n] w fun e w' => e = .returned (.int .u64 (ssn n)) ∧ w = w' := by
  have n0 := hn.1
  have n1 := hn.2
  unfold ssn
  go_enter Try.func23, Try.ntmps23
  go_wp2_with fail
  go_ret
  exact ⟨rfl, rfl⟩

theorem si_new {w : World} {g : Nat} {t : TypeId} {fr : Nat × Nat} {xs : List Int} (h : w.heap[g]? = some (.cells (xs.map (Value.int .u8)).toArray t fr)) : SI w w.heap.size .u8 (some ⟨g, 0, none⟩) xs := fun j hj => by
  refine ⟨_, rfl, (Array.getElem?_eq_some_iff.1 h).1, ?_⟩
  have e : (Addr.mk g 0 none).add j = ⟨g, j, none⟩ := by
    unfold Addr.add
    split
    · rename_i hj; subst hj; rfl
    · simp
  rw [e]
  simp [World.cell?, h, List.getElem?_eq_getElem hj]
theorem si_lit (w : World) (t : TypeId) (fr : Nat × Nat) (xs : List Int) : SI (w.alloc (.cells (xs.map (Value.int .u8)).toArray t fr)) (w.alloc (.cells (xs.map (Value.int .u8)).toArray t fr)).heap.size .u8 (some ⟨w.heap.size, 0, none⟩) xs :=
  si_new (World.alloc_heap_new w _)

theorem seed_bytes : ∀ x ∈ ([115, 101, 101, 100] : List Int), 0 ≤ x ∧ x < 256 := by decide
theorem msg_bytes : ∀ x ∈ ([109, 115, 103] : List Int), 0 ≤ x ∧ x < 256 := by decide

set_option maxHeartbeats 4000000 in
theorem live4 (w : World) : Calls Try.prog 11 #[] w fun e w' => e = .returned (.bool true) ∧ Below w.heap.size w w' := by
  have B0 := Lib.hid ((Below.refl w.heap.size w).alloc (Nat.le_refl _) (.cells #[.int .u8 115, .int .u8 101, .int .u8 101, .int .u8 100] 5 (4, 5)))
  have hb := ssecret_bound [115, 101, 101, 100]
  have P1 := Lib.hid (fun g => Secret_any (some ⟨g, 0, none⟩) 4 [115, 101, 101, 100] seed_bytes (by decide) (by decide) (by unfold maxLen; omega))
  have P2 := Lib.hid (Public_ok (ssecret [115, 101, 101, 100]) hb.1 hb.2)
  have P3 := Lib.hid (fun g => Sign_ok (ssecret [115, 101, 101, 100]) hb.1 hb.2 (some ⟨g, 0, none⟩) 3 [109, 115, 103] msg_bytes (by decide) (by decide) (by unfold maxLen; omega))
  have P4 := Lib.hid (Public_bad 0 (by omega) (by omega) (by omega))
  have P5 := Lib.hid (Sign_bad 1152921504606845789 (by omega) (by omega) (by omega) (.slice none 0 0))
  have IN := qin_base (n := ssecret [115, 101, 101, 100]) (by omega)
  haveI : IsU 1152921504606845789 := ⟨by omega, by omega⟩
  have P6 := Lib.hid (In_q (qpow 4 (ssecret [115, 101, 101, 100])))
  rw [IN] at P6
  have P7 := Lib.hid (fun g => Check_any (qpow 4 (ssecret [115, 101, 101, 100])) (ssigE (ssecret [115, 101, 101, 100]) [109, 115, 103]) (ssigS (ssecret [115, 101, 101, 100]) [109, 115, 103]) (some ⟨g, 0, none⟩) 3 [109, 115, 103] msg_bytes (by decide) (by decide) (by unfold maxLen; omega))
  rw [chk_sign _ (by omega)] at P7
  have P8 := Lib.hid (fun g => Check_any (qpow 4 (ssecret [115, 101, 101, 100])) (ssigE (ssecret [115, 101, 101, 100]) [109, 115, 103]) 1152921504606845789 (some ⟨g, 0, none⟩) 3 [109, 115, 103] msg_bytes (by decide) (by decide) (by unfold maxLen; omega))
  rw [chk_high _ _ IN] at P8
  have P9 := Lib.hid (fun g => Check_any 0 (ssigE (ssecret [115, 101, 101, 100]) [109, 115, 103]) (ssigS (ssecret [115, 101, 101, 100]) [109, 115, 103]) (some ⟨g, 0, none⟩) 3 [109, 115, 103] msg_bytes (by decide) (by decide) (by unfold maxLen; omega))
  rw [chk_none] at P9
  clear IN
  generalize qpow 4 (ssecret [115, 101, 101, 100]) = p at *
  generalize ssigE (ssecret [115, 101, 101, 100]) [109, 115, 103] = u at *
  generalize ssigS (ssecret [115, 101, 101, 100]) [109, 115, 103] = v at *
  generalize ssecret [115, 101, 101, 100] = s at *
  have s1 := hb.1
  have s2 := hb.2
  clear hb
  have kc := fun (w : World) (C : Array Value) (n c : Nat) => Lib.run_convert_bytes_const (P := Try.prog) w 22 5 C n c Try.underlying22 Try.underlying5
  go_enter Try.func11, Try.ntmps11
  go_wp2_with fail
  refine (P1.out _ _ (si_lit w 5 (4, 5) [115, 101, 101, 100])).mono ?_; rintro e w1 ⟨rfl, b⟩
  have B1 := Lib.hid (below_on B0.out b)
  clear b
  go_wp2_with fail
  refine (P2.out _).mono ?_; rintro e w2 ⟨rfl, b⟩
  have B2 := Lib.hid (below_on B1.out b)
  clear b
  go_wp2_with fail
  refine (P3.out _ _ (si_lit w2 5 (3, 4) [109, 115, 103])).mono ?_; rintro e w3 ⟨rfl, b⟩
  have B3 := Lib.hid (below_on (B2.out.alloc B2.out.size _) b)
  clear b
  go_upto_region 4 with (fail)
  refine wp_named (fun W => Blk W w3.heap.size 33 #[.int .u64 u, .int .u64 v] ∧ Below w.heap.size w W) ⟨Blk.new_at w3 _ _ rfl, B3.out.alloc B3.out.size _⟩ ?_
  rintro W3 ⟨q, b⟩
  have Q3 := Lib.hid q
  have D3 := Lib.hid b
  clear q b
  go_wp2_with fail
  refine (P4.out _).mono ?_; rintro e w4 ⟨rfl, b⟩
  have B4 := Lib.hid (below_on D3.out b)
  have Q4 := Lib.hid (Q3.out.below b Q3.out.lt)
  clear b
  go_wp2_with fail
  refine (P5.out _).mono ?_; rintro e w5 ⟨rfl, b⟩
  have B5 := Lib.hid (below_on B4.out b)
  have Q5 := Lib.hid (Q4.out.below b Q4.out.lt)
  clear b
  go_upto_region 6 with (fail)
  refine wp_named (fun W => Blk W w3.heap.size 33 #[.int .u64 u, .int .u64 v] ∧ Below w.heap.size w W) ⟨Q5.out.alloc _, B5.out.alloc B5.out.size _⟩ ?_
  rintro W5 ⟨q, b⟩
  have Q6 := Lib.hid q
  have D5 := Lib.hid b
  obtain ⟨⟨c0, c1⟩, _, _⟩ := q.facts2
  have l3 := q.lt
  clear q b
  go_upto_region 8 with (fail)
  clear c0 c1
  refine wp_named (fun W => Blk W w3.heap.size 33 #[.int .u64 u, .int .u64 v] ∧ Blk W W5.heap.size 33 #[.int .u64 u, .int .u64 1152921504606845789] ∧ Below w.heap.size w W) ⟨Q6.out.alloc _, Blk.new_at W5 _ _ rfl, D5.out.alloc D5.out.size _⟩ ?_
  rintro W8 ⟨q, r, b⟩
  have Q8 := Lib.hid q
  have R8 := Lib.hid r
  have D8 := Lib.hid b
  clear q r b B0 B1 B2 B3 B4 B5 D3 D5 Q3 Q4 Q5 Q6 l3
  go_wp2_with fail
  refine (P6.out _).mono ?_; rintro e w9 ⟨rfl, b⟩
  have D9 := Lib.hid (below_on D8.out b)
  have Q9 := Lib.hid (Q8.out.below b Q8.out.lt)
  have R9 := Lib.hid (R8.out.below b R8.out.lt)
  obtain ⟨⟨c0, c1⟩, _, _⟩ := Q9.out.facts2
  have l0 := Q9.out.lt
  clear b
  go_wp2_with fail
  refine (P7.out _ _ (si_lit w9 5 (3, 4) [109, 115, 103])).mono ?_; rintro e w10 ⟨rfl, b⟩
  have D10 := Lib.hid (below_on (D9.out.alloc D9.out.size _) b)
  have Q10 := Lib.hid ((Q9.out.alloc (.cells #[.int .u8 109, .int .u8 115, .int .u8 103] 5 (3, 4))).below b (by simp; have := Q9.out.lt; omega))
  have R10 := Lib.hid ((R9.out.alloc (.cells #[.int .u8 109, .int .u8 115, .int .u8 103] 5 (3, 4))).below b (by simp; have := R9.out.lt; omega))
  clear b c0 c1 l0
  obtain ⟨⟨c0, c1⟩, _, _⟩ := R10.out.facts2
  have l0 := R10.out.lt
  go_wp2_with fail
  refine (P8.out _ _ (si_lit w10 5 (3, 4) [109, 115, 103])).mono ?_; rintro e w11 ⟨rfl, b⟩
  have D11 := Lib.hid (below_on (D10.out.alloc D10.out.size _) b)
  have Q11 := Lib.hid ((Q10.out.alloc (.cells #[.int .u8 109, .int .u8 115, .int .u8 103] 5 (3, 4))).below b (by simp; have := Q10.out.lt; omega))
  clear b c0 c1 l0
  obtain ⟨⟨c0, c1⟩, _, _⟩ := Q11.out.facts2
  have l0 := Q11.out.lt
  go_wp2_with fail
  refine (P9.out _ _ (si_lit w11 5 (3, 4) [109, 115, 103])).mono ?_; rintro e w12 ⟨rfl, b⟩
  have D12 := Lib.hid (below_on (D11.out.alloc D11.out.size _) b)
  clear b c0 c1 l0
  go_wp2_with fail
  go_ret
  exact ⟨rfl, D12.out⟩
end Go.Proofs.Ytippfhlljlfcnaa
