/- bitmat.isSide, fits, bit, parity: what they answer. -/
import Derived.Test.YtodiokladojnjaaBPop
namespace Go.Proofs.Ytodiokladojnjaa.B
open Go Go.RowKit Go.Shelf

theorem u64_wrap (a : Nat) (h : a < 18446744073709551616) : IntKind.u64.wrap (a : Int) = (a : Int) := by
  simp [IntKind.wrap, IntKind.bits, IntKind.signed]; omega
theorem and_u64 (a b : Nat) (ha : a < 18446744073709551616) (hb : b < 18446744073709551616) : bits BinOp.and IntKind.u64 (a : Int) (b : Int) = ((a &&& b : Nat) : Int) := by
  show IntKind.u64.wrap ((BitVec.ofInt 64 a &&& BitVec.ofInt 64 b).toNat : Int) = _
  rw [BitVec.toNat_and, BitVec.ofInt_natCast, BitVec.ofInt_natCast, BitVec.toNat_ofNat, BitVec.toNat_ofNat, Nat.mod_eq_of_lt ha, Nat.mod_eq_of_lt hb]
  exact u64_wrap _ (Nat.lt_of_le_of_lt Nat.and_le_left ha)
theorem V.lt (v : V) : v.toNat < 18446744073709551616 := v.isLt
theorem and_V (a b : V) : bits BinOp.and IntKind.u64 (a.toNat : Int) (b.toNat : Int) = ((a &&& b).toNat : Int) := by
  rw [and_u64 _ _ a.lt b.lt, BitVec.toNat_and]
theorem or_V (a b : V) : bits BinOp.or IntKind.u64 (a.toNat : Int) (b.toNat : Int) = ((a ||| b).toNat : Int) := by
  show IntKind.u64.wrap ((BitVec.ofInt 64 a.toNat ||| BitVec.ofInt 64 b.toNat).toNat : Int) = _
  rw [BitVec.ofInt_natCast, BitVec.ofInt_natCast, BitVec.ofNat_toNat, BitVec.ofNat_toNat, BitVec.setWidth_eq, BitVec.setWidth_eq]
  exact u64_wrap _ (a ||| b).lt
theorem xor_V (a b : V) : bits BinOp.xor IntKind.u64 (a.toNat : Int) (b.toNat : Int) = ((a ^^^ b).toNat : Int) := by
  show IntKind.u64.wrap ((BitVec.ofInt 64 a.toNat ^^^ BitVec.ofInt 64 b.toNat).toNat : Int) = _
  rw [BitVec.ofInt_natCast, BitVec.ofInt_natCast, BitVec.ofNat_toNat, BitVec.ofNat_toNat, BitVec.setWidth_eq, BitVec.setWidth_eq]
  exact u64_wrap _ (a ^^^ b).lt
theorem shr_V (a : V) (k : Nat) : (a.toNat : Int) / 2 ^ min k 64 = ((a >>> k).toNat : Int) := by
  rw [BitVec.toNat_ushiftRight, Nat.shiftRight_eq_div_pow]
  have e : ((a.toNat / 2 ^ min k 64 : Nat) : Int) = (a.toNat : Int) / 2 ^ min k 64 := by rw [Int.natCast_ediv, Int.natCast_pow]; rfl
  rw [← e]
  by_cases h : k ≤ 64
  · rw [Nat.min_eq_left h]
  · rw [Nat.min_eq_right (by omega), Nat.div_eq_of_lt a.lt, Nat.div_eq_of_lt]
    exact Nat.lt_of_lt_of_le a.lt (Nat.pow_le_pow_right (n := 2) (by decide) (show 64 ≤ k by omega))
/-- One or zero. -/
def b1 (b : Bool) : V := if b then 1 else 0
theorem b1_inj {a b : Bool} (h : b1 a = b1 b) : a = b := by
  cases a <;> cases b <;> first | rfl | (revert h; decide)
theorem bit_V (a : V) (k : Nat) : bits BinOp.and IntKind.u64 ((a.toNat : Int) / 2 ^ min k 64) 1 = ((b1 (BM.bt a k)).toNat : Int) := by
  rw [shr_V]
  have := and_V (a >>> k) 1
  rw [show ((1 : V).toNat : Int) = 1 from rfl] at this
  rw [this]
  congr 2
  apply BitVec.eq_of_getLsbD_eq
  intro i hi
  rw [BitVec.getLsbD_and, BitVec.getLsbD_ushiftRight]
  unfold b1 BM.bt
  by_cases h : i = 0
  · subst h
    rw [Nat.add_zero]
    cases a.getLsbD k <;> rfl
  · have h1 : BitVec.getLsbD (1 : V) i = false := by
      show BitVec.getLsbD (1#64) i = false
      rw [BitVec.getLsbD_one]; simp; omega
    rw [h1, Bool.and_false]
    split
    · exact h1.symm
    · exact BitVec.getLsbD_zero.symm
/-- v has no bit from n on. -/
def fitB (v : V) (n : Nat) : Bool := v >>> n == 0
theorem fit_V (a : V) (k : Nat) : ((a.toNat : Int) / 2 ^ min k 64 == 0) = fitB a k := by
  rw [shr_V]
  unfold fitB
  by_cases h : a >>> k = 0
  · rw [h]; rfl
  · rw [beq_false_of_ne h, beq_false_of_ne]
    intro e
    exact h (BitVec.eq_of_toNat_eq (by rw [show (0 : V).toNat = 0 from rfl]; omega))
theorem fitB_iff (v : V) (n : Nat) : fitB v n = true ↔ ∀ k, n ≤ k → BM.bt v k = false := by
  unfold fitB BM.bt
  rw [beq_iff_eq]
  constructor
  · intro h k hk
    have := congrArg (fun x : V => x.getLsbD (k - n)) h
    simp only [BitVec.getLsbD_ushiftRight] at this
    rw [show n + (k - n) = k by omega] at this
    exact this.trans BitVec.getLsbD_zero
  · intro h
    apply BitVec.eq_of_getLsbD_eq
    intro i _
    rw [BitVec.getLsbD_ushiftRight]
    exact (h _ (by omega)).trans BitVec.getLsbD_zero.symm
theorem ret_bool {a b : Bool} (h : a = b) : Ending.returned (.bool a) = .returned (.bool b) := by rw [h]
theorem ret_int {k : IntKind} {a b : Int} (h : a = b) : Ending.returned (.int k a) = .returned (.int k b) := by rw [h]

def sideB (n : Int) : Bool := decide (1 ≤ n) && decide (n ≤ 64)
theorem isSide_any (n : Int) (w : World) :
    Calls Try.prog 45 #[.int .i64 n] w fun e w' => e = .returned (.bool (sideB n)) ∧ w' = w := by
  by_cases h : 1 ≤ n
  · have e : sideB n = decide (n ≤ 64) := by unfold sideB; rw [decide_eq_true h, Bool.true_and]
    rw [e]
    clear e
    go_enter Try.func45, Try.ntmps45
    go_wp2
    go_ret
    exact ⟨rfl, rfl⟩
  · have e : sideB n = false := by unfold sideB; rw [decide_eq_false h, Bool.false_and]
    rw [e]
    clear e
    go_enter Try.func45, Try.ntmps45
    go_wp2
    go_ret
    exact ⟨rfl, rfl⟩
theorem fits_any (v : V) (n : Nat) (w : World) :
    Calls Try.prog 43 #[.int .u64 (v.toNat : Int), .int .i64 (n : Int)] w fun e w' => e = .returned (.bool (fitB v n)) ∧ w' = w := by
  go_enter Try.func43, Try.ntmps43
  go_wp2
  go_ret
  exact ⟨ret_bool (fit_V v n), rfl⟩
theorem bit_any (v : V) (n : Nat) (w : World) :
    Calls Try.prog 48 #[.int .u64 (v.toNat : Int), .int .i64 (n : Int)] w fun e w' => e = .returned (.int .u64 ((b1 (BM.bt v n)).toNat : Int)) ∧ w' = w := by
  go_enter Try.func48, Try.ntmps48
  go_wp2
  go_ret
  exact ⟨ret_int (bit_V v n), rfl⟩

theorem pop_1 (x : Nat) (hx : x < 18446744073709551616) : IntKind.u64.wrap (bits BinOp.and IntKind.u64 ((x : Int) / 2) 6148914691236517205 + bits BinOp.and IntKind.u64 (x : Int) 6148914691236517205) = (f1 16 x : Int) := by
  have h := f1_is 16 x
  rw [show m5 16 = 6148914691236517205 by decide] at h
  have e1 := and_u64 (x / 2) 6148914691236517205 (by omega) (by decide)
  have e2 := and_u64 x 6148914691236517205 hx (by decide)
  rw [show ((x : Int) / 2) = ((x / 2 : Nat) : Int) by omega, show (6148914691236517205 : Int) = ((6148914691236517205 : Nat) : Int) from rfl, e1, e2, ← Int.natCast_add, h]
  exact u64_wrap _ (f1_lt 16 x)
theorem pop_2 (x : Nat) : IntKind.u64.wrap (bits BinOp.and IntKind.u64 ((f1 16 x : Int) / 4) 3689348814741910323 + bits BinOp.and IntKind.u64 (f1 16 x : Int) 3689348814741910323) = (f2 16 x : Int) := by
  have h := f2_is 16 x
  have hl : f1 16 x < 18446744073709551616 := f1_lt 16 x
  have hl2 : f2 16 x < 18446744073709551616 := f2_lt 16 x
  rw [show m3 16 = 3689348814741910323 by decide] at h
  generalize f1 16 x = u at h hl ⊢
  generalize f2 16 x = t at h hl2 ⊢
  have e1 := and_u64 (u / 4) 3689348814741910323 (by omega) (by decide)
  have e2 := and_u64 u 3689348814741910323 hl (by decide)
  rw [show ((u : Int) / 4) = ((u / 4 : Nat) : Int) by omega, show (3689348814741910323 : Int) = ((3689348814741910323 : Nat) : Int) from rfl, e1, e2, ← Int.natCast_add, h]
  exact u64_wrap _ hl2
theorem pop_3 (x : Nat) : bits BinOp.and IntKind.u64 (IntKind.u64.wrap ((f2 16 x : Int) / 16 + (f2 16 x : Int))) 1085102592571150095 = (f3 8 x : Int) := by
  have h := f3_is 8 x
  have hl : f2 (2 * 8) x / 16 + f2 (2 * 8) x < 18446744073709551616 := f2_sum 16 x
  rw [show m15 8 = 1085102592571150095 by decide] at h
  rw [show f2 16 x = f2 (2 * 8) x from rfl]
  generalize f2 (2 * 8) x = u at h hl ⊢
  generalize f3 8 x = t at h ⊢
  rw [show ((u : Int) / 16 + (u : Int)) = ((u / 16 + u : Nat) : Int) by omega, u64_wrap _ hl, show (1085102592571150095 : Int) = ((1085102592571150095 : Nat) : Int) from rfl, and_u64 _ _ hl (by decide), h]
theorem pop_wrap (z d : Nat) (h : z + z / d < 18446744073709551616) : IntKind.u64.wrap ((z : Int) + (z : Int) / (d : Int)) = ((z + z / d : Nat) : Int) := by
  rw [← u64_wrap _ h]; congr 1
theorem wrap64_id (z : Nat) (h : z < 9223372036854775808) : wrap64 (z : Int) = (z : Int) := by
  unfold wrap64; omega
theorem last_and (z : Nat) (h : z < 9223372036854775808) : bits BinOp.and IntKind.i64 (wrap64 (z : Int)) 127 = ((z &&& 127 : Nat) : Int) := by
  have hl : z &&& 127 < 128 := Nat.and_lt_two_pow (n := 7) _ (by decide)
  rw [wrap64_id z h, show (127 : Int) = ((127 : Nat) : Int) from rfl]
  show IntKind.i64.wrap ((BitVec.ofInt 64 z &&& BitVec.ofInt 64 127).toNat : Int) = _
  rw [BitVec.toNat_and, BitVec.ofInt_natCast, BitVec.toNat_ofNat, Nat.mod_eq_of_lt (by omega), show (BitVec.ofInt 64 127).toNat = 127 from rfl]
  generalize z &&& 127 = r at hl ⊢
  simp [IntKind.wrap, IntKind.bits, IntKind.signed]; omega
theorem and_127 (z : Nat) : z &&& 127 = z % 128 := Nat.and_two_pow_sub_one_eq_mod z 7
theorem ones_any (v : V) (w : World) :
    Calls Try.prog 49 #[.int .u64 (v.toNat : Int)] w fun e w' => (∃ r : Nat, e = .returned (.int .i64 (r : Int)) ∧ r < 128 ∧ decide (r % 2 = 1) = BM.xs 64 (fun i => BM.bt v i)) ∧ w' = w := by
  have h1 := pop_1 v.toNat v.lt
  have h2 := pop_2 v.toNat
  have h3 := pop_3 v.toNat
  obtain ⟨z4, z5, e4, e5, l3, l4, l5, l6, hp⟩ := rest_is v.toNat
  have h4 := pop_wrap (f3 8 v.toNat) 256 (by rw [← e4]; exact l4)
  rw [← e4] at h4
  have h5 := pop_wrap z4 65536 (by rw [← e5]; exact l5)
  rw [← e5] at h5
  have h6 := pop_wrap z5 4294967296 (by omega)
  have hS := S_par v
  rw [← hp] at hS
  generalize f3 8 v.toNat = z3 at *
  obtain ⟨z6, e6⟩ : ∃ z6, z5 + z5 / 4294967296 = z6 := ⟨_, rfl⟩
  rw [e6] at h6 hS l6
  have H1 := Lib.hid h1
  have H2 := Lib.hid h2
  have H3 := Lib.hid h3
  have H4 := Lib.hid h4
  have H5 := Lib.hid h5
  have H6 := Lib.hid h6
  have HS := Lib.hid hS
  clear h1 h2 h3 h4 h5 h6 hS e4 e5 e6 hp
  go_enter Try.func49, Try.ntmps49
  go_wp2
  go_ret
  have h1 := H1.out
  have h2 := H2.out
  have h3 := H3.out
  have h4 := H4.out
  have h5 := H5.out
  have h6 := H6.out
  have h4' : IntKind.u64.wrap ((z3 : Int) + (z3 : Int) / 256) = (z4 : Int) := h4
  have h5' : IntKind.u64.wrap ((z4 : Int) + (z4 : Int) / 65536) = (z5 : Int) := h5
  have h6' : IntKind.u64.wrap ((z5 : Int) + (z5 : Int) / 4294967296) = (z6 : Int) := h6
  have hl : z6 &&& 127 < 128 := Nat.and_lt_two_pow (n := 7) _ (by decide)
  refine ⟨⟨z6 &&& 127, ret_int ?_, hl, ?_⟩, rfl⟩
  · rw [h1, h2, h3, h4', h5', h6']
    exact last_and z6 l6
  · rw [← HS.out, and_127]
    congr 2; omega

def par (v : V) : Bool := BM.xs 64 (fun i => BM.bt v i)
theorem par_dot (a b : V) : par (a &&& b) = BM.dot a b := BM.xs_congr (fun i _ => BM.bt_and a b i)
theorem parity_any (v : V) (w : World) :
    Calls Try.prog 44 #[.int .u64 (v.toNat : Int)] w fun e w' => e = .returned (.int .u64 ((b1 (par v)).toNat : Int)) ∧ w' = w := by
  have HO := Lib.hid (ones_any v w)
  go_enter Try.func44, Try.ntmps44
  go_wp2_with fail
  refine HO.out.mono ?_
  rintro e w1 ⟨⟨r, rfl, hr, hp⟩, rfl⟩
  have HP := Lib.hid hp
  clear hp
  go_wp2
  go_ret
  refine ⟨ret_int ?_, rfl⟩
  rw [show (1 : Int) = ((1 : Nat) : Int) from rfl, and_u64 r 1 (by omega) (by decide), Nat.and_one_is_mod]
  unfold b1 par
  rw [← HP.out]
  by_cases h : r % 2 = 1
  · rw [h]; rfl
  · rw [show r % 2 = 0 by omega]; rfl
end Go.Proofs.Ytodiokladojnjaa.B
