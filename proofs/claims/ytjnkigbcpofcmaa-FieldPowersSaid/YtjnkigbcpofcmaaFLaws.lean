/- The walks of the statements of layer 3. -/
import Derived.RowKit3
import Derived.Test.YtjnkigbcpofcmaaOps3
namespace Go.Proofs.Ytjnkigbcpofcmaa
open Go Go.RowKit Go.Shelf

theorem Dr.grownFrom {w0 w w' : World} (h : Dr w w') (g : Grown w0 w) : Grown w0 w' := by
  obtain ⟨m, rfl⟩ := h
  induction m with
  | zero => exact g
  | succ m ih => exact ih.drew
theorem Dr.grown {w w' : World} (h : Dr w w') : Grown w w' := h.grownFrom (Grown.refl _)
theorem u8_lo {a : Int} (h : (Lit.int .u8 a).wf = true) : 0 ≤ a := by simp [Lit.wf, IntKind.min, IntKind.max, IntKind.bits, IntKind.signed] at h; omega
theorem u8_hi {a : Int} (h : (Lit.int .u8 a).wf = true) : a ≤ 255 := by simp [Lit.wf, IntKind.min, IntKind.max, IntKind.bits, IntKind.signed] at h; omega
theorem i64_lo {a : Int} (h : (Lit.int .i64 a).wf = true) : -9223372036854775808 ≤ a := by simp [Lit.wf, IntKind.min, IntKind.max, IntKind.bits, IntKind.signed] at h; omega
theorem i64_hi {a : Int} (h : (Lit.int .i64 a).wf = true) : a ≤ 9223372036854775807 := by simp [Lit.wf, IntKind.min, IntKind.max, IntKind.bits, IntKind.signed] at h; omega
theorem chain {P : Program} {f : FuncId} {args : Array Value} {v : Value} {w : World} (W : World) (h : Calls P f args w fun e w' => e = .returned v ∧ Dr w w') (hd : Dr W w) : Calls P f args w fun e w' => e = .returned v ∧ Dr W w' :=
  h.mono fun _ _ ⟨he, h2⟩ => ⟨he, hd.trans h2⟩
attribute [local irreducible] FM.mul FM.pw FM.dblN FM.rmulTo FM.E FM.lg FM.invV FM.errZ FM.divV FM.powV FM.powE FM.logV FM.cyc
set_option maxRecDepth 100000 in
theorem exact_any (a b : Nat) (n : Int) (ha : a < 256) (hb : b < 256) (hn0 : -9223372036854775808 ≤ n) (hn1 : n ≤ 9223372036854775807) (w : World) :
    Calls Try.prog 3 #[.int .u8 (a : Int), .int .u8 (b : Int), .int .i64 n] w fun e w' => e = .returned (.bool true) ∧ Dr w w' := by
  have hd0 := Dr.refl w
  go_enter Try.func3, Try.ntmps3
  go_wp2_with (first
    | (go_at_call 7; refine (chain w (inverse_any a ha _) (by assumption)).mono ?_; rintro e w1 ⟨rfl, hd1⟩)
    | (go_at_call 8; refine (rinverse_any a ha _).mono ?_; rintro e w1 ⟨rfl, rfl⟩)
    | (go_at_call 9; refine (chain w (divide_any a b ha hb _) (by assumption)).mono ?_; rintro e w1 ⟨rfl, hd1⟩)
    | (go_at_call 10; refine (rdivide_any a b ha hb _).mono ?_; rintro e w1 ⟨rfl, rfl⟩)
    | (go_at_call 11; refine (chain w (pow_any a n ha hn0 hn1 _) (by assumption)).mono ?_; rintro e w1 ⟨rfl, hd1⟩)
    | (go_at_call 12; refine (rpow_any a n ha _).mono ?_; rintro e w1 ⟨rfl, rfl⟩)
    | (go_at_call 13; refine (chain w (log_any a ha _) (by assumption)).mono ?_; rintro e w1 ⟨rfl, hd1⟩)
    | (go_at_call 14; refine (rlog_any a ha _).mono ?_; rintro e w1 ⟨rfl, rfl⟩)
    | (go_at_call 15; refine (chain w (awake_yes _) (by assumption)).mono ?_; rintro e w1 ⟨rfl, hd1⟩)
    | (go_at_call 16; refine (chain w (mul_any a b ha hb _) (by assumption)).mono ?_; rintro e w1 ⟨rfl, hd1⟩)
    | (go_at_call 17; refine (rmul_any a b ha hb _).mono ?_; rintro e w1 ⟨rfl, rfl⟩)
    | (go_at_call 18; refine (chain w (exp_any n hn0 hn1 _) (by assumption)).mono ?_; rintro e w1 ⟨rfl, hd1⟩)
    | (go_at_call 19; refine (rexp_any n _).mono ?_; rintro e w1 ⟨rfl, rfl⟩))
  go_ret
  exact ⟨rfl, by assumption⟩

theorem xor_u8' {a b c : Nat} (ha : a < 256) (hb : b < 256) (h : a ^^^ b = c) : bits BinOp.xor IntKind.u8 (a : Int) (b : Int) = (c : Int) := by rw [xor_u8 a b ha hb, h]
theorem inv_mul (a : Nat) (ha : a < 256) (h0 : a ≠ 0) : FM.mul a (FM.invV a) = 1 := by
  have hi : FM.invV a = FM.pw a 254 := by unfold FM.invV; rw [if_neg h0]
  have e : FM.mul (FM.pw a 254) a = FM.pw a 255 := npow_step a 254 ha h0
  rw [hi, FM.mul_comm ha (FM.pw_lt _ _), e]
  show FM.pw a 255 = 1
  have := FM.E_congr (i := FM.lg a * 255) (j := 0) (by omega)
  unfold FM.pw
  rw [this, E_zero]
theorem div_mul (a b : Nat) (ha : a < 256) (hb : b < 256) (h0 : a ≠ 0) : FM.mul (FM.divV b a) a = b := by
  have hv : FM.divV b a = FM.mul b (FM.invV a) := by unfold FM.divV; rw [if_neg h0]
  rw [hv, ← FM.mul_assoc hb (FM.invV_lt a) ha, FM.mul_comm (FM.invV_lt a) ha, inv_mul a ha h0, FM.mul_one hb]
set_option maxRecDepth 100000 in
theorem laws_any (a b c : Nat) (ha : a < 256) (hb : b < 256) (hc : c < 256) (w : World) :
    Calls Try.prog 4 #[.int .u8 (a : Int), .int .u8 (b : Int), .int .u8 (c : Int)] w fun e w' => e = .returned (.bool true) ∧ Dr w w' := by
  have hd0 := Dr.refl w
  have hbc := FM.mul_lt (b := c) hb
  have hab := FM.mul_lt (b := b) ha
  have hx := FM.xor_lt hb hc
  have hiv := FM.invV_lt a
  have hdv := FM.divV_lt (b := a) hb
  obtain ⟨x, hxe⟩ : ∃ x, x = b ^^^ c := ⟨_, rfl⟩
  have hX := xor_u8' hb hc hxe.symm
  have h1 := FM.mul_xor_r ha b c
  rw [← hxe] at h1 hx
  have hX2 := xor_u8' (FM.mul_lt (b := b) ha) (FM.mul_lt (b := c) ha) h1.symm
  have m1 := mul_any b a hb ha
  rw [FM.mul_comm hb ha] at m1
  have M1 := Lib.hid m1
  have m2 := mul_any a (FM.mul b c) ha hbc
  rw [FM.mul_assoc ha hb hc] at m2
  have M2 := Lib.hid m2
  have m3 : ∀ w, Calls Try.prog 16 #[.int .u8 (a : Int), .int .u8 1] w fun e w' => e = .returned (.int .u8 (a : Int)) ∧ Dr w w' := by
    have := mul_any a 1 ha (by decide)
    rw [FM.mul_one ha] at this
    exact this
  have M3 := Lib.hid m3
  have m4 : ∀ w, Calls Try.prog 16 #[.int .u8 (a : Int), .int .u8 0] w fun e w' => e = .returned (.int .u8 0) ∧ Dr w w' := by
    have := mul_any a 0 ha (by decide)
    rw [FM.mul_zero ha] at this
    exact this
  have M4 := Lib.hid m4
  have M0 := Lib.hid (mul_any a b ha hb)
  have MX := Lib.hid (mul_any a x ha hx)
  have MC := Lib.hid (mul_any a c ha hc)
  have MB := Lib.hid (mul_any b c hb hc)
  have MD := Lib.hid (mul_any (FM.mul a b) c hab hc)
  have m5 := mul_any a (FM.invV a) ha hiv
  have m6 := mul_any (FM.divV b a) a hdv ha
  have HI := Lib.hid (inverse_any a ha)
  have hDiv := divide_any b a hb ha
  clear m1 m2 m3 m4 h1
  by_cases h0 : a = 0
  · have ht : ((a : Int) == 0) = true := by rw [h0]; rfl
    have he : (FM.errZ a == 4) = true := by rw [h0]; decide +kernel
    clear h0 m5 m6 hDiv hxe
    go_enter Try.func4, Try.ntmps4
    go_wp2_with (first
      | (go_at_call 15; refine (chain w (awake_yes _) (by assumption)).mono ?_; rintro e w1 ⟨rfl, hd1⟩)
      | (go_at_call 7; refine (chain w (HI.out _) (by assumption)).mono ?_; rintro e w1 ⟨rfl, hd1⟩)
      | (go_at_call 16; (first | (with_reducible refine (chain w (M0.out _) (by assumption)).mono ?_) | (with_reducible refine (chain w (M1.out _) (by assumption)).mono ?_) | (with_reducible refine (chain w (M2.out _) (by assumption)).mono ?_) | (with_reducible refine (chain w (M3.out _) (by assumption)).mono ?_) | (with_reducible refine (chain w (M4.out _) (by assumption)).mono ?_) | (with_reducible refine (chain w (MX.out _) (by assumption)).mono ?_) | (with_reducible refine (chain w (MC.out _) (by assumption)).mono ?_) | (with_reducible refine (chain w (MB.out _) (by assumption)).mono ?_) | (with_reducible refine (chain w (MD.out _) (by assumption)).mono ?_)); rintro e w1 ⟨rfl, hd1⟩))
    go_ret
    exact ⟨rfl, by assumption⟩
  · have ht : ((a : Int) == 0) = false := by simp; omega
    rw [inv_mul a ha h0] at m5
    replace m5 : ∀ w, Calls Try.prog 16 #[.int .u8 (a : Int), .int .u8 (FM.invV a : Int)] w fun e w' => e = .returned (.int .u8 1) ∧ Dr w w' := m5
    rw [div_mul a b ha hb h0] at m6
    rw [invE_zero h0] at hDiv
    have hInv := HI.out
    rw [invE_zero h0] at hInv
    have M5 := Lib.hid m5
    have M6 := Lib.hid m6
    have HD := Lib.hid hDiv
    have HI := Lib.hid hInv
    clear h0 m5 m6 hDiv hxe hInv
    go_enter Try.func4, Try.ntmps4
    go_wp2_with (first
      | (go_at_call 15; refine (chain w (awake_yes _) (by assumption)).mono ?_; rintro e w1 ⟨rfl, hd1⟩)
      | (go_at_call 7; refine (chain w (HI.out _) (by assumption)).mono ?_; rintro e w1 ⟨rfl, hd1⟩)
      | (go_at_call 9; refine (chain w (HD.out _) (by assumption)).mono ?_; rintro e w1 ⟨rfl, hd1⟩)
      | (go_at_call 16; (first | (with_reducible refine (chain w (M0.out _) (by assumption)).mono ?_) | (with_reducible refine (chain w (M1.out _) (by assumption)).mono ?_) | (with_reducible refine (chain w (M2.out _) (by assumption)).mono ?_) | (with_reducible refine (chain w (M3.out _) (by assumption)).mono ?_) | (with_reducible refine (chain w (M4.out _) (by assumption)).mono ?_) | (with_reducible refine (chain w (MX.out _) (by assumption)).mono ?_) | (with_reducible refine (chain w (MC.out _) (by assumption)).mono ?_) | (with_reducible refine (chain w (MB.out _) (by assumption)).mono ?_) | (with_reducible refine (chain w (MD.out _) (by assumption)).mono ?_) | (with_reducible refine (chain w (M5.out _) (by assumption)).mono ?_) | (with_reducible refine (chain w (M6.out _) (by assumption)).mono ?_)); rintro e w1 ⟨rfl, hd1⟩))
    go_ret
    exact ⟨rfl, by assumption⟩

theorem mul_ne (a b : Nat) (ha : a < 256) (hb : b < 256) (h0 : a ≠ 0) (h1 : b ≠ 0) : FM.mul a b ≠ 0 ∧ FM.lg (FM.mul a b) = (FM.lg a + FM.lg b) % 255 := by
  have e : FM.mul a b = FM.E (FM.lg a + FM.lg b) := by rw [← FM.E_mul, FM.E_lg ha h0, FM.E_lg hb h1]
  rw [e]
  exact ⟨FM.E_ne _, FM.lg_E_mod _⟩
theorem logV_ne {a : Nat} (h : a ≠ 0) : FM.logV a = FM.lg a := by unfold FM.logV; rw [if_neg h]
/-- Log of an element that is not 0. -/
theorem log_some (a : Nat) (ha : a < 256) (h0 : a ≠ 0) (w : World) :
    Calls Try.prog 13 #[.int .u8 (a : Int)] w fun e w' => e = .returned (.tuple #[.int .i64 (FM.lg a : Int), .int .i64 0]) ∧ Dr w w' := by
  have := log_any a ha w
  rwa [logV_ne h0, invE_zero h0] at this
theorem exp_at (n : Int) (k : Nat) (hn0 : -9223372036854775808 ≤ n) (hn1 : n ≤ 9223372036854775807) (h : n % 255 = (k : Int)) (w : World) :
    Calls Try.prog 18 #[.int .i64 n] w fun e w' => e = .returned (.int .u8 (FM.E k : Int)) ∧ Dr w w' := by
  have e : FM.cyc n = k := by have := FM.cyc_int n; omega
  have := exp_any n hn0 hn1 w
  rwa [e] at this
set_option maxRecDepth 100000 in
theorem logs_any (a b : Nat) (n : Int) (ha : a < 256) (hb : b < 256) (w : World) :
    Calls Try.prog 5 #[.int .u8 (a : Int), .int .u8 (b : Int), .int .i64 n] w fun e w' => e = .returned (.bool true) ∧ Dr w w' := by
  have hd0 := Dr.refl w
  by_cases h0 : a = 0
  · have t0 : ((a : Int) == 0) = true := by rw [h0]; rfl
    clear h0
    go_enter Try.func5, Try.ntmps5
    go_wp2_with (go_at_call 15; refine (chain w (awake_yes _) (by assumption)).mono ?_; rintro e w1 ⟨rfl, hd1⟩)
    go_ret
    exact ⟨rfl, by assumption⟩
  have t0 : ((a : Int) == 0) = false := by simp; omega
  by_cases h1 : b = 0
  · have t1 : ((b : Int) == 0) = true := by rw [h1]; rfl
    clear h0 h1
    go_enter Try.func5, Try.ntmps5
    go_wp2_with (go_at_call 15; refine (chain w (awake_yes _) (by assumption)).mono ?_; rintro e w1 ⟨rfl, hd1⟩)
    go_ret
    exact ⟨rfl, by assumption⟩
  have t1 : ((b : Int) == 0) = false := by simp; omega
  have la := FM.lg_lt ha h0
  have lb := FM.lg_lt hb h1
  have hab := FM.mul_lt (b := b) ha
  have hne := mul_ne a b ha hb h0 h1
  have LA := Lib.hid (log_some a ha h0)
  have LB := Lib.hid (log_some b hb h1)
  have l3 := log_some _ hab hne.1
  rw [hne.2] at l3
  have LM := Lib.hid l3
  have MM := Lib.hid (mul_any a b ha hb)
  obtain ⟨k, hk⟩ : ∃ k : Nat, n % 255 = (k : Int) := ⟨(n % 255).toNat, by omega⟩
  have hk255 : k < 255 := by omega
  have hmod := mod_any n 255 (by decide) (by decide)
  rw [hk] at hmod
  have MOD := Lib.hid hmod
  have hkk : (k : Int) % 255 = (k : Int) := by omega
  have l4 := log_some _ (FM.E_lt k) (FM.E_ne k)
  rw [FM.lg_E hk255] at l4
  have LE := Lib.hid l4
  have e1 := exp_at (k : Int) k (by omega) (by omega) hkk
  have e2 := exp_at ((k : Int) + 255) k (by omega) (by omega) (by omega)
  have e3 := exp_at ((k : Int) - 255) k (by omega) (by omega) (by omega)
  have e4 := exp_at (FM.lg a : Int) (FM.lg a) (by omega) (by omega) (by omega)
  rw [FM.E_lg ha h0] at e4
  have E1 := Lib.hid e1
  have E2 := Lib.hid e2
  have E3 := Lib.hid e3
  have E4 := Lib.hid e4
  have hz : ((((FM.lg a + FM.lg b) % 255 : Nat) : Int) == ((FM.lg a : Int) + (FM.lg b : Int)) % 255) = true := by
    rw [Int.natCast_emod, Int.natCast_add]; simp
  clear h0 h1 hne l3 hk hmod hkk l4 e1 e2 e3 e4
  go_enter Try.func5, Try.ntmps5
  go_wp2_with (first
    | (go_at_call 15; refine (chain w (awake_yes _) (by assumption)).mono ?_; rintro e w1 ⟨rfl, hd1⟩)
    | (go_at_call 20; refine (MOD.out _).mono ?_; rintro e w1 ⟨rfl, rfl⟩)
    | (go_at_call 16; refine (chain w (MM.out _) (by assumption)).mono ?_; rintro e w1 ⟨rfl, hd1⟩)
    | (go_at_call 13; (first | (with_reducible refine (chain w (LA.out _) (by assumption)).mono ?_) | (with_reducible refine (chain w (LB.out _) (by assumption)).mono ?_) | (with_reducible refine (chain w (LM.out _) (by assumption)).mono ?_) | (with_reducible refine (chain w (LE.out _) (by assumption)).mono ?_)); rintro e w1 ⟨rfl, hd1⟩)
    | (go_at_call 18; (first | (with_reducible refine (chain w (E1.out _) (by assumption)).mono ?_) | (with_reducible refine (chain w (E2.out _) (by assumption)).mono ?_) | (with_reducible refine (chain w (E3.out _) (by assumption)).mono ?_) | (with_reducible refine (chain w (E4.out _) (by assumption)).mono ?_)); rintro e w1 ⟨rfl, hd1⟩))
  go_ret
  exact ⟨rfl, by assumption⟩

theorem exact_row (a b : Nat) (n : Int) (ha : a < 256) (hb : b < 256) (hn0 : -9223372036854775808 ≤ n) (hn1 : n ≤ 9223372036854775807) (w : World) :
    Calls Try.prog 3 #[.int .u8 (a : Int), .int .u8 (b : Int), .int .i64 n] w fun e w' => e = .returned (.bool true) ∧ Grown w w' :=
  (exact_any a b n ha hb hn0 hn1 w).mono fun _ _ h => ⟨h.1, h.2.grown⟩
theorem laws_row (a b c : Nat) (ha : a < 256) (hb : b < 256) (hc : c < 256) (w : World) :
    Calls Try.prog 4 #[.int .u8 (a : Int), .int .u8 (b : Int), .int .u8 (c : Int)] w fun e w' => e = .returned (.bool true) ∧ Grown w w' :=
  (laws_any a b c ha hb hc w).mono fun _ _ h => ⟨h.1, h.2.grown⟩
theorem logs_row (a b : Nat) (n : Int) (ha : a < 256) (hb : b < 256) (_ : -9223372036854775808 ≤ n) (_ : n ≤ 9223372036854775807) (w : World) :
    Calls Try.prog 5 #[.int .u8 (a : Int), .int .u8 (b : Int), .int .i64 n] w fun e w' => e = .returned (.bool true) ∧ Grown w w' :=
  (logs_any a b n ha hb w).mono fun _ _ h => ⟨h.1, h.2.grown⟩
end Go.Proofs.Ytjnkigbcpofcmaa
