/- The walk of FieldPowers. -/
import Derived.Below
import Derived.Deep.CutBlock
import Derived.Deep.DeepCutAuto
import Derived.Test.YtjnkigbcpofcmaaFLaws
namespace Go.Proofs.Ytjnkigbcpofcmaa
open Go Go.RowKit Go.Shelf

theorem pow_two (a : Nat) (ha : a < 256) : FM.powV a 2 = FM.mul a a := by
  by_cases h0 : a = 0
  · subst h0; decide +kernel
  · have e : FM.powV a 2 = FM.pw a (FM.cyc 2) := by unfold FM.powV; rw [if_neg h0]
    have c : FM.cyc 2 = 1 + 1 := by decide
    have p1 : FM.pw a 1 = a := by unfold FM.pw; rw [Nat.mul_one, FM.E_lg ha h0]
    rw [e, c, ← npow_step a 1 ha h0, p1]
theorem powE_two (a : Nat) : FM.powE a 2 = 0 := by unfold FM.powE; split <;> rfl
theorem sq_any (a : Nat) (ha : a < 256) (w : World) :
    Calls Try.prog 11 #[.int .u8 (a : Int), .int .i64 2] w fun e w' => e = .returned (.tuple #[.int .u8 (FM.mul a a : Int), .int .i64 0]) ∧ Dr w w' := by
  have := pow_any a 2 ha (by decide) (by decide) w
  rwa [pow_two a ha, powE_two] at this
theorem pow_some (a : Nat) (n : Int) (ha : a < 256) (h0 : a ≠ 0) (hn0 : -9223372036854775808 ≤ n) (hn1 : n ≤ 9223372036854775807) (w : World) :
    Calls Try.prog 11 #[.int .u8 (a : Int), .int .i64 n] w fun e w' => e = .returned (.tuple #[.int .u8 (FM.pw a (FM.cyc n) : Int), .int .i64 0]) ∧ Dr w w' := by
  have := pow_any a n ha hn0 hn1 w
  have e : FM.powV a n = FM.pw a (FM.cyc n) := by unfold FM.powV; rw [if_neg h0]
  have e2 : FM.powE a n = 0 := by unfold FM.powE; rw [if_neg h0]
  rwa [e, e2] at this
theorem pw_add (a : Nat) (i k : Int) : FM.mul (FM.pw a (FM.cyc i)) (FM.pw a (FM.cyc k)) = FM.pw a (FM.cyc (i + k)) := by
  unfold FM.pw
  rw [FM.E_mul, ← Nat.mul_add]
  apply FM.E_congr
  rw [Nat.mul_mod, Nat.mul_mod (FM.lg a) (FM.cyc (i + k))]
  have h1 := FM.cyc_int i
  have h2 := FM.cyc_int k
  have h3 := FM.cyc_int (i + k)
  have : (FM.cyc i + FM.cyc k) % 255 = FM.cyc (i + k) % 255 := by omega
  rw [this]
theorem pw_inv (a : Nat) (i : Int) : FM.pw (FM.pw a 254) (FM.cyc (-i)) = FM.pw a (FM.cyc i) := by
  unfold FM.pw
  rw [FM.lg_E_mod]
  apply FM.E_congr
  rw [Nat.mod_mul_mod]
  have h1 := FM.cyc_int i
  have h2 := FM.cyc_int (-i)
  generalize FM.cyc i = c at *
  generalize FM.cyc (-i) = d at *
  generalize FM.lg a = L
  have h : c + d = 0 ∨ c + d = 255 := by omega
  rcases h with h | h
  · have e1 : c = 0 := by omega
    have e2 : d = 0 := by omega
    rw [e1, e2, Nat.mul_zero, Nat.mul_zero]
  · have e : L * c + L * d = 255 * L := by rw [← Nat.mul_add, h, Nat.mul_comm]
    rw [show L * 254 * d = 254 * (L * d) by rw [Nat.mul_comm L 254, Nat.mul_assoc]]
    generalize L * c = p at *
    generalize L * d = q at *
    omega
theorem inv_some (a : Nat) (ha : a < 256) (h0 : a ≠ 0) (w : World) :
    Calls Try.prog 7 #[.int .u8 (a : Int)] w fun e w' => e = .returned (.tuple #[.int .u8 (FM.pw a 254 : Int), .int .i64 0]) ∧ Dr w w' := by
  have := inverse_any a ha w
  have hi : FM.invV a = FM.pw a 254 := by unfold FM.invV; rw [if_neg h0]
  rwa [hi, invE_zero h0] at this
theorem pair_cells (w : World) (m n : Int) (t : TypeId) : (w.alloc (.cells #[.int .i64 m, .int .i64 n] t)).cell? ⟨w.heap.size, 0, none⟩ = some (.int .i64 m) ∧ (w.alloc (.cells #[.int .i64 m, .int .i64 n] t)).cell? ⟨w.heap.size, 1, none⟩ = some (.int .i64 n) := by
  constructor <;> go_simp
attribute [local irreducible] FM.mul FM.pw FM.dblN FM.rmulTo FM.E FM.lg FM.invV FM.errZ FM.divV FM.powV FM.powE FM.logV FM.cyc
set_option maxRecDepth 100000 in
theorem powers_any (a b : Nat) (m n : Int) (ha : a < 256) (hb : b < 256) (w : World) :
    Calls Try.prog 6 #[.int .u8 (a : Int), .int .u8 (b : Int), .agg #[.int .i64 m, .int .i64 n]] w fun e w' => e = .returned (.bool true) ∧ Dr (w.alloc (.cells #[.int .i64 m, .int .i64 n] 35)) w' := by
  have hx := FM.xor_lt ha hb
  obtain ⟨x, hxe⟩ : ∃ x, x = a ^^^ b := ⟨_, rfl⟩
  have hX := xor_u8' ha hb hxe.symm
  have h1 := FM.sq_xor ha hb
  rw [← hxe] at h1 hx
  have hX2 := xor_u8' (FM.mul_lt (b := a) ha) (FM.mul_lt (b := b) hb) h1.symm
  have S0 := Lib.hid (sq_any x hx)
  have S1 := Lib.hid (sq_any a ha)
  have S2 := Lib.hid (sq_any b hb)
  clear hxe h1
  have hc := pair_cells w m n 35
  by_cases h0 : a = 0
  · have t0 : ((a : Int) == 0) = true := by rw [h0]; rfl
    clear h0
    go_enter Try.func6, Try.ntmps6
    go_wp2_with fail
    have hd0 := Dr.refl (w.alloc (.cells #[.int .i64 m, .int .i64 n] 35))
    generalize hW : w.alloc (.cells #[.int .i64 m, .int .i64 n] 35) = W at *
    have HW := Lib.hid hW
    clear hW
    refine (chain W (S0.out _) (by assumption)).mono ?_
    rintro e w1 ⟨rfl, hd1⟩
    go_wp2_with (first
      | (go_at_call 15; refine (chain W (awake_yes _) (by assumption)).mono ?_; rintro e w1 ⟨rfl, hd1⟩)
      | (go_at_call 11; (first | (with_reducible refine (chain W (S0.out _) (by assumption)).mono ?_) | (with_reducible refine (chain W (S1.out _) (by assumption)).mono ?_) | (with_reducible refine (chain W (S2.out _) (by assumption)).mono ?_)); rintro e w1 ⟨rfl, hd1⟩))
    go_ret
    exact ⟨rfl, by rw [HW.out]; assumption⟩
  · have t0 : ((a : Int) == 0) = false := by simp; omega
    obtain ⟨i, hi⟩ : ∃ i : Int, m % 2000 = i := ⟨_, rfl⟩
    obtain ⟨k, hk⟩ : ∃ k : Int, n % 2000 = k := ⟨_, rfl⟩
    have hi0 : 0 ≤ i := by omega
    have hi1 : i < 2000 := by omega
    have hk0 : 0 ≤ k := by omega
    have hk1 : k < 2000 := by omega
    have d1 := mod_any m 2000 (by decide) (by decide)
    have d2 := mod_any n 2000 (by decide) (by decide)
    rw [hi] at d1
    rw [hk] at d2
    have D1 := Lib.hid d1
    have D2 := Lib.hid d2
    have P1 := Lib.hid (pow_some a (i - 1000) ha h0 (by omega) (by omega))
    have P2 := Lib.hid (pow_some a (k - 1000) ha h0 (by omega) (by omega))
    have P3 := Lib.hid (pow_some a (i - 1000 + (k - 1000)) ha h0 (by omega) (by omega))
    have I1 := Lib.hid (inv_some a ha h0)
    have hv0 : FM.pw a 254 ≠ 0 := by unfold FM.pw; exact FM.E_ne _
    have p4 := pow_some (FM.pw a 254) (-(i - 1000)) (FM.pw_lt _ _) hv0 (by omega) (by omega)
    rw [pw_inv] at p4
    have P4 := Lib.hid p4
    have mm := mul_any (FM.pw a (FM.cyc (i - 1000))) (FM.pw a (FM.cyc (k - 1000))) (FM.pw_lt _ _) (FM.pw_lt _ _)
    rw [pw_add] at mm
    have MM := Lib.hid mm
    clear hi hk d1 d2 p4 mm h0 hv0
    go_enter Try.func6, Try.ntmps6
    go_wp2_with fail
    have hd0 := Dr.refl (w.alloc (.cells #[.int .i64 m, .int .i64 n] 35))
    generalize hW : w.alloc (.cells #[.int .i64 m, .int .i64 n] 35) = W at *
    have HW := Lib.hid hW
    have HC := Lib.hid hc
    clear hW hc
    refine (chain W (S0.out _) (by assumption)).mono ?_
    rintro e w1 ⟨rfl, hd1⟩
    go_upto_region 8 with (first
      | (go_at_call 15; refine (chain W (awake_yes _) (by assumption)).mono ?_; rintro e w2 ⟨rfl, hd2⟩)
      | (go_at_call 11; (first | (with_reducible refine (chain W (S0.out _) (by assumption)).mono ?_) | (with_reducible refine (chain W (S1.out _) (by assumption)).mono ?_) | (with_reducible refine (chain W (S2.out _) (by assumption)).mono ?_)); rintro e w1 ⟨rfl, hd1⟩))
    have c0 : w2.cell? ⟨w.heap.size, 0, none⟩ = some (.int .i64 m) := by obtain ⟨q, rfl⟩ := hd2; go_simp; exact HC.out.1
    have c1 : w2.cell? ⟨w.heap.size, 1, none⟩ = some (.int .i64 n) := by obtain ⟨q, rfl⟩ := hd2; go_simp; exact HC.out.2
    go_quiet ((go_at_call 20; (first | (with_reducible refine Calls.quiet_of_same ((D1.out _).mono fun _ _ h => ⟨h.1, h.2.symm⟩)) | (with_reducible refine Calls.quiet_of_same ((D2.out _).mono fun _ _ h => ⟨h.1, h.2.symm⟩)))))
    replace hd2 := hd2.drewN nq
    clear c0 c1
    generalize w2.drewN nq = w3 at *
    go_wp2_with (first
      | (go_at_call 7; refine (chain W (I1.out _) (by assumption)).mono ?_; rintro e w1 ⟨rfl, hd1⟩)
      | (go_at_call 16; refine (chain W (MM.out _) (by assumption)).mono ?_; rintro e w1 ⟨rfl, hd1⟩)
      | (go_at_call 11; (first | (with_reducible refine (chain W (P1.out _) (by assumption)).mono ?_) | (with_reducible refine (chain W (P2.out _) (by assumption)).mono ?_) | (with_reducible refine (chain W (P3.out _) (by assumption)).mono ?_) | (with_reducible refine (chain W (P4.out _) (by assumption)).mono ?_)); rintro e w1 ⟨rfl, hd1⟩))
    go_ret
    exact ⟨rfl, by rw [HW.out]; assumption⟩
theorem powers_row (a b : Nat) (m n : Int) (ha : a < 256) (hb : b < 256) (w : World) :
    Calls Try.prog 6 #[.int .u8 (a : Int), .int .u8 (b : Int), .agg #[.int .i64 m, .int .i64 n]] w fun e w' => e = .returned (.bool true) ∧ Grown w w' :=
  (powers_any a b m n ha hb w).mono fun _ _ h => ⟨h.1, h.2.grownFrom (Grown.alloc (Grown.refl w) _ _)⟩
end Go.Proofs.Ytjnkigbcpofcmaa
