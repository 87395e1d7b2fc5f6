/- The walk of NatPowers; made.Light, made.Roll. -/
import Derived.Test.YtamniclnhenmgaaDoorDiceNat
namespace Go.Proofs.YtamniclnhenmgaaDoor
open Go Go.RowKit Go.Shelf

theorem light_any (a : Option Addr) (n cap : Nat) (w : World) :
    Calls Tryd.prog 20 #[.slice a n cap] w fun e W' => e = .returned (.bool (decide ((n : Int) ≤ 400))) ∧ W' = w := by
  go_enter Tryd.func20, Tryd.ntmps20
  go_wp2_with fail
  go_ret
  exact ⟨rfl, rfl⟩

theorem roll_dice {a : Option Addr} {cap : Nat} {ts : List Int} {w : World} (hr : Row w a ts cap) (hf : ts.length ≤ 400) (t : TypeId) : Dice (w.alloc (.cells #[.slice a ts.length cap, .int .i64 0] t)) w.heap.size a cap ts 0 := by
  have hb : (w.alloc (.cells #[.slice a ts.length cap, .int .i64 0] t)).heap[w.heap.size]? = some (.cells #[.slice a ts.length cap, .int .i64 0] t) := Array.getElem?_push_size
  refine ⟨?_, ?_, ?_, hr.alloc _, Nat.zero_le _, hf, fun b off e hl => ?_⟩
  · rw [cell_of_row _ _ 0 _ _ _ hb]; rfl
  · rw [cell_of_row _ _ 1 _ _ _ hb]; rfl
  · unfold World.frozen?; rw [hb]; rfl
  · obtain ⟨b', off', e', hc⟩ := hr.el 0 hl
    rw [e] at e'; cases e'
    have := lt_of_cell hc
    exact Nat.ne_of_lt this

theorem roll_any (a : Option Addr) (cap : Nat) (ts : List Int) (w : World) (hr : Row w a ts cap) (hf : ts.length ≤ 400) :
    Calls Tryd.prog 21 #[.slice a ts.length cap] w fun e W' => e = .returned (.pointer (some ⟨w.heap.size, 0, none⟩)) ∧ Dice W' w.heap.size a cap ts 0 ∧ Below w.heap.size w W' := by
  go_enter Tryd.func21, Tryd.ntmps21
  go_wp2_with fail
  go_ret
  refine ⟨rfl, roll_dice hr hf _, (Below.refl _ w).alloc (Nat.le_refl _) _⟩

theorem dig_two_pow (q r : Nat) (hr : r < 24) : M.dig (2 ^ (24 * q + r)) = List.replicate q 0 ++ [((2 ^ r : Nat) : Int)] := by
  have hp : ∀ n : Nat, 2 ^ n ≠ 0 := fun n => Nat.ne_of_gt (Nat.pow_pos (by decide))
  induction q with
  | zero =>
    have h1 : 2 ^ r < 16777216 := Nat.lt_of_lt_of_le (Nat.pow_lt_pow_right (by decide) hr) (by decide)
    rw [Nat.mul_zero, Nat.zero_add, M.dig_pos (hp r), Nat.mod_eq_of_lt h1, Nat.div_eq_of_lt h1, M.dig_zero]; rfl
  | succ q ih =>
    have e : 2 ^ (24 * (q + 1) + r) = 16777216 * 2 ^ (24 * q + r) := by
      rw [show 24 * (q + 1) + r = 24 + (24 * q + r) by omega, Nat.pow_add]
    rw [M.dig_pos (hp _), e, Nat.mul_mod_right, Nat.mul_div_cancel_left _ (by decide), ih]; rfl
theorem dig_pow_len (k : Nat) : (M.dig (2 ^ k)).length = k / 24 + 1 := by
  have h := dig_two_pow (k / 24) (k % 24) (Nat.mod_lt _ (by decide))
  rw [Nat.div_add_mod] at h
  rw [h]; simp
theorem dig_pow_low (k l : Nat) (h : l < k / 24) : M.el (M.dig (2 ^ k)) l = 0 := by
  have h' := dig_two_pow (k / 24) (k % 24) (Nat.mod_lt _ (by decide))
  rw [Nat.div_add_mod] at h'
  rw [h', M.el_append_left (by simpa using h), M.el_replicate]
theorem dig_pow_top (k : Nat) : M.el (M.dig (2 ^ k)) (k / 24) = ((2 ^ (k % 24) : Nat) : Int) := by
  have h' := dig_two_pow (k / 24) (k % 24) (Nat.mod_lt _ (by decide))
  rw [Nat.div_add_mod] at h'
  rw [h', M.el_append_right (by simp)]
  simp [M.el]

theorem wrap_pow (r : Nat) (hr : r < 24) : wrap64 ((2 : Int) ^ r) = 2 ^ r :=
  (show ∀ r, r < 24 → wrap64 ((2 : Int) ^ r) = 2 ^ r by decide +kernel) r hr
theorem pow_len {x n L : Nat} (hx : (M.dig x).length ≤ 2) (hn : n ≤ L) (hL : 2 * L < 200) : (M.dig (x ^ n)).length ≤ 200 := by
  refine M.dig_len_le.2 ?_
  have h1 : x < 16777216 ^ 2 := M.dig_len_le.1 hx
  have h2 : x ^ n ≤ (16777216 ^ 2) ^ n := Nat.pow_le_pow_left (Nat.le_of_lt h1) n
  rw [← Nat.pow_mul] at h2
  refine Nat.lt_of_le_of_lt h2 (Nat.pow_lt_pow_right (by decide) (by omega))

theorem below_of_dice {B : Nat} {w W : World} {dp : Nat} (h : w.grownBy W (some dp)) (hB : B ≤ dp) (hs : B ≤ w.heap.size) : Below B w W :=
  ⟨h.os, h.tape, h.output, h.size, fun k hk => h.block k (by omega) (by intro e; cases e; omega)⟩

set_option maxRecDepth 100000 in
set_option maxHeartbeats 1000000 in
theorem powers_any (ta : Option Addr) (tc : Nat) (ts : List Int) (m n : Int) (w : World) (hR : Row w ta ts tc) :
    Calls Tryd.prog 10 #[.slice ta ts.length tc, .int .i64 m, .int .i64 n] w fun e W' => e = .returned (.bool true) ∧ Below w.heap.size w W' := by
  obtain ⟨i, hi, hi2⟩ := mod_nat m 30 (by omega)
  obtain ⟨k, hk, hk2⟩ := mod_nat n 30 (by omega)
  have hm1 := fun W : World => (show Calls Tryd.prog 45 #[.int .i64 m, .int .i64 30] W _ from mod_any m 30 W (by omega) (by omega))
  have hm2 := fun W : World => (show Calls Tryd.prog 45 #[.int .i64 n, .int .i64 30] W _ from mod_any n 30 W (by omega) (by omega))
  simp only [hi] at hm1
  simp only [hk] at hm2
  have HM1 := Lib.hid hm1
  have HM2 := Lib.hid hm2
  have HR := Lib.hid hR
  have HLT := Lib.hid (light_any ta ts.length tc w)
  clear hm1 hm2 hi hk hR
  by_cases hl : (ts.length : Int) ≤ 400
  · go_enter Tryd.func10, Tryd.ntmps10
    go_wp2_with fail
    refine HLT.out.mono ?_
    rintro e w' ⟨rfl, hw⟩
    obtain rfl : w = w' := hw.symm
    rw [show decide ((ts.length : Int) ≤ 400) = true from decide_eq_true hl]
    go_wp2_with fail
    refine (roll_any ta tc ts _ HR.out (by omega)).mono ?_
    rintro e w1 ⟨rfl, hd, hb1⟩
    have HD := Lib.hid hd
    have HB1 := Lib.hid hb1
    clear hd hb1 HR HLT
    go_wp2_with fail
    refine (show Calls Tryd.prog 22 #[.pointer (some ⟨w.heap.size, 0, none⟩), .int .i64 2] w1 _ from diceNat_any w1 w.heap.size ta tc ts 0 2 (by omega) HD.out).mono ?_
    rintro e w2 ⟨v, x, k', rfl, ⟨a0, p0, rfl, hr0⟩, hx2, _, hg2⟩
    have HB2 := Lib.hid (HB1.out.trans (below_of_dice hg2 (Nat.le_refl _) HB1.out.size))
    have V0 := Lib.hid (Var.new hr0)
    have HX := Lib.hid hx2
    clear hr0 hx2 hg2 HB1 HD
    go_wp2_with fail
    refine (HM1.out _).mono ?_
    rintro e w' ⟨rfl, rfl⟩
    go_wp2_with fail
    refine (HM2.out _).mono ?_
    rintro e w' ⟨rfl, rfl⟩
    have e0 := V0.out.cell
    go_wp2_with fail
    have h200 : (M.dig x).length ≤ 200 := Nat.le_trans HX.out (by omega)
    have hp := power_any a0 p0 x i (w2.alloc (.cells #[.slice a0 (M.dig x).length p0] 24)) h200 (by omega) V0.out.row
    refine hp.mono ?_
    rintro e w3 ⟨hres, hb3⟩
    obtain ⟨v, rfl, a1, p1, rfl, hr1⟩ := hres.ok (pow_len HX.out (L := 60) (by omega) (by omega))
    have HB3 := Lib.hid (step_below HB2.out hb3)
    have W0 := Lib.hid (V0.out.below hb3)
    have V1 := Lib.hid (Var.new hr1)
    clear hp hres hr1 hb3 e0 V0 HB2
    have e0 := W0.out.cell
    have l0 : w2.heap.size < w3.heap.size := W0.out.lt
    have n0 : ¬ w2.heap.size = w3.heap.size := by omega
    go_wp2_with fail
    have hp := power_any a0 p0 x k (w3.alloc (.cells #[.slice a1 (M.dig (x ^ i)).length p1] 24)) h200 (by omega) (W0.out.row.alloc _)
    refine hp.mono ?_
    rintro e w4 ⟨hres, hb4⟩
    obtain ⟨v, rfl, a2, p2, rfl, hr2⟩ := hres.ok (pow_len HX.out (L := 60) (by omega) (by omega))
    have HB4 := Lib.hid (step_below HB3.out hb4)
    have X0 := Lib.hid ((W0.out.alloc _).below hb4)
    have W1 := Lib.hid (V1.out.below hb4)
    have V2 := Lib.hid (Var.new hr2)
    clear hp hres hr2 hb4 e0 l0 n0 W0 V1 HB3
    have e0 := X0.out.cell
    have l0 : w2.heap.size < w4.heap.size := X0.out.lt
    have n0 : ¬ w2.heap.size = w4.heap.size := by omega
    go_wp2_with fail
    have hp := power_any a0 p0 x (i + k) (w4.alloc (.cells #[.slice a2 (M.dig (x ^ k)).length p2] 24)) h200 (by omega) (X0.out.row.alloc _)
    rw [show ((i + k : Nat) : Int) = (i : Int) + k from rfl] at hp
    refine hp.mono ?_
    rintro e w5 ⟨hres, hb5⟩
    obtain ⟨v, rfl, a3, p3, rfl, hr3⟩ := hres.ok (pow_len HX.out (L := 60) (by omega) (by omega))
    have HB5 := Lib.hid (step_below HB4.out hb5)
    have X1 := Lib.hid ((W1.out.alloc _).below hb5)
    have W2 := Lib.hid (V2.out.below hb5)
    have V3 := Lib.hid (Var.new hr3)
    clear hp hres hr3 hb5 e0 l0 n0 X0 W1 V2 HB4
    have e1 := X1.out.cell
    have e2 := W2.out.cell
    have l1 : w3.heap.size < w5.heap.size := X1.out.lt
    have n1 : ¬ w3.heap.size = w5.heap.size := by omega
    have l2 : w4.heap.size < w5.heap.size := W2.out.lt
    have n2 : ¬ w4.heap.size = w5.heap.size := by omega
    go_wp2_with fail
    have hp := mul_any a1 a2 p1 p2 (x ^ i) (x ^ k) (w5.alloc (.cells #[.slice a3 (M.dig (x ^ (i + k))).length p3] 24)) (pow_len HX.out (L := 60) (by omega) (by omega)) (pow_len HX.out (L := 60) (by omega) (by omega)) (X1.out.row.alloc _) (W2.out.row.alloc _)
    rw [← Nat.pow_add] at hp
    refine hp.mono ?_
    rintro e w6 ⟨hres, hb6⟩
    obtain ⟨v, rfl, a4, p4, rfl, hr4⟩ := hres.ok (pow_len HX.out (L := 60) (by omega) (by omega))
    have HB6 := Lib.hid (step_below HB5.out hb6)
    have W3 := Lib.hid (V3.out.below hb6)
    have V4 := Lib.hid (Var.new hr4)
    clear hp hres hr4 hb6 e1 e2 l1 n1 l2 n2 X1 W2 V3 HB5
    go_wp2_with fail
    refine (show Calls Tryd.prog 31 #[.int .i64 2] _ _ from of_any 2 _ (by omega)).mono ?_
    rintro e w7 ⟨v, rfl, ⟨a5, p5, rfl, hr5⟩, hb7⟩
    have HB7 := Lib.hid (step_below HB6.out hb7)
    have X3 := Lib.hid ((W3.out.alloc _).below hb7)
    have W4 := Lib.hid (V4.out.below hb7)
    have V5 := Lib.hid (Var.new hr5)
    clear hr5 hb7 W3 V4 HB6
    have e5 := V5.out.cell
    go_wp2_with fail
    have hp := power_any a5 p5 2 (i + 40 * k) (w7.alloc (.cells #[.slice a5 (M.dig 2).length p5] 24)) (small_len (by decide)) (by omega) V5.out.row
    rw [show ((i + 40 * k : Nat) : Int) = (i : Int) + 40 * k by omega] at hp
    refine hp.mono ?_
    rintro e w8 ⟨hres, hb8⟩
    obtain ⟨v, rfl, a6, p6, rfl, hr6⟩ := hres.ok (by rw [dig_pow_len]; omega)
    have HB8 := Lib.hid (step_below HB7.out hb8)
    have Y3 := Lib.hid ((X3.out.alloc _).below hb8)
    have X4 := Lib.hid ((W4.out.alloc _).below hb8)
    have V6 := Lib.hid (Var.new hr6)
    clear hp hres hr6 hb8 e5 X3 W4 V5 HB7
    go_wp2_with fail
    refine (awake_any _).mono ?_
    rintro e w9 ⟨rfl, hb9⟩
    have HB9 := Lib.hid (step_below HB8.out hb9)
    have Z3 := Lib.hid ((Y3.out.alloc _).below hb9)
    have Y4 := Lib.hid ((X4.out.alloc _).below hb9)
    have W6 := Lib.hid (V6.out.below hb9)
    clear hb9 Y3 X4 V6 HB8
    have e3 := Z3.out.cell
    have e4 := Y4.out.cell
    have e6 := W6.out.cell
    go_wp2_with fail
    refine (same_any a4 a3 _ p4 p3 _ Y4.out.row Z3.out.row).mono ?_
    rintro e w10 ⟨rfl, hb10⟩
    have HB10 := Lib.hid (HB9.out.trans (hb10.mono HB9.out.size))
    have U6 := Lib.hid (W6.out.below hb10)
    clear hb10 e3 e4 e6 Z3 Y4 W6 HB9
    have e6 := U6.out.cell
    obtain ⟨j, hj⟩ : ∃ j, j = i + 40 * k := ⟨_, rfl⟩
    have hjI : (i : Int) + 40 * k = (j : Int) := by omega
    rw [← hj] at U6 e6
    have hq : (((M.dig (2 ^ j)).length : Int) != ((i : Int) + 40 * k) / 24 + 1) = false := by
      rw [dig_pow_len, bne_eq_false_iff_eq, hjI]; omega
    have HJ := Lib.hid hj
    have HJI := Lib.hid hjI
    have hlen := dig_pow_len j
    clear hj hjI
    have HLEN := Lib.hid hlen
    clear hlen
    go_wp2_with fail
    go_loopw [22] (fun v wr => ∃ l : Nat, v = .int .i64 (l : Int) ∧ l ≤ j / 24 ∧ Below w10.heap.size w10 wr) (fun v _ => j / 24 - (intOf v).toNat)
    case atStart => exact ⟨0, rfl, Nat.zero_le _, Below.refl _ _⟩
    case round =>
      obtain ⟨l, rfl, hl, hb⟩ := hrel
      have HB := Lib.hid hb
      have HU := Lib.hid (U6.out.below hb)
      obtain ⟨b, off, rfl, _⟩ := HU.out.row.el 0 (by rw [HLEN.out]; omega)
      have hroom := HU.out.row.room
      have hmost := HU.out.row.most
      have hlenI : (((M.dig (2 ^ j)).length : Nat) : Int) - 1 = ((j / 24 : Nat) : Int) := by rw [HLEN.out]; omega
      clear hb e6
      have e6 := HU.out.cell
      by_cases hlt : l < j / 24
      · have hc := HU.out.row.cell l (by rw [HLEN.out]; omega)
        rw [dig_pow_low j l hlt] at hc
        have hl2 : l < (M.dig (2 ^ j)).length := by rw [HLEN.out]; omega
        have hlt2 : decide ((l : Int) < ((M.dig (2 ^ j)).length : Int) - 1) = true := decide_eq_true (by rw [hlenI]; omega)
        go_wp2_with fail
        go_roundw
        case rel => exact ⟨l + 1, by go_num, by omega, HB.out⟩
        case measure => simp [intOf]; omega
      · have hlq : l = j / 24 := by omega
        have hc := HU.out.row.cell (j / 24) (by rw [HLEN.out]; omega)
        rw [dig_pow_top] at hc
        have hlt2 : decide ((l : Int) < ((M.dig (2 ^ j)).length : Int) - 1) = false := decide_eq_false (by rw [hlenI]; omega)
        have hl2 : j / 24 < (M.dig (2 ^ j)).length := by rw [HLEN.out]; omega
        have hw := wrap_pow (j % 24) (Nat.mod_lt _ (by decide))
        have HW := Lib.hid hw
        clear hw
        go_wp2_with fail
        go_ret
        refine ⟨?_, HB10.out.trans (HB.out.mono HB10.out.size)⟩
        rw [← HJ.out]
        simp [HW.out]
  · go_enter Tryd.func10, Tryd.ntmps10
    go_wp2_with fail
    refine HLT.out.mono ?_
    rintro e w' ⟨rfl, hw⟩
    obtain rfl : w = w' := hw.symm
    rw [show decide ((ts.length : Int) ≤ 400) = false from decide_eq_false (by omega)]
    go_wp2_with fail
    refine (awake_any _).mono ?_
    rintro e w1 ⟨rfl, hb⟩
    have HB := Lib.hid hb
    clear hb
    go_wp2_with fail
    go_ret
    exact ⟨rfl, HB.out⟩
end Go.Proofs.YtamniclnhenmgaaDoor
