/- The walk of NatOrder. -/
import Derived.Test.YtamniclnhenmgaaDoorPowers
import Derived.Test.YtamniclnhenmgaaDoorInt
import Derived.Test.YtamniclnhenmgaaDoorSameAll
import Derived.Test.YtamniclnhenmgaaDoorLenMath
import Derived.Deep.QuietTactic
import Derived.BigQuiet
namespace Go.Proofs.YtamniclnhenmgaaDoor
open Go Go.RowKit Go.Shelf

theorem pair_cells (w : World) (m n : Int) (t : TypeId) : (w.alloc (.cells #[.int .i64 m, .int .i64 n] t)).cell? ⟨w.heap.size, 0, none⟩ = some (.int .i64 m) ∧ (w.alloc (.cells #[.int .i64 m, .int .i64 n] t)).cell? ⟨w.heap.size, 1, none⟩ = some (.int .i64 n) := by
  have hb : (w.alloc (.cells #[.int .i64 m, .int .i64 n] t)).heap[w.heap.size]? = some (.cells #[.int .i64 m, .int .i64 n] t) := Array.getElem?_push_size
  constructor
  · rw [cell_of_row _ _ 0 _ _ _ hb]; rfl
  · rw [cell_of_row _ _ 1 _ _ _ hb]; rfl
theorem compare_iff {x y x' y' : Int} (h1 : x < y ↔ x' < y') (h2 : y < x ↔ y' < x') : Lib.compareInt x y = Lib.compareInt x' y' := by
  unfold Lib.compareInt; simp only [h1, h2]
theorem compare_neg (x y : Int) : Lib.compareInt y x = -Lib.compareInt x y := by
  rcases Int.lt_trichotomy x y with h | h | h
  · rw [compare_lt h, compare_gt h]; rfl
  · rw [compare_eq h, compare_eq h.symm]; rfl
  · rw [compare_gt h, compare_lt h]
theorem compare_small (x y : Int) : -1 ≤ Lib.compareInt x y ∧ Lib.compareInt x y ≤ 1 := by
  unfold Lib.compareInt; split
  · omega
  · split <;> omega
theorem compare_neg_iff (x y : Int) : decide (Lib.compareInt x y < 0) = decide (x < y) := by
  rcases Int.lt_trichotomy x y with h | h | h
  · rw [compare_lt h, decide_eq_true h]; rfl
  · rw [compare_eq h, decide_eq_false (show ¬ x < y by omega)]; rfl
  · rw [compare_gt h, decide_eq_false (show ¬ x < y by omega)]; rfl
theorem compare_pos_iff (x y : Int) : decide (0 < Lib.compareInt x y) = decide (y < x) := by
  rcases Int.lt_trichotomy x y with h | h | h
  · rw [compare_lt h, decide_eq_false (show ¬ y < x by omega)]; rfl
  · rw [compare_eq h, decide_eq_false (show ¬ y < x by omega)]; rfl
  · rw [compare_gt h, decide_eq_true h]; rfl
theorem compare_same_iff (x y : Nat) : (Lib.compareInt (x : Int) (y : Int) == 0) = decide (x = y) := by
  by_cases h : x = y
  · rw [compare_eq (by omega), decide_eq_true h]; rfl
  · rw [decide_eq_false h]
    exact beq_eq_false_iff_ne.2 (compare_ne (by omega))
theorem order_sub {x y : Nat} {q f : Int} (hq : Lib.compareInt (x : Int) (y : Int) = q) (hf : (if y ≤ x then (0 : Int) else 5) = f) : (f == 0) = decide (0 ≤ q) := by
  subst hq; subst hf
  rcases Nat.lt_trichotomy x y with h | h | h
  · rw [if_neg (by omega), compare_lt (by omega)]; rfl
  · rw [if_pos (by omega), compare_eq (by omega)]; rfl
  · rw [if_pos (by omega), compare_gt (by omega)]; rfl

set_option maxRecDepth 100000 in
set_option maxHeartbeats 1000000 in
theorem order_any (ta : Option Addr) (tc : Nat) (ts : List Int) (m n : Int) (w : World) (hR : Row w ta ts tc) :
    Calls Tryd.prog 11 #[.slice ta ts.length tc, .agg #[.int .i64 m, .int .i64 n]] w fun e W' => e = .returned (.bool true) ∧ Below w.heap.size w W' := by
  have HR := Lib.hid (hR.alloc (.cells #[.int .i64 m, .int .i64 n] 33))
  obtain ⟨N, hN⟩ : ∃ N : Nat, N = 4611686018427387904 := ⟨_, rfl⟩
  have hNI : (N : Int) = 4611686018427387904 := by omega
  obtain ⟨i, hi, hi2⟩ := mod_nat m N (by omega)
  obtain ⟨j, hj, hj2⟩ := mod_nat n N (by omega)
  have hm1 : ∀ (z : Int) (W : World), Calls Tryd.prog 45 #[.int .i64 z, .int .i64 4611686018427387904] W fun e W' => e = .returned (.int .i64 (z % 4611686018427387904)) ∧ W' = W := fun z W => by
    rw [← hNI]; exact mod_any z N W (by omega) (by omega)
  rw [hNI] at hi hj
  have HM := Lib.hid hm1
  have HI := Lib.hid hi
  have HJ := Lib.hid hj
  clear hm1 hi hj hNI
  have HLT := Lib.hid (fun W : World => light_any ta ts.length tc W)
  clear hR
  by_cases hl : (ts.length : Int) ≤ 400
  · go_enter Tryd.func11, Tryd.ntmps11
    go_wp2_with fail
    refine (HLT.out _).mono ?_
    rintro e w' ⟨rfl, rfl⟩
    rw [show decide ((ts.length : Int) ≤ 400) = true from decide_eq_true hl]
    go_wp2_with fail
    refine (roll_any ta tc ts _ HR.out (by omega)).mono ?_
    rintro e w1 ⟨rfl, hd, hb1⟩
    rw [World.size_alloc] at hd
    rw [World.size_alloc]
    have HD := Lib.hid hd
    have HB1 := Lib.hid hb1
    have hs1 : w.heap.size + 1 < w1.heap.size := hd.lt
    clear hd hb1 HR HLT
    go_wp2_with fail
    refine (show Calls Tryd.prog 22 #[.pointer (some ⟨w.heap.size + 1, 0, none⟩), .int .i64 6] w1 _ from diceNat_keep w1 (w.heap.size + 1) ta tc ts 0 6 (by omega) HD.out).mono ?_
    rintro e w2 ⟨v, x, k2, rfl, _, hx, hd2, hg2, hkx⟩
    have HD2 := Lib.hid hd2
    have HB2 := Lib.hid (HB1.out.trans (below_of_dice hg2 (by rw [World.size_alloc]; omega) (by rw [World.size_alloc]; omega)))
    have HX := Lib.hid hx
    have HKX := Lib.hid hkx
    have hs2 := hg2.size
    clear hx hd2 hg2 hkx HD HB1
    go_wp2_with fail
    refine (show Calls Tryd.prog 22 #[.pointer (some ⟨w.heap.size + 1, 0, none⟩), .int .i64 6] w2 _ from diceNat_keep w2 (w.heap.size + 1) ta tc ts k2 6 (by omega) HD2.out).mono ?_
    rintro e w3 ⟨u, y, k3, rfl, _, hy, hd3, hg3, hky⟩
    have HD3 := Lib.hid hd3
    have HB3 := Lib.hid (HB2.out.trans (below_of_dice hg3 (by rw [World.size_alloc]; omega) (by rw [World.size_alloc]; omega)))
    have HY := Lib.hid hy
    have HKY := Lib.hid hky
    have HG3 := Lib.hid hg3
    have hs3 := hg3.size
    clear hy hd3 hg3 hky HD2 HB2
    go_wp2_with fail
    refine (show Calls Tryd.prog 22 #[.pointer (some ⟨w.heap.size + 1, 0, none⟩), .int .i64 3] w3 _ from diceNat_keep w3 (w.heap.size + 1) ta tc ts k3 3 (by omega) HD3.out).mono ?_
    rintro e w4 ⟨z, c, k4, rfl, hz0, hc, _, hg4, _⟩
    have HB4 := Lib.hid (HB3.out.trans (below_of_dice hg4 (by rw [World.size_alloc]; omega) (by rw [World.size_alloc]; omega)))
    obtain ⟨a, ca, rfl, hxr⟩ := HKX.out w4 ⟨hg4.os.trans HG3.out.os, hg4.tape.trans HG3.out.tape, hg4.output.trans HG3.out.output, Nat.le_trans HG3.out.size hg4.size, fun b hb hne => (hg4.block b (Nat.lt_of_lt_of_le hb HG3.out.size) hne).trans (HG3.out.block b hb hne)⟩
    obtain ⟨b, cb, rfl, hyr⟩ := HKY.out w4 hg4
    obtain ⟨d, cd, rfl, hcr⟩ := hz0
    have HC := Lib.hid hc
    clear hg4 hc HD3 HB3 HKX HKY HG3 hs1 hs2 hs3
    have VX := Lib.hid (((Var.new hxr).alloc (.cells #[.slice b (M.dig y).length cb] 24)).alloc (.cells #[.slice d (M.dig c).length cd] 24))
    have VY := (Var.new (hyr.alloc (.cells #[.slice a (M.dig x).length ca] 24))).alloc (.cells #[.slice d (M.dig c).length cd] 24)
    have VC := Var.new ((hcr.alloc (.cells #[.slice a (M.dig x).length ca] 24)).alloc (.cells #[.slice b (M.dig y).length cb] 24))
    simp only [World.size_alloc] at VY VC
    have hB5 := ((HB4.out.alloc HB4.out.size (.cells #[.slice a (M.dig x).length ca] 24)).alloc (by have := HB4.out.size; rw [World.size_alloc] at this; simp; omega) (.cells #[.slice b (M.dig y).length cb] 24)).alloc (by have := HB4.out.size; rw [World.size_alloc] at this; simp; omega) (.cells #[.slice d (M.dig c).length cd] 24)
    have VY := Lib.hid VY
    have VC := Lib.hid VC
    have HB5 := Lib.hid hB5
    clear hxr hyr hcr hB5 HB4
    have hx200 : (M.dig x).length ≤ 200 := Nat.le_trans HX.out (by omega)
    have hy200 : (M.dig y).length ≤ 200 := Nat.le_trans HY.out (by omega)
    have hc200 : (M.dig c).length ≤ 200 := Nat.le_trans HC.out (by omega)
    go_wp2_with fail
    refine (cmp_any a b ca cb x y _ VX.out.row VY.out.row).mono ?_
    rintro e w5 ⟨rfl, hb5⟩
    have UX := Lib.hid (VX.out.below hb5)
    have UY := Lib.hid (VY.out.below hb5)
    have UC := Lib.hid (VC.out.below hb5)
    have HB6 := Lib.hid (HB5.out.trans (hb5.mono HB5.out.size))
    clear hb5 VX VY VC HB5
    obtain ⟨q, hq⟩ : ∃ q, Lib.compareInt (x : Int) (y : Int) = q := ⟨_, rfl⟩
    rw [hq]
    have HQ := Lib.hid hq
    clear hq
    have ex := UX.out.cell
    have ey := UY.out.cell
    go_wp2_with fail
    refine (sub_both a b ca cb x y _ hx200 hy200 UX.out.row UY.out.row).mono ?_
    rintro e w6 ⟨d6, n6, p6, rfl, hb6⟩
    obtain ⟨f6, hf6⟩ : ∃ f6 : Int, (if y ≤ x then (0 : Int) else 5) = f6 := ⟨_, rfl⟩
    rw [hf6]
    have HF6 := Lib.hid hf6
    clear hf6
    have VX := Lib.hid (UX.out.below hb6)
    have VY := Lib.hid (UY.out.below hb6)
    have VC := Lib.hid (UC.out.below hb6)
    have HB7 := Lib.hid (HB6.out.trans (hb6.mono HB6.out.size))
    clear hb6 UX UY UC HB6 ex ey
    have ex := VX.out.cell
    have ey := VY.out.cell
    have ec := VC.out.cell
    have lx := VX.out.lt
    have ly := VY.out.lt
    have lc := VC.out.lt
    have nx : ¬ w4.heap.size = w6.heap.size := by omega
    have ny : ¬ w4.heap.size + 1 = w6.heap.size := by omega
    have nc : ¬ w4.heap.size + 1 + 1 = w6.heap.size := by omega
    go_wp2_with fail
    refine (show Calls Tryd.prog 26 _ _ _ from add_num hx200 hc200 ⟨a, ca, rfl, VX.out.row.alloc _⟩ ⟨d, cd, rfl, VC.out.row.alloc _⟩).mono ?_
    rintro e w7 ⟨hres, hb7⟩
    obtain ⟨v, rfl, a7, p7, rfl, hr7⟩ := hres.ok (Nat.le_trans (M.dig_len_add (Nat.le_trans HX.out (by omega : 6 ≤ 7)) (Nat.le_trans HC.out (by omega : 3 ≤ 7))) (by omega))
    have HB8 := Lib.hid (step_below HB7.out hb7)
    have UX := Lib.hid ((VX.out.alloc _).below hb7)
    have UY := Lib.hid ((VY.out.alloc _).below hb7)
    have UC := Lib.hid ((VC.out.alloc _).below hb7)
    have V7 := Lib.hid (Var.new hr7)
    clear hres hr7 hb7 ex ey ec lx ly lc nx ny nc VX VY VC HB7
    have ex := UX.out.cell
    have ey := UY.out.cell
    have ec := UC.out.cell
    have lx := UX.out.lt
    have ly := UY.out.lt
    have lc := UC.out.lt
    have nx : ¬ w4.heap.size = w7.heap.size := by omega
    have ny : ¬ w4.heap.size + 1 = w7.heap.size := by omega
    have nc : ¬ w4.heap.size + 1 + 1 = w7.heap.size := by omega
    go_wp2_with fail
    refine (show Calls Tryd.prog 26 _ _ _ from add_num hy200 hc200 ⟨b, cb, rfl, UY.out.row.alloc _⟩ ⟨d, cd, rfl, UC.out.row.alloc _⟩).mono ?_
    rintro e w8 ⟨hres, hb8⟩
    obtain ⟨v, rfl, a8, p8, rfl, hr8⟩ := hres.ok (Nat.le_trans (M.dig_len_add (Nat.le_trans HY.out (by omega : 6 ≤ 7)) (Nat.le_trans HC.out (by omega : 3 ≤ 7))) (by omega))
    have HB9 := Lib.hid (step_below HB8.out hb8)
    have VX := Lib.hid ((UX.out.alloc _).below hb8)
    have VY := Lib.hid ((UY.out.alloc _).below hb8)
    have VC := Lib.hid ((UC.out.alloc _).below hb8)
    have W7 := Lib.hid (V7.out.below hb8)
    have V8 := Lib.hid (Var.new hr8)
    clear hres hr8 hb8 ex ey ec lx ly lc nx ny nc UX UY UC V7 HB8
    have ex := VX.out.cell
    have ey := VY.out.cell
    have ec := VC.out.cell
    have lx := VX.out.lt
    have ly := VY.out.lt
    have lc := VC.out.lt
    have nx : ¬ w4.heap.size = w8.heap.size := by omega
    have ny : ¬ w4.heap.size + 1 = w8.heap.size := by omega
    have nc : ¬ w4.heap.size + 1 + 1 = w8.heap.size := by omega
    go_wp2_with fail
    refine (show Calls Tryd.prog 28 _ _ _ from mul_num hx200 hc200 ⟨a, ca, rfl, VX.out.row.alloc _⟩ ⟨d, cd, rfl, VC.out.row.alloc _⟩).mono ?_
    rintro e w9 ⟨hres, hb9⟩
    obtain ⟨v, rfl, a9, p9, rfl, hr9⟩ := hres.ok (Nat.le_trans (M.dig_len_mul HX.out HC.out) (by omega))
    have HB10 := Lib.hid (step_below HB9.out hb9)
    have UX := Lib.hid ((VX.out.alloc _).below hb9)
    have UY := Lib.hid ((VY.out.alloc _).below hb9)
    have UC := Lib.hid ((VC.out.alloc _).below hb9)
    have X7 := Lib.hid ((W7.out.alloc _).below hb9)
    have W8 := Lib.hid (V8.out.below hb9)
    have V9 := Lib.hid (Var.new hr9)
    clear hres hr9 hb9 ex ey ec lx ly lc nx ny nc VX VY VC W7 V8 HB9
    have ex := UX.out.cell
    have ey := UY.out.cell
    have ec := UC.out.cell
    have lx := UX.out.lt
    have ly := UY.out.lt
    have lc := UC.out.lt
    have nx : ¬ w4.heap.size = w9.heap.size := by omega
    have ny : ¬ w4.heap.size + 1 = w9.heap.size := by omega
    have nc : ¬ w4.heap.size + 1 + 1 = w9.heap.size := by omega
    go_wp2_with fail
    refine (show Calls Tryd.prog 28 _ _ _ from mul_num hy200 hc200 ⟨b, cb, rfl, UY.out.row.alloc _⟩ ⟨d, cd, rfl, UC.out.row.alloc _⟩).mono ?_
    rintro e w10 ⟨hres, hb10⟩
    obtain ⟨v, rfl, a10, p10, rfl, hr10⟩ := hres.ok (Nat.le_trans (M.dig_len_mul HY.out HC.out) (by omega))
    have HB11 := Lib.hid (step_below HB10.out hb10)
    have VX := Lib.hid ((UX.out.alloc _).below hb10)
    have VY := Lib.hid ((UY.out.alloc _).below hb10)
    have VC := Lib.hid ((UC.out.alloc _).below hb10)
    have Y7 := Lib.hid ((X7.out.alloc _).below hb10)
    have X8 := Lib.hid ((W8.out.alloc _).below hb10)
    have W9 := Lib.hid (V9.out.below hb10)
    have V10 := Lib.hid (Var.new hr10)
    clear hres hr10 hb10 ex ey ec lx ly lc nx ny nc UX UY UC X7 W8 V9 HB10
    go_wp2_with fail
    refine (awake_any _).mono ?_
    rintro e w11 ⟨rfl, hb11⟩
    have HB12 := Lib.hid (step_below HB11.out hb11)
    have UX := Lib.hid ((VX.out.alloc _).below hb11)
    have UY := Lib.hid ((VY.out.alloc _).below hb11)
    have UC := Lib.hid ((VC.out.alloc _).below hb11)
    have Z7 := Lib.hid ((Y7.out.alloc _).below hb11)
    have Y8 := Lib.hid ((X8.out.alloc _).below hb11)
    have X9 := Lib.hid ((W9.out.alloc _).below hb11)
    have W10 := Lib.hid (V10.out.below hb11)
    clear hb11 VX VY VC Y7 X8 W9 V10 HB11
    have e7 := Z7.out.cell
    have e8 := Y8.out.cell
    have hE : (f6 == 0) = decide (0 ≤ q) := order_sub HQ.out HF6.out
    have q1 : Lib.compareInt ((x + c : Nat) : Int) ((y + c : Nat) : Int) = q := by rw [← HQ.out]; exact compare_iff (by omega) (by omega)
    have q2 : Lib.compareInt (y : Int) (x : Int) = -q := by rw [← HQ.out]; exact compare_neg _ _
    have hqb : -1 ≤ q ∧ q ≤ 1 := by rw [← HQ.out]; exact compare_small _ _
    have q3 : (q == 0) = decide (x = y) := by rw [← HQ.out]; exact compare_same_iff x y
    have Q1 := Lib.hid q1
    have Q2 := Lib.hid q2
    have Q3 := Lib.hid q3
    clear q1 q2 q3
    go_wp2_with fail
    refine (cmp_any a7 a8 p7 p8 (x + c) (y + c) _ Z7.out.row Y8.out.row).mono ?_
    rintro e w12 ⟨rfl, hb12⟩
    rw [Q1.out]
    have HB13 := Lib.hid (HB12.out.trans (hb12.mono HB12.out.size))
    have VX := Lib.hid (UX.out.below hb12)
    have VY := Lib.hid (UY.out.below hb12)
    have VC := Lib.hid (UC.out.below hb12)
    have Y9 := Lib.hid (X9.out.below hb12)
    have X10 := Lib.hid (W10.out.below hb12)
    clear hb12 UX UY UC X9 W10 HB12 e7 e8 Z7 Y8
    have ex := VX.out.cell
    have ey := VY.out.cell
    go_wp2_with fail
    refine (cmp_any b a cb ca y x _ VY.out.row VX.out.row).mono ?_
    rintro e w13 ⟨rfl, hb13⟩
    rw [Q2.out]
    have HB14 := Lib.hid (HB13.out.trans (hb13.mono HB13.out.size))
    have UX := Lib.hid (VX.out.below hb13)
    have UY := Lib.hid (VY.out.below hb13)
    have UC := Lib.hid (VC.out.below hb13)
    have Z9 := Lib.hid (Y9.out.below hb13)
    have Y10 := Lib.hid (X10.out.below hb13)
    clear hb13 ex ey VX VY VC Y9 X10 HB13
    have ex := UX.out.cell
    have ey := UY.out.cell
    go_wp2_with fail
    refine (same_is (x := x) (y := y) ⟨a, ca, rfl, UX.out.row⟩ ⟨b, cb, rfl, UY.out.row⟩).mono ?_
    rintro e w14 ⟨rfl, hb14⟩
    rw [← Q3.out]
    have HB15 := Lib.hid (HB14.out.trans (hb14.mono HB14.out.size))
    have VC := Lib.hid (UC.out.below hb14)
    have U9 := Lib.hid (Z9.out.below hb14)
    have U10 := Lib.hid (Y10.out.below hb14)
    clear hb14 ex ey UX UY UC Z9 Y10 HB14
    by_cases hc0 : c = 0
    · subst hc0
      have ec := VC.out.cell
      rw [M.dig_zero] at ec
      have a0 := (HB15.out.cell (p := ⟨w.heap.size, 0, none⟩) (by simp)).trans (pair_cells w m n _).1
      have a1 := (HB15.out.cell (p := ⟨w.heap.size, 1, none⟩) (by simp)).trans (pair_cells w m n _).2
      go_wp2_with fail
      go_quiet (first | (go_at_call 45; exact Calls.quiet_of_same (HM.out _ _)))
      rw [HI.out, HJ.out]
      go_wp2_with fail
      refine (show Calls Tryd.prog 31 #[.int .i64 (i : Int)] _ _ from of_any i _ (by omega)).mono ?_
      rintro e w17 ⟨v, rfl, ⟨a17, p17, rfl, hr17⟩, hb17⟩
      have HB17 := Lib.hid ((belowN HB15.out _).trans (hb17.mono HB15.out.size))
      have V17 := Lib.hid (Var.new hr17)
      clear hr17 hb17 HB15 a0 a1
      go_wp2_with fail
      refine (show Calls Tryd.prog 31 #[.int .i64 (j : Int)] _ _ from of_any j _ (by omega)).mono ?_
      rintro e w18 ⟨v, rfl, ⟨a18, p18, rfl, hr18⟩, hb18⟩
      have HB18 := Lib.hid (step_below HB17.out hb18)
      have W17 := Lib.hid (V17.out.below hb18)
      have V18 := Lib.hid (Var.new hr18)
      clear hr18 hb18 HB17 V17
      have e17 := W17.out.cell
      have l17 := W17.out.lt
      have n17 : ¬ w17.heap.size = w18.heap.size := by omega
      go_wp2_with fail
      refine (int_any a17 p17 i _ (by omega) (W17.out.row.alloc _)).mono ?_
      rintro e w19 ⟨rfl, hb19⟩
      have HB19 := Lib.hid (step_below HB18.out hb19)
      have X17 := Lib.hid ((W17.out.alloc _).below hb19)
      have W18 := Lib.hid (V18.out.below hb19)
      clear hb19 HB18 W17 V18 e17 l17 n17
      have e17 := X17.out.cell
      have e18 := W18.out.cell
      go_wp2_with fail
      refine (cmp_any a17 a18 p17 p18 i j _ X17.out.row W18.out.row).mono ?_
      rintro e w20 ⟨rfl, hb20⟩
      obtain ⟨k, hk⟩ : ∃ k, Lib.compareInt (i : Int) (j : Int) = k := ⟨_, rfl⟩
      have k1 : decide (k < 0) = decide ((i : Int) < j) := by rw [← hk]; exact compare_neg_iff _ _
      have k2 : decide (0 < k) = decide ((j : Int) < i) := by rw [← hk]; exact compare_pos_iff _ _
      rw [hk]
      have HK := Lib.hid hk
      have HB20 := Lib.hid (HB19.out.trans (hb20.mono HB19.out.size))
      have Y17 := Lib.hid (X17.out.below hb20)
      have X18 := Lib.hid (W18.out.below hb20)
      clear hb20 hk HB19 X17 W18 e17 e18
      have e17 := Y17.out.cell
      have e18 := X18.out.cell
      go_wp2_with fail
      refine (cmp_any a17 a18 p17 p18 i j _ Y17.out.row X18.out.row).mono ?_
      rintro e w21 ⟨rfl, hb21⟩
      rw [HK.out]
      have HB21 := Lib.hid (HB20.out.trans (hb21.mono HB20.out.size))
      clear hb21 HB20 e17 e18
      go_wp2_with fail
      go_ret
      exact ⟨rfl, ((Below.refl _ w).alloc (Nat.le_refl _) _).trans (HB21.out.mono (by simp))⟩
    · have hcl : ¬ ((M.dig c).length = 0) := fun h => hc0 (M.dig_nil.1 (List.length_eq_zero_iff.1 h))
      have ec := VC.out.cell
      have e9 := U9.out.cell
      have e10 := U10.out.cell
      have hcp : 0 < c := by omega
      have q4 : Lib.compareInt ((x * c : Nat) : Int) ((y * c : Nat) : Int) = q := by
        rw [← HQ.out]
        refine compare_iff ⟨fun h => ?_, fun h => ?_⟩ ⟨fun h => ?_, fun h => ?_⟩
        · have := Nat.lt_of_mul_lt_mul_right (Int.ofNat_lt.1 h); omega
        · exact Int.ofNat_lt.2 (Nat.mul_lt_mul_of_pos_right (by omega) hcp)
        · have := Nat.lt_of_mul_lt_mul_right (Int.ofNat_lt.1 h); omega
        · exact Int.ofNat_lt.2 (Nat.mul_lt_mul_of_pos_right (by omega) hcp)
      have Q4 := Lib.hid q4
      clear q4
      go_wp2_with fail
      refine (cmp_any a9 a10 p9 p10 (x * c) (y * c) _ U9.out.row U10.out.row).mono ?_
      rintro e w15 ⟨rfl, hb15⟩
      rw [Q4.out]
      have HB16 := Lib.hid (HB15.out.trans (hb15.mono HB15.out.size))
      clear hb15 ec e9 e10 VC U9 U10 HB15
      have a0 := (HB16.out.cell (p := ⟨w.heap.size, 0, none⟩) (by simp)).trans (pair_cells w m n _).1
      have a1 := (HB16.out.cell (p := ⟨w.heap.size, 1, none⟩) (by simp)).trans (pair_cells w m n _).2
      go_wp2_with fail
      go_quiet (first | (go_at_call 45; exact Calls.quiet_of_same (HM.out _ _)))
      rw [HI.out, HJ.out]
      go_wp2_with fail
      refine (show Calls Tryd.prog 31 #[.int .i64 (i : Int)] _ _ from of_any i _ (by omega)).mono ?_
      rintro e w17 ⟨v, rfl, ⟨a17, p17, rfl, hr17⟩, hb17⟩
      have HB17 := Lib.hid ((belowN HB16.out _).trans (hb17.mono HB16.out.size))
      have V17 := Lib.hid (Var.new hr17)
      clear hr17 hb17 HB16 a0 a1
      go_wp2_with fail
      refine (show Calls Tryd.prog 31 #[.int .i64 (j : Int)] _ _ from of_any j _ (by omega)).mono ?_
      rintro e w18 ⟨v, rfl, ⟨a18, p18, rfl, hr18⟩, hb18⟩
      have HB18 := Lib.hid (step_below HB17.out hb18)
      have W17 := Lib.hid (V17.out.below hb18)
      have V18 := Lib.hid (Var.new hr18)
      clear hr18 hb18 HB17 V17
      have e17 := W17.out.cell
      have l17 := W17.out.lt
      have n17 : ¬ w17.heap.size = w18.heap.size := by omega
      go_wp2_with fail
      refine (int_any a17 p17 i _ (by omega) (W17.out.row.alloc _)).mono ?_
      rintro e w19 ⟨rfl, hb19⟩
      have HB19 := Lib.hid (step_below HB18.out hb19)
      have X17 := Lib.hid ((W17.out.alloc _).below hb19)
      have W18 := Lib.hid (V18.out.below hb19)
      clear hb19 HB18 W17 V18 e17 l17 n17
      have e17 := X17.out.cell
      have e18 := W18.out.cell
      go_wp2_with fail
      refine (cmp_any a17 a18 p17 p18 i j _ X17.out.row W18.out.row).mono ?_
      rintro e w20 ⟨rfl, hb20⟩
      obtain ⟨k, hk⟩ : ∃ k, Lib.compareInt (i : Int) (j : Int) = k := ⟨_, rfl⟩
      have k1 : decide (k < 0) = decide ((i : Int) < j) := by rw [← hk]; exact compare_neg_iff _ _
      have k2 : decide (0 < k) = decide ((j : Int) < i) := by rw [← hk]; exact compare_pos_iff _ _
      rw [hk]
      have HK := Lib.hid hk
      have HB20 := Lib.hid (HB19.out.trans (hb20.mono HB19.out.size))
      have Y17 := Lib.hid (X17.out.below hb20)
      have X18 := Lib.hid (W18.out.below hb20)
      clear hb20 hk HB19 X17 W18 e17 e18
      have e17 := Y17.out.cell
      have e18 := X18.out.cell
      go_wp2_with fail
      refine (cmp_any a17 a18 p17 p18 i j _ Y17.out.row X18.out.row).mono ?_
      rintro e w21 ⟨rfl, hb21⟩
      rw [HK.out]
      have HB21 := Lib.hid (HB20.out.trans (hb21.mono HB20.out.size))
      clear hb21 HB20 e17 e18
      go_wp2_with fail
      go_ret
      exact ⟨rfl, ((Below.refl _ w).alloc (Nat.le_refl _) _).trans (HB21.out.mono (by simp))⟩
  · go_enter Tryd.func11, Tryd.ntmps11
    go_wp2_with fail
    refine (HLT.out _).mono ?_
    rintro e w' ⟨rfl, hw⟩
    obtain rfl : w.alloc (.cells #[.int .i64 m, .int .i64 n] 33) = w' := hw.symm
    rw [show decide ((ts.length : Int) ≤ 400) = false from decide_eq_false (by omega)]
    go_wp2_with fail
    refine (awake_any _).mono ?_
    rintro e w1 ⟨rfl, hb⟩
    have HB := Lib.hid hb
    clear hb
    go_wp2_with fail
    go_ret
    exact ⟨rfl, ((Below.refl _ w).alloc (Nat.le_refl _) _).trans (HB.out.mono (by simp))⟩
end Go.Proofs.YtamniclnhenmgaaDoor
