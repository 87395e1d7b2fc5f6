/- The walk of NatPascal. -/
import Derived.Test.YtamniclnhenmgaaDoorAwake
import Derived.Test.YtamniclnhenmgaaDoorPower
import Derived.Test.YtamniclnhenmgaaDoorSame
namespace Go.Proofs.YtamniclnhenmgaaDoor
open Go Go.RowKit Go.Shelf

theorem ch_len {n : Nat} (h : n ≤ 4096) (k : Int) : (M.dig (chI n k)).length ≤ 200 := by
  unfold chI
  split
  · rw [M.dig_zero]; exact Nat.zero_le _
  · exact Nat.le_trans (ch_dig_len h _) (by omega)

theorem chI_pascal (n : Nat) (k : Int) : chI n (k - 1) + chI n k = chI (n + 1) k := by
  unfold chI
  by_cases h : k < 0
  · rw [if_pos h, if_pos h, if_pos (by omega)]
  · by_cases h0 : k = 0
    · subst h0
      simp [M.ch_zero]
    · obtain ⟨j, rfl⟩ : ∃ j : Nat, k = j + 1 := ⟨(k - 1).toNat, by omega⟩
      rw [if_neg (by omega), if_neg (by omega), if_neg (by omega), show ((j : Int) + 1 - 1).toNat = j by omega, show ((j : Int) + 1).toNat = j + 1 by omega, M.ch_succ]

theorem mod_nat (k : Int) (m : Nat) (h : 0 < m) : ∃ kk : Nat, k % (m : Int) = kk ∧ kk < m := by
  have h0 := Int.emod_nonneg k (b := (m : Int)) (by omega)
  have h1 := Int.emod_lt_of_pos k (b := (m : Int)) (by omega)
  exact ⟨(k % (m : Int)).toNat, by omega, by omega⟩

/-- A variable of type Nat that lies in a block of its own holds the number n. -/
structure Var (W : World) (b : Nat) (a : Option Addr) (cap n : Nat) : Prop where
  cell : W.cell? ⟨b, 0, none⟩ = some (.slice a (M.dig n).length cap)
  row : Row W a (M.dig n) cap
theorem Var.new {W : World} {a : Option Addr} {cap n : Nat} (h : Row W a (M.dig n) cap) : Var (W.alloc (.cells #[.slice a (M.dig n).length cap] 24)) W.heap.size a cap n :=
  ⟨cell_new _ _ _, h.alloc _⟩
theorem Var.below {W W' : World} {b : Nat} {a : Option Addr} {cap n : Nat} (h : Var W b a cap n) (hb : Below W.heap.size W W') : Var W' b a cap n :=
  ⟨(hb.cell (p := ⟨b, 0, none⟩) (lt_of_cell h.cell)).trans h.cell, h.row.below hb⟩
theorem Var.alloc {W : World} {b : Nat} {a : Option Addr} {cap n : Nat} (h : Var W b a cap n) (o : Obj) : Var (W.alloc o) b a cap n :=
  h.below ((Below.refl _ W).alloc (Nat.le_refl _) _)
theorem Var.lt {W : World} {b : Nat} {a : Option Addr} {cap n : Nat} (h : Var W b a cap n) : b < W.heap.size := lt_of_cell h.cell
theorem step_below {w W W' : World} {o : Obj} (h : Below w.heap.size w W) (hb : Below (W.alloc o).heap.size (W.alloc o) W') : Below w.heap.size w W' :=
  (h.alloc h.size o).trans (hb.mono (by have := h.size; simp; omega))

theorem row_nil (W : World) : Row W none (M.dig 0) 0 := by rw [M.dig_zero]; exact ⟨Nat.le_refl _, by omega, fun j hj => by simp at hj⟩
theorem Var.store {W : World} {b : Nat} {a a' : Option Addr} {cap cap' n n' : Nat} (h : Var W b a cap n) (hr : Row W a' (M.dig n') cap') : Var (W.setCell ⟨b, 0, none⟩ (.slice a' (M.dig n').length cap')) b a' cap' n' :=
  ⟨World.cell?_setCell_same' _ _ _ (by rw [h.cell]; rfl), hr.store h.cell _⟩
theorem sum_len {m j : Nat} (hm : m < 40) (hj : j ≤ m + 1) : (M.dig (M.chSum m j)).length ≤ 200 := by
  have h1 := M.chSum_le m j hj
  have h2 : 2 ^ m < 2 ^ 48 := Nat.pow_lt_pow_right (by omega) (by omega)
  exact Nat.le_trans (M.dig_len_le.2 (Nat.lt_of_le_of_lt h1 (Nat.lt_of_lt_of_le h2 (by decide : 2 ^ 48 ≤ 16777216 ^ 2)))) (by omega)

/-- What holds in the loop that adds up the sets of all sizes. -/
def SumRel (w : World) (B m : Nat) (i : Value) (W : World) : Prop :=
  ∃ (j : Nat) (a : Option Addr) (cap : Nat), i = .int .i64 (j : Int) ∧ j ≤ m + 1 ∧ Var W B a cap (M.chSum m j) ∧ W.frozen? ⟨B, 0, none⟩ = false ∧ w.heap.size ≤ B ∧ Below w.heap.size w W

set_option maxRecDepth 100000 in
set_option maxHeartbeats 1000000 in
theorem pascal_any (n k : Int) (w : World) :
    Calls Tryd.prog 9 #[.int .i64 n, .int .i64 k] w fun e W' => e = .returned (.bool true) ∧ Below w.heap.size w W' := by
  have hm1 : Calls Tryd.prog 45 #[.int .i64 n, .int .i64 200] w _ := mod_any n 200 w (by omega) (by omega)
  have hm40 := fun W : World => (show Calls Tryd.prog 45 #[.int .i64 n, .int .i64 40] W _ from mod_any n 40 W (by omega) (by omega))
  obtain ⟨mm, hmm, hmm2⟩ := mod_nat n 200 (by omega)
  obtain ⟨m4, hm4, hm42⟩ := mod_nat n 40 (by omega)
  rw [hmm] at hm1
  simp only [hm4] at hm40
  have HM1 := Lib.hid hm1
  have HM40 := Lib.hid hm40
  clear hmm hm4 hm1 hm40
  have hk1 := fun W : World => mod_any k (mm + 3) W (by omega) (by omega)
  obtain ⟨kk, hkk, hkk2⟩ := mod_nat k (mm + 3) (by omega)
  simp only [hkk] at hk1
  rw [show ((mm + 3 : Nat) : Int) = 1 + (mm : Int) + 2 by omega] at hk1
  have HK1 := Lib.hid hk1
  clear hk1 hkk
  go_enter Tryd.func9, Tryd.ntmps9
  go_wp2_with fail
  refine HM1.out.mono ?_
  rintro e w' ⟨rfl, hw⟩
  obtain rfl : w = w' := hw.symm
  go_wp2_with fail
  refine (HK1.out _).mono ?_
  rintro e w' ⟨rfl, hw⟩
  obtain rfl : w = w' := hw.symm
  go_wp2_with fail
  have hc1 := choose_num (mm + 1) ((kk : Int) - 1) w (by omega)
  rw [show ((mm + 1 : Nat) : Int) = 1 + (mm : Int) by omega] at hc1
  refine hc1.mono ?_
  rintro e w1 ⟨v, rfl, ⟨a1, p1, rfl, hr1⟩, hb1⟩
  have HB1 := Lib.hid hb1
  have V1 := Lib.hid (Var.new hr1)
  clear hc1 hr1 hb1
  go_wp2_with fail
  have hc2 := choose_num mm ((kk : Int) - 1 - 1) (w1.alloc (.cells #[.slice a1 (M.dig (chI (mm + 1) ((kk : Int) - 1))).length p1] 24)) (by omega)
  rw [show (1 + (mm : Int) - 1) = (mm : Int) by omega]
  refine hc2.mono ?_
  rintro e w2 ⟨v, rfl, ⟨a2, p2, rfl, hr2⟩, hb2⟩
  have HB2 := Lib.hid (step_below HB1.out hb2)
  have W1 := Lib.hid (V1.out.below hb2)
  have V2 := Lib.hid (Var.new hr2)
  clear hc2 hr2 hb2 V1
  go_wp2_with fail
  have hc3 := choose_num mm ((kk : Int) - 1) (w2.alloc (.cells #[.slice a2 (M.dig (chI mm ((kk : Int) - 1 - 1))).length p2] 24)) (by omega)
  rw [show (1 + (mm : Int) - 1) = (mm : Int) by omega]
  refine hc3.mono ?_
  rintro e w3 ⟨v, rfl, ⟨a3, p3, rfl, hr3⟩, hb3⟩
  have HB3 := Lib.hid (step_below HB2.out hb3)
  have X1 := Lib.hid ((W1.out.alloc _).below hb3)
  have X2 := Lib.hid (V2.out.below hb3)
  have V3 := Lib.hid (Var.new hr3)
  clear hc3 hr3 hb3 V2 W1
  have c2 := (X2.out.alloc (.cells #[.slice a3 (M.dig (chI mm ((kk : Int) - 1))).length p3] 24)).cell
  have hn23 : ¬ w2.heap.size = w3.heap.size := by have := X2.out.lt; omega
  have hl23 : w2.heap.size < w3.heap.size := X2.out.lt
  have e2 := X2.out.cell
  go_wp2_with fail
  have hadd := add_num (u := .agg #[.slice a2 (M.dig (chI mm ((kk : Int) - 1 - 1))).length p2]) (v := .agg #[.slice a3 (M.dig (chI mm ((kk : Int) - 1))).length p3]) (w := w3.alloc (.cells #[.slice a3 (M.dig (chI mm ((kk : Int) - 1))).length p3] 24))
    (ch_len (by omega) _) (ch_len (by omega) _) ⟨a2, p2, rfl, X2.out.row.alloc _⟩ ⟨a3, p3, rfl, V3.out.row⟩
  rw [chI_pascal] at hadd
  refine hadd.mono ?_
  rintro e w4 ⟨hres, hb4⟩
  obtain ⟨v, rfl, a4, p4, rfl, hr4⟩ := hres.ok (ch_len (by omega) _)
  have HB4 := Lib.hid (step_below HB3.out hb4)
  have Y1 := Lib.hid ((X1.out.alloc _).below hb4)
  have V4 := Lib.hid (Var.new hr4)
  clear hadd hres hr4 hb4 X1 X2 V3 c2 e2 hn23 hl23
  go_wp2_with fail
  refine (awake_any _).mono ?_
  rintro e w5 ⟨rfl, hb5⟩
  have HB5 := Lib.hid (step_below HB4.out hb5)
  have Z1 := Lib.hid ((Y1.out.alloc _).below hb5)
  have Z4 := Lib.hid (V4.out.below hb5)
  clear hb5 Y1 V4
  have e1 := Z1.out.cell
  have e4 := Z4.out.cell
  go_wp2_with fail
  refine (same_any a1 a4 _ p1 p4 _ Z1.out.row Z4.out.row).mono ?_
  rintro e w6 ⟨rfl, hb6⟩
  have HB6 := Lib.hid (HB5.out.trans (hb6.mono HB5.out.size))
  clear hb6 Z1 Z4 e1 e4 HB1 HB2 HB3 HB4
  go_wp2_with fail
  refine (HM40.out _).mono ?_
  rintro e w' ⟨rfl, hw⟩
  obtain rfl : w' = w6 := hw
  go_wp2_with fail
  have hcn := cell_of_new w' (.slice none 0 0) 24
  have hwb := HB6.out.size
  have HCN := Lib.hid hcn
  clear hcn
  go_loopw [16] (fun i wr => SumRel w w'.heap.size m4 i wr) (fun i _ => m4 + 1 - (intOf i).toNat)
  case atStart =>
    refine ⟨0, none, 0, rfl, by omega, ⟨?_, ?_⟩, HCN.out.2, hwb, HB6.out.alloc hwb _⟩
    · rw [show M.chSum m4 0 = 0 from rfl, M.dig_zero]; exact HCN.out.1
    · exact row_nil _
  case round =>
    obtain ⟨j, a, cap, rfl, hj, hv, hf, hwB, hbW⟩ := hrel
    have HV := Lib.hid hv
    have HBW := Lib.hid hbW
    have hbs := hbW.size
    clear hv hbW hwb HCN
    by_cases hlt : j ≤ m4
    · have hc := fun W : World => choose_num m4 (j : Int) W (by omega)
      have hch : chI m4 (j : Int) = M.ch m4 j := by unfold chI; rw [if_neg (by omega)]; rfl
      rw [hch] at hc
      have HC := Lib.hid hc
      clear hc hch
      go_wp2_with fail
      refine (HC.out _).mono ?_
      rintro e w7 ⟨v, rfl, ⟨a7, p7, rfl, hr7⟩, hb7⟩
      have HV7 := Lib.hid (HV.out.below hb7)
      have HB7 := Lib.hid (HBW.out.trans (hb7.mono hbs))
      have HN7 := Lib.hid (Var.new hr7)
      have hf7 := (hb7.frozen (p := ⟨w'.heap.size, 0, none⟩) HV.out.lt).trans hf
      have hl7 : w'.heap.size < w7.heap.size := HV7.out.lt
      have hn7 : ¬ w'.heap.size = w7.heap.size := by omega
      have e7 := HV7.out.cell
      clear hr7 hb7 hf HC
      go_wp2_with fail
      have hadd := add_num (u := .agg #[.slice a (M.dig (M.chSum m4 j)).length cap]) (v := .agg #[.slice a7 (M.dig (M.ch m4 j)).length p7]) (w := w7.alloc (.cells #[.slice a7 (M.dig (M.ch m4 j)).length p7] 24))
        (sum_len hm42 hj) (by have := ch_len (n := m4) (by omega) (j : Int); unfold chI at this; rwa [if_neg (by omega)] at this) ⟨a, cap, rfl, HV7.out.row.alloc _⟩ ⟨a7, p7, rfl, HN7.out.row⟩
      rw [show M.chSum m4 j + M.ch m4 j = M.chSum m4 (j + 1) from rfl] at hadd
      refine hadd.mono ?_
      rintro e w8 ⟨hres, hb8⟩
      obtain ⟨v, rfl, a8, p8, rfl, hr8⟩ := hres.ok (sum_len hm42 (by omega))
      have HV8 := Lib.hid ((HV7.out.alloc _).below hb8)
      have HB8 := Lib.hid (step_below HB7.out hb8)
      have hf8 := (hb8.frozen (p := ⟨w'.heap.size, 0, none⟩) (by simp; omega)).trans (frozen_later _ e7 hf7)
      have HR8 := Lib.hid hr8
      have e8 := HV8.out.cell
      clear hadd hres hr8 hb8 e7 hf7 HV7
      go_wp2_with fail
      go_roundw
      case rel => exact ⟨j + 1, a8, p8, by go_num, by omega, HV8.out.store HR8.out, by rw [World.frozen?_setCell]; exact hf8, hwB, HB8.out.setCell (p := ⟨w'.heap.size, 0, none⟩) hwB _⟩
      case measure => simp [intOf]; omega
    · have hjm : j = m4 + 1 := by omega
      have hsum : M.chSum m4 j = 2 ^ m4 := by rw [hjm, M.chSum_all]
      have HV2 := Lib.hid (show Var wr w'.heap.size a cap (2 ^ m4) from by rw [← hsum]; exact HV.out)
      have ho : ∀ W : World, Calls Tryd.prog 31 #[.int .i64 2] W _ := fun W => of_any 2 W (by omega)
      clear hsum HV
      have HJ := Lib.hid hjm
      have HO := Lib.hid ho
      clear hjm ho
      go_wp2_with fail
      refine (HO.out _).mono ?_
      rintro e w7 ⟨v, rfl, ⟨a7, p7, rfl, hr7⟩, hb7⟩
      have HV7 := Lib.hid (HV2.out.below hb7)
      have HB7 := Lib.hid (HBW.out.trans (hb7.mono hbs))
      have HN7 := Lib.hid (Var.new hr7)
      clear hr7 hb7 HV2 HO
      go_wp2_with fail
      have hp := power_any a7 p7 2 m4 (w7.alloc (.cells #[.slice a7 (M.dig 2).length p7] 24)) (small_len (by decide)) (by omega) HN7.out.row
      refine hp.mono ?_
      rintro e w8 ⟨hres, hb8⟩
      obtain ⟨v, rfl, a8, p8, rfl, hr8⟩ := hres.ok (by rw [← M.chSum_all]; exact sum_len hm42 (by omega))
      have HV8 := Lib.hid ((HV7.out.alloc _).below hb8)
      have HB8 := Lib.hid (step_below HB7.out hb8)
      have HN8 := Lib.hid (Var.new hr8)
      have hl8 : w'.heap.size < w8.heap.size := HV8.out.lt
      have hn8 : ¬ w'.heap.size = w8.heap.size := by omega
      have e8 := HV8.out.cell
      clear hp hres hr8 hb8 HV7 HN7
      go_wp2_with fail
      refine (same_any a a8 _ cap p8 _ (HV8.out.row.alloc _) HN8.out.row).mono ?_
      rintro e w9 ⟨rfl, hb9⟩
      have HB9 := Lib.hid (step_below HB8.out hb9)
      clear hb9
      go_wp2_with fail
      go_ret
      exact ⟨rfl, HB9.out⟩
end Go.Proofs.YtamniclnhenmgaaDoor
