/- The walk of NatPascal. The reference's Make of two numbers. ratio.Make of two numbers. The reference's Same at any two lists of limbs. ref02.Same. ratio.Valid of a fraction in lowest terms. ratio.product and ratio.Mul of valid fractions whose products are short. ratio.crosswise of valid fractions whose products are short. ratio.Add of valid fractions whose products and sum are short. nat.Cmp, with the shelf's contract of cmp.Compare. nat.Sub. ratio.Add and ratio.Sub of valid fractions whose products are short. -/
import Derived.Test.YtfaggdjoogpmmaaDoorB6
namespace Go.Proofs.YtfaggdjoogpmmaaDoor
open Go Go.RowKit Go.Shelf

theorem ch_len {n : Nat} (h : n ≤ 4096) (k : Int) : (M.dig (chI n k)).length ≤ 200 := by
  unfold chI
  split
  · rw [M.dig_zero]; exact Nat.zero_le _
  · exact Nat.le_trans (ch_dig_len h _) (by omega)

theorem chI_pascal (n : Nat) (k : Int) : chI n (k - 1) + chI n k = chI (n + 1) k := by
  unfold chI
  by_cases h : k < 0
  · rw [if_pos h, if_pos h, if_pos (by omega)]
  · by_cases h0 : k = 0
    · subst h0
      simp [M.ch_zero]
    · obtain ⟨j, rfl⟩ : ∃ j : Nat, k = j + 1 := ⟨(k - 1).toNat, by omega⟩
      rw [if_neg (by omega), if_neg (by omega), if_neg (by omega), show ((j : Int) + 1 - 1).toNat = j by omega, show ((j : Int) + 1).toNat = j + 1 by omega, M.ch_succ]

theorem mod_nat (k : Int) (m : Nat) (h : 0 < m) : ∃ kk : Nat, k % (m : Int) = kk ∧ kk < m := by
  have h0 := Int.emod_nonneg k (b := (m : Int)) (by omega)
  have h1 := Int.emod_lt_of_pos k (b := (m : Int)) (by omega)
  exact ⟨(k % (m : Int)).toNat, by omega, by omega⟩

/-- A variable of type Nat that lies in a block of its own holds the number n. -/
structure Var (W : World) (b : Nat) (a : Option Addr) (cap n : Nat) : Prop where
  cell : W.cell? ⟨b, 0, none⟩ = some (.slice a (M.dig n).length cap)
  row : Row W a (M.dig n) cap
theorem Var.new {W : World} {a : Option Addr} {cap n : Nat} (h : Row W a (M.dig n) cap) : Var (W.alloc (.cells #[.slice a (M.dig n).length cap] 24)) W.heap.size a cap n :=
  ⟨cell_new _ _ _, h.alloc _⟩
theorem Var.below {W W' : World} {b : Nat} {a : Option Addr} {cap n : Nat} (h : Var W b a cap n) (hb : Below W.heap.size W W') : Var W' b a cap n :=
  ⟨(hb.cell (p := ⟨b, 0, none⟩) (lt_of_cell h.cell)).trans h.cell, h.row.below hb⟩
theorem Var.alloc {W : World} {b : Nat} {a : Option Addr} {cap n : Nat} (h : Var W b a cap n) (o : Obj) : Var (W.alloc o) b a cap n :=
  h.below ((Below.refl _ W).alloc (Nat.le_refl _) _)
theorem Var.lt {W : World} {b : Nat} {a : Option Addr} {cap n : Nat} (h : Var W b a cap n) : b < W.heap.size := lt_of_cell h.cell
theorem step_below {w W W' : World} {o : Obj} (h : Below w.heap.size w W) (hb : Below (W.alloc o).heap.size (W.alloc o) W') : Below w.heap.size w W' :=
  (h.alloc h.size o).trans (hb.mono (by have := h.size; simp; omega))

theorem row_nil (W : World) : Row W none (M.dig 0) 0 := by rw [M.dig_zero]; exact ⟨Nat.le_refl _, by omega, fun j hj => by simp at hj⟩
theorem Var.store {W : World} {b : Nat} {a a' : Option Addr} {cap cap' n n' : Nat} (h : Var W b a cap n) (hr : Row W a' (M.dig n') cap') : Var (W.setCell ⟨b, 0, none⟩ (.slice a' (M.dig n').length cap')) b a' cap' n' :=
  ⟨World.cell?_setCell_same' _ _ _ (by rw [h.cell]; rfl), hr.store h.cell _⟩
theorem sum_len {m j : Nat} (hm : m < 40) (hj : j ≤ m + 1) : (M.dig (M.chSum m j)).length ≤ 200 := by
  have h1 := M.chSum_le m j hj
  have h2 : 2 ^ m < 2 ^ 48 := Nat.pow_lt_pow_right (by omega) (by omega)
  exact Nat.le_trans (M.dig_len_le.2 (Nat.lt_of_le_of_lt h1 (Nat.lt_of_lt_of_le h2 (by decide : 2 ^ 48 ≤ 16777216 ^ 2)))) (by omega)

/-- What holds in the loop that adds up the sets of all sizes. -/
def SumRel (w : World) (B m : Nat) (i : Value) (W : World) : Prop :=
  ∃ (j : Nat) (a : Option Addr) (cap : Nat), i = .int .i64 (j : Int) ∧ j ≤ m + 1 ∧ Var W B a cap (M.chSum m j) ∧ W.frozen? ⟨B, 0, none⟩ = false ∧ w.heap.size ≤ B ∧ Below w.heap.size w W

set_option maxRecDepth 100000 in
set_option maxHeartbeats 1000000 in
theorem pascal_any (n k : Int) (w : World) :
    Calls Tryd.prog 9 #[.int .i64 n, .int .i64 k] w fun e W' => e = .returned (.bool true) ∧ Below w.heap.size w W' := by
  have hm1 : Calls Tryd.prog 45 #[.int .i64 n, .int .i64 200] w _ := mod_any n 200 w (by omega) (by omega)
  have hm40 := fun W : World => (show Calls Tryd.prog 45 #[.int .i64 n, .int .i64 40] W _ from mod_any n 40 W (by omega) (by omega))
  obtain ⟨mm, hmm, hmm2⟩ := mod_nat n 200 (by omega)
  obtain ⟨m4, hm4, hm42⟩ := mod_nat n 40 (by omega)
  rw [hmm] at hm1
  simp only [hm4] at hm40
  have HM1 := Lib.hid hm1
  have HM40 := Lib.hid hm40
  clear hmm hm4 hm1 hm40
  have hk1 := fun W : World => mod_any k (mm + 3) W (by omega) (by omega)
  obtain ⟨kk, hkk, hkk2⟩ := mod_nat k (mm + 3) (by omega)
  simp only [hkk] at hk1
  rw [show ((mm + 3 : Nat) : Int) = 1 + (mm : Int) + 2 by omega] at hk1
  have HK1 := Lib.hid hk1
  clear hk1 hkk
  go_enter Tryd.func9, Tryd.ntmps9
  go_wp2_with fail
  refine HM1.out.mono ?_
  rintro e w' ⟨rfl, hw⟩
  obtain rfl : w = w' := hw.symm
  go_wp2_with fail
  refine (HK1.out _).mono ?_
  rintro e w' ⟨rfl, hw⟩
  obtain rfl : w = w' := hw.symm
  go_wp2_with fail
  have hc1 := choose_num (mm + 1) ((kk : Int) - 1) w (by omega)
  rw [show ((mm + 1 : Nat) : Int) = 1 + (mm : Int) by omega] at hc1
  refine hc1.mono ?_
  rintro e w1 ⟨v, rfl, ⟨a1, p1, rfl, hr1⟩, hb1⟩
  have HB1 := Lib.hid hb1
  have V1 := Lib.hid (Var.new hr1)
  clear hc1 hr1 hb1
  go_wp2_with fail
  have hc2 := choose_num mm ((kk : Int) - 1 - 1) (w1.alloc (.cells #[.slice a1 (M.dig (chI (mm + 1) ((kk : Int) - 1))).length p1] 24)) (by omega)
  rw [show (1 + (mm : Int) - 1) = (mm : Int) by omega]
  refine hc2.mono ?_
  rintro e w2 ⟨v, rfl, ⟨a2, p2, rfl, hr2⟩, hb2⟩
  have HB2 := Lib.hid (step_below HB1.out hb2)
  have W1 := Lib.hid (V1.out.below hb2)
  have V2 := Lib.hid (Var.new hr2)
  clear hc2 hr2 hb2 V1
  go_wp2_with fail
  have hc3 := choose_num mm ((kk : Int) - 1) (w2.alloc (.cells #[.slice a2 (M.dig (chI mm ((kk : Int) - 1 - 1))).length p2] 24)) (by omega)
  rw [show (1 + (mm : Int) - 1) = (mm : Int) by omega]
  refine hc3.mono ?_
  rintro e w3 ⟨v, rfl, ⟨a3, p3, rfl, hr3⟩, hb3⟩
  have HB3 := Lib.hid (step_below HB2.out hb3)
  have X1 := Lib.hid ((W1.out.alloc _).below hb3)
  have X2 := Lib.hid (V2.out.below hb3)
  have V3 := Lib.hid (Var.new hr3)
  clear hc3 hr3 hb3 V2 W1
  have c2 := (X2.out.alloc (.cells #[.slice a3 (M.dig (chI mm ((kk : Int) - 1))).length p3] 24)).cell
  have hn23 : ¬ w2.heap.size = w3.heap.size := by have := X2.out.lt; omega
  have hl23 : w2.heap.size < w3.heap.size := X2.out.lt
  have e2 := X2.out.cell
  go_wp2_with fail
  have hadd := add_num (u := .agg #[.slice a2 (M.dig (chI mm ((kk : Int) - 1 - 1))).length p2]) (v := .agg #[.slice a3 (M.dig (chI mm ((kk : Int) - 1))).length p3]) (w := w3.alloc (.cells #[.slice a3 (M.dig (chI mm ((kk : Int) - 1))).length p3] 24))
    (ch_len (by omega) _) (ch_len (by omega) _) ⟨a2, p2, rfl, X2.out.row.alloc _⟩ ⟨a3, p3, rfl, V3.out.row⟩
  rw [chI_pascal] at hadd
  refine hadd.mono ?_
  rintro e w4 ⟨hres, hb4⟩
  obtain ⟨v, rfl, a4, p4, rfl, hr4⟩ := hres.ok (ch_len (by omega) _)
  have HB4 := Lib.hid (step_below HB3.out hb4)
  have Y1 := Lib.hid ((X1.out.alloc _).below hb4)
  have V4 := Lib.hid (Var.new hr4)
  clear hadd hres hr4 hb4 X1 X2 V3 c2 e2 hn23 hl23
  go_wp2_with fail
  refine (awake_any _).mono ?_
  rintro e w5 ⟨rfl, hb5⟩
  have HB5 := Lib.hid (step_below HB4.out hb5)
  have Z1 := Lib.hid ((Y1.out.alloc _).below hb5)
  have Z4 := Lib.hid (V4.out.below hb5)
  clear hb5 Y1 V4
  have e1 := Z1.out.cell
  have e4 := Z4.out.cell
  go_wp2_with fail
  refine (same_any a1 a4 _ p1 p4 _ Z1.out.row Z4.out.row).mono ?_
  rintro e w6 ⟨rfl, hb6⟩
  have HB6 := Lib.hid (HB5.out.trans (hb6.mono HB5.out.size))
  clear hb6 Z1 Z4 e1 e4 HB1 HB2 HB3 HB4
  go_wp2_with fail
  refine (HM40.out _).mono ?_
  rintro e w' ⟨rfl, hw⟩
  obtain rfl : w' = w6 := hw
  go_wp2_with fail
  have hcn := cell_of_new w' (.slice none 0 0) 24
  have hwb := HB6.out.size
  have HCN := Lib.hid hcn
  clear hcn
  go_loopw [16] (fun i wr => SumRel w w'.heap.size m4 i wr) (fun i _ => m4 + 1 - (intOf i).toNat)
  case atStart =>
    refine ⟨0, none, 0, rfl, by omega, ⟨?_, ?_⟩, HCN.out.2, hwb, HB6.out.alloc hwb _⟩
    · rw [show M.chSum m4 0 = 0 from rfl, M.dig_zero]; exact HCN.out.1
    · exact row_nil _
  case round =>
    obtain ⟨j, a, cap, rfl, hj, hv, hf, hwB, hbW⟩ := hrel
    have HV := Lib.hid hv
    have HBW := Lib.hid hbW
    have hbs := hbW.size
    clear hv hbW hwb HCN
    by_cases hlt : j ≤ m4
    · have hc := fun W : World => choose_num m4 (j : Int) W (by omega)
      have hch : chI m4 (j : Int) = M.ch m4 j := by unfold chI; rw [if_neg (by omega)]; rfl
      rw [hch] at hc
      have HC := Lib.hid hc
      clear hc hch
      go_wp2_with fail
      refine (HC.out _).mono ?_
      rintro e w7 ⟨v, rfl, ⟨a7, p7, rfl, hr7⟩, hb7⟩
      have HV7 := Lib.hid (HV.out.below hb7)
      have HB7 := Lib.hid (HBW.out.trans (hb7.mono hbs))
      have HN7 := Lib.hid (Var.new hr7)
      have hf7 := (hb7.frozen (p := ⟨w'.heap.size, 0, none⟩) HV.out.lt).trans hf
      have hl7 : w'.heap.size < w7.heap.size := HV7.out.lt
      have hn7 : ¬ w'.heap.size = w7.heap.size := by omega
      have e7 := HV7.out.cell
      clear hr7 hb7 hf HC
      go_wp2_with fail
      have hadd := add_num (u := .agg #[.slice a (M.dig (M.chSum m4 j)).length cap]) (v := .agg #[.slice a7 (M.dig (M.ch m4 j)).length p7]) (w := w7.alloc (.cells #[.slice a7 (M.dig (M.ch m4 j)).length p7] 24))
        (sum_len hm42 hj) (by have := ch_len (n := m4) (by omega) (j : Int); unfold chI at this; rwa [if_neg (by omega)] at this) ⟨a, cap, rfl, HV7.out.row.alloc _⟩ ⟨a7, p7, rfl, HN7.out.row⟩
      rw [show M.chSum m4 j + M.ch m4 j = M.chSum m4 (j + 1) from rfl] at hadd
      refine hadd.mono ?_
      rintro e w8 ⟨hres, hb8⟩
      obtain ⟨v, rfl, a8, p8, rfl, hr8⟩ := hres.ok (sum_len hm42 (by omega))
      have HV8 := Lib.hid ((HV7.out.alloc _).below hb8)
      have HB8 := Lib.hid (step_below HB7.out hb8)
      have hf8 := (hb8.frozen (p := ⟨w'.heap.size, 0, none⟩) (by simp; omega)).trans (frozen_later _ e7 hf7)
      have HR8 := Lib.hid hr8
      have e8 := HV8.out.cell
      clear hadd hres hr8 hb8 e7 hf7 HV7
      go_wp2_with fail
      go_roundw
      case rel => exact ⟨j + 1, a8, p8, by go_num, by omega, HV8.out.store HR8.out, by rw [World.frozen?_setCell]; exact hf8, hwB, HB8.out.setCell (p := ⟨w'.heap.size, 0, none⟩) hwB _⟩
      case measure => simp [intOf]; omega
    · have hjm : j = m4 + 1 := by omega
      have hsum : M.chSum m4 j = 2 ^ m4 := by rw [hjm, M.chSum_all]
      have HV2 := Lib.hid (show Var wr w'.heap.size a cap (2 ^ m4) from by rw [← hsum]; exact HV.out)
      have ho : ∀ W : World, Calls Tryd.prog 31 #[.int .i64 2] W _ := fun W => of_any 2 W (by omega)
      clear hsum HV
      have HJ := Lib.hid hjm
      have HO := Lib.hid ho
      clear hjm ho
      go_wp2_with fail
      refine (HO.out _).mono ?_
      rintro e w7 ⟨v, rfl, ⟨a7, p7, rfl, hr7⟩, hb7⟩
      have HV7 := Lib.hid (HV2.out.below hb7)
      have HB7 := Lib.hid (HBW.out.trans (hb7.mono hbs))
      have HN7 := Lib.hid (Var.new hr7)
      clear hr7 hb7 HV2 HO
      go_wp2_with fail
      have hp := power_any a7 p7 2 m4 (w7.alloc (.cells #[.slice a7 (M.dig 2).length p7] 24)) (small_len (by decide)) (by omega) HN7.out.row
      refine hp.mono ?_
      rintro e w8 ⟨hres, hb8⟩
      obtain ⟨v, rfl, a8, p8, rfl, hr8⟩ := hres.ok (by rw [← M.chSum_all]; exact sum_len hm42 (by omega))
      have HV8 := Lib.hid ((HV7.out.alloc _).below hb8)
      have HB8 := Lib.hid (step_below HB7.out hb8)
      have HN8 := Lib.hid (Var.new hr8)
      have hl8 : w'.heap.size < w8.heap.size := HV8.out.lt
      have hn8 : ¬ w'.heap.size = w8.heap.size := by omega
      have e8 := HV8.out.cell
      clear hp hres hr8 hb8 HV7 HN7
      go_wp2_with fail
      refine (same_any a a8 _ cap p8 _ (HV8.out.row.alloc _) HN8.out.row).mono ?_
      rintro e w9 ⟨rfl, hb9⟩
      have HB9 := Lib.hid (step_below HB8.out hb9)
      clear hb9
      go_wp2_with fail
      go_ret
      exact ⟨rfl, HB9.out⟩
end Go.Proofs.YtfaggdjoogpmmaaDoor

namespace Go.Proofs.YtfaggdjoogpmmaaDoor
open Go Go.RowKit Go.Shelf

/-- The value is the fraction x / y, as its two numbers stand. -/
def RatV (W : World) (v : Value) (x y : Nat) : Prop := ∃ a c b d, v = .agg #[.slice a (M.dig x).length c, .slice b (M.dig y).length d] ∧ Row W a (M.dig x) c ∧ Row W b (M.dig y) d

/-- .. in blocks from B on. -/
def RatF (B : Nat) (W : World) (v : Value) (x y : Nat) : Prop := ∃ a c b d, v = .agg #[.slice a (M.dig x).length c, .slice b (M.dig y).length d] ∧ Row W a (M.dig x) c ∧ Row W b (M.dig y) d ∧ Fresh B a (M.dig x) ∧ Fresh B b (M.dig y)
theorem RatF.val {B : Nat} {W : World} {v : Value} {x y : Nat} (h : RatF B W v x y) : RatV W v x y := by
  obtain ⟨a, c, b, d, e, h1, h2, _, _⟩ := h
  exact ⟨a, c, b, d, e, h1, h2⟩

structure MkSt (w : World) (a b : Option Addr) (ca cb x y : Nat) (W : World) : Prop where
  c0 : W.cell? ⟨w.heap.size, 0, none⟩ = some (.slice a (M.dig x).length ca)
  c1 : W.cell? ⟨w.heap.size + 1, 0, none⟩ = some (.slice b (M.dig y).length cb)
  r0 : W.cell? ⟨w.heap.size + 1 + 1, 0, none⟩ = some (.slice none 0 0)
  f0 : W.frozen? ⟨w.heap.size + 1 + 1, 0, none⟩ = false
  r1 : W.cell? ⟨w.heap.size + 1 + 1, 1, none⟩ = some (.slice none 0 0)
  f1 : W.frozen? ⟨w.heap.size + 1 + 1, 1, none⟩ = false
  ra : Row W a (M.dig x) ca
  rb : Row W b (M.dig y) cb
  below : Below w.heap.size w W
theorem MkSt.keep {w : World} {a b : Option Addr} {ca cb x y : Nat} {W W' : World} (h : MkSt w a b ca cb x y W) (hb : Below W.heap.size W W') : MkSt w a b ca cb x y W' :=
  ⟨cell_below hb h.c0, cell_below hb h.c1, cell_below hb h.r0, frozen_below hb h.r0 h.f0, cell_below hb h.r1, frozen_below hb h.r1 h.f1, h.ra.below hb, h.rb.below hb, h.below.trans (hb.mono h.below.size)⟩
theorem MkSt.alloc {w : World} {a b : Option Addr} {ca cb x y : Nat} {W : World} (h : MkSt w a b ca cb x y W) (o : Obj) : MkSt w a b ca cb x y (W.alloc o) := h.keep ((Below.refl _ W).alloc (Nat.le_refl _) o)
/-- A variable of type Ratio has just been laid. -/
theorem two_cells (w : World) (u v : Value) (t : TypeId) : ((w.alloc (.cells #[u, v] t)).cell? ⟨w.heap.size, 0, none⟩ = some u ∧ (w.alloc (.cells #[u, v] t)).frozen? ⟨w.heap.size, 0, none⟩ = false) ∧ (w.alloc (.cells #[u, v] t)).cell? ⟨w.heap.size, 1, none⟩ = some v ∧ (w.alloc (.cells #[u, v] t)).frozen? ⟨w.heap.size, 1, none⟩ = false := by
  have hb : (w.alloc (.cells #[u, v] t)).heap[w.heap.size]? = some (.cells #[u, v] t) := Array.getElem?_push_size
  refine ⟨⟨?_, ?_⟩, ?_, ?_⟩
  · rw [cell_of_row _ _ 0 _ _ _ hb]; rfl
  · simp only [World.frozen?, hb]; rfl
  · rw [cell_of_row _ _ 1 _ _ _ hb]; rfl
  · simp only [World.frozen?, hb]; rfl
theorem mk_start (w : World) (a b : Option Addr) (ca cb x y : Nat) (t : TypeId) (hA : Row w a (M.dig x) ca) (hB : Row w b (M.dig y) cb) :
    MkSt w a b ca cb x y (((w.alloc (.cells #[.slice a (M.dig x).length ca] 24)).alloc (.cells #[.slice b (M.dig y).length cb] 24)).alloc (.cells #[.slice none 0 0, .slice none 0 0] t)) := by
  obtain ⟨⟨h0, h1⟩, h2, h3⟩ := two_cells ((w.alloc (.cells #[.slice a (M.dig x).length ca] 24)).alloc (.cells #[.slice b (M.dig y).length cb] 24)) (.slice none 0 0) (.slice none 0 0) t
  have k1 := cell_new (w.alloc (.cells #[.slice a (M.dig x).length ca] 24)) (.slice b (M.dig y).length cb) 24
  simp only [World.size_alloc] at h0 h1 h2 h3 k1
  exact ⟨cell_later _ (cell_later _ (cell_new _ _ _)), cell_later _ k1, h0, h1, h2, h3, ((hA.alloc _).alloc _).alloc _, ((hB.alloc _).alloc _).alloc _, (((Below.refl _ w).alloc (Nat.le_refl _) _).alloc (by simp) _).alloc (by simp; omega) _⟩

set_option maxRecDepth 100000 in
set_option maxHeartbeats 2000000 in
/-- **ref02.Make** -/
theorem rmake_pos (a b : Option Addr) (ca cb x y : Nat) (w : World) (hy0 : 0 < y) (hx : (M.dig x).length ≤ 200) (hy : (M.dig y).length ≤ 200) (hA : Row w a (M.dig x) ca) (hB : Row w b (M.dig y) cb) :
    Calls Tryd.prog 52 #[.agg #[.slice a (M.dig x).length ca], .agg #[.slice b (M.dig y).length cb]] w fun e W' => (∃ v, e = .returned (.tuple #[v, .int .i64 0]) ∧ RatF w.heap.size W' v (x / Nat.gcd x y) (y / Nat.gcd x y)) ∧ Below w.heap.size w W' := by
  have hyl : ¬ (M.dig y).length = 0 := by intro h; have := M.dig_nil.1 (List.length_eq_zero_iff.1 h); omega
  have hyn : (((M.dig y).length : Int) == 0) = false := beq_eq_false_iff_ne.2 (by omega)
  have hgp : 0 < Nat.gcd x y := Nat.gcd_pos_of_pos_right x hy0
  have hgl : (M.dig (Nat.gcd x y)).length ≤ 200 := Nat.le_trans (M.dig_len_mono (Nat.gcd_le_right x hy0)) hy
  have Hvx := Lib.hid (vld_dig hx)
  have Hvy := Lib.hid (vld_dig hy)
  have HS0 := Lib.hid (mk_start w a b ca cb x y 58 hA hB)
  clear hA hB
  go_enter Tryd.func52, Tryd.ntmps52
  go_wp2_with fail
  generalize (((w.alloc (.cells #[.slice a (M.dig x).length ca] 24)).alloc (.cells #[.slice b (M.dig y).length cb] 24)).alloc (.cells #[.slice none 0 0, .slice none 0 0] 58)) = w3 at *
  refine (rvalid_yes a _ ca _ HS0.out.ra Hvx.out).mono ?_
  rintro e w5 ⟨rfl, hb5⟩
  have HS5 := Lib.hid (HS0.out.keep hb5)
  have d1 := HS5.out.c1
  clear hb5 HS0
  go_wp2_with fail
  refine (rvalid_yes b _ cb _ HS5.out.rb Hvy.out).mono ?_
  rintro e w6 ⟨rfl, hb6⟩
  have HS6 := Lib.hid (HS5.out.keep hb6)
  clear hb6 HS5 d1
  have d0 := HS6.out.c0
  have d1 := HS6.out.c1
  go_wp2_with fail
  refine (rgcd_any a b ca cb x y w6 hx hy HS6.out.ra HS6.out.rb).mono ?_
  rintro e w7 ⟨⟨v, rfl, ag, cg, rfl, hrg⟩, hb7⟩
  obtain ⟨k, hk⟩ : ∃ k, Nat.gcd x y = k := ⟨_, rfl⟩
  rw [hk] at hgp hgl hrg ⊢
  have HK := Lib.hid hk
  have HS7 := Lib.hid ((HS6.out.keep hb7).alloc (.cells #[.slice ag (M.dig k).length cg] 24))
  have VG := Lib.hid (Var.new hrg)
  have hb7s := HS7.out.c1
  clear hk hrg hb7 HS6 d0 d1 hb7s
  have d0 := HS7.out.c0
  have e6 := VG.out.cell
  go_wp2_with fail
  refine (rdiv_pos a ag ca cg x k _ hgp hx hgl HS7.out.ra VG.out.row).mono ?_
  rintro e w8 ⟨⟨a1, c1, a2, c2, rfl, hr1, hr2, hf1, _⟩, hb8⟩
  have HF1 := Lib.hid hf1
  have hq7 := HS7.out.below.size
  have HS8 := Lib.hid (((HS7.out.keep hb8).alloc (.cells #[.slice a1 (M.dig (x / k)).length c1] 24)).alloc (.cells #[.slice a2 (M.dig (x % k)).length c2] 24))
  have VG8 := Lib.hid (((VG.out.below hb8).alloc (.cells #[.slice a1 (M.dig (x / k)).length c1] 24)).alloc (.cells #[.slice a2 (M.dig (x % k)).length c2] 24))
  have V1 := Lib.hid ((Var.new hr1).alloc (.cells #[.slice a2 (M.dig (x % k)).length c2] 24))
  clear hr1 hr2 hf1 hb8 HS7 VG d0 e6
  have d1 := HS8.out.c1
  have e6 := VG8.out.cell
  go_wp2_with fail
  refine (rdiv_pos b ag cb cg y k _ hgp hy hgl HS8.out.rb VG8.out.row).mono ?_
  rintro e w9 ⟨⟨b1, p1, b2, p2, rfl, hs1, hs2, hf2, _⟩, hb9⟩
  have HF2 := Lib.hid hf2
  have hq8 := HS8.out.below.size
  have HS9 := Lib.hid (((HS8.out.keep hb9).alloc (.cells #[.slice b1 (M.dig (y / k)).length p1] 24)).alloc (.cells #[.slice b2 (M.dig (y % k)).length p2] 24))
  have V19 := Lib.hid (((V1.out.below hb9).alloc (.cells #[.slice b1 (M.dig (y / k)).length p1] 24)).alloc (.cells #[.slice b2 (M.dig (y % k)).length p2] 24))
  have V2 := Lib.hid ((Var.new hs1).alloc (.cells #[.slice b2 (M.dig (y % k)).length p2] 24))
  clear hs1 hs2 hf2 hb9 HS8 VG8 V1 d1 e6
  have e8 := V19.out.cell
  have e11 := V2.out.cell
  have r0 := HS9.out.r0
  have r1 := HS9.out.r1
  have f0 := HS9.out.f0
  have f1 := HS9.out.f1
  go_upto_region 8 with fail
  generalize ((w9.alloc (.cells #[.slice b1 (M.dig (y / k)).length p1] 24)).alloc (.cells #[.slice b2 (M.dig (y % k)).length p2] 24)) = w10 at *
  have r2 : (w10.setCell ⟨w.heap.size + 1 + 1, 0, none⟩ (.slice a1 (M.dig (x / k)).length c1)).cell? ⟨w.heap.size + 1 + 1, 1, none⟩ = some (.slice none 0 0) := (World.cell?_setCell_other _ _ _ _ (by intro e; cases e)).trans r1
  have R0 := Lib.hid r0
  have R2 := Lib.hid r2
  clear r2
  go_wp2_with fail
  refine bodyPost_ret (v := .tuple #[.agg #[.slice a1 (M.dig (x / k)).length c1, .slice b1 (M.dig (y / k)).length p1], .int .i64 0]) (by simp [results, Tryd.results52, go_sem, r0, r1]) rfl ⟨⟨_, rfl, a1, c1, b1, p1, by rw [HK.out], ?_, ?_, ?_, ?_⟩, ?_⟩
  · rw [HK.out]; exact (V19.out.row.storedAt R0.out _).storedAt R2.out _
  · rw [HK.out]; exact (V2.out.row.storedAt R0.out _).storedAt R2.out _
  · rw [HK.out]; exact fun b off e hl => Nat.le_trans hq7 (HF1.out b off e hl)
  · rw [HK.out]; exact fun b off e hl => Nat.le_trans hq8 (HF2.out b off e hl)
  · exact (HS9.out.below.setCell (p := ⟨w.heap.size + 1 + 1, 0, none⟩) (by show _ ≤ w.heap.size + 1 + 1; omega) _).setCell (p := ⟨w.heap.size + 1 + 1, 1, none⟩) (by show _ ≤ w.heap.size + 1 + 1; omega) _
end Go.Proofs.YtfaggdjoogpmmaaDoor

namespace Go.Proofs.YtfaggdjoogpmmaaDoor
open Go Go.RowKit Go.Shelf

/-- Two parameters of type Nat in boxes, a result of type Ratio. -/
structure RmSt (w : World) (a b : Option Addr) (ca cb x y : Nat) (W : World) : Prop where
  c0 : W.cell? ⟨w.heap.size, 0, none⟩ = some (.slice a (M.dig x).length ca)
  e0 : W.frozen? ⟨w.heap.size, 0, none⟩ = false
  c1 : W.cell? ⟨w.heap.size + 1, 0, none⟩ = some (.slice b (M.dig y).length cb)
  e1 : W.frozen? ⟨w.heap.size + 1, 0, none⟩ = false
  r0 : W.cell? ⟨w.heap.size + 1 + 1, 0, none⟩ = some (.slice none 0 0)
  f0 : W.frozen? ⟨w.heap.size + 1 + 1, 0, none⟩ = false
  r1 : W.cell? ⟨w.heap.size + 1 + 1, 1, none⟩ = some (.slice none 0 0)
  f1 : W.frozen? ⟨w.heap.size + 1 + 1, 1, none⟩ = false
  ra : Row W a (M.dig x) ca
  rb : Row W b (M.dig y) cb
  below : Below w.heap.size w W
section
variable {w W : World} {a b : Option Addr} {ca cb x y : Nat}
theorem RmSt.keep {W' : World} (h : RmSt w a b ca cb x y W) (hb : Below W.heap.size W W') : RmSt w a b ca cb x y W' :=
  ⟨cell_below hb h.c0, frozen_below hb h.c0 h.e0, cell_below hb h.c1, frozen_below hb h.c1 h.e1, cell_below hb h.r0, frozen_below hb h.r0 h.f0, cell_below hb h.r1, frozen_below hb h.r1 h.f1, h.ra.below hb, h.rb.below hb, h.below.trans (hb.mono h.below.size)⟩
theorem RmSt.alloc (h : RmSt w a b ca cb x y W) (o : Obj) : RmSt w a b ca cb x y (W.alloc o) := h.keep ((Below.refl _ W).alloc (Nat.le_refl _) o)
theorem RmSt.set0 {a' : Option Addr} {c' x' : Nat} (h : RmSt w a b ca cb x y W) (hr : Row W a' (M.dig x') c') : RmSt w a' b c' cb x' y (W.setCell ⟨w.heap.size, 0, none⟩ (.slice a' (M.dig x').length c')) :=
  ⟨World.cell?_setCell_same _ _ _ h.c0, (World.frozen?_setCell _ _ _ _).trans h.e0, (cell_other _ (show w.heap.size + 1 ≠ w.heap.size by omega)).trans h.c1, (World.frozen?_setCell _ _ _ _).trans h.e1, (cell_other _ (show w.heap.size + 1 + 1 ≠ w.heap.size by omega)).trans h.r0, (World.frozen?_setCell _ _ _ _).trans h.f0,
    (cell_other _ (show w.heap.size + 1 + 1 ≠ w.heap.size by omega)).trans h.r1, (World.frozen?_setCell _ _ _ _).trans h.f1, hr.storedAt h.c0 _, h.rb.storedAt h.c0 _, h.below.setCell (p := ⟨w.heap.size, 0, none⟩) (Nat.le_refl _) _⟩
theorem RmSt.set1 {b' : Option Addr} {d' y' : Nat} (h : RmSt w a b ca cb x y W) (hr : Row W b' (M.dig y') d') : RmSt w a b' ca d' x y' (W.setCell ⟨w.heap.size + 1, 0, none⟩ (.slice b' (M.dig y').length d')) :=
  ⟨(cell_other _ (show w.heap.size ≠ w.heap.size + 1 by omega)).trans h.c0, (World.frozen?_setCell _ _ _ _).trans h.e0, World.cell?_setCell_same _ _ _ h.c1, (World.frozen?_setCell _ _ _ _).trans h.e1, (cell_other _ (show w.heap.size + 1 + 1 ≠ w.heap.size + 1 by omega)).trans h.r0, (World.frozen?_setCell _ _ _ _).trans h.f0,
    (cell_other _ (show w.heap.size + 1 + 1 ≠ w.heap.size + 1 by omega)).trans h.r1, (World.frozen?_setCell _ _ _ _).trans h.f1, h.ra.storedAt h.c1 _, hr.storedAt h.c1 _, h.below.setCell (p := ⟨w.heap.size + 1, 0, none⟩) (by show _ ≤ w.heap.size + 1; omega) _⟩
theorem RmSt.start (hA : Row w a (M.dig x) ca) (hB : Row w b (M.dig y) cb) (t : TypeId) :
    RmSt w a b ca cb x y (((w.alloc (.cells #[.slice a (M.dig x).length ca] 24)).alloc (.cells #[.slice b (M.dig y).length cb] 24)).alloc (.cells #[.slice none 0 0, .slice none 0 0] t)) := by
  have h := mk_start w a b ca cb x y t hA hB
  have k1 := cell_new (w.alloc (.cells #[.slice a (M.dig x).length ca] 24)) (.slice b (M.dig y).length cb) 24
  have k2 := frozen_new (w.alloc (.cells #[.slice a (M.dig x).length ca] 24)) (.slice b (M.dig y).length cb) 24
  rw [World.size_alloc] at k1 k2
  exact ⟨h.c0, frozen_later _ (cell_later _ (cell_new _ _ _)) (frozen_later _ (cell_new _ _ _) (frozen_new _ _ _)), h.c1, frozen_later _ k1 k2, h.r0, h.f0, h.r1, h.f1, h.ra, h.rb, h.below⟩
end

theorem Var.beside {W : World} {p q n c : Nat} {a s : Option Addr} {ca x : Nat} (h : Var W p a ca x) (hq : W.cell? ⟨q, 0, none⟩ = some (.slice s n c)) (hne : p ≠ q) (u : Value) : Var (W.setCell ⟨q, 0, none⟩ u) p a ca x :=
  ⟨(cell_other u (show p ≠ q from hne)).trans h.cell, h.row.storedAt hq u⟩

set_option maxRecDepth 100000 in
set_option maxHeartbeats 1000000 in
theorem isZero_any (a : Option Addr) (ca x : Nat) (w : World) :
    Calls Tryd.prog 95 #[.agg #[.slice a (M.dig x).length ca]] w fun e W' => e = .returned (.bool ((((M.dig x).length : Int) == 0))) ∧ Below w.heap.size w W' := by
  go_enter Tryd.func95, Tryd.ntmps95
  go_wp2_with fail
  go_ret
  exact ⟨rfl, (Below.refl _ w).alloc (Nat.le_refl _) _⟩

set_option maxRecDepth 100000 in
set_option maxHeartbeats 2000000 in
/-- **ratio.Make** -/
theorem make_pos (a b : Option Addr) (ca cb x y : Nat) (w : World) (hy0 : 0 < y) (hx : (M.dig x).length ≤ 200) (hy : (M.dig y).length ≤ 200) (hA : Row w a (M.dig x) ca) (hB : Row w b (M.dig y) cb) :
    Calls Tryd.prog 51 #[.agg #[.slice a (M.dig x).length ca], .agg #[.slice b (M.dig y).length cb]] w fun e W' => (∃ v, e = .returned (.tuple #[v, .int .i64 0]) ∧ RatV W' v (x / Nat.gcd x y) (y / Nat.gcd x y)) ∧ Below w.heap.size w W' := by
  have hyl : ¬ (M.dig y).length = 0 := by intro h; have := M.dig_nil.1 (List.length_eq_zero_iff.1 h); omega
  have hyn : (((M.dig y).length : Int) == 0) = false := beq_eq_false_iff_ne.2 (by omega)
  have HYN := Lib.hid hyn
  have hgp : 0 < Nat.gcd x y := Nat.gcd_pos_of_pos_right x hy0
  have hgl : (M.dig (Nat.gcd x y)).length ≤ 200 := Nat.le_trans (M.dig_len_mono (Nat.gcd_le_right x hy0)) hy
  have HS0 := Lib.hid (RmSt.start hA hB 58)
  clear hA hB hyn
  go_enter Tryd.func51, Tryd.ntmps51
  go_wp2_with fail
  generalize (((w.alloc (.cells #[.slice a (M.dig x).length ca] 24)).alloc (.cells #[.slice b (M.dig y).length cb] 24)).alloc (.cells #[.slice none 0 0, .slice none 0 0] 58)) = w3 at *
  refine (gcd_any a b ca cb x y w3 hx hy HS0.out.ra HS0.out.rb).mono ?_
  rintro e w7 ⟨⟨v, rfl, ag, cg, rfl, hrg⟩, hb7⟩
  obtain ⟨k, hk⟩ : ∃ k, Nat.gcd x y = k := ⟨_, rfl⟩
  rw [hk] at hgp hgl hrg ⊢
  have HK := Lib.hid hk
  have hw7 : w.heap.size + 1 < w7.heap.size := lt_of_cell (HS0.out.keep hb7).c1
  have HS7 := Lib.hid ((HS0.out.keep hb7).alloc (.cells #[.slice ag (M.dig k).length cg] 24))
  have VG := Lib.hid (Var.new hrg)
  have d1 := HS7.out.c1
  clear hk hrg hb7 HS0
  go_wp2_with fail
  refine (isZero_any b cb y _).mono ?_
  rintro e w8 ⟨rfl, hb8⟩
  rw [HYN.out]
  have HS8 := Lib.hid (HS7.out.keep hb8)
  have VG8 := Lib.hid (VG.out.below hb8)
  clear hb8 HS7 VG d1
  have d0 := HS8.out.c0
  have e6 := VG8.out.cell
  go_wp2_with fail
  refine (divide_any a ag ca cg x k _ hgp hx hgl HS8.out.ra VG8.out.row).mono ?_
  rintro e w9 ⟨⟨a1, c1, a2, c2, rfl, hr1, _⟩, hb9⟩
  have h9 := HS8.out.keep hb9
  have HS9 := Lib.hid (h9.set0 hr1)
  have VG9 := Lib.hid ((VG8.out.below hb9).beside h9.c0 (Nat.ne_of_gt (by omega)) (.slice a1 (M.dig (x / k)).length c1))
  have q0 := h9.c0
  have g0 := h9.e0
  clear h9 hr1 hb9 d0 e6 HS8 VG8
  go_upto_region 7 with fail
  clear q0 g0
  generalize (w9.setCell ⟨w.heap.size, 0, none⟩ (.slice a1 (M.dig (x / k)).length c1)) = wa at *
  have d1 := HS9.out.c1
  have e6 := VG9.out.cell
  go_wp2_with fail
  refine (divide_any b ag cb cg y k _ hgp hy hgl HS9.out.rb VG9.out.row).mono ?_
  rintro e w10 ⟨⟨b1, p1, b2, p2, rfl, hr2, _⟩, hb10⟩
  have h10 := HS9.out.keep hb10
  have HS10 := Lib.hid (h10.set1 hr2)
  have q1 := h10.c1
  have g1 := h10.e1
  clear h10 hr2 hb10 d1 e6 HS9 VG9
  go_upto_region 8 with fail
  clear q1 g1
  generalize (w10.setCell ⟨w.heap.size + 1, 0, none⟩ (.slice b1 (M.dig (y / k)).length p1)) = wb at *
  have d0 := HS10.out.c0
  have d1 := HS10.out.c1
  have r0 := HS10.out.r0
  have r1 := HS10.out.r1
  have f0 := HS10.out.f0
  have f1 := HS10.out.f1
  have R0 := Lib.hid r0
  have R2 := Lib.hid (show (wb.setCell ⟨w.heap.size + 1 + 1, 0, none⟩ (.slice a1 (M.dig (x / k)).length c1)).cell? ⟨w.heap.size + 1 + 1, 1, none⟩ = some (.slice none 0 0) from (World.cell?_setCell_other _ _ _ _ (by intro e; cases e)).trans r1)
  go_wp2_with fail
  refine bodyPost_ret (v := .tuple #[.agg #[.slice a1 (M.dig (x / k)).length c1, .slice b1 (M.dig (y / k)).length p1], .int .i64 0]) (by simp [results, Tryd.results51, go_sem, r0, r1]) rfl ⟨⟨_, rfl, a1, c1, b1, p1, by rw [HK.out], ?_, ?_⟩, ?_⟩
  · rw [HK.out]; exact (HS10.out.ra.storedAt R0.out _).storedAt R2.out _
  · rw [HK.out]; exact (HS10.out.rb.storedAt R0.out _).storedAt R2.out _
  · exact (HS10.out.below.setCell (p := ⟨w.heap.size + 1 + 1, 0, none⟩) (by show _ ≤ w.heap.size + 1 + 1; omega) _).setCell (p := ⟨w.heap.size + 1 + 1, 1, none⟩) (by show _ ≤ w.heap.size + 1 + 1; omega) _
end Go.Proofs.YtfaggdjoogpmmaaDoor

namespace Go.Proofs.YtfaggdjoogpmmaaDoor
open Go Go.RowKit Go.Shelf

set_option maxRecDepth 100000 in
set_option maxHeartbeats 1000000 in
/-- **ref01.Same** at limbs of two lengths. -/
theorem same_len (a b : Option Addr) (zs ys : List Int) (ca cb : Nat) (w : World) (hl : zs.length ≠ ys.length) :
    Calls Tryd.prog 30 #[.agg #[.slice a zs.length ca], .agg #[.slice b ys.length cb]] w fun e W' => e = .returned (.bool false) ∧ Below w.heap.size w W' := by
  have hB := boxes2_below w (.slice a zs.length ca) (.slice b ys.length cb)
  have HBB := Lib.hid hB
  have hb : ((zs.length : Int) != (ys.length : Int)) = true := by rw [bne_iff_ne]; omega
  clear hB hl
  go_enter Tryd.func30, Tryd.ntmps30
  go_wp2_with fail
  go_ret
  exact ⟨rfl, HBB.out⟩

set_option maxRecDepth 100000 in
set_option maxHeartbeats 1000000 in
/-- **ref01.Same** at other limbs, as many. -/
theorem same_not (a b : Option Addr) (zs ys : List Int) (ca cb : Nat) (w : World) (ha : Row w a zs ca) (hb : Row w b ys cb) (hl : zs.length = ys.length) (hne : zs ≠ ys) :
    Calls Tryd.prog 30 #[.agg #[.slice a zs.length ca], .agg #[.slice b ys.length cb]] w fun e W' => e = .returned (.bool false) ∧ Below w.heap.size w W' := by
  have hB := boxes2_below w (.slice a zs.length ca) (.slice b ys.length cb)
  have HC := Lib.hid (boxes2_cells w (.slice a zs.length ca) (.slice b ys.length cb))
  have HA := Lib.hid (ha.below hB)
  have HB := Lib.hid (hb.below hB)
  have HBB := Lib.hid hB
  have HNE := Lib.hid hne
  have HL := Lib.hid hl
  have hra := ha.room
  have hrb := hb.room
  have hma := ha.most
  have hmb := hb.most
  have hlb : ((zs.length : Int) != (ys.length : Int)) = false := by rw [bne_eq_false_iff_eq, hl]
  clear ha hb hB hne hl
  go_enter Tryd.func30, Tryd.ntmps30
  go_wp2_with fail
  generalize hw2 : ((w.alloc (.cells #[.slice a zs.length ca] 24)).alloc (.cells #[.slice b ys.length cb] 24)) = w2
  obtain rfl : boxes2 w (.slice a zs.length ca) (.slice b ys.length cb) = w2 := hw2
  generalize boxes2 w (.slice a zs.length ca) (.slice b ys.length cb) = w2 at *
  go_loopw [5] (fun i wr => ∃ k : Nat, i = .int .i64 (k : Int) ∧ k ≤ zs.length ∧ (∀ j : Nat, j < k → M.el zs j = M.el ys j) ∧ Below w2.heap.size w2 wr) (fun i _ => zs.length - (intOf i).toNat)
  case atStart => exact ⟨0, rfl, Nat.zero_le _, fun j hj => by omega, Below.refl _ _⟩
  case round =>
    obtain ⟨k, rfl, hk, he, hbw⟩ := hrel
    have c0 : wr.cell? ⟨w.heap.size, 0, none⟩ = some (.slice a zs.length ca) := (hbw.cell (p := ⟨w.heap.size, 0, none⟩) (lt_of_cell HC.out.1)).trans HC.out.1
    have c1 : wr.cell? ⟨w.heap.size + 1, 0, none⟩ = some (.slice b ys.length cb) := (hbw.cell (p := ⟨w.heap.size + 1, 0, none⟩) (lt_of_cell HC.out.2)).trans HC.out.2
    have HBW := Lib.hid hbw
    have HE := Lib.hid he
    clear hbw he
    by_cases hlt : k < zs.length
    · obtain ⟨b1, o1, rfl, h1⟩ := (HA.out.below HBW.out).el k hlt
      have hlty : k < ys.length := by rw [← HL.out]; exact hlt
      obtain ⟨b2, o2, rfl, h2⟩ := (HB.out.below HBW.out).el k hlty
      by_cases hk2 : M.el zs k = M.el ys k
      · have HK := Lib.hid hk2
        rw [hk2] at h1
        clear hk2
        go_wp2_with fail
        go_quiet (fail)
        go_wp2
        go_roundw
        case rel =>
          refine ⟨k + 1, by go_num, by omega, fun j hj => ?_, belowN HBW.out _⟩
          by_cases e : j = k
          · rw [e]; exact HK.out
          · exact HE.out j (by omega)
        case measure => simp [intOf]; omega
      · have hkb : (M.el zs k != M.el ys k) = true := by rw [bne_iff_ne]; exact hk2
        clear hk2
        go_wp2_with fail
        go_quiet (fail)
        go_wp2_with fail
        go_ret
        exact ⟨rfl, HBB.out.trans ((belowN HBW.out _).mono HBB.out.size)⟩
    · exact absurd (M.ext_el HL.out fun j hj => HE.out j (by omega)) HNE.out

/-- **ref01.Same** of two numbers. -/
theorem same_is {u v : Value} {x y : Nat} {w : World} (hu : Num w u x) (hv : Num w v y) :
    Calls Tryd.prog 30 #[u, v] w fun e W' => e = .returned (.bool (decide (x = y))) ∧ Below w.heap.size w W' := by
  by_cases h : x = y
  · subst h
    rw [show decide (x = x) = true from decide_eq_true rfl]
    exact same_num hu hv
  · rw [show decide (x = y) = false from decide_eq_false h]
    obtain ⟨a, ca, rfl, ha⟩ := hu
    obtain ⟨b, cb, rfl, hb⟩ := hv
    by_cases hl : (M.dig x).length = (M.dig y).length
    · exact same_not a b _ _ ca cb w ha hb hl fun e => h (M.dig_inj e)
    · exact same_len a b _ _ ca cb w hl
end Go.Proofs.YtfaggdjoogpmmaaDoor

namespace Go.Proofs.YtfaggdjoogpmmaaDoor
open Go Go.RowKit Go.Shelf

theorem RatV.below {W W' : World} {v : Value} {x y : Nat} (h : RatV W v x y) (hb : Below W.heap.size W W') : RatV W' v x y := by
  obtain ⟨a, c, b, d, rfl, h1, h2⟩ := h
  exact ⟨a, c, b, d, rfl, h1.below hb, h2.below hb⟩

set_option maxRecDepth 100000 in
set_option maxHeartbeats 1000000 in
/-- **ref02.Same** -/
theorem ratSame_is {u v : Value} {x y z t : Nat} {w : World} (hu : RatV w u x y) (hv : RatV w v z t) :
    Calls Tryd.prog 53 #[u, v] w fun e W' => e = .returned (.bool (decide (x = z ∧ y = t))) ∧ Below w.heap.size w W' := by
  obtain ⟨a, c, b, d, rfl, h1, h2⟩ := hu
  obtain ⟨a', c', b', d', rfl, h1', h2'⟩ := hv
  have hb := ((Below.refl _ w).alloc (Nat.le_refl _) (.cells #[.slice a (M.dig x).length c, .slice b (M.dig y).length d] 58)).alloc (by simp) (.cells #[.slice a' (M.dig z).length c', .slice b' (M.dig t).length d'] 58)
  obtain ⟨⟨k0, _⟩, k1, _⟩ := two_cells w (.slice a (M.dig x).length c) (.slice b (M.dig y).length d) 58
  obtain ⟨⟨l0, _⟩, l1, _⟩ := two_cells (w.alloc (.cells #[.slice a (M.dig x).length c, .slice b (M.dig y).length d] 58)) (.slice a' (M.dig z).length c') (.slice b' (M.dig t).length d') 58
  rw [World.size_alloc] at l0 l1
  have c0 := cell_later (.cells #[.slice a' (M.dig z).length c', .slice b' (M.dig t).length d'] 58) k0
  have c1 := cell_later (.cells #[.slice a' (M.dig z).length c', .slice b' (M.dig t).length d'] 58) k1
  have H1 := Lib.hid (h1.below hb)
  have H2 := Lib.hid (h2.below hb)
  have H3 := Lib.hid (h1'.below hb)
  have H4 := Lib.hid (h2'.below hb)
  have HB := Lib.hid hb
  clear h1 h2 h1' h2' hb k0 k1
  go_enter Tryd.func53, Tryd.ntmps53
  go_wp2_with fail
  generalize ((w.alloc (.cells #[.slice a (M.dig x).length c, .slice b (M.dig y).length d] 58)).alloc (.cells #[.slice a' (M.dig z).length c', .slice b' (M.dig t).length d'] 58)) = w2 at *
  refine (same_is (x := x) (y := z) ⟨a, c, rfl, H1.out⟩ ⟨a', c', rfl, H3.out⟩).mono ?_
  rintro e w3 ⟨rfl, hb3⟩
  have d1 := cell_below hb3 c1
  have m1 := cell_below hb3 l1
  have HB3 := Lib.hid (HB.out.trans (hb3.mono HB.out.size))
  have H24 := Lib.hid (H2.out.below hb3)
  have H44 := Lib.hid (H4.out.below hb3)
  clear hb3 c0 c1 l0 l1
  by_cases hxz : x = z
  · rw [show decide (x = z) = true from decide_eq_true hxz]
    go_wp2_with fail
    refine (same_is (x := y) (y := t) ⟨b, d, rfl, H24.out⟩ ⟨b', d', rfl, H44.out⟩).mono ?_
    rintro e w4 ⟨rfl, hb4⟩
    go_wp2_with fail
    go_ret
    exact ⟨by simp [hxz], HB3.out.trans (hb4.mono HB3.out.size)⟩
  · rw [show decide (x = z) = false from decide_eq_false hxz]
    go_wp2_with fail
    go_ret
    exact ⟨by simp [hxz], HB3.out⟩
end Go.Proofs.YtfaggdjoogpmmaaDoor

namespace Go.Proofs.YtfaggdjoogpmmaaDoor
open Go Go.RowKit Go.Shelf

set_option maxRecDepth 100000 in
set_option maxHeartbeats 1000000 in
theorem isOne_yes (a : Option Addr) (ca : Nat) (w : World) (hR : Row w a (M.dig 1) ca) :
    Calls Tryd.prog 98 #[.agg #[.slice a (M.dig 1).length ca]] w fun e W' => e = .returned (.bool true) ∧ Below w.heap.size w W' := by
  have h1 : M.dig 1 = [1] := by rw [M.dig_pos (by omega), show 1 / 16777216 = 0 from rfl, M.dig_zero]; rfl
  rw [h1] at hR ⊢
  obtain ⟨b, off, rfl, hc⟩ := hR.el 0 (by simp)
  have hro := hR.room
  have hmo := hR.most
  have hc2 := cell_later (.cells #[.slice (some ⟨b, off, none⟩) [(1 : Int)].length ca] 24) hc
  simp only [M.el_zero, Nat.add_zero] at hc2
  simp only [List.length_singleton] at hro hc2 ⊢
  clear hR hc h1
  go_enter Tryd.func98, Tryd.ntmps98
  go_wp2_with fail
  go_ret
  exact ⟨rfl, (Below.refl _ w).alloc (Nat.le_refl _) _⟩

set_option maxRecDepth 100000 in
set_option maxHeartbeats 1000000 in
/-- **ratio.Valid** -/
theorem ratValid_yes {v : Value} {x y : Nat} {w : World} (hV : RatV w v x y) (hy0 : 0 < y) (hg : Nat.gcd x y = 1) (hx : (M.dig x).length ≤ 200) (hy : (M.dig y).length ≤ 200) :
    Calls Tryd.prog 59 #[v] w fun e W' => e = .returned (.bool true) ∧ Below w.heap.size w W' := by
  obtain ⟨a, c, b, d, rfl, hA, hB⟩ := hV
  have hyl : ¬ (M.dig y).length = 0 := by intro h; have := M.dig_nil.1 (List.length_eq_zero_iff.1 h); omega
  have hyn : (((M.dig y).length : Int) == 0) = false := beq_eq_false_iff_ne.2 (by omega)
  have HYN := Lib.hid hyn
  have HG := Lib.hid hg
  obtain ⟨⟨c0, _⟩, c1, _⟩ := two_cells w (.slice a (M.dig x).length c) (.slice b (M.dig y).length d) 58
  have hb := (Below.refl _ w).alloc (Nat.le_refl _) (.cells #[.slice a (M.dig x).length c, .slice b (M.dig y).length d] 58)
  have HA := Lib.hid (hA.below hb)
  have HB := Lib.hid (hB.below hb)
  have HBB := Lib.hid hb
  clear hA hB hb hg hyn
  go_enter Tryd.func59, Tryd.ntmps59
  go_wp2_with fail
  generalize (w.alloc (.cells #[.slice a (M.dig x).length c, .slice b (M.dig y).length d] 58)) = w1 at *
  refine (gcd_any a b c d x y w1 hx hy HA.out HB.out).mono ?_
  rintro e w2 ⟨⟨v, rfl, ag, cg, rfl, hrg⟩, hb2⟩
  rw [HG.out] at hrg ⊢
  have VG := Lib.hid (Var.new hrg)
  have d1 := cell_later (.cells #[.slice ag (M.dig 1).length cg] 24) (cell_below hb2 c1)
  have HB2 := Lib.hid ((HBB.out.trans (hb2.mono HBB.out.size)).alloc (Nat.le_trans HBB.out.size hb2.size) (.cells #[.slice ag (M.dig 1).length cg] 24))
  clear hrg hb2 c0 c1
  go_wp2_with fail
  refine (isZero_any b d y _).mono ?_
  rintro e w3 ⟨rfl, hb3⟩
  rw [HYN.out]
  have V3 := Lib.hid (VG.out.below hb3)
  have e3 := V3.out.cell
  have HB3 := Lib.hid (HB2.out.trans (hb3.mono HB2.out.size))
  clear hb3 d1
  go_wp2_with fail
  refine (isOne_yes ag cg _ V3.out.row).mono ?_
  rintro e w4 ⟨rfl, hb4⟩
  go_wp2_with fail
  go_ret
  exact ⟨rfl, HB3.out.trans (hb4.mono HB3.out.size)⟩
end Go.Proofs.YtfaggdjoogpmmaaDoor

namespace Go.Proofs.YtfaggdjoogpmmaaDoor
open Go Go.RowKit Go.Shelf

/-- Two parameters of type Ratio in boxes, a result of type Ratio. -/
structure R2St (w : World) (a b c d : Option Addr) (ca cb cc cd x y z t : Nat) (W : World) : Prop where
  p0 : W.cell? ⟨w.heap.size, 0, none⟩ = some (.slice a (M.dig x).length ca)
  p1 : W.cell? ⟨w.heap.size, 1, none⟩ = some (.slice b (M.dig y).length cb)
  q0 : W.cell? ⟨w.heap.size + 1, 0, none⟩ = some (.slice c (M.dig z).length cc)
  q1 : W.cell? ⟨w.heap.size + 1, 1, none⟩ = some (.slice d (M.dig t).length cd)
  r0 : W.cell? ⟨w.heap.size + 1 + 1, 0, none⟩ = some (.slice none 0 0)
  f0 : W.frozen? ⟨w.heap.size + 1 + 1, 0, none⟩ = false
  r1 : W.cell? ⟨w.heap.size + 1 + 1, 1, none⟩ = some (.slice none 0 0)
  f1 : W.frozen? ⟨w.heap.size + 1 + 1, 1, none⟩ = false
  ra : Row W a (M.dig x) ca
  rb : Row W b (M.dig y) cb
  rc : Row W c (M.dig z) cc
  rd : Row W d (M.dig t) cd
  below : Below w.heap.size w W
section
variable {w W : World} {a b c d : Option Addr} {ca cb cc cd x y z t : Nat}
theorem R2St.keep {W' : World} (h : R2St w a b c d ca cb cc cd x y z t W) (hb : Below W.heap.size W W') : R2St w a b c d ca cb cc cd x y z t W' :=
  ⟨cell_below hb h.p0, cell_below hb h.p1, cell_below hb h.q0, cell_below hb h.q1, cell_below hb h.r0, frozen_below hb h.r0 h.f0, cell_below hb h.r1, frozen_below hb h.r1 h.f1, h.ra.below hb, h.rb.below hb, h.rc.below hb, h.rd.below hb, h.below.trans (hb.mono h.below.size)⟩
theorem R2St.alloc (h : R2St w a b c d ca cb cc cd x y z t W) (o : Obj) : R2St w a b c d ca cb cc cd x y z t (W.alloc o) := h.keep ((Below.refl _ W).alloc (Nat.le_refl _) o)
theorem R2St.start (hA : Row w a (M.dig x) ca) (hB : Row w b (M.dig y) cb) (hC : Row w c (M.dig z) cc) (hD : Row w d (M.dig t) cd) :
    R2St w a b c d ca cb cc cd x y z t (((w.alloc (.cells #[.slice a (M.dig x).length ca, .slice b (M.dig y).length cb] 58)).alloc (.cells #[.slice c (M.dig z).length cc, .slice d (M.dig t).length cd] 58)).alloc (.cells #[.slice none 0 0, .slice none 0 0] 58)) := by
  obtain ⟨⟨h0, _⟩, h1, _⟩ := two_cells w (.slice a (M.dig x).length ca) (.slice b (M.dig y).length cb) 58
  obtain ⟨⟨h2, _⟩, h3, _⟩ := two_cells (w.alloc (.cells #[.slice a (M.dig x).length ca, .slice b (M.dig y).length cb] 58)) (.slice c (M.dig z).length cc) (.slice d (M.dig t).length cd) 58
  obtain ⟨⟨h4, h5⟩, h6, h7⟩ := two_cells ((w.alloc (.cells #[.slice a (M.dig x).length ca, .slice b (M.dig y).length cb] 58)).alloc (.cells #[.slice c (M.dig z).length cc, .slice d (M.dig t).length cd] 58)) (.slice none 0 0) (.slice none 0 0) 58
  simp only [World.size_alloc] at h2 h3 h4 h5 h6 h7
  exact ⟨cell_later _ (cell_later _ h0), cell_later _ (cell_later _ h1), cell_later _ h2, cell_later _ h3, h4, h5, h6, h7, ((hA.alloc _).alloc _).alloc _, ((hB.alloc _).alloc _).alloc _, ((hC.alloc _).alloc _).alloc _, ((hD.alloc _).alloc _).alloc _, (((Below.refl _ w).alloc (Nat.le_refl _) _).alloc (by simp) _).alloc (by simp; omega) _⟩
/-- The result has been stored. -/
theorem R2St.done {e f : Option Addr} {ce cf k l : Nat} (h : R2St w a b c d ca cb cc cd x y z t W) (hE : Row W e (M.dig k) ce) (hF : Row W f (M.dig l) cf) :
    RatV ((W.setCell ⟨w.heap.size + 1 + 1, 0, none⟩ (.slice e (M.dig k).length ce)).setCell ⟨w.heap.size + 1 + 1, 1, none⟩ (.slice f (M.dig l).length cf)) (.agg #[.slice e (M.dig k).length ce, .slice f (M.dig l).length cf]) k l ∧
    Below w.heap.size w ((W.setCell ⟨w.heap.size + 1 + 1, 0, none⟩ (.slice e (M.dig k).length ce)).setCell ⟨w.heap.size + 1 + 1, 1, none⟩ (.slice f (M.dig l).length cf)) := by
  have r2 : (W.setCell ⟨w.heap.size + 1 + 1, 0, none⟩ (.slice e (M.dig k).length ce)).cell? ⟨w.heap.size + 1 + 1, 1, none⟩ = some (.slice none 0 0) := (World.cell?_setCell_other _ _ _ _ (by intro e; cases e)).trans h.r1
  exact ⟨⟨e, ce, f, cf, rfl, (hE.storedAt h.r0 _).storedAt r2 _, (hF.storedAt h.r0 _).storedAt r2 _⟩, (h.below.setCell (p := ⟨w.heap.size + 1 + 1, 0, none⟩) (by show _ ≤ w.heap.size + 1 + 1; omega) _).setCell (p := ⟨w.heap.size + 1 + 1, 1, none⟩) (by show _ ≤ w.heap.size + 1 + 1; omega) _⟩
end

set_option maxRecDepth 100000 in
set_option maxHeartbeats 2000000 in
/-- **ratio.product** -/
theorem product_fit {u v : Value} {x y z t : Nat} {w : World} (hu : RatV w u x y) (hv : RatV w v z t) (hx : (M.dig x).length ≤ 200) (hy : (M.dig y).length ≤ 200) (hz : (M.dig z).length ≤ 200) (ht : (M.dig t).length ≤ 200) (hy0 : 0 < y * t) (h1 : (M.dig (x * z)).length ≤ 200) (h2 : (M.dig (y * t)).length ≤ 200) :
    Calls Tryd.prog 97 #[u, v] w fun e W' => (∃ r, e = .returned (.tuple #[r, .int .i64 0]) ∧ RatV W' r (x * z / Nat.gcd (x * z) (y * t)) (y * t / Nat.gcd (x * z) (y * t))) ∧ Below w.heap.size w W' := by
  obtain ⟨a, ca, b, cb, rfl, hA, hB⟩ := hu
  obtain ⟨c, cc, d, cd, rfl, hC, hD⟩ := hv
  have HS := Lib.hid (R2St.start hA hB hC hD)
  clear hA hB hC hD
  go_enter Tryd.func97, Tryd.ntmps97
  have p0 := HS.out.p0
  have q0 := HS.out.q0
  go_wp2_with fail
  generalize (((w.alloc (.cells #[.slice a (M.dig x).length ca, .slice b (M.dig y).length cb] 58)).alloc (.cells #[.slice c (M.dig z).length cc, .slice d (M.dig t).length cd] 58)).alloc (.cells #[.slice none 0 0, .slice none 0 0] 58)) = w3 at *
  refine (show Calls Tryd.prog 28 _ _ _ from mul_num (x := x) (y := z) hx hz ⟨a, ca, rfl, HS.out.ra⟩ ⟨c, cc, rfl, HS.out.rc⟩).mono ?_
  rintro e w4 ⟨hres, hb4⟩
  obtain ⟨v, rfl, m1, c1, rfl, hr1⟩ := hres.ok h1
  have HS4 := Lib.hid ((HS.out.keep hb4).alloc (.cells #[.slice m1 (M.dig (x * z)).length c1] 24))
  have V1 := Lib.hid (Var.new hr1)
  clear hres hb4 hr1 p0 q0 HS
  have p1 := HS4.out.p1
  have q1 := HS4.out.q1
  go_wp2_with fail
  refine (show Calls Tryd.prog 28 _ _ _ from mul_num (x := y) (y := t) hy ht ⟨b, cb, rfl, HS4.out.rb⟩ ⟨d, cd, rfl, HS4.out.rd⟩).mono ?_
  rintro e w5 ⟨hres, hb5⟩
  obtain ⟨v, rfl, m2, c2, rfl, hr2⟩ := hres.ok h2
  have HS5 := Lib.hid ((HS4.out.keep hb5).alloc (.cells #[.slice m2 (M.dig (y * t)).length c2] 24))
  have V15 := Lib.hid ((V1.out.below hb5).alloc (.cells #[.slice m2 (M.dig (y * t)).length c2] 24))
  have V2 := Lib.hid (Var.new hr2)
  clear hres hb5 hr2 p1 q1 HS4 V1
  have e6 := V15.out.cell
  have e8 := V2.out.cell
  go_wp2_with fail
  refine (show Calls Tryd.prog 51 _ _ _ from make_pos m1 m2 c1 c2 (x * z) (y * t) _ hy0 h1 h2 V15.out.row V2.out.row).mono ?_
  rintro e w6 ⟨⟨v, rfl, e1, g1, e2, g2, rfl, hr1, hr2⟩, hb6⟩
  have HS6 := Lib.hid (HS5.out.keep hb6)
  have HR := Lib.hid (HS6.out.done hr1 hr2)
  have r0 := HS6.out.r0
  have r1 := HS6.out.r1
  have f0 := HS6.out.f0
  have f1 := HS6.out.f1
  clear hr1 hr2 hb6 e6 e8 HS5
  go_wp2_with fail
  refine bodyPost_ret (v := .tuple #[.agg #[.slice e1 (M.dig (x * z / Nat.gcd (x * z) (y * t))).length g1, .slice e2 (M.dig (y * t / Nat.gcd (x * z) (y * t))).length g2], .int .i64 0]) (by simp [results, Tryd.results97, go_sem, r0, r1]) rfl ⟨⟨_, rfl, HR.out.1⟩, HR.out.2⟩

set_option maxRecDepth 100000 in
set_option maxHeartbeats 2000000 in
/-- **ratio.Mul** -/
theorem ratMul_fit {u v : Value} {x y z t : Nat} {w : World} (hu : RatV w u x y) (hv : RatV w v z t) (hx : (M.dig x).length ≤ 200) (hy : (M.dig y).length ≤ 200) (hz : (M.dig z).length ≤ 200) (ht : (M.dig t).length ≤ 200) (hy0 : 0 < y) (ht0 : 0 < t) (hg1 : Nat.gcd x y = 1) (hg2 : Nat.gcd z t = 1) (h1 : (M.dig (x * z)).length ≤ 200) (h2 : (M.dig (y * t)).length ≤ 200) :
    Calls Tryd.prog 57 #[u, v] w fun e W' => (∃ r, e = .returned (.tuple #[r, .int .i64 0]) ∧ RatV W' r (x * z / Nat.gcd (x * z) (y * t)) (y * t / Nat.gcd (x * z) (y * t))) ∧ Below w.heap.size w W' := by
  obtain ⟨a, ca, b, cb, rfl, hA, hB⟩ := hu
  obtain ⟨c, cc, d, cd, rfl, hC, hD⟩ := hv
  have HS := Lib.hid (R2St.start hA hB hC hD)
  have HG1 := Lib.hid hg1
  have HG2 := Lib.hid hg2
  clear hA hB hC hD hg1 hg2
  go_enter Tryd.func57, Tryd.ntmps57
  have p0 := HS.out.p0
  have p1 := HS.out.p1
  go_wp2_with fail
  generalize (((w.alloc (.cells #[.slice a (M.dig x).length ca, .slice b (M.dig y).length cb] 58)).alloc (.cells #[.slice c (M.dig z).length cc, .slice d (M.dig t).length cd] 58)).alloc (.cells #[.slice none 0 0, .slice none 0 0] 58)) = w3 at *
  refine (show Calls Tryd.prog 59 _ _ _ from ratValid_yes (x := x) (y := y) ⟨a, ca, b, cb, rfl, HS.out.ra, HS.out.rb⟩ hy0 HG1.out hx hy).mono ?_
  rintro e w4 ⟨rfl, hb4⟩
  have HS4 := Lib.hid (HS.out.keep hb4)
  clear hb4 p0 p1 HS
  have q0 := HS4.out.q0
  have q1 := HS4.out.q1
  go_wp2_with fail
  refine (show Calls Tryd.prog 59 _ _ _ from ratValid_yes (x := z) (y := t) ⟨c, cc, d, cd, rfl, HS4.out.rc, HS4.out.rd⟩ ht0 HG2.out hz ht).mono ?_
  rintro e w5 ⟨rfl, hb5⟩
  have HS5 := Lib.hid (HS4.out.keep hb5)
  clear hb5 q0 q1 HS4
  have p0 := HS5.out.p0
  have p1 := HS5.out.p1
  have q0 := HS5.out.q0
  have q1 := HS5.out.q1
  go_wp2_with fail
  refine (show Calls Tryd.prog 97 _ _ _ from product_fit (x := x) (y := y) (z := z) (t := t) ⟨a, ca, b, cb, rfl, HS5.out.ra, HS5.out.rb⟩ ⟨c, cc, d, cd, rfl, HS5.out.rc, HS5.out.rd⟩ hx hy hz ht (Nat.mul_pos hy0 ht0) h1 h2).mono ?_
  rintro e w6 ⟨⟨v, rfl, e1, g1, e2, g2, rfl, hr1, hr2⟩, hb6⟩
  have HS6 := Lib.hid (HS5.out.keep hb6)
  have HR := Lib.hid (HS6.out.done hr1 hr2)
  have r0 := HS6.out.r0
  have r1 := HS6.out.r1
  have f0 := HS6.out.f0
  have f1 := HS6.out.f1
  clear hr1 hr2 hb6 p0 p1 q0 q1 HS5
  go_wp2_with fail
  refine bodyPost_ret (v := .tuple #[.agg #[.slice e1 (M.dig (x * z / Nat.gcd (x * z) (y * t))).length g1, .slice e2 (M.dig (y * t / Nat.gcd (x * z) (y * t))).length g2], .int .i64 0]) (by simp [results, Tryd.results57, go_sem, r0, r1]) rfl ⟨⟨_, rfl, HR.out.1⟩, HR.out.2⟩
end Go.Proofs.YtfaggdjoogpmmaaDoor

namespace Go.Proofs.YtfaggdjoogpmmaaDoor
open Go Go.RowKit Go.Shelf

/-- Two parameters of type Ratio in boxes, two results of type Nat. -/
structure CwSt (w : World) (a b c d : Option Addr) (ca cb cc cd x y z t : Nat) (e : Option Addr) (ne ce : Nat) (f : Option Addr) (nf cf : Nat) (W : World) : Prop where
  p0 : W.cell? ⟨w.heap.size, 0, none⟩ = some (.slice a (M.dig x).length ca)
  p1 : W.cell? ⟨w.heap.size, 1, none⟩ = some (.slice b (M.dig y).length cb)
  q0 : W.cell? ⟨w.heap.size + 1, 0, none⟩ = some (.slice c (M.dig z).length cc)
  q1 : W.cell? ⟨w.heap.size + 1, 1, none⟩ = some (.slice d (M.dig t).length cd)
  l0 : W.cell? ⟨w.heap.size + 1 + 1, 0, none⟩ = some (.slice e ne ce)
  lf : W.frozen? ⟨w.heap.size + 1 + 1, 0, none⟩ = false
  r0 : W.cell? ⟨w.heap.size + 1 + 1 + 1, 0, none⟩ = some (.slice f nf cf)
  rf : W.frozen? ⟨w.heap.size + 1 + 1 + 1, 0, none⟩ = false
  ra : Row W a (M.dig x) ca
  rb : Row W b (M.dig y) cb
  rc : Row W c (M.dig z) cc
  rd : Row W d (M.dig t) cd
  below : Below w.heap.size w W
section
variable {w W : World} {a b c d e f : Option Addr} {ca cb cc cd x y z t ne ce nf cf : Nat}
theorem CwSt.keep {W' : World} (h : CwSt w a b c d ca cb cc cd x y z t e ne ce f nf cf W) (hb : Below W.heap.size W W') : CwSt w a b c d ca cb cc cd x y z t e ne ce f nf cf W' :=
  ⟨cell_below hb h.p0, cell_below hb h.p1, cell_below hb h.q0, cell_below hb h.q1, cell_below hb h.l0, frozen_below hb h.l0 h.lf, cell_below hb h.r0, frozen_below hb h.r0 h.rf, h.ra.below hb, h.rb.below hb, h.rc.below hb, h.rd.below hb, h.below.trans (hb.mono h.below.size)⟩
theorem CwSt.setL (h : CwSt w a b c d ca cb cc cd x y z t e ne ce f nf cf W) (e' : Option Addr) (n' c' : Nat) : CwSt w a b c d ca cb cc cd x y z t e' n' c' f nf cf (W.setCell ⟨w.heap.size + 1 + 1, 0, none⟩ (.slice e' n' c')) :=
  ⟨(cell_other _ (show w.heap.size ≠ w.heap.size + 1 + 1 by omega)).trans h.p0, (cell_other _ (show w.heap.size ≠ w.heap.size + 1 + 1 by omega)).trans h.p1, (cell_other _ (show w.heap.size + 1 ≠ w.heap.size + 1 + 1 by omega)).trans h.q0, (cell_other _ (show w.heap.size + 1 ≠ w.heap.size + 1 + 1 by omega)).trans h.q1,
    World.cell?_setCell_same _ _ _ h.l0, (World.frozen?_setCell _ _ _ _).trans h.lf, (cell_other _ (show w.heap.size + 1 + 1 + 1 ≠ w.heap.size + 1 + 1 by omega)).trans h.r0, (World.frozen?_setCell _ _ _ _).trans h.rf,
    h.ra.storedAt h.l0 _, h.rb.storedAt h.l0 _, h.rc.storedAt h.l0 _, h.rd.storedAt h.l0 _, h.below.setCell (p := ⟨w.heap.size + 1 + 1, 0, none⟩) (by show _ ≤ w.heap.size + 1 + 1; omega) _⟩
theorem CwSt.setR (h : CwSt w a b c d ca cb cc cd x y z t e ne ce f nf cf W) (e' : Option Addr) (n' c' : Nat) : CwSt w a b c d ca cb cc cd x y z t e ne ce e' n' c' (W.setCell ⟨w.heap.size + 1 + 1 + 1, 0, none⟩ (.slice e' n' c')) :=
  ⟨(cell_other _ (show w.heap.size ≠ w.heap.size + 1 + 1 + 1 by omega)).trans h.p0, (cell_other _ (show w.heap.size ≠ w.heap.size + 1 + 1 + 1 by omega)).trans h.p1, (cell_other _ (show w.heap.size + 1 ≠ w.heap.size + 1 + 1 + 1 by omega)).trans h.q0, (cell_other _ (show w.heap.size + 1 ≠ w.heap.size + 1 + 1 + 1 by omega)).trans h.q1,
    (cell_other _ (show w.heap.size + 1 + 1 ≠ w.heap.size + 1 + 1 + 1 by omega)).trans h.l0, (World.frozen?_setCell _ _ _ _).trans h.lf, World.cell?_setCell_same _ _ _ h.r0, (World.frozen?_setCell _ _ _ _).trans h.rf,
    h.ra.storedAt h.r0 _, h.rb.storedAt h.r0 _, h.rc.storedAt h.r0 _, h.rd.storedAt h.r0 _, h.below.setCell (p := ⟨w.heap.size + 1 + 1 + 1, 0, none⟩) (by show _ ≤ w.heap.size + 1 + 1 + 1; omega) _⟩
theorem CwSt.start (hA : Row w a (M.dig x) ca) (hB : Row w b (M.dig y) cb) (hC : Row w c (M.dig z) cc) (hD : Row w d (M.dig t) cd) :
    CwSt w a b c d ca cb cc cd x y z t none 0 0 none 0 0 ((((w.alloc (.cells #[.slice a (M.dig x).length ca, .slice b (M.dig y).length cb] 58)).alloc (.cells #[.slice c (M.dig z).length cc, .slice d (M.dig t).length cd] 58)).alloc (.cells #[.slice none 0 0] 24)).alloc (.cells #[.slice none 0 0] 24)) := by
  obtain ⟨⟨h0, _⟩, h1, _⟩ := two_cells w (.slice a (M.dig x).length ca) (.slice b (M.dig y).length cb) 58
  obtain ⟨⟨h2, _⟩, h3, _⟩ := two_cells (w.alloc (.cells #[.slice a (M.dig x).length ca, .slice b (M.dig y).length cb] 58)) (.slice c (M.dig z).length cc) (.slice d (M.dig t).length cd) 58
  have h4 := cell_new ((w.alloc (.cells #[.slice a (M.dig x).length ca, .slice b (M.dig y).length cb] 58)).alloc (.cells #[.slice c (M.dig z).length cc, .slice d (M.dig t).length cd] 58)) (.slice none 0 0) 24
  have h5 := frozen_new ((w.alloc (.cells #[.slice a (M.dig x).length ca, .slice b (M.dig y).length cb] 58)).alloc (.cells #[.slice c (M.dig z).length cc, .slice d (M.dig t).length cd] 58)) (.slice none 0 0) 24
  have h6 := cell_new (((w.alloc (.cells #[.slice a (M.dig x).length ca, .slice b (M.dig y).length cb] 58)).alloc (.cells #[.slice c (M.dig z).length cc, .slice d (M.dig t).length cd] 58)).alloc (.cells #[.slice none 0 0] 24)) (.slice none 0 0) 24
  have h7 := frozen_new (((w.alloc (.cells #[.slice a (M.dig x).length ca, .slice b (M.dig y).length cb] 58)).alloc (.cells #[.slice c (M.dig z).length cc, .slice d (M.dig t).length cd] 58)).alloc (.cells #[.slice none 0 0] 24)) (.slice none 0 0) 24
  simp only [World.size_alloc] at h2 h3 h4 h5 h6 h7
  exact ⟨cell_later _ (cell_later _ (cell_later _ h0)), cell_later _ (cell_later _ (cell_later _ h1)), cell_later _ (cell_later _ h2), cell_later _ (cell_later _ h3), cell_later _ h4, frozen_later _ h4 h5, h6, h7, (((hA.alloc _).alloc _).alloc _).alloc _, (((hB.alloc _).alloc _).alloc _).alloc _, (((hC.alloc _).alloc _).alloc _).alloc _, (((hD.alloc _).alloc _).alloc _).alloc _,
    ((((Below.refl _ w).alloc (Nat.le_refl _) _).alloc (by simp) _).alloc (by simp; omega) _).alloc (by simp; omega) _⟩
end

set_option maxRecDepth 100000 in
set_option maxHeartbeats 2000000 in
/-- **ratio.crosswise** -/
theorem cross_fit {u v : Value} {x y z t : Nat} {w : World} (hu : RatV w u x y) (hv : RatV w v z t) (hx : (M.dig x).length ≤ 200) (hy : (M.dig y).length ≤ 200) (hz : (M.dig z).length ≤ 200) (ht : (M.dig t).length ≤ 200) (hy0 : 0 < y) (ht0 : 0 < t) (hg1 : Nat.gcd x y = 1) (hg2 : Nat.gcd z t = 1) (h1 : (M.dig (x * t)).length ≤ 200) (h2 : (M.dig (z * y)).length ≤ 200) :
    Calls Tryd.prog 99 #[u, v] w fun e W' => (∃ p c1 q c2, e = .returned (.tuple #[.agg #[.slice p (M.dig (x * t)).length c1], .agg #[.slice q (M.dig (z * y)).length c2], .int .i64 0]) ∧ Row W' p (M.dig (x * t)) c1 ∧ Row W' q (M.dig (z * y)) c2) ∧ Below w.heap.size w W' := by
  obtain ⟨a, ca, b, cb, rfl, hA, hB⟩ := hu
  obtain ⟨c, cc, d, cd, rfl, hC, hD⟩ := hv
  have HS := Lib.hid (CwSt.start hA hB hC hD)
  have HG1 := Lib.hid hg1
  have HG2 := Lib.hid hg2
  clear hA hB hC hD hg1 hg2
  go_enter Tryd.func99, Tryd.ntmps99
  have p0 := HS.out.p0
  have p1 := HS.out.p1
  go_wp2_with fail
  generalize ((((w.alloc (.cells #[.slice a (M.dig x).length ca, .slice b (M.dig y).length cb] 58)).alloc (.cells #[.slice c (M.dig z).length cc, .slice d (M.dig t).length cd] 58)).alloc (.cells #[.slice none 0 0] 24)).alloc (.cells #[.slice none 0 0] 24)) = w3 at *
  refine (show Calls Tryd.prog 59 _ _ _ from ratValid_yes (x := x) (y := y) ⟨a, ca, b, cb, rfl, HS.out.ra, HS.out.rb⟩ hy0 HG1.out hx hy).mono ?_
  rintro e w4 ⟨rfl, hb4⟩
  have HS4 := Lib.hid (HS.out.keep hb4)
  clear hb4 p0 p1 HS
  have q0 := HS4.out.q0
  have q1 := HS4.out.q1
  go_wp2_with fail
  refine (show Calls Tryd.prog 59 _ _ _ from ratValid_yes (x := z) (y := t) ⟨c, cc, d, cd, rfl, HS4.out.rc, HS4.out.rd⟩ ht0 HG2.out hz ht).mono ?_
  rintro e w5 ⟨rfl, hb5⟩
  have HS5 := Lib.hid (HS4.out.keep hb5)
  clear hb5 q0 q1 HS4
  have p0 := HS5.out.p0
  have q1 := HS5.out.q1
  go_wp2_with fail
  refine (show Calls Tryd.prog 28 _ _ _ from mul_num (x := x) (y := t) hx ht ⟨a, ca, rfl, HS5.out.ra⟩ ⟨d, cd, rfl, HS5.out.rd⟩).mono ?_
  rintro e w6 ⟨hres, hb6⟩
  obtain ⟨v, rfl, m1, c1, rfl, hr1⟩ := hres.ok h1
  have h6 := HS5.out.keep hb6
  have l0 := h6.l0
  have lf := h6.lf
  have HS6 := Lib.hid (h6.setL m1 (M.dig (x * t)).length c1)
  have HR1 := Lib.hid (hr1.storedAt h6.l0 (.slice m1 (M.dig (x * t)).length c1))
  clear h6 hres hb6 hr1 p0 q1 HS5
  go_upto_region 6 with fail
  clear l0 lf
  generalize (w6.setCell ⟨w.heap.size + 1 + 1, 0, none⟩ (.slice m1 (M.dig (x * t)).length c1)) = wa at *
  have q0 := HS6.out.q0
  have p1 := HS6.out.p1
  go_wp2_with fail
  refine (show Calls Tryd.prog 28 _ _ _ from mul_num (x := z) (y := y) hz hy ⟨c, cc, rfl, HS6.out.rc⟩ ⟨b, cb, rfl, HS6.out.rb⟩).mono ?_
  rintro e w7 ⟨hres, hb7⟩
  obtain ⟨v, rfl, m2, c2, rfl, hr2⟩ := hres.ok h2
  have h7 := HS6.out.keep hb7
  have r0 := h7.r0
  have rf := h7.rf
  have HS7 := Lib.hid (h7.setR m2 (M.dig (z * y)).length c2)
  have HR2 := Lib.hid (hr2.storedAt h7.r0 (.slice m2 (M.dig (z * y)).length c2))
  have HR17 := Lib.hid ((HR1.out.below hb7).storedAt h7.r0 (.slice m2 (M.dig (z * y)).length c2))
  clear h7 hres hb7 hr2 q0 p1 HS6 HR1
  go_upto_region 9 with fail
  clear r0 rf
  generalize (w7.setCell ⟨w.heap.size + 1 + 1 + 1, 0, none⟩ (.slice m2 (M.dig (z * y)).length c2)) = wb at *
  have l0 := HS7.out.l0
  have lf := HS7.out.lf
  have r0 := HS7.out.r0
  have rf := HS7.out.rf
  go_region
  all_goals (
    have HS8 := Lib.hid (HS7.out.setL m1 (M.dig (x * t)).length c1)
    have R1 := Lib.hid (((HR17.out.storedAt HS7.out.l0 (.slice m1 (M.dig (x * t)).length c1)).storedAt HS8.out.r0 (.slice m2 (M.dig (z * y)).length c2)).drewN 1)
    have R2 := Lib.hid (((HR2.out.storedAt HS7.out.l0 (.slice m1 (M.dig (x * t)).length c1)).storedAt HS8.out.r0 (.slice m2 (M.dig (z * y)).length c2)).drewN 1)
    have HB9 := Lib.hid (belowN (HS8.out.setR m2 (M.dig (z * y)).length c2).below 1)
    go_wp2_with fail
    refine bodyPost_ret (v := .tuple #[.agg #[.slice m1 (M.dig (x * t)).length c1], .agg #[.slice m2 (M.dig (z * y)).length c2], .int .i64 0]) (by simp [results, Tryd.results99, go_sem, l0, r0]) rfl ⟨⟨m1, c1, m2, c2, rfl, R1.out, R2.out⟩, HB9.out⟩)
end Go.Proofs.YtfaggdjoogpmmaaDoor

namespace Go.Proofs.YtfaggdjoogpmmaaDoor
open Go Go.RowKit Go.Shelf

set_option maxRecDepth 100000 in
set_option maxHeartbeats 2000000 in
/-- **ratio.combine** with nat.Add -/
theorem combineAdd_fit {u v : Value} {x y z t : Nat} {w : World} (hu : RatV w u x y) (hv : RatV w v z t) (hx : (M.dig x).length ≤ 200) (hy : (M.dig y).length ≤ 200) (hz : (M.dig z).length ≤ 200) (ht : (M.dig t).length ≤ 200) (hy0 : 0 < y) (ht0 : 0 < t) (hg1 : Nat.gcd x y = 1) (hg2 : Nat.gcd z t = 1) (h1 : (M.dig (x * t)).length ≤ 200) (h2 : (M.dig (z * y)).length ≤ 200) (h3 : (M.dig (y * t)).length ≤ 200) (h4 : (M.dig (x * t + z * y)).length ≤ 200) :
    Calls Tryd.prog 96 #[u, v, .func (.func 26) #[] #[]] w fun e W' => (∃ r, e = .returned (.tuple #[r, .int .i64 0]) ∧ RatV W' r ((x * t + z * y) / Nat.gcd (x * t + z * y) (y * t)) (y * t / Nat.gcd (x * t + z * y) (y * t))) ∧ Below w.heap.size w W' := by
  obtain ⟨a, ca, b, cb, rfl, hA, hB⟩ := hu
  obtain ⟨c, cc, d, cd, rfl, hC, hD⟩ := hv
  have HS := Lib.hid (R2St.start hA hB hC hD)
  have HG1 := Lib.hid hg1
  have HG2 := Lib.hid hg2
  clear hA hB hC hD hg1 hg2
  go_enter Tryd.func96, Tryd.ntmps96
  have p0 := HS.out.p0
  have p1 := HS.out.p1
  have q0 := HS.out.q0
  have q1 := HS.out.q1
  go_wp2_with fail
  generalize (((w.alloc (.cells #[.slice a (M.dig x).length ca, .slice b (M.dig y).length cb] 58)).alloc (.cells #[.slice c (M.dig z).length cc, .slice d (M.dig t).length cd] 58)).alloc (.cells #[.slice none 0 0, .slice none 0 0] 58)) = w3 at *
  refine (show Calls Tryd.prog 99 _ _ _ from cross_fit (x := x) (y := y) (z := z) (t := t) ⟨a, ca, b, cb, rfl, HS.out.ra, HS.out.rb⟩ ⟨c, cc, d, cd, rfl, HS.out.rc, HS.out.rd⟩ hx hy hz ht hy0 ht0 HG1.out HG2.out h1 h2).mono ?_
  rintro e w4 ⟨⟨m1, c1, m2, c2, rfl, hr1, hr2⟩, hb4⟩
  have HS4 := Lib.hid (((HS.out.keep hb4).alloc (.cells #[.slice m1 (M.dig (x * t)).length c1] 24)).alloc (.cells #[.slice m2 (M.dig (z * y)).length c2] 24))
  have V1 := Lib.hid ((Var.new hr1).alloc (.cells #[.slice m2 (M.dig (z * y)).length c2] 24))
  have v2 := Var.new (hr2.alloc (.cells #[.slice m1 (M.dig (x * t)).length c1] 24))
  rw [World.size_alloc] at v2
  have V2 := Lib.hid v2
  clear hr1 hr2 hb4 p0 p1 q0 q1 HS v2
  have p1 := HS4.out.p1
  have q1 := HS4.out.q1
  go_wp2_with fail
  refine (show Calls Tryd.prog 28 _ _ _ from mul_num (x := y) (y := t) hy ht ⟨b, cb, rfl, HS4.out.rb⟩ ⟨d, cd, rfl, HS4.out.rd⟩).mono ?_
  rintro e w5 ⟨hres, hb5⟩
  obtain ⟨v, rfl, m3, c3, rfl, hr3⟩ := hres.ok h3
  have HS5 := Lib.hid ((HS4.out.keep hb5).alloc (.cells #[.slice m3 (M.dig (y * t)).length c3] 24))
  have V15 := Lib.hid ((V1.out.below hb5).alloc (.cells #[.slice m3 (M.dig (y * t)).length c3] 24))
  have V25 := Lib.hid ((V2.out.below hb5).alloc (.cells #[.slice m3 (M.dig (y * t)).length c3] 24))
  have V3 := Lib.hid (Var.new hr3)
  clear hres hb5 hr3 p1 q1 HS4 V1 V2
  have e8 := V15.out.cell
  have e9 := V25.out.cell
  go_wp2_with fail
  refine (show Calls Tryd.prog 26 _ _ _ from add_num (x := x * t) (y := z * y) h1 h2 ⟨m1, c1, rfl, V15.out.row⟩ ⟨m2, c2, rfl, V25.out.row⟩).mono ?_
  rintro e w6 ⟨hres, hb6⟩
  obtain ⟨v, rfl, m4, c4, rfl, hr4⟩ := hres.ok h4
  have HS6 := Lib.hid ((HS5.out.keep hb6).alloc (.cells #[.slice m4 (M.dig (x * t + z * y)).length c4] 24))
  have V36 := Lib.hid ((V3.out.below hb6).alloc (.cells #[.slice m4 (M.dig (x * t + z * y)).length c4] 24))
  have V4 := Lib.hid (Var.new hr4)
  clear hres hb6 hr4 e8 e9 HS5 V15 V25 V3
  have e11 := V36.out.cell
  have e12 := V4.out.cell
  go_wp2_with fail
  refine (show Calls Tryd.prog 51 _ _ _ from make_pos m4 m3 c4 c3 (x * t + z * y) (y * t) _ (Nat.mul_pos hy0 ht0) h4 h3 V4.out.row V36.out.row).mono ?_
  rintro e w7 ⟨⟨v, rfl, e1, g1, e2, g2, rfl, hr1, hr2⟩, hb7⟩
  have HS7 := Lib.hid (HS6.out.keep hb7)
  have HR := Lib.hid (HS7.out.done hr1 hr2)
  have r0 := HS7.out.r0
  have r1 := HS7.out.r1
  have f0 := HS7.out.f0
  have f1 := HS7.out.f1
  clear hr1 hr2 hb7 e11 e12 HS6
  go_wp2_with fail
  refine bodyPost_ret (v := .tuple #[.agg #[.slice e1 (M.dig ((x * t + z * y) / Nat.gcd (x * t + z * y) (y * t))).length g1, .slice e2 (M.dig (y * t / Nat.gcd (x * t + z * y) (y * t))).length g2], .int .i64 0]) (by simp [results, Tryd.results96, go_sem, r0, r1]) rfl ⟨⟨_, rfl, HR.out.1⟩, HR.out.2⟩
end Go.Proofs.YtfaggdjoogpmmaaDoor

namespace Go.Proofs.YtfaggdjoogpmmaaDoor
open Go Go.RowKit Go.Shelf

theorem cmp_any (a b : Option Addr) (ca cb x y : Nat) (w : World) (hA : Row w a (M.dig x) ca) (hB : Row w b (M.dig y) cb) :
    Calls Tryd.prog 41 #[.agg #[.slice a (M.dig x).length ca], .agg #[.slice b (M.dig y).length cb]] w fun e W' => e = .returned (.int .i64 (Lib.compareInt (x : Int) (y : Int))) ∧ Below w.heap.size w W' :=
  cmp_of compare_any a b ca cb x y w hA hB

theorem cmp_num {u v : Value} {x y : Nat} {w : World} (hu : Num w u x) (hv : Num w v y) :
    Calls Tryd.prog 41 #[u, v] w fun e W' => e = .returned (.int .i64 (Lib.compareInt (x : Int) (y : Int))) ∧ Below w.heap.size w W' := by
  obtain ⟨a, ca, rfl, ha⟩ := hu
  obtain ⟨b, cb, rfl, hb⟩ := hv
  exact cmp_any a b ca cb x y w ha hb
end Go.Proofs.YtfaggdjoogpmmaaDoor

namespace Go.Proofs.YtfaggdjoogpmmaaDoor
open Go Go.RowKit Go.Shelf
attribute [local go_sem] mask24

theorem sub_end {zs : List Int} {x y n : Nat} {c : Int} (hz : M.Lim zs) (hl : zs.length = n) (hle : y ≤ x) (hc : -1 ≤ c) (hc2 : c ≤ 0) (h : M.val zs + 16777216 ^ n * c = x - y) : M.trimL zs = M.dig (x - y) := by
  have h1 : M.val zs < 16777216 ^ n := M.val_le_of_len hz (by omega)
  have h2 := M.val_nonneg hz
  have hv : M.val zs = ((x - y : Nat) : Int) := by
    rcases (by omega : c = 0 ∨ c = -1) with rfl | rfl
    · omega
    · rw [Int.mul_neg, Int.mul_one] at h; omega
  rw [M.trimL_dig hz, hv]; rfl

def SubRel (w w3 : World) (g n x y : Nat) (c i : Value) (W : World) : Prop :=
  ∃ (k : Nat) (zs : List Int) (q : Int), i = .int .i64 (k : Int) ∧ c = .int .i64 q ∧ k ≤ n ∧ zs.length = n ∧ M.Lim zs ∧ -1 ≤ q ∧ q ≤ 0 ∧
    M.val (zs.take k) + 16777216 ^ k * q = M.val ((M.dig x).take k) + -M.val ((M.dig y).take k) ∧ Own W (w.heap.size + 3) (.slice (some ⟨g, 0, none⟩) zs.length n) zs ∧ Below (w.heap.size + 3) w3 W

set_option maxRecDepth 100000 in
set_option maxHeartbeats 1000000 in
theorem sub_ge (a b : Option Addr) (ca cb x y : Nat) (w : World) (hx : (M.dig x).length ≤ 200) (hy : (M.dig y).length ≤ 200) (ha : Row w a (M.dig x) ca) (hb : Row w b (M.dig y) cb) (hle : y ≤ x) :
    Calls Tryd.prog 43 #[.agg #[.slice a (M.dig x).length ca], .agg #[.slice b (M.dig y).length cb]] w fun e W' =>
      NatRes (x - y) e W' ∧ Below w.heap.size w W' := by
  have Hvx := Lib.hid (vld_dig hx)
  have Hvy := Lib.hid (vld_dig hy)
  have hB3 := boxes_below w (.slice a (M.dig x).length ca) (.slice b (M.dig y).length cb)
  have hsz := boxes_size w (.slice a (M.dig x).length ca) (.slice b (M.dig y).length cb)
  have HA := Lib.hid (ha.below hB3)
  have HB := Lib.hid (hb.below hB3)
  have HC := Lib.hid (boxes_cells w (.slice a (M.dig x).length ca) (.slice b (M.dig y).length cb))
  have HB3 := Lib.hid hB3
  have HSZ := Lib.hid hsz
  have hla : (M.dig x).length ≤ ca := ha.room
  have hlb : (M.dig y).length ≤ cb := hb.room
  have hma := ha.most
  have hmb := hb.most
  clear ha hb hB3 hsz
  go_enter Tryd.func43, Tryd.ntmps43
  go_wp2_with fail
  generalize hw3 : (((w.alloc (.cells #[.slice a (M.dig x).length ca] 24)).alloc (.cells #[.slice b (M.dig y).length cb] 24)).alloc (.cells #[.slice none 0 0] 24)) = w3
  obtain rfl : boxes w (.slice a (M.dig x).length ca) (.slice b (M.dig y).length cb) = w3 := hw3
  generalize boxes w (.slice a (M.dig x).length ca) (.slice b (M.dig y).length cb) = w3 at *
  refine (valid_yes a _ ca _ HA.out Hvx.out).mono ?_
  rintro e w4 ⟨rfl, hb4⟩
  have hsz4 := hb4.size
  have c1 := (hb4.cell (p := ⟨w.heap.size + 1, 0, none⟩) (by rw [HSZ.out]; simp)).trans HC.out.2.1
  go_wp2_with fail
  refine (valid_yes b _ cb _ (HB.out.below hb4) Hvy.out).mono ?_
  rintro e w5 ⟨rfl, hb5⟩
  have hsz5 := hb5.size
  have c0 := (hb5.cell (p := ⟨w.heap.size, 0, none⟩) (by have := HSZ.out; simp; omega)).trans ((hb4.cell (p := ⟨w.heap.size, 0, none⟩) (by rw [HSZ.out]; simp)).trans HC.out.1)
  replace c1 := (hb5.cell (p := ⟨w.heap.size + 1, 0, none⟩) (by have := HSZ.out; simp; omega)).trans c1
  have HD : Hid (w.heap.size + 3 ≤ w5.heap.size ∧ Below w3.heap.size w3 w5) := ⟨by have := HSZ.out; omega, hb4.trans (hb5.mono hb4.size)⟩
  clear hb4 hb5 hsz4 hsz5
  go_wp2_with fail
  refine (cmp_any a b ca cb x y w5 (HA.out.below HD.out.2) (HB.out.below HD.out.2)).mono ?_
  rintro e w5' ⟨rfl, hb5⟩
  have c0' := (hb5.cell (p := ⟨w.heap.size, 0, none⟩) (by have := HD.out.1; simp; omega)).trans c0
  have c1' := (hb5.cell (p := ⟨w.heap.size + 1, 0, none⟩) (by have := HD.out.1; simp; omega)).trans c1
  have HD' : Hid (w.heap.size + 3 ≤ w5'.heap.size ∧ Below w3.heap.size w3 w5') := ⟨Nat.le_trans HD.out.1 hb5.size, HD.out.2.trans (hb5.mono HD.out.2.size)⟩
  clear c0 c1 hb5 HD
  obtain ⟨s, hs, hs0⟩ : ∃ s, Lib.compareInt (x : Int) (y : Int) = s ∧ 0 ≤ s := by
    rcases Nat.lt_or_eq_of_le hle with h | h
    · exact ⟨1, compare_gt (by omega), by decide⟩
    · exact ⟨0, compare_eq (by omega), by decide⟩
  rw [hs]
  go_wp2_with (at_make; refine wpList_make1 rfl _ _ rfl ((M.dig x).length) rfl rfl (by omega) (by omega) HD'.out.1 ?_; intro w6 hown6 hb6; have c0 := (hb6.cell (p := ⟨w.heap.size, 0, none⟩) (by have := HD'.out.1; simp)).trans c0')
  generalize w5'.heap.size = g at *
  have HD : Hid (Below (w.heap.size + 3) w3 w6) := (HD'.out.2.mono (by rw [HSZ.out]; exact Nat.le_refl _)).trans hb6
  clear c0' c1' c0 hb6 HD' hs hs0
  go_loopw [7, 31] (fun c i wr => SubRel w w3 g (M.dig x).length x y c i wr) (fun _ i _ => (M.dig x).length - (intOf i).toNat)
  case atStart => exact ⟨0, _, 0, rfl, rfl, Nat.zero_le _, List.length_replicate, M.Lim.replicate _, by omega, by omega, by simp [M.val], by simpa using hown6, HD.out⟩
  case round =>
    obtain ⟨k, zs, q, hi, hc, hk, hlen, hlim, hq0, hq1, hval, hown, hbW⟩ := hrel
    subst hi hc
    clear hown6 HD
    have hsW := hbW.size
    have c0 := (hbW.cell (p := ⟨w.heap.size, 0, none⟩) (by simp)).trans HC.out.1
    have c1 := (hbW.cell (p := ⟨w.heap.size + 1, 0, none⟩) (by simp)).trans HC.out.2.1
    have c2 := (hbW.cell (p := ⟨w.heap.size + 1 + 1, 0, none⟩) (by simp)).trans HC.out.2.2.1
    have f2 := (hbW.frozen (p := ⟨w.heap.size + 1 + 1, 0, none⟩) (by simp)).trans HC.out.2.2.2
    have HBW := Lib.hid hbW
    clear hbW
    have HVAL := Lib.hid hval
    have HLN := Lib.hid hlen
    have HLIM := Lib.hid hlim
    have HOWN := Lib.hid hown
    clear hval hlen hlim hown
    have hRA : Row wr a (M.dig x) ca := HA.out.below (HBW.out.mono (by rw [HSZ.out]; exact Nat.le_refl _))
    have hRB : Row wr b (M.dig y) cb := HB.out.below (HBW.out.mono (by rw [HSZ.out]; exact Nat.le_refl _))
    by_cases hlt : k < (M.dig x).length
    · have h1 := (M.lim_dig x).get k
      have h2 := (M.lim_dig y).get k
      have HRA := Lib.hid hRA
      have HRB := Lib.hid hRB
      clear hRA hRB
      obtain ⟨hgB, hcz, hfz⟩ := HOWN.out.at k (by rw [HLN.out]; exact hlt)
      obtain ⟨ba, oa, rfl, hcx⟩ := HRA.out.el k hlt
      go_wp2_with fail
      refine (limbAt_any _ _ _ _ _ HRB.out).mono ?_
      rintro e w' ⟨rfl, hw⟩
      obtain rfl : wr = w' := hw.symm
      go_wp2
      go_roundw
      case rel =>
        refine ⟨k + 1, zs.set k ((q + (M.el (M.dig x) k - M.el (M.dig y) k)) % 16777216), _, by go_num, rfl, by omega, by rw [List.length_set]; exact HLN.out, HLIM.out.set k (by omega) (by omega), by omega, by omega, ?_, ?_, HBW.out.setCell (p := ⟨g, k, none⟩) hgB _⟩
        · rw [M.val_set_succ _ _ _ (by rw [HLN.out]; exact hlt), M.val_take_succ', M.val_take_succ', Int.pow_succ]
          have := M.add_step (s := M.el (M.dig x) k) (t := - M.el (M.dig y) k) HVAL.out
          rw [Int.mul_neg] at this
          rw [Int.neg_add, show M.el (M.dig x) k - M.el (M.dig y) k = M.el (M.dig x) k + -M.el (M.dig y) k by omega]
          exact this
        · rw [List.length_set]
          exact HOWN.out.set k _
      case measure => simp [intOf]; omega
    · have hk' : k = (M.dig x).length := by omega
      have hend : M.trimL zs = M.dig (x - y) := by
        refine sub_end HLIM.out HLN.out hle hq0 hq1 ?_
        have hyl : (M.dig y).length ≤ (M.dig x).length := by
          refine M.dig_len_le.2 (Nat.lt_of_le_of_lt hle (M.dig_len_le.1 (Nat.le_refl _)))
        have hv := HVAL.out
        rw [List.take_of_length_le (by rw [HLN.out]; omega), List.take_of_length_le (by omega), List.take_of_length_le (by omega), M.val_dig, M.val_dig, hk'] at hv
        rw [hv]; omega
      have hw := within_any _ zs _ wr HOWN.out.rowAt
      have ho := HOWN.out.trimmed
      rw [HLN.out] at hw
      rw [hend] at hw ho
      obtain ⟨a', c', hcut⟩ := cut_slice (some ⟨g, 0, none⟩) (M.dig x).length (M.dig (x - y))
      rw [hcut] at hw ho
      have h200 : (M.dig (x - y)).length ≤ 200 := Nat.le_trans (M.dig_len_le.2 (Nat.lt_of_le_of_lt (Nat.sub_le x y) (M.dig_len_le.1 (Nat.le_refl _)))) hx
      rw [if_pos h200] at hw
      clear hRA hRB hend hcut
      have HO := Lib.hid ho
      have HK := Lib.hid hk'
      have HW := Lib.hid hw
      clear ho hk' hw
      have hs2 : w.heap.size + 1 + 1 < wr.heap.size := by have := HSZ.out; omega
      go_wp2_with (go_at_call 71; refine HW.out.mono ?_; rintro e w7 ⟨rfl, hb7⟩; have d2 := (hb7.cell (p := ⟨w.heap.size + 1 + 1, 0, none⟩) hs2).trans c2; have g2 := (hb7.frozen (p := ⟨w.heap.size + 1 + 1, 0, none⟩) hs2).trans f2)
      refine bodyPost_ret (v := .tuple #[.agg #[.slice a' (M.dig (x - y)).length c'], .int .i64 0]) (by simp [results, Tryd.results43, go_sem, d2]) rfl ⟨natRes_ok h200 ?_, ?_⟩
      · exact ((HO.out.below hb7).setBelow (p := ⟨w.heap.size + 1 + 1, 0, none⟩) (by simp) _).num
      · exact ((HB3.out.trans (HBW.out.mono (by omega))).trans (hb7.mono (by have := HSZ.out; omega))).setCell (p := ⟨w.heap.size + 1 + 1, 0, none⟩) (by simp; omega) _

set_option maxRecDepth 100000 in
set_option maxHeartbeats 1000000 in
theorem sub_lt (a b : Option Addr) (ca cb x y : Nat) (w : World) (hx : (M.dig x).length ≤ 200) (hy : (M.dig y).length ≤ 200) (ha : Row w a (M.dig x) ca) (hb : Row w b (M.dig y) cb) (hlt : x < y) :
    Calls Tryd.prog 43 #[.agg #[.slice a (M.dig x).length ca], .agg #[.slice b (M.dig y).length cb]] w fun e W' =>
      e = .returned (.tuple #[.agg #[.slice none 0 0], .int .i64 5]) ∧ Below w.heap.size w W' := by
  have Hvx := Lib.hid (vld_dig hx)
  have Hvy := Lib.hid (vld_dig hy)
  have hB3 := boxes_below w (.slice a (M.dig x).length ca) (.slice b (M.dig y).length cb)
  have hsz := boxes_size w (.slice a (M.dig x).length ca) (.slice b (M.dig y).length cb)
  have HA := Lib.hid (ha.below hB3)
  have HB := Lib.hid (hb.below hB3)
  have HC := Lib.hid (boxes_cells w (.slice a (M.dig x).length ca) (.slice b (M.dig y).length cb))
  have HB3 := Lib.hid hB3
  have HSZ := Lib.hid hsz
  clear ha hb hB3 hsz
  go_enter Tryd.func43, Tryd.ntmps43
  go_wp2_with fail
  generalize hw3 : (((w.alloc (.cells #[.slice a (M.dig x).length ca] 24)).alloc (.cells #[.slice b (M.dig y).length cb] 24)).alloc (.cells #[.slice none 0 0] 24)) = w3
  obtain rfl : boxes w (.slice a (M.dig x).length ca) (.slice b (M.dig y).length cb) = w3 := hw3
  generalize boxes w (.slice a (M.dig x).length ca) (.slice b (M.dig y).length cb) = w3 at *
  refine (valid_yes a _ ca _ HA.out Hvx.out).mono ?_
  rintro e w4 ⟨rfl, hb4⟩
  have hsz4 := hb4.size
  have c1 := (hb4.cell (p := ⟨w.heap.size + 1, 0, none⟩) (by rw [HSZ.out]; simp)).trans HC.out.2.1
  go_wp2_with fail
  refine (valid_yes b _ cb _ (HB.out.below hb4) Hvy.out).mono ?_
  rintro e w5 ⟨rfl, hb5⟩
  have hsz5 := hb5.size
  have c0 := (hb5.cell (p := ⟨w.heap.size, 0, none⟩) (by have := HSZ.out; simp; omega)).trans ((hb4.cell (p := ⟨w.heap.size, 0, none⟩) (by rw [HSZ.out]; simp)).trans HC.out.1)
  replace c1 := (hb5.cell (p := ⟨w.heap.size + 1, 0, none⟩) (by have := HSZ.out; simp; omega)).trans c1
  have HD : Hid (w.heap.size + 3 ≤ w5.heap.size ∧ Below w3.heap.size w3 w5) := ⟨by have := HSZ.out; omega, hb4.trans (hb5.mono hb4.size)⟩
  clear hb4 hb5 hsz4 hsz5
  go_wp2_with fail
  refine (cmp_any a b ca cb x y w5 (HA.out.below HD.out.2) (HB.out.below HD.out.2)).mono ?_
  rintro e w5' ⟨rfl, hb5⟩
  have d2 := (hb5.cell (p := ⟨w.heap.size + 1 + 1, 0, none⟩) (by have := HD.out.1; simp; omega)).trans ((HD.out.2.cell (p := ⟨w.heap.size + 1 + 1, 0, none⟩) (by rw [HSZ.out]; simp)).trans HC.out.2.2.1)
  have g2 := (hb5.frozen (p := ⟨w.heap.size + 1 + 1, 0, none⟩) (by have := HD.out.1; simp; omega)).trans ((HD.out.2.frozen (p := ⟨w.heap.size + 1 + 1, 0, none⟩) (by rw [HSZ.out]; simp)).trans HC.out.2.2.2)
  have HB5 := Lib.hid ((HB3.out.trans (HD.out.2.mono (by have := HSZ.out; omega))).trans (hb5.mono (by have := HD.out.1; omega)))
  clear c0 c1 hb5 HD
  rw [compare_lt (by omega : (x : Int) < (y : Int))]
  go_wp2_with fail
  refine bodyPost_ret (v := .tuple #[.agg #[.slice none 0 0], .int .i64 5]) (by simp [results, Tryd.results43, go_sem, d2]) rfl ⟨rfl, ?_⟩
  exact HB5.out.setCell (p := ⟨w.heap.size + 1 + 1, 0, none⟩) (by simp; omega) _

/-- **nat.Sub** of any two numbers: whether it is an error. -/
theorem sub_both (a b : Option Addr) (ca cb x y : Nat) (w : World) (hx : (M.dig x).length ≤ 200) (hy : (M.dig y).length ≤ 200) (ha : Row w a (M.dig x) ca) (hb : Row w b (M.dig y) cb) :
    Calls Tryd.prog 43 #[.agg #[.slice a (M.dig x).length ca], .agg #[.slice b (M.dig y).length cb]] w fun e W' =>
      ∃ (d : Option Addr) (n cd : Nat), e = .returned (.tuple #[.agg #[.slice d n cd], .int .i64 (if y ≤ x then 0 else 5)]) ∧ Below w.heap.size w W' := by
  by_cases h : y ≤ x
  · refine (sub_ge a b ca cb x y w hx hy ha hb h).mono ?_
    rintro e W' ⟨hres, hb'⟩
    obtain ⟨v, rfl, d, cd, rfl, _⟩ := hres.ok (Nat.le_trans (M.dig_len_le.2 (Nat.lt_of_le_of_lt (Nat.sub_le x y) (M.dig_len_le.1 (Nat.le_refl _)))) hx)
    exact ⟨d, _, cd, by rw [if_pos h], hb'⟩
  · refine (sub_lt a b ca cb x y w hx hy ha hb (by omega)).mono ?_
    rintro e W' ⟨rfl, hb'⟩
    exact ⟨none, 0, 0, by rw [if_neg h], hb'⟩
end Go.Proofs.YtfaggdjoogpmmaaDoor

namespace Go.Proofs.YtfaggdjoogpmmaaDoor
open Go Go.RowKit Go.Shelf

set_option maxRecDepth 100000 in
set_option maxHeartbeats 2000000 in
/-- **ratio.Add** -/
theorem ratAdd_fit {u v : Value} {x y z t : Nat} {w : World} (hu : RatV w u x y) (hv : RatV w v z t) (hx : (M.dig x).length ≤ 200) (hy : (M.dig y).length ≤ 200) (hz : (M.dig z).length ≤ 200) (ht : (M.dig t).length ≤ 200) (hy0 : 0 < y) (ht0 : 0 < t) (hg1 : Nat.gcd x y = 1) (hg2 : Nat.gcd z t = 1) (h1 : (M.dig (x * t)).length ≤ 200) (h2 : (M.dig (z * y)).length ≤ 200) (h3 : (M.dig (y * t)).length ≤ 200) (h4 : (M.dig (x * t + z * y)).length ≤ 200) :
    Calls Tryd.prog 56 #[u, v] w fun e W' => (∃ r, e = .returned (.tuple #[r, .int .i64 0]) ∧ RatV W' r ((x * t + z * y) / Nat.gcd (x * t + z * y) (y * t)) (y * t / Nat.gcd (x * t + z * y) (y * t))) ∧ Below w.heap.size w W' := by
  obtain ⟨a, ca, b, cb, rfl, hA, hB⟩ := hu
  obtain ⟨c, cc, d, cd, rfl, hC, hD⟩ := hv
  have HS := Lib.hid (R2St.start hA hB hC hD)
  have HG1 := Lib.hid hg1
  have HG2 := Lib.hid hg2
  clear hA hB hC hD hg1 hg2
  go_enter Tryd.func56, Tryd.ntmps56
  have p0 := HS.out.p0
  have p1 := HS.out.p1
  have q0 := HS.out.q0
  have q1 := HS.out.q1
  go_wp2_with fail
  generalize (((w.alloc (.cells #[.slice a (M.dig x).length ca, .slice b (M.dig y).length cb] 58)).alloc (.cells #[.slice c (M.dig z).length cc, .slice d (M.dig t).length cd] 58)).alloc (.cells #[.slice none 0 0, .slice none 0 0] 58)) = w3 at *
  refine (show Calls Tryd.prog 96 _ _ _ from combineAdd_fit (x := x) (y := y) (z := z) (t := t) ⟨a, ca, b, cb, rfl, HS.out.ra, HS.out.rb⟩ ⟨c, cc, d, cd, rfl, HS.out.rc, HS.out.rd⟩ hx hy hz ht hy0 ht0 HG1.out HG2.out h1 h2 h3 h4).mono ?_
  rintro e w6 ⟨⟨v, rfl, e1, g1, e2, g2, rfl, hr1, hr2⟩, hb6⟩
  have HS6 := Lib.hid (HS.out.keep hb6)
  have HR := Lib.hid (HS6.out.done hr1 hr2)
  have r0 := HS6.out.r0
  have r1 := HS6.out.r1
  have f0 := HS6.out.f0
  have f1 := HS6.out.f1
  clear hr1 hr2 hb6 p0 p1 q0 q1 HS
  go_wp2_with fail
  refine bodyPost_ret (v := .tuple #[.agg #[.slice e1 (M.dig ((x * t + z * y) / Nat.gcd (x * t + z * y) (y * t))).length g1, .slice e2 (M.dig (y * t / Nat.gcd (x * t + z * y) (y * t))).length g2], .int .i64 0]) (by simp [results, Tryd.results56, go_sem, r0, r1]) rfl ⟨⟨_, rfl, HR.out.1⟩, HR.out.2⟩

theorem sub_num_ge {u v : Value} {x y : Nat} {w : World} (hx : (M.dig x).length ≤ 200) (hy : (M.dig y).length ≤ 200) (hle : y ≤ x) (hu : Num w u x) (hv : Num w v y) :
    Calls Tryd.prog 43 #[u, v] w fun e W' => NatRes (x - y) e W' ∧ Below w.heap.size w W' := by
  obtain ⟨a, ca, rfl, ha⟩ := hu
  obtain ⟨b, cb, rfl, hb⟩ := hv
  exact sub_ge a b ca cb x y w hx hy ha hb hle
theorem sub_num_lt {u v : Value} {x y : Nat} {w : World} (hx : (M.dig x).length ≤ 200) (hy : (M.dig y).length ≤ 200) (hlt : x < y) (hu : Num w u x) (hv : Num w v y) :
    Calls Tryd.prog 43 #[u, v] w fun e W' => e = .returned (.tuple #[.agg #[.slice none 0 0], .int .i64 5]) ∧ Below w.heap.size w W' := by
  obtain ⟨a, ca, rfl, ha⟩ := hu
  obtain ⟨b, cb, rfl, hb⟩ := hv
  exact sub_lt a b ca cb x y w hx hy ha hb hlt
set_option maxRecDepth 100000 in
set_option maxHeartbeats 2000000 in
/-- **ratio.combine** with nat.Sub -/
theorem combineSub_ge {u v : Value} {x y z t : Nat} {w : World} (hu : RatV w u x y) (hv : RatV w v z t) (hx : (M.dig x).length ≤ 200) (hy : (M.dig y).length ≤ 200) (hz : (M.dig z).length ≤ 200) (ht : (M.dig t).length ≤ 200) (hy0 : 0 < y) (ht0 : 0 < t) (hg1 : Nat.gcd x y = 1) (hg2 : Nat.gcd z t = 1) (h1 : (M.dig (x * t)).length ≤ 200) (h2 : (M.dig (z * y)).length ≤ 200) (h3 : (M.dig (y * t)).length ≤ 200) (hle : z * y ≤ x * t) :
    Calls Tryd.prog 96 #[u, v, .func (.func 43) #[] #[]] w fun e W' => (∃ r, e = .returned (.tuple #[r, .int .i64 0]) ∧ RatV W' r ((x * t - z * y) / Nat.gcd (x * t - z * y) (y * t)) (y * t / Nat.gcd (x * t - z * y) (y * t))) ∧ Below w.heap.size w W' := by
  have h4 : (M.dig (x * t - z * y)).length ≤ 200 := Nat.le_trans (M.dig_len_mono (Nat.sub_le _ _)) h1
  obtain ⟨a, ca, b, cb, rfl, hA, hB⟩ := hu
  obtain ⟨c, cc, d, cd, rfl, hC, hD⟩ := hv
  have HS := Lib.hid (R2St.start hA hB hC hD)
  have HG1 := Lib.hid hg1
  have HG2 := Lib.hid hg2
  clear hA hB hC hD hg1 hg2
  go_enter Tryd.func96, Tryd.ntmps96
  have p0 := HS.out.p0
  have p1 := HS.out.p1
  have q0 := HS.out.q0
  have q1 := HS.out.q1
  go_wp2_with fail
  generalize (((w.alloc (.cells #[.slice a (M.dig x).length ca, .slice b (M.dig y).length cb] 58)).alloc (.cells #[.slice c (M.dig z).length cc, .slice d (M.dig t).length cd] 58)).alloc (.cells #[.slice none 0 0, .slice none 0 0] 58)) = w3 at *
  refine (show Calls Tryd.prog 99 _ _ _ from cross_fit (x := x) (y := y) (z := z) (t := t) ⟨a, ca, b, cb, rfl, HS.out.ra, HS.out.rb⟩ ⟨c, cc, d, cd, rfl, HS.out.rc, HS.out.rd⟩ hx hy hz ht hy0 ht0 HG1.out HG2.out h1 h2).mono ?_
  rintro e w4 ⟨⟨m1, c1, m2, c2, rfl, hr1, hr2⟩, hb4⟩
  have HS4 := Lib.hid (((HS.out.keep hb4).alloc (.cells #[.slice m1 (M.dig (x * t)).length c1] 24)).alloc (.cells #[.slice m2 (M.dig (z * y)).length c2] 24))
  have V1 := Lib.hid ((Var.new hr1).alloc (.cells #[.slice m2 (M.dig (z * y)).length c2] 24))
  have v2 := Var.new (hr2.alloc (.cells #[.slice m1 (M.dig (x * t)).length c1] 24))
  rw [World.size_alloc] at v2
  have V2 := Lib.hid v2
  clear hr1 hr2 hb4 p0 p1 q0 q1 HS v2
  have p1 := HS4.out.p1
  have q1 := HS4.out.q1
  go_wp2_with fail
  refine (show Calls Tryd.prog 28 _ _ _ from mul_num (x := y) (y := t) hy ht ⟨b, cb, rfl, HS4.out.rb⟩ ⟨d, cd, rfl, HS4.out.rd⟩).mono ?_
  rintro e w5 ⟨hres, hb5⟩
  obtain ⟨v, rfl, m3, c3, rfl, hr3⟩ := hres.ok h3
  have HS5 := Lib.hid ((HS4.out.keep hb5).alloc (.cells #[.slice m3 (M.dig (y * t)).length c3] 24))
  have V15 := Lib.hid ((V1.out.below hb5).alloc (.cells #[.slice m3 (M.dig (y * t)).length c3] 24))
  have V25 := Lib.hid ((V2.out.below hb5).alloc (.cells #[.slice m3 (M.dig (y * t)).length c3] 24))
  have V3 := Lib.hid (Var.new hr3)
  clear hres hb5 hr3 p1 q1 HS4 V1 V2
  have e8 := V15.out.cell
  have e9 := V25.out.cell
  go_wp2_with fail
  refine (show Calls Tryd.prog 43 _ _ _ from sub_num_ge (x := x * t) (y := z * y) h1 h2 hle ⟨m1, c1, rfl, V15.out.row⟩ ⟨m2, c2, rfl, V25.out.row⟩).mono ?_
  rintro e w6 ⟨hres, hb6⟩
  obtain ⟨v, rfl, m4, c4, rfl, hr4⟩ := hres.ok h4
  have HS6 := Lib.hid ((HS5.out.keep hb6).alloc (.cells #[.slice m4 (M.dig (x * t - z * y)).length c4] 24))
  have V36 := Lib.hid ((V3.out.below hb6).alloc (.cells #[.slice m4 (M.dig (x * t - z * y)).length c4] 24))
  have V4 := Lib.hid (Var.new hr4)
  clear hres hb6 hr4 e8 e9 HS5 V15 V25 V3
  have e11 := V36.out.cell
  have e12 := V4.out.cell
  go_wp2_with fail
  refine (show Calls Tryd.prog 51 _ _ _ from make_pos m4 m3 c4 c3 (x * t - z * y) (y * t) _ (Nat.mul_pos hy0 ht0) h4 h3 V4.out.row V36.out.row).mono ?_
  rintro e w7 ⟨⟨v, rfl, e1, g1, e2, g2, rfl, hr1, hr2⟩, hb7⟩
  have HS7 := Lib.hid (HS6.out.keep hb7)
  have HR := Lib.hid (HS7.out.done hr1 hr2)
  have r0 := HS7.out.r0
  have r1 := HS7.out.r1
  have f0 := HS7.out.f0
  have f1 := HS7.out.f1
  clear hr1 hr2 hb7 e11 e12 HS6
  go_wp2_with fail
  refine bodyPost_ret (v := .tuple #[.agg #[.slice e1 (M.dig ((x * t - z * y) / Nat.gcd (x * t - z * y) (y * t))).length g1, .slice e2 (M.dig (y * t / Nat.gcd (x * t - z * y) (y * t))).length g2], .int .i64 0]) (by simp [results, Tryd.results96, go_sem, r0, r1]) rfl ⟨⟨_, rfl, HR.out.1⟩, HR.out.2⟩
set_option maxRecDepth 100000 in
set_option maxHeartbeats 2000000 in
/-- **ratio.Sub** of the greater one -/
theorem ratSub_ge {u v : Value} {x y z t : Nat} {w : World} (hu : RatV w u x y) (hv : RatV w v z t) (hx : (M.dig x).length ≤ 200) (hy : (M.dig y).length ≤ 200) (hz : (M.dig z).length ≤ 200) (ht : (M.dig t).length ≤ 200) (hy0 : 0 < y) (ht0 : 0 < t) (hg1 : Nat.gcd x y = 1) (hg2 : Nat.gcd z t = 1) (h1 : (M.dig (x * t)).length ≤ 200) (h2 : (M.dig (z * y)).length ≤ 200) (h3 : (M.dig (y * t)).length ≤ 200) (hle : z * y ≤ x * t) :
    Calls Tryd.prog 58 #[u, v] w fun e W' => (∃ r, e = .returned (.tuple #[r, .int .i64 0]) ∧ RatV W' r ((x * t - z * y) / Nat.gcd (x * t - z * y) (y * t)) (y * t / Nat.gcd (x * t - z * y) (y * t))) ∧ Below w.heap.size w W' := by
  obtain ⟨a, ca, b, cb, rfl, hA, hB⟩ := hu
  obtain ⟨c, cc, d, cd, rfl, hC, hD⟩ := hv
  have HS := Lib.hid (R2St.start hA hB hC hD)
  have HG1 := Lib.hid hg1
  have HG2 := Lib.hid hg2
  clear hA hB hC hD hg1 hg2
  go_enter Tryd.func58, Tryd.ntmps58
  have p0 := HS.out.p0
  have p1 := HS.out.p1
  have q0 := HS.out.q0
  have q1 := HS.out.q1
  go_wp2_with fail
  generalize (((w.alloc (.cells #[.slice a (M.dig x).length ca, .slice b (M.dig y).length cb] 58)).alloc (.cells #[.slice c (M.dig z).length cc, .slice d (M.dig t).length cd] 58)).alloc (.cells #[.slice none 0 0, .slice none 0 0] 58)) = w3 at *
  refine (show Calls Tryd.prog 96 _ _ _ from combineSub_ge (x := x) (y := y) (z := z) (t := t) ⟨a, ca, b, cb, rfl, HS.out.ra, HS.out.rb⟩ ⟨c, cc, d, cd, rfl, HS.out.rc, HS.out.rd⟩ hx hy hz ht hy0 ht0 HG1.out HG2.out h1 h2 h3 hle).mono ?_
  rintro e w6 ⟨⟨v, rfl, e1, g1, e2, g2, rfl, hr1, hr2⟩, hb6⟩
  have HS6 := Lib.hid (HS.out.keep hb6)
  have HR := Lib.hid (HS6.out.done hr1 hr2)
  have r0 := HS6.out.r0
  have r1 := HS6.out.r1
  have f0 := HS6.out.f0
  have f1 := HS6.out.f1
  clear hr1 hr2 hb6 p0 p1 q0 q1 HS
  go_wp2_with fail
  refine bodyPost_ret (v := .tuple #[.agg #[.slice e1 (M.dig ((x * t - z * y) / Nat.gcd (x * t - z * y) (y * t))).length g1, .slice e2 (M.dig (y * t / Nat.gcd (x * t - z * y) (y * t))).length g2], .int .i64 0]) (by simp [results, Tryd.results58, go_sem, r0, r1]) rfl ⟨⟨_, rfl, HR.out.1⟩, HR.out.2⟩
theorem R2St.none {w : World} {a b c d : Option Addr} {ca cb cc cd x y z t : Nat} {W : World} (h : R2St w a b c d ca cb cc cd x y z t W) :
    Below w.heap.size w ((W.setCell ⟨w.heap.size + 1 + 1, 0, none⟩ (.slice none 0 0)).setCell ⟨w.heap.size + 1 + 1, 1, none⟩ (.slice none 0 0)) := by
  have := h.below
  exact (h.below.setCell (by simp; omega) _).setCell (by simp; omega) _
set_option maxRecDepth 100000 in
set_option maxHeartbeats 2000000 in
/-- **ratio.combine** with nat.Sub -/
theorem combineSub_lt {u v : Value} {x y z t : Nat} {w : World} (hu : RatV w u x y) (hv : RatV w v z t) (hx : (M.dig x).length ≤ 200) (hy : (M.dig y).length ≤ 200) (hz : (M.dig z).length ≤ 200) (ht : (M.dig t).length ≤ 200) (hy0 : 0 < y) (ht0 : 0 < t) (hg1 : Nat.gcd x y = 1) (hg2 : Nat.gcd z t = 1) (h1 : (M.dig (x * t)).length ≤ 200) (h2 : (M.dig (z * y)).length ≤ 200) (h3 : (M.dig (y * t)).length ≤ 200) (hlt : x * t < z * y) :
    Calls Tryd.prog 96 #[u, v, .func (.func 43) #[] #[]] w fun e W' => e = .returned (.tuple #[.agg #[.slice none 0 0, .slice none 0 0], .int .i64 5]) ∧ Below w.heap.size w W' := by
  obtain ⟨a, ca, b, cb, rfl, hA, hB⟩ := hu
  obtain ⟨c, cc, d, cd, rfl, hC, hD⟩ := hv
  have HS := Lib.hid (R2St.start hA hB hC hD)
  have HG1 := Lib.hid hg1
  have HG2 := Lib.hid hg2
  clear hA hB hC hD hg1 hg2
  go_enter Tryd.func96, Tryd.ntmps96
  have p0 := HS.out.p0
  have p1 := HS.out.p1
  have q0 := HS.out.q0
  have q1 := HS.out.q1
  go_wp2_with fail
  generalize (((w.alloc (.cells #[.slice a (M.dig x).length ca, .slice b (M.dig y).length cb] 58)).alloc (.cells #[.slice c (M.dig z).length cc, .slice d (M.dig t).length cd] 58)).alloc (.cells #[.slice none 0 0, .slice none 0 0] 58)) = w3 at *
  refine (show Calls Tryd.prog 99 _ _ _ from cross_fit (x := x) (y := y) (z := z) (t := t) ⟨a, ca, b, cb, rfl, HS.out.ra, HS.out.rb⟩ ⟨c, cc, d, cd, rfl, HS.out.rc, HS.out.rd⟩ hx hy hz ht hy0 ht0 HG1.out HG2.out h1 h2).mono ?_
  rintro e w4 ⟨⟨m1, c1, m2, c2, rfl, hr1, hr2⟩, hb4⟩
  have HS4 := Lib.hid (((HS.out.keep hb4).alloc (.cells #[.slice m1 (M.dig (x * t)).length c1] 24)).alloc (.cells #[.slice m2 (M.dig (z * y)).length c2] 24))
  have V1 := Lib.hid ((Var.new hr1).alloc (.cells #[.slice m2 (M.dig (z * y)).length c2] 24))
  have v2 := Var.new (hr2.alloc (.cells #[.slice m1 (M.dig (x * t)).length c1] 24))
  rw [World.size_alloc] at v2
  have V2 := Lib.hid v2
  clear hr1 hr2 hb4 p0 p1 q0 q1 HS v2
  have p1 := HS4.out.p1
  have q1 := HS4.out.q1
  go_wp2_with fail
  refine (show Calls Tryd.prog 28 _ _ _ from mul_num (x := y) (y := t) hy ht ⟨b, cb, rfl, HS4.out.rb⟩ ⟨d, cd, rfl, HS4.out.rd⟩).mono ?_
  rintro e w5 ⟨hres, hb5⟩
  obtain ⟨v, rfl, m3, c3, rfl, hr3⟩ := hres.ok h3
  have HS5 := Lib.hid ((HS4.out.keep hb5).alloc (.cells #[.slice m3 (M.dig (y * t)).length c3] 24))
  have V15 := Lib.hid ((V1.out.below hb5).alloc (.cells #[.slice m3 (M.dig (y * t)).length c3] 24))
  have V25 := Lib.hid ((V2.out.below hb5).alloc (.cells #[.slice m3 (M.dig (y * t)).length c3] 24))
  have V3 := Lib.hid (Var.new hr3)
  clear hres hb5 hr3 p1 q1 HS4 V1 V2
  have e8 := V15.out.cell
  have e9 := V25.out.cell
  go_wp2_with fail
  refine (show Calls Tryd.prog 43 _ _ _ from sub_num_lt (x := x * t) (y := z * y) h1 h2 hlt ⟨m1, c1, rfl, V15.out.row⟩ ⟨m2, c2, rfl, V25.out.row⟩).mono ?_
  rintro e w6 ⟨rfl, hb6⟩
  have HS6 := Lib.hid ((HS5.out.keep hb6).alloc (.cells #[.slice none 0 0] 24))
  have HR := Lib.hid (HS6.out.none)
  have r0 := HS6.out.r0
  have r1 := HS6.out.r1
  have f0 := HS6.out.f0
  have f1 := HS6.out.f1
  clear hb6 e8 e9 HS5 V15 V25 V3
  go_wp2_with fail
  refine bodyPost_ret (v := .tuple #[.agg #[.slice none 0 0, .slice none 0 0], .int .i64 5]) (by simp [results, Tryd.results96, go_sem, r0, r1]) rfl ⟨rfl, HR.out⟩
set_option maxRecDepth 100000 in
set_option maxHeartbeats 2000000 in
/-- **ratio.Sub** of the less one -/
theorem ratSub_lt {u v : Value} {x y z t : Nat} {w : World} (hu : RatV w u x y) (hv : RatV w v z t) (hx : (M.dig x).length ≤ 200) (hy : (M.dig y).length ≤ 200) (hz : (M.dig z).length ≤ 200) (ht : (M.dig t).length ≤ 200) (hy0 : 0 < y) (ht0 : 0 < t) (hg1 : Nat.gcd x y = 1) (hg2 : Nat.gcd z t = 1) (h1 : (M.dig (x * t)).length ≤ 200) (h2 : (M.dig (z * y)).length ≤ 200) (h3 : (M.dig (y * t)).length ≤ 200) (hlt : x * t < z * y) :
    Calls Tryd.prog 58 #[u, v] w fun e W' => e = .returned (.tuple #[.agg #[.slice none 0 0, .slice none 0 0], .int .i64 5]) ∧ Below w.heap.size w W' := by
  obtain ⟨a, ca, b, cb, rfl, hA, hB⟩ := hu
  obtain ⟨c, cc, d, cd, rfl, hC, hD⟩ := hv
  have HS := Lib.hid (R2St.start hA hB hC hD)
  have HG1 := Lib.hid hg1
  have HG2 := Lib.hid hg2
  clear hA hB hC hD hg1 hg2
  go_enter Tryd.func58, Tryd.ntmps58
  have p0 := HS.out.p0
  have p1 := HS.out.p1
  have q0 := HS.out.q0
  have q1 := HS.out.q1
  go_wp2_with fail
  generalize (((w.alloc (.cells #[.slice a (M.dig x).length ca, .slice b (M.dig y).length cb] 58)).alloc (.cells #[.slice c (M.dig z).length cc, .slice d (M.dig t).length cd] 58)).alloc (.cells #[.slice none 0 0, .slice none 0 0] 58)) = w3 at *
  refine (show Calls Tryd.prog 96 _ _ _ from combineSub_lt (x := x) (y := y) (z := z) (t := t) ⟨a, ca, b, cb, rfl, HS.out.ra, HS.out.rb⟩ ⟨c, cc, d, cd, rfl, HS.out.rc, HS.out.rd⟩ hx hy hz ht hy0 ht0 HG1.out HG2.out h1 h2 h3 hlt).mono ?_
  rintro e w6 ⟨rfl, hb6⟩
  have HS6 := Lib.hid (HS.out.keep hb6)
  have HR := Lib.hid (HS6.out.none)
  have r0 := HS6.out.r0
  have r1 := HS6.out.r1
  have f0 := HS6.out.f0
  have f1 := HS6.out.f1
  clear hb6 p0 p1 q0 q1 HS
  go_wp2_with fail
  refine bodyPost_ret (v := .tuple #[.agg #[.slice none 0 0, .slice none 0 0], .int .i64 5]) (by simp [results, Tryd.results58, go_sem, r0, r1]) rfl ⟨rfl, HR.out⟩
end Go.Proofs.YtfaggdjoogpmmaaDoor
