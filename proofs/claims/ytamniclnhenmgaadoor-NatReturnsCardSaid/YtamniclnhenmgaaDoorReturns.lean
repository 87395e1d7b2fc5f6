/- The walk of NatReturns. -/
import Derived.Test.YtamniclnhenmgaaDoorDivide
import Derived.Test.YtamniclnhenmgaaDoorText
import Derived.Test.YtamniclnhenmgaaDoorPowers
import Derived.Test.YtamniclnhenmgaaDoorCmpAny
import Derived.Test.YtamniclnhenmgaaDoorMul
import Derived.Test.YtamniclnhenmgaaDoorSameAll
import Derived.Test.YtamniclnhenmgaaDoorAwake
namespace Go.Proofs.YtamniclnhenmgaaDoor
open Go Go.RowKit Go.Shelf

theorem dig_lt_ten {n k j : Nat} (h : (M.dig n).length ≤ k) (hj : 16777216 ^ k ≤ 10 ^ j) : n < 10 ^ j := Nat.lt_of_lt_of_le (M.dig_len_le.1 h) hj
theorem dig_len_div (x y : Nat) : (M.dig (x / y)).length ≤ (M.dig x).length := M.dig_len_le.2 (Nat.lt_of_le_of_lt (Nat.div_le_self x y) (M.dig_len_le.1 (Nat.le_refl _)))
theorem dig_len_mod (x y : Nat) : (M.dig (x % y)).length ≤ (M.dig x).length := M.dig_len_le.2 (Nat.lt_of_le_of_lt (Nat.mod_le x y) (M.dig_len_le.1 (Nat.le_refl _)))
theorem dig_len_divmul (x y : Nat) : (M.dig (x / y * y)).length ≤ (M.dig x).length := M.dig_len_le.2 (Nat.lt_of_le_of_lt (Nat.div_mul_le_self x y) (M.dig_len_le.1 (Nat.le_refl _)))

set_option maxRecDepth 100000 in
set_option maxHeartbeats 1000000 in
theorem returns_any (ta : Option Addr) (tc : Nat) (ts : List Int) (w : World) (hR : Row w ta ts tc) :
    Calls Tryd.prog 7 #[.slice ta ts.length tc] w fun e W' => e = .returned (.bool true) ∧ Below w.heap.size w W' := by
  have HR := Lib.hid hR
  have HLT := Lib.hid (fun W : World => light_any ta ts.length tc W)
  clear hR
  by_cases hl : (ts.length : Int) ≤ 400
  · go_enter Tryd.func7, Tryd.ntmps7
    go_wp2_with fail
    refine (HLT.out _).mono ?_
    rintro e w' ⟨rfl, rfl⟩
    rw [show decide ((ts.length : Int) ≤ 400) = true from decide_eq_true hl]
    go_wp2_with fail
    refine (roll_any ta tc ts _ HR.out (by omega)).mono ?_
    rintro e w1 ⟨rfl, hd, hb1⟩
    have HD := Lib.hid hd
    have HB1 := Lib.hid hb1
    have hs1 : w'.heap.size < w1.heap.size := hd.lt
    clear hd hb1 HR HLT
    go_wp2_with fail
    refine (show Calls Tryd.prog 22 #[.pointer (some ⟨w'.heap.size, 0, none⟩), .int .i64 20] w1 _ from diceNat_keep w1 (w'.heap.size) ta tc ts 0 20 (by omega) HD.out).mono ?_
    rintro e w2 ⟨v, x, k2, rfl, _, hx, hd2, hg2, hkx⟩
    have HD2 := Lib.hid hd2
    have HB2 := Lib.hid (HB1.out.trans (below_of_dice hg2 (Nat.le_refl _) (Nat.le_of_lt hs1)))
    have HX := Lib.hid hx
    have HKX := Lib.hid hkx
    have hs2 := hg2.size
    clear hx hd2 hg2 hkx HD HB1
    go_wp2_with fail
    refine (show Calls Tryd.prog 22 #[.pointer (some ⟨w'.heap.size, 0, none⟩), .int .i64 8] w2 _ from diceNat_keep w2 (w'.heap.size) ta tc ts k2 8 (by omega) HD2.out).mono ?_
    rintro e w3 ⟨u, y, k3, rfl, hy0, hy, hd3, hg3, _⟩
    have HB3 := Lib.hid (HB2.out.trans (below_of_dice hg3 (Nat.le_refl _) (by omega)))
    obtain ⟨a, ca, rfl, hxr⟩ := HKX.out w3 hg3
    obtain ⟨b, cb, rfl, hyr⟩ := hy0
    have HY := Lib.hid hy
    clear hg3 hy hd3 HD2 HB2 HKX hs1 hs2
    have VX := Lib.hid ((Var.new hxr).alloc (.cells #[.slice b (M.dig y).length cb] 24))
    have VY := Var.new (hyr.alloc (.cells #[.slice a (M.dig x).length ca] 24))
    simp only [World.size_alloc] at VY
    have hB5 := (HB3.out.alloc HB3.out.size (.cells #[.slice a (M.dig x).length ca] 24)).alloc (by have := HB3.out.size; simp; omega) (.cells #[.slice b (M.dig y).length cb] 24)
    have VY := Lib.hid VY
    have HB5 := Lib.hid hB5
    clear hxr hyr hB5 HB3
    have hx20 : (M.dig x).length ≤ 20 := HX.out
    have hy8 : (M.dig y).length ≤ 8 := HY.out
    clear HX HY
    have ex := VX.out.cell
    go_wp2_with fail
    refine (print_text a ca x 200 _ (dig_lt_ten hx20 (Nat.le_of_ble_eq_true (by kernel_rfl))) (by omega) (by omega) VX.out.row).mono ?_
    rintro e w5 ⟨⟨s, rfl, ⟨hsd, hsv⟩, hsl⟩, hb5⟩
    have UX := Lib.hid (VX.out.below hb5)
    have UY := Lib.hid (VY.out.below hb5)
    have HB6 := Lib.hid (HB5.out.trans (hb5.mono HB5.out.size))
    have hp := parse_dec s w5 (by omega) hsd
    rw [hsv] at hp
    have HP := Lib.hid hp
    clear hb5 VX VY HB5 ex hp hsd hsv hsl
    go_wp2_with fail
    refine HP.out.mono ?_
    rintro e w6 ⟨hres, hb6⟩
    obtain ⟨v, rfl, a6, p6, rfl, hr6⟩ := hres.ok (by omega)
    have VX := Lib.hid (UX.out.below hb6)
    have VY := Lib.hid (UY.out.below hb6)
    have V6 := Lib.hid (Var.new hr6)
    have HB7 := Lib.hid (HB6.out.trans (hb6.mono HB6.out.size))
    clear hb6 hres hr6 UX UY HB6 HP
    go_wp2_with fail
    refine (awake_any _).mono ?_
    rintro e w7 ⟨rfl, hb7⟩
    have UX := Lib.hid ((VX.out.alloc _).below hb7)
    have UY := Lib.hid ((VY.out.alloc _).below hb7)
    have W6 := Lib.hid (V6.out.below hb7)
    have HB8 := Lib.hid (step_below HB7.out hb7)
    clear hb7 VX VY V6 HB7
    have e6 := W6.out.cell
    have ex := UX.out.cell
    go_wp2_with fail
    refine (same_is (x := x) (y := x) ⟨a6, p6, rfl, W6.out.row⟩ ⟨a, ca, rfl, UX.out.row⟩).mono ?_
    rintro e w8 ⟨rfl, hb8⟩
    rw [show decide (x = x) = true from decide_eq_true rfl]
    have VX := Lib.hid (UX.out.below hb8)
    have VY := Lib.hid (UY.out.below hb8)
    have HB9 := Lib.hid (HB8.out.trans (hb8.mono HB8.out.size))
    clear hb8 UX UY W6 HB8 e6 ex
    have ex := VX.out.cell
    have ey := VY.out.cell
    by_cases hy0 : y = 0
    · subst hy0
      have HDZ := Lib.hid (divide_zero a b ca cb x w8 (by omega) VX.out.row (by have := VY.out.row; rwa [M.dig_zero] at this))
      rw [M.dig_zero] at ey
      go_wp2_with fail
      refine HDZ.out.mono ?_
      rintro e w9 ⟨rfl, hb9⟩
      have hv := ((VY.out.below hb9).alloc (.cells #[.slice none 0 0] 24)).alloc (.cells #[.slice none 0 0] 24)
      have hc := hv.cell
      rw [M.dig_zero] at hc
      have hlt := (VY.out.below hb9).lt
      have HB10 := Lib.hid (HB9.out.trans (hb9.mono HB9.out.size))
      clear hb9 hv ex ey HDZ VX VY HB9
      have hn : ¬ w3.heap.size + 1 = w9.heap.size := by omega
      have hn2 : ¬ w3.heap.size + 1 = w9.heap.size + 1 := by omega
      go_wp2_with fail
      go_ret
      exact ⟨rfl, (HB10.out.alloc HB10.out.size _).alloc (by have := HB10.out.size; simp; omega) _⟩
    · have hyp : 0 < y := by omega
      have hyl : (((M.dig y).length : Int) == 0) = false := beq_eq_false_iff_ne.2 (by
        intro h; exact hy0 (M.dig_nil.1 (List.length_eq_zero_iff.1 (by omega))))
      clear hy0
      go_wp2_with fail
      refine (divide_any a b ca cb x y w8 hyp (by omega) (by omega) VX.out.row VY.out.row).mono ?_
      rintro e w9 ⟨⟨a9, p9, c9, q9, rfl, hr9, hs9⟩, hb9⟩
      have UX := Lib.hid (((VX.out.below hb9).alloc (.cells #[.slice a9 (M.dig (x / y)).length p9] 24)).alloc (.cells #[.slice c9 (M.dig (x % y)).length q9] 24))
      have UY := Lib.hid (((VY.out.below hb9).alloc (.cells #[.slice a9 (M.dig (x / y)).length p9] 24)).alloc (.cells #[.slice c9 (M.dig (x % y)).length q9] 24))
      have VQ := Lib.hid ((Var.new hr9).alloc (.cells #[.slice c9 (M.dig (x % y)).length q9] 24))
      have VR := Var.new (hs9.alloc (.cells #[.slice a9 (M.dig (x / y)).length p9] 24))
      simp only [World.size_alloc] at VR
      have VR := Lib.hid VR
      have hB := HB9.out.trans (hb9.mono HB9.out.size)
      have HB10 := Lib.hid ((hB.alloc hB.size (.cells #[.slice a9 (M.dig (x / y)).length p9] 24)).alloc (by have := hB.size; simp; omega) (.cells #[.slice c9 (M.dig (x % y)).length q9] 24))
      have l1 := (VY.out.below hb9).lt
      have hn : ¬ w3.heap.size + 1 = w9.heap.size := by omega
      have hn2 : ¬ w3.heap.size + 1 = w9.heap.size + 1 := by omega
      clear hB hr9 hs9 hb9 VX VY HB9 ex ey
      have ey := UY.out.cell
      have eq := VQ.out.cell
      go_wp2_with fail
      refine (show Calls Tryd.prog 28 _ _ _ from mul_num (x := x / y) (y := y) (Nat.le_trans (dig_len_div x y) (by omega)) (by omega) ⟨a9, p9, rfl, VQ.out.row⟩ ⟨b, cb, rfl, UY.out.row⟩).mono ?_
      rintro e w10 ⟨hres, hb10⟩
      obtain ⟨v, rfl, a10, p10, rfl, hr10⟩ := hres.ok (Nat.le_trans (dig_len_divmul x y) (by omega))
      have VX := Lib.hid ((UX.out.below hb10).alloc (.cells #[.slice a10 (M.dig (x / y * y)).length p10] 24))
      have VY := Lib.hid ((UY.out.below hb10).alloc (.cells #[.slice a10 (M.dig (x / y * y)).length p10] 24))
      have UQ := Lib.hid ((VQ.out.below hb10).alloc (.cells #[.slice a10 (M.dig (x / y * y)).length p10] 24))
      have UR := Lib.hid ((VR.out.below hb10).alloc (.cells #[.slice a10 (M.dig (x / y * y)).length p10] 24))
      have V10 := Lib.hid (Var.new hr10)
      have X0 := Lib.hid (UX.out.below hb10)
      have Y0 := Lib.hid (UY.out.below hb10)
      have Q0 := Lib.hid (VQ.out.below hb10)
      have R0 := Lib.hid (VR.out.below hb10)
      have hB := HB10.out.trans (hb10.mono HB10.out.size)
      have HB11 := Lib.hid (hB.alloc hB.size (.cells #[.slice a10 (M.dig (x / y * y)).length p10] 24))
      have l2 := (VR.out.below hb10).lt
      have hn3 : ¬ w9.heap.size + 1 = w10.heap.size := by omega
      have h10w : w'.heap.size ≤ w10.heap.size := hB.size
      clear hB hres hb10 hr10 UX UY VQ VR HB10 ey eq hn hn2 l1
      have er := UR.out.cell
      go_wp2_with fail
      refine (show Calls Tryd.prog 26 _ _ _ from add_num (x := x / y * y) (y := x % y) (Nat.le_trans (dig_len_divmul x y) (by omega)) (Nat.le_trans (dig_len_mod x y) (by omega)) ⟨a10, p10, rfl, V10.out.row⟩ ⟨c9, q9, rfl, UR.out.row⟩).mono ?_
      rintro e w11 ⟨hres, hb11⟩
      rw [Nat.div_add_mod'] at hres
      obtain ⟨v, rfl, a11, p11, rfl, hr11⟩ := hres.ok (by omega)
      have hB12 : Below w10.heap.size w10 (w11.setCell ⟨w10.heap.size, 0, none⟩ (.slice a11 (M.dig x).length p11)) := (((Below.refl w10.heap.size w10).alloc (Nat.le_refl _) _).trans (hb11.mono (by simp))).setCell (p := ⟨w10.heap.size, 0, none⟩) (Nat.le_refl _) _
      have UX := Lib.hid (X0.out.below hB12)
      have UY := Lib.hid (Y0.out.below hB12)
      have UQ := Lib.hid (Q0.out.below hB12)
      have UR := Lib.hid (R0.out.below hB12)
      have e11 := (V10.out.below hb11).cell
      have f11 := (bcell hb11).2 w10.heap.size 0 V10.out.lt
      rw [frozen_new] at f11
      have V12 := Lib.hid ((V10.out.below hb11).store hr11)
      have HB12 := Lib.hid ((HB11.out.trans (hb11.mono HB11.out.size)).setCell (p := ⟨w10.heap.size, 0, none⟩) h10w (.slice a11 (M.dig x).length p11))
      clear hres hb11 hr11 hB12 X0 Y0 Q0 R0 VX VY VR V10 HB11 er hn3 l2 h10w
      have ex := UX.out.cell
      go_wp2_with fail
      refine (same_is (x := x) (y := x) ⟨a11, p11, rfl, V12.out.row⟩ ⟨a, ca, rfl, UX.out.row⟩).mono ?_
      rintro e w13 ⟨rfl, hb13⟩
      rw [show decide (x = x) = true from decide_eq_true rfl]
      have VY := Lib.hid (UY.out.below hb13)
      have VQ := Lib.hid (UQ.out.below hb13)
      have VR := Lib.hid (UR.out.below hb13)
      have HB13 := Lib.hid (HB12.out.trans (hb13.mono HB12.out.size))
      clear hb13 UX UY UQ UR V12 HB12 ex e11 f11
      have er := VR.out.cell
      have ey := VY.out.cell
      go_wp2_with fail
      refine (cmp_any c9 b q9 cb (x % y) y _ VR.out.row VY.out.row).mono ?_
      rintro e w14 ⟨rfl, hb14⟩
      rw [compare_lt (show ((x % y : Nat) : Int) < (y : Int) by have := Nat.mod_lt x hyp; omega)]
      have UQ := Lib.hid (VQ.out.below hb14)
      have UR := Lib.hid (VR.out.below hb14)
      have HB14 := Lib.hid (HB13.out.trans (hb14.mono HB13.out.size))
      clear hb14 VY VQ VR HB13 er ey
      have eq := UQ.out.cell
      go_wp2_with fail
      refine (valid_yes a9 _ p9 _ UQ.out.row (vld_dig (Nat.le_trans (dig_len_div x y) (by omega)))).mono ?_
      rintro e w15 ⟨rfl, hb15⟩
      have VR := Lib.hid (UR.out.below hb15)
      have HB15 := Lib.hid (HB14.out.trans (hb15.mono HB14.out.size))
      clear hb15 UQ UR HB14 eq
      have er := VR.out.cell
      go_wp2_with fail
      refine (valid_yes c9 _ q9 _ VR.out.row (vld_dig (Nat.le_trans (dig_len_mod x y) (by omega)))).mono ?_
      rintro e w16 ⟨rfl, hb16⟩
      have HB16 := Lib.hid (HB15.out.trans (hb16.mono HB15.out.size))
      clear hb16 VR HB15 er
      go_wp2_with fail
      go_ret
      exact ⟨rfl, HB16.out⟩
  · go_enter Tryd.func7, Tryd.ntmps7
    go_wp2_with fail
    refine (HLT.out _).mono ?_
    rintro e w' ⟨rfl, rfl⟩
    rw [show decide ((ts.length : Int) ≤ 400) = false from decide_eq_false (by omega)]
    go_wp2_with fail
    refine (awake_any _).mono ?_
    rintro e w1 ⟨rfl, hb⟩
    have HB := Lib.hid hb
    clear hb
    go_wp2_with fail
    go_ret
    exact ⟨rfl, HB.out⟩
end Go.Proofs.YtamniclnhenmgaaDoor
