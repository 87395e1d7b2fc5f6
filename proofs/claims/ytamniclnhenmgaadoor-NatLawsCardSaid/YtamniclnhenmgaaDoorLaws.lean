/- The walk of NatLaws. -/
import Derived.Test.YtamniclnhenmgaaDoorGcd
import Derived.Test.YtamniclnhenmgaaDoorText
import Derived.Test.YtamniclnhenmgaaDoorPowers
import Derived.Test.YtamniclnhenmgaaDoorMul
import Derived.Test.YtamniclnhenmgaaDoorSub
import Derived.Test.YtamniclnhenmgaaDoorSameAll
import Derived.Test.YtamniclnhenmgaaDoorAwake
import Derived.Test.YtamniclnhenmgaaDoorLenMath
namespace Go.Proofs.YtamniclnhenmgaaDoor
open Go Go.RowKit Go.Shelf

theorem print_one (a : Option Addr) (cap : Nat) (w : World) (hR : Row w a (M.dig 1) cap) :
    Calls Tryd.prog 39 #[.agg #[.slice a (M.dig 1).length cap]] w fun e W' => e = .returned (.string ⟨#[49]⟩) ∧ Below w.heap.size w W' := by
  refine (print_pos a cap 1 w (by omega) (by rw [dig_one]; simp) hR).mono ?_
  rintro e W' ⟨⟨k, hk, rfl⟩, hb⟩
  rw [M.decs_any hk (by decide : 1 < 10 ^ 1)]
  exact ⟨rfl, hb⟩

theorem gcd_len_le {x y k : Nat} (hx : (M.dig x).length ≤ k) (hy : (M.dig y).length ≤ k) : (M.dig (Nat.gcd x y)).length ≤ k := by
  rcases Nat.eq_zero_or_pos x with rfl | h
  · rwa [Nat.gcd_zero_left]
  · exact Nat.le_trans (M.dig_len_mono (Nat.gcd_le_left y h)) hx

set_option maxRecDepth 100000 in
set_option maxHeartbeats 4000000 in
theorem laws_any (ta : Option Addr) (tc : Nat) (ts : List Int) (w : World) (hR : Row w ta ts tc) :
    Calls Tryd.prog 8 #[.slice ta ts.length tc] w fun e W' => e = .returned (.bool true) ∧ Below w.heap.size w W' := by
  have HR := Lib.hid hR
  have HLT := Lib.hid (fun W : World => light_any ta ts.length tc W)
  clear hR
  by_cases hl : (ts.length : Int) ≤ 400
  · go_enter Tryd.func8, Tryd.ntmps8
    go_wp2_with fail
    refine (HLT.out _).mono ?_
    rintro e w' ⟨rfl, rfl⟩
    rw [show decide ((ts.length : Int) ≤ 400) = true from decide_eq_true hl]
    go_wp2_with fail
    refine (roll_any ta tc ts _ HR.out (by omega)).mono ?_
    rintro e w1 ⟨rfl, hd, hb1⟩
    have HD := Lib.hid hd
    have HB1 := Lib.hid hb1
    have hs1 : w'.heap.size < w1.heap.size := hd.lt
    clear hd hb1 HR HLT
    go_wp2_with fail
    refine (show Calls Tryd.prog 22 #[.pointer (some ⟨w'.heap.size, 0, none⟩), .int .i64 6] w1 _ from diceNat_keep w1 (w'.heap.size) ta tc ts 0 6 (by omega) HD.out).mono ?_
    rintro e w2 ⟨v, x, k2, rfl, _, hx, hd2, hg2, hkx⟩
    have HD2 := Lib.hid hd2
    have HB2 := Lib.hid (HB1.out.trans (below_of_dice hg2 (Nat.le_refl _) (Nat.le_of_lt hs1)))
    have HKX := Lib.hid hkx
    have hs2 := hg2.size
    clear hd2 hg2 hkx HD HB1
    go_wp2_with fail
    refine (show Calls Tryd.prog 22 #[.pointer (some ⟨w'.heap.size, 0, none⟩), .int .i64 6] w2 _ from diceNat_keep w2 (w'.heap.size) ta tc ts k2 6 (by omega) HD2.out).mono ?_
    rintro e w3 ⟨u, y, k3, rfl, _, hy, hd3, hg3, hky⟩
    have HD3 := Lib.hid hd3
    have HB3 := Lib.hid (HB2.out.trans (below_of_dice hg3 (Nat.le_refl _) (by omega)))
    have HKY := Lib.hid hky
    have HG3 := Lib.hid hg3
    have hs3 := hg3.size
    clear hd3 hg3 hky HD2 HB2
    go_wp2_with fail
    refine (show Calls Tryd.prog 22 #[.pointer (some ⟨w'.heap.size, 0, none⟩), .int .i64 6] w3 _ from diceNat_keep w3 (w'.heap.size) ta tc ts k3 6 (by omega) HD3.out).mono ?_
    rintro e w4 ⟨z, c, k4, rfl, hz0, hc, _, hg4, _⟩
    have HB4 := Lib.hid (HB3.out.trans (below_of_dice hg4 (Nat.le_refl _) (by omega)))
    obtain ⟨a, ca, rfl, hxr⟩ := HKX.out w4 ⟨hg4.os.trans HG3.out.os, hg4.tape.trans HG3.out.tape, hg4.output.trans HG3.out.output, Nat.le_trans HG3.out.size hg4.size, fun b hb hne => (hg4.block b (Nat.lt_of_lt_of_le hb HG3.out.size) hne).trans (HG3.out.block b hb hne)⟩
    obtain ⟨b, cb, rfl, hyr⟩ := HKY.out w4 hg4
    obtain ⟨d, cd, rfl, hcr⟩ := hz0
    clear hg4 HD3 HB3 HKX HKY HG3 hs1 hs2 hs3
    have V_A := Lib.hid (((Var.new hxr).alloc (.cells #[.slice b (M.dig y).length cb] 24)).alloc (.cells #[.slice d (M.dig c).length cd] 24))
    have V0 := (Var.new (hyr.alloc (.cells #[.slice a (M.dig x).length ca] 24))).alloc (.cells #[.slice d (M.dig c).length cd] 24)
    have V1 := Var.new ((hcr.alloc (.cells #[.slice a (M.dig x).length ca] 24)).alloc (.cells #[.slice b (M.dig y).length cb] 24))
    simp only [World.size_alloc] at V0 V1
    have hB5 := HB4.out.alloc HB4.out.size (.cells #[.slice a (M.dig x).length ca] 24)
    have hB6 := hB5.alloc hB5.size (.cells #[.slice b (M.dig y).length cb] 24)
    have HB := Lib.hid (hB6.alloc hB6.size (.cells #[.slice d (M.dig c).length cd] 24))
    have V_B := Lib.hid V0
    have V_C := Lib.hid V1
    clear hxr hyr hcr hB5 hB6 HB4 V0 V1
    have ls := M.dig_len_add hx hy
    have lx := M.dig_len_mul ls hc
    have ly := M.dig_len_mul hx hc
    have lz := M.dig_len_mul hy hc
    have lt := M.dig_len_add ly lz
    have lk := gcd_len_le hx hy
    go_wp2_with fail
    refine (show Calls Tryd.prog 26 _ _ _ from add_num (x := x) (y := y) (by omega) (by omega) ⟨a, ca, rfl, V_A.out.row⟩ ⟨b, cb, rfl, V_B.out.row⟩).mono ?_
    rintro e u1 ⟨hres, hb⟩
    obtain ⟨v, rfl, a_S, c_S, rfl, hr⟩ := hres.ok (by omega)
    replace V_A := Lib.hid (V_A.out.below hb)
    replace V_B := Lib.hid (V_B.out.below hb)
    replace V_C := Lib.hid (V_C.out.below hb)
    replace HB := Lib.hid (HB.out.trans (hb.mono HB.out.size))
    clear hres hb
    have l_A := V_A.out.lt
    have l_B := V_B.out.lt
    have l_C := V_C.out.lt
    replace V_A := Lib.hid (V_A.out.alloc (.cells #[.slice a_S (M.dig (x + y)).length c_S] 24))
    replace V_B := Lib.hid (V_B.out.alloc (.cells #[.slice a_S (M.dig (x + y)).length c_S] 24))
    replace V_C := Lib.hid (V_C.out.alloc (.cells #[.slice a_S (M.dig (x + y)).length c_S] 24))
    have V_S := Lib.hid (Var.new hr)
    replace HB := Lib.hid (HB.out.alloc HB.out.size (.cells #[.slice a_S (M.dig (x + y)).length c_S] 24))
    clear hr
    have e_C := V_C.out.cell
    have n0_C : ¬ w4.heap.size + 1 + 1 = u1.heap.size := by omega
    go_wp2_with fail
    refine (show Calls Tryd.prog 28 _ _ _ from mul_num (x := x + y) (y := c) (by omega) (by omega) ⟨a_S, c_S, rfl, V_S.out.row⟩ ⟨d, cd, rfl, V_C.out.row⟩).mono ?_
    rintro e u2 ⟨hres, hb⟩
    obtain ⟨v, rfl, a_X, c_X, rfl, hr⟩ := hres.ok (by omega)
    replace V_A := Lib.hid (V_A.out.below hb)
    replace V_B := Lib.hid (V_B.out.below hb)
    replace V_C := Lib.hid (V_C.out.below hb)
    replace V_S := Lib.hid (V_S.out.below hb)
    replace HB := Lib.hid (HB.out.trans (hb.mono HB.out.size))
    clear l_A l_B l_C
    clear e_C n0_C hres hb
    have l_A := V_A.out.lt
    have l_B := V_B.out.lt
    have l_C := V_C.out.lt
    have l_S := V_S.out.lt
    replace V_A := Lib.hid (V_A.out.alloc (.cells #[.slice a_X (M.dig ((x + y) * c)).length c_X] 24))
    replace V_B := Lib.hid (V_B.out.alloc (.cells #[.slice a_X (M.dig ((x + y) * c)).length c_X] 24))
    replace V_C := Lib.hid (V_C.out.alloc (.cells #[.slice a_X (M.dig ((x + y) * c)).length c_X] 24))
    replace V_S := Lib.hid (V_S.out.alloc (.cells #[.slice a_X (M.dig ((x + y) * c)).length c_X] 24))
    have V_X := Lib.hid (Var.new hr)
    replace HB := Lib.hid (HB.out.alloc HB.out.size (.cells #[.slice a_X (M.dig ((x + y) * c)).length c_X] 24))
    clear hr
    have e_A := V_A.out.cell
    have n0_A : ¬ w4.heap.size = u2.heap.size := by omega
    have e_C := V_C.out.cell
    have n0_C : ¬ w4.heap.size + 1 + 1 = u2.heap.size := by omega
    go_wp2_with fail
    refine (show Calls Tryd.prog 28 _ _ _ from mul_num (x := x) (y := c) (by omega) (by omega) ⟨a, ca, rfl, V_A.out.row⟩ ⟨d, cd, rfl, V_C.out.row⟩).mono ?_
    rintro e u3 ⟨hres, hb⟩
    obtain ⟨v, rfl, a_Y, c_Y, rfl, hr⟩ := hres.ok (by omega)
    replace V_A := Lib.hid (V_A.out.below hb)
    replace V_B := Lib.hid (V_B.out.below hb)
    replace V_C := Lib.hid (V_C.out.below hb)
    replace V_S := Lib.hid (V_S.out.below hb)
    replace V_X := Lib.hid (V_X.out.below hb)
    replace HB := Lib.hid (HB.out.trans (hb.mono HB.out.size))
    clear l_A l_B l_C l_S
    clear e_A n0_A e_C n0_C hres hb
    have l_A := V_A.out.lt
    have l_B := V_B.out.lt
    have l_C := V_C.out.lt
    have l_S := V_S.out.lt
    have l_X := V_X.out.lt
    replace V_A := Lib.hid (V_A.out.alloc (.cells #[.slice a_Y (M.dig (x * c)).length c_Y] 24))
    replace V_B := Lib.hid (V_B.out.alloc (.cells #[.slice a_Y (M.dig (x * c)).length c_Y] 24))
    replace V_C := Lib.hid (V_C.out.alloc (.cells #[.slice a_Y (M.dig (x * c)).length c_Y] 24))
    replace V_S := Lib.hid (V_S.out.alloc (.cells #[.slice a_Y (M.dig (x * c)).length c_Y] 24))
    replace V_X := Lib.hid (V_X.out.alloc (.cells #[.slice a_Y (M.dig (x * c)).length c_Y] 24))
    have V_Y := Lib.hid (Var.new hr)
    replace HB := Lib.hid (HB.out.alloc HB.out.size (.cells #[.slice a_Y (M.dig (x * c)).length c_Y] 24))
    clear hr
    have e_B := V_B.out.cell
    have n0_B : ¬ w4.heap.size + 1 = u3.heap.size := by omega
    have e_C := V_C.out.cell
    have n0_C : ¬ w4.heap.size + 1 + 1 = u3.heap.size := by omega
    go_wp2_with fail
    refine (show Calls Tryd.prog 28 _ _ _ from mul_num (x := y) (y := c) (by omega) (by omega) ⟨b, cb, rfl, V_B.out.row⟩ ⟨d, cd, rfl, V_C.out.row⟩).mono ?_
    rintro e u4 ⟨hres, hb⟩
    obtain ⟨v, rfl, a_Z, c_Z, rfl, hr⟩ := hres.ok (by omega)
    replace V_A := Lib.hid (V_A.out.below hb)
    replace V_B := Lib.hid (V_B.out.below hb)
    replace V_C := Lib.hid (V_C.out.below hb)
    replace V_S := Lib.hid (V_S.out.below hb)
    replace V_X := Lib.hid (V_X.out.below hb)
    replace V_Y := Lib.hid (V_Y.out.below hb)
    replace HB := Lib.hid (HB.out.trans (hb.mono HB.out.size))
    clear l_A l_B l_C l_S l_X
    clear e_B n0_B e_C n0_C hres hb
    have l_A := V_A.out.lt
    have l_B := V_B.out.lt
    have l_C := V_C.out.lt
    have l_S := V_S.out.lt
    have l_X := V_X.out.lt
    have l_Y := V_Y.out.lt
    replace V_A := Lib.hid (V_A.out.alloc (.cells #[.slice a_Z (M.dig (y * c)).length c_Z] 24))
    replace V_B := Lib.hid (V_B.out.alloc (.cells #[.slice a_Z (M.dig (y * c)).length c_Z] 24))
    replace V_C := Lib.hid (V_C.out.alloc (.cells #[.slice a_Z (M.dig (y * c)).length c_Z] 24))
    replace V_S := Lib.hid (V_S.out.alloc (.cells #[.slice a_Z (M.dig (y * c)).length c_Z] 24))
    replace V_X := Lib.hid (V_X.out.alloc (.cells #[.slice a_Z (M.dig (y * c)).length c_Z] 24))
    replace V_Y := Lib.hid (V_Y.out.alloc (.cells #[.slice a_Z (M.dig (y * c)).length c_Z] 24))
    have V_Z := Lib.hid (Var.new hr)
    replace HB := Lib.hid (HB.out.alloc HB.out.size (.cells #[.slice a_Z (M.dig (y * c)).length c_Z] 24))
    clear hr
    clear V_C l_C
    have e_Y := V_Y.out.cell
    have n0_Y : ¬ u3.heap.size = u4.heap.size := by omega
    go_wp2_with fail
    refine (show Calls Tryd.prog 26 _ _ _ from add_num (x := x * c) (y := y * c) (by omega) (by omega) ⟨a_Y, c_Y, rfl, V_Y.out.row⟩ ⟨a_Z, c_Z, rfl, V_Z.out.row⟩).mono ?_
    rintro e u5 ⟨hres, hb⟩
    obtain ⟨v, rfl, a_T, c_T, rfl, hr⟩ := hres.ok (by omega)
    replace V_A := Lib.hid (V_A.out.below hb)
    replace V_B := Lib.hid (V_B.out.below hb)
    replace V_S := Lib.hid (V_S.out.below hb)
    replace V_X := Lib.hid (V_X.out.below hb)
    replace V_Y := Lib.hid (V_Y.out.below hb)
    replace V_Z := Lib.hid (V_Z.out.below hb)
    replace HB := Lib.hid (HB.out.trans (hb.mono HB.out.size))
    clear l_A l_B l_S l_X l_Y
    clear e_Y n0_Y hres hb
    have l_A := V_A.out.lt
    have l_B := V_B.out.lt
    have l_S := V_S.out.lt
    have l_X := V_X.out.lt
    have l_Y := V_Y.out.lt
    have l_Z := V_Z.out.lt
    replace V_A := Lib.hid (V_A.out.alloc (.cells #[.slice a_T (M.dig (x * c + y * c)).length c_T] 24))
    replace V_B := Lib.hid (V_B.out.alloc (.cells #[.slice a_T (M.dig (x * c + y * c)).length c_T] 24))
    replace V_S := Lib.hid (V_S.out.alloc (.cells #[.slice a_T (M.dig (x * c + y * c)).length c_T] 24))
    replace V_X := Lib.hid (V_X.out.alloc (.cells #[.slice a_T (M.dig (x * c + y * c)).length c_T] 24))
    replace V_Y := Lib.hid (V_Y.out.alloc (.cells #[.slice a_T (M.dig (x * c + y * c)).length c_T] 24))
    replace V_Z := Lib.hid (V_Z.out.alloc (.cells #[.slice a_T (M.dig (x * c + y * c)).length c_T] 24))
    have V_T := Lib.hid (Var.new hr)
    replace HB := Lib.hid (HB.out.alloc HB.out.size (.cells #[.slice a_T (M.dig (x * c + y * c)).length c_T] 24))
    clear hr
    clear V_Y l_Y
    clear V_Z l_Z
    have e_S := V_S.out.cell
    have n0_S : ¬ u1.heap.size = u5.heap.size := by omega
    have e_B := V_B.out.cell
    have n0_B : ¬ w4.heap.size + 1 = u5.heap.size := by omega
    go_wp2_with fail
    refine (show Calls Tryd.prog 43 _ _ _ from sub_ge a_S b c_S cb (x + y) y _ (by omega) (by omega) V_S.out.row V_B.out.row (Nat.le_add_left _ _)).mono ?_
    rintro e u6 ⟨hres, hb⟩
    rw [Nat.add_sub_cancel] at hres
    obtain ⟨v, rfl, a_U, c_U, rfl, hr⟩ := hres.ok (by omega)
    replace V_A := Lib.hid (V_A.out.below hb)
    replace V_B := Lib.hid (V_B.out.below hb)
    replace V_S := Lib.hid (V_S.out.below hb)
    replace V_X := Lib.hid (V_X.out.below hb)
    replace V_T := Lib.hid (V_T.out.below hb)
    replace HB := Lib.hid (HB.out.trans (hb.mono HB.out.size))
    clear l_A l_B l_S l_X
    clear e_S n0_S e_B n0_B hres hb
    have l_A := V_A.out.lt
    have l_B := V_B.out.lt
    have l_S := V_S.out.lt
    have l_X := V_X.out.lt
    have l_T := V_T.out.lt
    replace V_A := Lib.hid (V_A.out.alloc (.cells #[.slice a_U (M.dig (x)).length c_U] 24))
    replace V_B := Lib.hid (V_B.out.alloc (.cells #[.slice a_U (M.dig (x)).length c_U] 24))
    replace V_S := Lib.hid (V_S.out.alloc (.cells #[.slice a_U (M.dig (x)).length c_U] 24))
    replace V_X := Lib.hid (V_X.out.alloc (.cells #[.slice a_U (M.dig (x)).length c_U] 24))
    replace V_T := Lib.hid (V_T.out.alloc (.cells #[.slice a_U (M.dig (x)).length c_U] 24))
    have V_U := Lib.hid (Var.new hr)
    replace HB := Lib.hid (HB.out.alloc HB.out.size (.cells #[.slice a_U (M.dig (x)).length c_U] 24))
    clear hr
    clear V_S l_S
    go_wp2_with fail
    refine (show Calls Tryd.prog 18 _ _ _ from awake_any _).mono ?_
    rintro e u7 ⟨rfl, hb⟩
    replace V_A := Lib.hid (V_A.out.below hb)
    replace V_B := Lib.hid (V_B.out.below hb)
    replace V_X := Lib.hid (V_X.out.below hb)
    replace V_T := Lib.hid (V_T.out.below hb)
    replace V_U := Lib.hid (V_U.out.below hb)
    replace HB := Lib.hid (HB.out.trans (hb.mono HB.out.size))
    clear l_A l_B l_X l_T
    clear hb
    have e_X := V_X.out.cell
    have e_T := V_T.out.cell
    go_wp2_with fail
    refine (show Calls Tryd.prog 30 _ _ _ from same_is (x := (x + y) * c) (y := x * c + y * c) ⟨a_X, c_X, rfl, V_X.out.row⟩ ⟨a_T, c_T, rfl, V_T.out.row⟩).mono ?_
    rintro e u8 ⟨rfl, hb⟩
    rw [show decide ((x + y) * c = x * c + y * c) = true from decide_eq_true (Nat.add_mul x y c)]
    replace V_A := Lib.hid (V_A.out.below hb)
    replace V_B := Lib.hid (V_B.out.below hb)
    replace V_X := Lib.hid (V_X.out.below hb)
    replace V_T := Lib.hid (V_T.out.below hb)
    replace V_U := Lib.hid (V_U.out.below hb)
    replace HB := Lib.hid (HB.out.trans (hb.mono HB.out.size))
    clear e_X e_T hb
    clear V_X
    clear V_T
    have e_U := V_U.out.cell
    have e_A := V_A.out.cell
    go_wp2_with fail
    refine (show Calls Tryd.prog 30 _ _ _ from same_is (x := x) (y := x) ⟨a_U, c_U, rfl, V_U.out.row⟩ ⟨a, ca, rfl, V_A.out.row⟩).mono ?_
    rintro e u9 ⟨rfl, hb⟩
    rw [show decide (x = x) = true from decide_eq_true rfl]
    replace V_A := Lib.hid (V_A.out.below hb)
    replace V_B := Lib.hid (V_B.out.below hb)
    replace V_U := Lib.hid (V_U.out.below hb)
    replace HB := Lib.hid (HB.out.trans (hb.mono HB.out.size))
    clear e_U e_A hb
    clear V_U
    have e_A := V_A.out.cell
    have e_B := V_B.out.cell
    go_wp2_with fail
    refine (show Calls Tryd.prog 44 _ _ _ from gcd_any a b ca cb x y _ (by omega) (by omega) V_A.out.row V_B.out.row).mono ?_
    rintro e u10 ⟨hres, hb⟩
    obtain ⟨v, rfl, a_K, c_K, rfl, hr⟩ := hres
    replace V_A := Lib.hid (V_A.out.below hb)
    replace V_B := Lib.hid (V_B.out.below hb)
    replace HB := Lib.hid (HB.out.trans (hb.mono HB.out.size))
    clear e_A e_B hb
    have l_A := V_A.out.lt
    have l_B := V_B.out.lt
    replace V_A := Lib.hid (V_A.out.alloc (.cells #[.slice a_K (M.dig (Nat.gcd x y)).length c_K] 24))
    replace V_B := Lib.hid (V_B.out.alloc (.cells #[.slice a_K (M.dig (Nat.gcd x y)).length c_K] 24))
    have V_K := Lib.hid (Var.new hr)
    replace HB := Lib.hid (HB.out.alloc HB.out.size (.cells #[.slice a_K (M.dig (Nat.gcd x y)).length c_K] 24))
    clear hr
    by_cases hk : Nat.gcd x y = 0
    · obtain ⟨rfl, rfl⟩ := Nat.gcd_eq_zero_iff.1 hk
      have e_A := V_A.out.cell
      have n0_A : ¬ w4.heap.size = u10.heap.size := by omega
      have e_B := V_B.out.cell
      have n0_B : ¬ w4.heap.size + 1 = u10.heap.size := by omega
      rw [Nat.gcd_self] at e_A e_B ⊢
      simp only [M.dig_zero, List.length_nil] at e_A e_B ⊢
      go_wp2_with fail
      go_ret
      exact ⟨rfl, by have := HB.out; rwa [Nat.gcd_self, M.dig_zero] at this⟩
    · obtain ⟨k, hkk⟩ : ∃ k, Nat.gcd x y = k := ⟨_, rfl⟩
      have hm1 : x % k = 0 := by rw [← hkk]; exact Nat.mod_eq_zero_of_dvd (Nat.gcd_dvd_left x y)
      have hm2 : y % k = 0 := by rw [← hkk]; exact Nat.mod_eq_zero_of_dvd (Nat.gcd_dvd_right x y)
      have hg1 : Nat.gcd (x / k) (y / k) = 1 := by rw [Nat.gcd_div (by rw [← hkk]; exact Nat.gcd_dvd_left x y) (by rw [← hkk]; exact Nat.gcd_dvd_right x y), hkk]; exact Nat.div_self (by omega)
      rw [hkk] at hk lk V_A V_B V_K HB ⊢
      have hkp : 0 < k := by omega
      have hkl : (((M.dig k).length : Int) == 0) = false := beq_eq_false_iff_ne.2 (by intro h; exact hk (M.dig_nil.1 (List.length_eq_zero_iff.1 (by omega))))
      clear hk
      have HM1 := Lib.hid hm1
      have HM2 := Lib.hid hm2
      have HG1 := Lib.hid hg1
      have HKK := Lib.hid hkk
      clear hm1 hm2 hg1 hkk
      have e_A := V_A.out.cell
      have n0_A : ¬ w4.heap.size = u10.heap.size := by omega
      go_wp2_with fail
      refine (show Calls Tryd.prog 40 _ _ _ from divide_any a a_K ca c_K x k _ hkp (by omega) (by omega) V_A.out.row V_K.out.row).mono ?_
      rintro e u11 ⟨⟨a_P, c_P, a_R, c_R, rfl, hr, hs⟩, hb⟩
      replace V_A := Lib.hid (V_A.out.below hb)
      replace V_B := Lib.hid (V_B.out.below hb)
      replace V_K := Lib.hid (V_K.out.below hb)
      replace HB := Lib.hid (HB.out.trans (hb.mono HB.out.size))
      clear l_A l_B
      clear e_A n0_A hb
      have l_A := V_A.out.lt
      have l_B := V_B.out.lt
      have l_K := V_K.out.lt
      replace V_A := Lib.hid ((V_A.out.alloc (.cells #[.slice a_P (M.dig (x / k)).length c_P] 24)).alloc (.cells #[.slice a_R (M.dig (x % k)).length c_R] 24))
      replace V_B := Lib.hid ((V_B.out.alloc (.cells #[.slice a_P (M.dig (x / k)).length c_P] 24)).alloc (.cells #[.slice a_R (M.dig (x % k)).length c_R] 24))
      replace V_K := Lib.hid ((V_K.out.alloc (.cells #[.slice a_P (M.dig (x / k)).length c_P] 24)).alloc (.cells #[.slice a_R (M.dig (x % k)).length c_R] 24))
      have V_P := Lib.hid ((Var.new hr).alloc (.cells #[.slice a_R (M.dig (x % k)).length c_R] 24))
      have V0_R := Var.new (hs.alloc (.cells #[.slice a_P (M.dig (x / k)).length c_P] 24))
      simp only [World.size_alloc] at V0_R
      have V_R := Lib.hid V0_R
      clear V0_R
      replace HB := Lib.hid (HB.out.alloc HB.out.size (.cells #[.slice a_P (M.dig (x / k)).length c_P] 24))
      replace HB := Lib.hid (HB.out.alloc HB.out.size (.cells #[.slice a_R (M.dig (x % k)).length c_R] 24))
      clear hr hs
      clear V_A l_A
      have e_B := V_B.out.cell
      have n0_B : ¬ w4.heap.size + 1 = u11.heap.size := by omega
      have n1_B : ¬ w4.heap.size + 1 = u11.heap.size + 1 := by omega
      have e_K := V_K.out.cell
      have n0_K : ¬ u10.heap.size = u11.heap.size := by omega
      have n1_K : ¬ u10.heap.size = u11.heap.size + 1 := by omega
      go_wp2_with fail
      refine (show Calls Tryd.prog 40 _ _ _ from divide_any b a_K cb c_K y k _ hkp (by omega) (by omega) V_B.out.row V_K.out.row).mono ?_
      rintro e u12 ⟨⟨a_Q, c_Q, a_V, c_V, rfl, hr, hs⟩, hb⟩
      replace V_B := Lib.hid (V_B.out.below hb)
      replace V_K := Lib.hid (V_K.out.below hb)
      replace V_P := Lib.hid (V_P.out.below hb)
      replace V_R := Lib.hid (V_R.out.below hb)
      replace HB := Lib.hid (HB.out.trans (hb.mono HB.out.size))
      clear l_B l_K
      clear e_B n0_B n1_B e_K n0_K n1_K hb
      have l_B := V_B.out.lt
      have l_K := V_K.out.lt
      have l_P := V_P.out.lt
      have l_R := V_R.out.lt
      replace V_B := Lib.hid ((V_B.out.alloc (.cells #[.slice a_Q (M.dig (y / k)).length c_Q] 24)).alloc (.cells #[.slice a_V (M.dig (y % k)).length c_V] 24))
      replace V_K := Lib.hid ((V_K.out.alloc (.cells #[.slice a_Q (M.dig (y / k)).length c_Q] 24)).alloc (.cells #[.slice a_V (M.dig (y % k)).length c_V] 24))
      replace V_P := Lib.hid ((V_P.out.alloc (.cells #[.slice a_Q (M.dig (y / k)).length c_Q] 24)).alloc (.cells #[.slice a_V (M.dig (y % k)).length c_V] 24))
      replace V_R := Lib.hid ((V_R.out.alloc (.cells #[.slice a_Q (M.dig (y / k)).length c_Q] 24)).alloc (.cells #[.slice a_V (M.dig (y % k)).length c_V] 24))
      have V_Q := Lib.hid ((Var.new hr).alloc (.cells #[.slice a_V (M.dig (y % k)).length c_V] 24))
      have V0_V := Var.new (hs.alloc (.cells #[.slice a_Q (M.dig (y / k)).length c_Q] 24))
      simp only [World.size_alloc] at V0_V
      have V_V := Lib.hid V0_V
      clear V0_V
      replace HB := Lib.hid (HB.out.alloc HB.out.size (.cells #[.slice a_Q (M.dig (y / k)).length c_Q] 24))
      replace HB := Lib.hid (HB.out.alloc HB.out.size (.cells #[.slice a_V (M.dig (y % k)).length c_V] 24))
      clear hr hs
      clear V_B l_B
      clear V_K l_K
      have e_P := V_P.out.cell
      have n0_P : ¬ u11.heap.size = u12.heap.size := by omega
      have n1_P : ¬ u11.heap.size = u12.heap.size + 1 := by omega
      have e_Q := V_Q.out.cell
      go_wp2_with fail
      refine (show Calls Tryd.prog 44 _ _ _ from gcd_any a_P a_Q c_P c_Q (x / k) (y / k) _ (Nat.le_trans (dig_len_div x k) (by omega)) (Nat.le_trans (dig_len_div y k) (by omega)) V_P.out.row V_Q.out.row).mono ?_
      rintro e u13 ⟨hres, hb⟩
      obtain ⟨v, rfl, a_O, c_O, rfl, hr⟩ := hres
      replace V_P := Lib.hid (V_P.out.below hb)
      replace V_R := Lib.hid (V_R.out.below hb)
      replace V_Q := Lib.hid (V_Q.out.below hb)
      replace V_V := Lib.hid (V_V.out.below hb)
      replace HB := Lib.hid (HB.out.trans (hb.mono HB.out.size))
      clear l_P l_R
      clear e_P n0_P n1_P e_Q hb
      have l_P := V_P.out.lt
      have l_R := V_R.out.lt
      have l_Q := V_Q.out.lt
      have l_V := V_V.out.lt
      replace V_P := Lib.hid (V_P.out.alloc (.cells #[.slice a_O (M.dig (Nat.gcd (x / k) (y / k))).length c_O] 24))
      replace V_R := Lib.hid (V_R.out.alloc (.cells #[.slice a_O (M.dig (Nat.gcd (x / k) (y / k))).length c_O] 24))
      replace V_Q := Lib.hid (V_Q.out.alloc (.cells #[.slice a_O (M.dig (Nat.gcd (x / k) (y / k))).length c_O] 24))
      replace V_V := Lib.hid (V_V.out.alloc (.cells #[.slice a_O (M.dig (Nat.gcd (x / k) (y / k))).length c_O] 24))
      have V_O := Lib.hid (Var.new hr)
      replace HB := Lib.hid (HB.out.alloc HB.out.size (.cells #[.slice a_O (M.dig (Nat.gcd (x / k) (y / k))).length c_O] 24))
      clear hr
      have e_R := V_R.out.cell
      have n0_R : ¬ u11.heap.size + 1 = u13.heap.size := by omega
      have e_V := V_V.out.cell
      have n0_V : ¬ u12.heap.size + 1 = u13.heap.size := by omega
      rw [HM1.out, M.dig_zero] at e_R
      rw [HM2.out, M.dig_zero] at e_V
      have hpo := print_one a_O c_O _ (by have := V_O.out.row; rwa [HG1.out] at this)
      have HPO := Lib.hid hpo
      clear hpo
      go_wp2_with fail
      rw [HG1.out] at HB ⊢
      refine HPO.out.mono ?_
      rintro e u20 ⟨rfl, hb⟩
      have HB2 := Lib.hid (HB.out.trans (hb.mono HB.out.size))
      clear hb HB
      go_wp2_with fail
      go_ret
      exact ⟨rfl, HB2.out⟩
  · go_enter Tryd.func8, Tryd.ntmps8
    go_wp2_with fail
    refine (HLT.out _).mono ?_
    rintro e w' ⟨rfl, rfl⟩
    rw [show decide ((ts.length : Int) ≤ 400) = false from decide_eq_false (by omega)]
    go_wp2_with fail
    refine (awake_any _).mono ?_
    rintro e w1 ⟨rfl, hb⟩
    have HB := Lib.hid hb
    clear hb
    go_wp2_with fail
    go_ret
    exact ⟨rfl, HB.out⟩
end Go.Proofs.YtamniclnhenmgaaDoor
