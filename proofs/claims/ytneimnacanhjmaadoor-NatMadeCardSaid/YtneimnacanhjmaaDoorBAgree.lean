/- The walk of law01.agree. -/
import Derived.Test.YtneimnacanhjmaaDoorBBoth
import Derived.Test.YtneimnacanhjmaaDoorBRatInts
import Derived.Test.YtneimnacanhjmaaDoorB10
import Derived.Test.YtneimnacanhjmaaDoorBQuietW
namespace Go.Proofs.YtneimnacanhjmaaDoor
open Go Go.RowKit Go.Shelf

theorem same_eq2 {a b : Option Addr} {ca cb x y : Nat} {w : World} (h : x = y) (ha : Row w a (M.dig x) ca) (hb : Row w b (M.dig y) cb) :
    Calls Tryd.prog 30 #[.agg #[.slice a (M.dig x).length ca], .agg #[.slice b (M.dig y).length cb]] w fun e W' => e = .returned (.bool true) ∧ Below w.heap.size w W' := by
  subst h; exact same_any a b _ ca cb w ha hb
theorem LVar.lt {W : World} {p : Nat} {a : Option Addr} {ca : Nat} {zs : List Int} (h : LVar W p a ca zs) : p < W.heap.size := lt_of_cell h.cell
theorem LVar.beside {W : World} {p q n c : Nat} {a s : Option Addr} {ca : Nat} {zs : List Int} (h : LVar W p a ca zs) (hq : W.cell? ⟨q, 0, none⟩ = some (.slice s n c)) (hne : p ≠ q) (u : Value) : LVar (W.setCell ⟨q, 0, none⟩ u) p a ca zs :=
  ⟨(cell_other u (show p ≠ q from hne)).trans h.cell, h.row.storedAt hq u⟩

set_option maxRecDepth 100000 in
set_option maxHeartbeats 4000000 in
/-- **law01.agree** -/
theorem agree_any (a b : Option Addr) (ca cb : Nat) (zs ys : List Int) (w : World) (hA : Row w a zs ca) (hB : Row w b ys cb) :
    Calls Tryd.prog 19 #[.agg #[.slice a zs.length ca], .agg #[.slice b ys.length cb]] w fun e W' => e = .returned (.bool true) ∧ Below w.heap.size w W' := by
  have V_A := Lib.hid ((LVar.new hA).alloc (.cells #[.slice b ys.length cb] 24))
  have vb := LVar.new (hB.alloc (.cells #[.slice a zs.length ca] 24))
  rw [World.size_alloc] at vb
  have V_B := Lib.hid vb
  have HB := Lib.hid (show Below w.heap.size w ((w.alloc (.cells #[.slice a zs.length ca] 24)).alloc (.cells #[.slice b ys.length cb] 24)) from ((Below.refl _ w).alloc (Nat.le_refl _) _).alloc (by simp) _)
  obtain ⟨E1, n1, A1, A2⟩ := add_both zs ys
  obtain ⟨E2, n2, B1, B2⟩ := sub_two zs ys
  obtain ⟨E3, n3, C1, C2⟩ := mul_both zs ys
  obtain ⟨E4, n4, m4, D1, D2⟩ := div_both zs ys
  obtain ⟨E5, n5, G1, G2⟩ := gcd_both zs ys
  obtain ⟨v6, E6, I1, I2⟩ := int_both zs
  obtain ⟨S7, P1, P2⟩ := print_both zs
  have HA1 := Lib.hid A1
  have HA2 := Lib.hid A2
  have HB1 := Lib.hid B1
  have HB2 := Lib.hid B2
  have HC1 := Lib.hid C1
  have HC2 := Lib.hid C2
  have HD1 := Lib.hid D1
  have HD2 := Lib.hid D2
  have HG1 := Lib.hid G1
  have HG2 := Lib.hid G2
  have HI1 := Lib.hid I1
  have HI2 := Lib.hid I2
  have HP1 := Lib.hid P1
  have HP2 := Lib.hid P2
  clear vb hA hB A1 A2 B1 B2 C1 C2 D1 D2 G1 G2 I1 I2 P1 P2
  go_enter Tryd.func19, Tryd.ntmps19
  have e0_A := V_A.out.cell
  have e0_B := V_B.out.cell
  go_wp2_with fail
  refine (show Calls Tryd.prog 26 _ _ _ from HA1.out a b ca cb _ V_A.out.row V_B.out.row).mono ?_
  rintro e u1 ⟨⟨s_X, c_X, n_X, rfl, hr, hn⟩, hb⟩
  replace V_A := Lib.hid (V_A.out.below hb)
  replace V_B := Lib.hid (V_B.out.below hb)
  replace HB := Lib.hid (HB.out.trans (hb.mono HB.out.size))
  clear hb e0_A e0_B
  have o_X := V_B.out.lt
  replace V_A := Lib.hid (V_A.out.alloc (.cells #[(.slice s_X (M.dig n_X).length c_X)] 24))
  replace V_B := Lib.hid (V_B.out.alloc (.cells #[(.slice s_X (M.dig n_X).length c_X)] 24))
  have V_X := Lib.hid (Var.new hr)
  have F_X := Lib.hid (frozen_new u1 (.slice s_X (M.dig n_X).length c_X) 24)
  have N_X := Lib.hid hn
  replace HB := Lib.hid (HB.out.alloc HB.out.size (.cells #[(.slice s_X (M.dig n_X).length c_X)] 24))
  clear hr hn
  have e0_A := V_A.out.cell
  have e0_B := V_B.out.cell
  go_wp2_with fail
  refine (show Calls Tryd.prog 27 _ _ _ from HA2.out a b ca cb _ V_A.out.row V_B.out.row).mono ?_
  rintro e u2 ⟨⟨s_Y, c_Y, n_Y, rfl, hr, hn⟩, hb⟩
  replace V_A := Lib.hid (V_A.out.below hb)
  replace V_B := Lib.hid (V_B.out.below hb)
  replace F_X := Lib.hid (frozen_below hb V_X.out.cell F_X.out)
  replace V_X := Lib.hid (V_X.out.below hb)
  replace HB := Lib.hid (HB.out.trans (hb.mono HB.out.size))
  clear hb e0_A e0_B
  have o_Y := V_X.out.lt
  replace V_A := Lib.hid (V_A.out.alloc (.cells #[(.slice s_Y (M.dig n_Y).length c_Y)] 24))
  replace V_B := Lib.hid (V_B.out.alloc (.cells #[(.slice s_Y (M.dig n_Y).length c_Y)] 24))
  replace F_X := Lib.hid (frozen_later (.cells #[(.slice s_Y (M.dig n_Y).length c_Y)] 24) V_X.out.cell F_X.out)
  replace V_X := Lib.hid (V_X.out.alloc (.cells #[(.slice s_Y (M.dig n_Y).length c_Y)] 24))
  have V_Y := Lib.hid (Var.new hr)
  have F_Y := Lib.hid (frozen_new u2 (.slice s_Y (M.dig n_Y).length c_Y) 24)
  have N_Y := Lib.hid hn
  replace HB := Lib.hid (HB.out.alloc HB.out.size (.cells #[(.slice s_Y (M.dig n_Y).length c_Y)] 24))
  clear hr hn
  have e0_A := V_A.out.cell
  have e0_B := V_B.out.cell
  go_wp2_with fail
  refine (show Calls Tryd.prog 43 _ _ _ from HB1.out a b ca cb _ V_A.out.row V_B.out.row).mono ?_
  rintro e u3 ⟨⟨s_P, c_P, n_P, rfl, hr, hn⟩, hb⟩
  replace V_A := Lib.hid (V_A.out.below hb)
  replace V_B := Lib.hid (V_B.out.below hb)
  replace F_X := Lib.hid (frozen_below hb V_X.out.cell F_X.out)
  replace V_X := Lib.hid (V_X.out.below hb)
  replace F_Y := Lib.hid (frozen_below hb V_Y.out.cell F_Y.out)
  replace V_Y := Lib.hid (V_Y.out.below hb)
  replace HB := Lib.hid (HB.out.trans (hb.mono HB.out.size))
  clear hb e0_A e0_B
  have o_P := V_Y.out.lt
  replace V_A := Lib.hid (V_A.out.alloc (.cells #[(.slice s_P (M.dig n_P).length c_P)] 24))
  replace V_B := Lib.hid (V_B.out.alloc (.cells #[(.slice s_P (M.dig n_P).length c_P)] 24))
  replace F_X := Lib.hid (frozen_later (.cells #[(.slice s_P (M.dig n_P).length c_P)] 24) V_X.out.cell F_X.out)
  replace V_X := Lib.hid (V_X.out.alloc (.cells #[(.slice s_P (M.dig n_P).length c_P)] 24))
  replace F_Y := Lib.hid (frozen_later (.cells #[(.slice s_P (M.dig n_P).length c_P)] 24) V_Y.out.cell F_Y.out)
  replace V_Y := Lib.hid (V_Y.out.alloc (.cells #[(.slice s_P (M.dig n_P).length c_P)] 24))
  have V_P := Lib.hid (Var.new hr)
  have F_P := Lib.hid (frozen_new u3 (.slice s_P (M.dig n_P).length c_P) 24)
  have N_P := Lib.hid hn
  replace HB := Lib.hid (HB.out.alloc HB.out.size (.cells #[(.slice s_P (M.dig n_P).length c_P)] 24))
  clear hr hn
  have e0_A := V_A.out.cell
  have e0_B := V_B.out.cell
  go_wp2_with fail
  refine (show Calls Tryd.prog 63 _ _ _ from HB2.out a b ca cb _ V_A.out.row V_B.out.row).mono ?_
  rintro e u4 ⟨⟨s_Q, c_Q, n_Q, rfl, hr, hn⟩, hb⟩
  replace V_A := Lib.hid (V_A.out.below hb)
  replace V_B := Lib.hid (V_B.out.below hb)
  replace F_X := Lib.hid (frozen_below hb V_X.out.cell F_X.out)
  replace V_X := Lib.hid (V_X.out.below hb)
  replace F_Y := Lib.hid (frozen_below hb V_Y.out.cell F_Y.out)
  replace V_Y := Lib.hid (V_Y.out.below hb)
  replace F_P := Lib.hid (frozen_below hb V_P.out.cell F_P.out)
  replace V_P := Lib.hid (V_P.out.below hb)
  replace HB := Lib.hid (HB.out.trans (hb.mono HB.out.size))
  clear hb e0_A e0_B
  have o_Q := V_P.out.lt
  replace V_A := Lib.hid (V_A.out.alloc (.cells #[(.slice s_Q (M.dig n_Q).length c_Q)] 24))
  replace V_B := Lib.hid (V_B.out.alloc (.cells #[(.slice s_Q (M.dig n_Q).length c_Q)] 24))
  replace F_X := Lib.hid (frozen_later (.cells #[(.slice s_Q (M.dig n_Q).length c_Q)] 24) V_X.out.cell F_X.out)
  replace V_X := Lib.hid (V_X.out.alloc (.cells #[(.slice s_Q (M.dig n_Q).length c_Q)] 24))
  replace F_Y := Lib.hid (frozen_later (.cells #[(.slice s_Q (M.dig n_Q).length c_Q)] 24) V_Y.out.cell F_Y.out)
  replace V_Y := Lib.hid (V_Y.out.alloc (.cells #[(.slice s_Q (M.dig n_Q).length c_Q)] 24))
  replace F_P := Lib.hid (frozen_later (.cells #[(.slice s_Q (M.dig n_Q).length c_Q)] 24) V_P.out.cell F_P.out)
  replace V_P := Lib.hid (V_P.out.alloc (.cells #[(.slice s_Q (M.dig n_Q).length c_Q)] 24))
  have V_Q := Lib.hid (Var.new hr)
  have F_Q := Lib.hid (frozen_new u4 (.slice s_Q (M.dig n_Q).length c_Q) 24)
  have N_Q := Lib.hid hn
  replace HB := Lib.hid (HB.out.alloc HB.out.size (.cells #[(.slice s_Q (M.dig n_Q).length c_Q)] 24))
  clear hr hn
  have e0_A := V_A.out.cell
  have e0_B := V_B.out.cell
  go_wp2_with fail
  refine (show Calls Tryd.prog 28 _ _ _ from HC1.out a b ca cb _ V_A.out.row V_B.out.row).mono ?_
  rintro e u5 ⟨⟨s_U, c_U, n_U, rfl, hr, hn⟩, hb⟩
  replace V_A := Lib.hid (V_A.out.below hb)
  replace V_B := Lib.hid (V_B.out.below hb)
  replace F_X := Lib.hid (frozen_below hb V_X.out.cell F_X.out)
  replace V_X := Lib.hid (V_X.out.below hb)
  replace F_Y := Lib.hid (frozen_below hb V_Y.out.cell F_Y.out)
  replace V_Y := Lib.hid (V_Y.out.below hb)
  replace F_P := Lib.hid (frozen_below hb V_P.out.cell F_P.out)
  replace V_P := Lib.hid (V_P.out.below hb)
  replace F_Q := Lib.hid (frozen_below hb V_Q.out.cell F_Q.out)
  replace V_Q := Lib.hid (V_Q.out.below hb)
  replace HB := Lib.hid (HB.out.trans (hb.mono HB.out.size))
  clear hb e0_A e0_B
  have o_U := V_Q.out.lt
  replace V_A := Lib.hid (V_A.out.alloc (.cells #[(.slice s_U (M.dig n_U).length c_U)] 24))
  replace V_B := Lib.hid (V_B.out.alloc (.cells #[(.slice s_U (M.dig n_U).length c_U)] 24))
  replace F_X := Lib.hid (frozen_later (.cells #[(.slice s_U (M.dig n_U).length c_U)] 24) V_X.out.cell F_X.out)
  replace V_X := Lib.hid (V_X.out.alloc (.cells #[(.slice s_U (M.dig n_U).length c_U)] 24))
  replace F_Y := Lib.hid (frozen_later (.cells #[(.slice s_U (M.dig n_U).length c_U)] 24) V_Y.out.cell F_Y.out)
  replace V_Y := Lib.hid (V_Y.out.alloc (.cells #[(.slice s_U (M.dig n_U).length c_U)] 24))
  replace F_P := Lib.hid (frozen_later (.cells #[(.slice s_U (M.dig n_U).length c_U)] 24) V_P.out.cell F_P.out)
  replace V_P := Lib.hid (V_P.out.alloc (.cells #[(.slice s_U (M.dig n_U).length c_U)] 24))
  replace F_Q := Lib.hid (frozen_later (.cells #[(.slice s_U (M.dig n_U).length c_U)] 24) V_Q.out.cell F_Q.out)
  replace V_Q := Lib.hid (V_Q.out.alloc (.cells #[(.slice s_U (M.dig n_U).length c_U)] 24))
  have V_U := Lib.hid (Var.new hr)
  have F_U := Lib.hid (frozen_new u5 (.slice s_U (M.dig n_U).length c_U) 24)
  have N_U := Lib.hid hn
  replace HB := Lib.hid (HB.out.alloc HB.out.size (.cells #[(.slice s_U (M.dig n_U).length c_U)] 24))
  clear hr hn
  have e0_A := V_A.out.cell
  have e0_B := V_B.out.cell
  go_wp2_with fail
  refine (show Calls Tryd.prog 29 _ _ _ from HC2.out a b ca cb _ V_A.out.row V_B.out.row).mono ?_
  rintro e u6 ⟨⟨s_V, c_V, n_V, rfl, hr, hn⟩, hb⟩
  replace V_A := Lib.hid (V_A.out.below hb)
  replace V_B := Lib.hid (V_B.out.below hb)
  replace F_X := Lib.hid (frozen_below hb V_X.out.cell F_X.out)
  replace V_X := Lib.hid (V_X.out.below hb)
  replace F_Y := Lib.hid (frozen_below hb V_Y.out.cell F_Y.out)
  replace V_Y := Lib.hid (V_Y.out.below hb)
  replace F_P := Lib.hid (frozen_below hb V_P.out.cell F_P.out)
  replace V_P := Lib.hid (V_P.out.below hb)
  replace F_Q := Lib.hid (frozen_below hb V_Q.out.cell F_Q.out)
  replace V_Q := Lib.hid (V_Q.out.below hb)
  replace F_U := Lib.hid (frozen_below hb V_U.out.cell F_U.out)
  replace V_U := Lib.hid (V_U.out.below hb)
  replace HB := Lib.hid (HB.out.trans (hb.mono HB.out.size))
  clear hb e0_A e0_B
  have o_V := V_U.out.lt
  replace V_A := Lib.hid (V_A.out.alloc (.cells #[(.slice s_V (M.dig n_V).length c_V)] 24))
  replace V_B := Lib.hid (V_B.out.alloc (.cells #[(.slice s_V (M.dig n_V).length c_V)] 24))
  replace F_X := Lib.hid (frozen_later (.cells #[(.slice s_V (M.dig n_V).length c_V)] 24) V_X.out.cell F_X.out)
  replace V_X := Lib.hid (V_X.out.alloc (.cells #[(.slice s_V (M.dig n_V).length c_V)] 24))
  replace F_Y := Lib.hid (frozen_later (.cells #[(.slice s_V (M.dig n_V).length c_V)] 24) V_Y.out.cell F_Y.out)
  replace V_Y := Lib.hid (V_Y.out.alloc (.cells #[(.slice s_V (M.dig n_V).length c_V)] 24))
  replace F_P := Lib.hid (frozen_later (.cells #[(.slice s_V (M.dig n_V).length c_V)] 24) V_P.out.cell F_P.out)
  replace V_P := Lib.hid (V_P.out.alloc (.cells #[(.slice s_V (M.dig n_V).length c_V)] 24))
  replace F_Q := Lib.hid (frozen_later (.cells #[(.slice s_V (M.dig n_V).length c_V)] 24) V_Q.out.cell F_Q.out)
  replace V_Q := Lib.hid (V_Q.out.alloc (.cells #[(.slice s_V (M.dig n_V).length c_V)] 24))
  replace F_U := Lib.hid (frozen_later (.cells #[(.slice s_V (M.dig n_V).length c_V)] 24) V_U.out.cell F_U.out)
  replace V_U := Lib.hid (V_U.out.alloc (.cells #[(.slice s_V (M.dig n_V).length c_V)] 24))
  have V_V := Lib.hid (Var.new hr)
  have F_V := Lib.hid (frozen_new u6 (.slice s_V (M.dig n_V).length c_V) 24)
  have N_V := Lib.hid hn
  replace HB := Lib.hid (HB.out.alloc HB.out.size (.cells #[(.slice s_V (M.dig n_V).length c_V)] 24))
  clear hr hn
  have e0_X := V_X.out.cell
  have e0_Y := V_Y.out.cell
  go_wp2_with fail
  refine (show Calls Tryd.prog 30 _ _ _ from same_eq2 (N_X.out.trans N_Y.out.symm) V_X.out.row V_Y.out.row).mono ?_
  rintro e u7 ⟨rfl, hb⟩
  replace V_A := Lib.hid (V_A.out.below hb)
  replace V_B := Lib.hid (V_B.out.below hb)
  replace F_X := Lib.hid (frozen_below hb V_X.out.cell F_X.out)
  replace V_X := Lib.hid (V_X.out.below hb)
  replace F_Y := Lib.hid (frozen_below hb V_Y.out.cell F_Y.out)
  replace V_Y := Lib.hid (V_Y.out.below hb)
  replace F_P := Lib.hid (frozen_below hb V_P.out.cell F_P.out)
  replace V_P := Lib.hid (V_P.out.below hb)
  replace F_Q := Lib.hid (frozen_below hb V_Q.out.cell F_Q.out)
  replace V_Q := Lib.hid (V_Q.out.below hb)
  replace F_U := Lib.hid (frozen_below hb V_U.out.cell F_U.out)
  replace V_U := Lib.hid (V_U.out.below hb)
  replace F_V := Lib.hid (frozen_below hb V_V.out.cell F_V.out)
  replace V_V := Lib.hid (V_V.out.below hb)
  replace HB := Lib.hid (HB.out.trans (hb.mono HB.out.size))
  clear hb e0_X e0_Y
  have e0_P := V_P.out.cell
  have e0_Q := V_Q.out.cell
  go_wp2_with fail
  refine (show Calls Tryd.prog 30 _ _ _ from same_eq2 (N_P.out.trans N_Q.out.symm) V_P.out.row V_Q.out.row).mono ?_
  rintro e u8 ⟨rfl, hb⟩
  replace V_A := Lib.hid (V_A.out.below hb)
  replace V_B := Lib.hid (V_B.out.below hb)
  replace F_X := Lib.hid (frozen_below hb V_X.out.cell F_X.out)
  replace V_X := Lib.hid (V_X.out.below hb)
  replace F_Y := Lib.hid (frozen_below hb V_Y.out.cell F_Y.out)
  replace V_Y := Lib.hid (V_Y.out.below hb)
  replace F_P := Lib.hid (frozen_below hb V_P.out.cell F_P.out)
  replace V_P := Lib.hid (V_P.out.below hb)
  replace F_Q := Lib.hid (frozen_below hb V_Q.out.cell F_Q.out)
  replace V_Q := Lib.hid (V_Q.out.below hb)
  replace F_U := Lib.hid (frozen_below hb V_U.out.cell F_U.out)
  replace V_U := Lib.hid (V_U.out.below hb)
  replace F_V := Lib.hid (frozen_below hb V_V.out.cell F_V.out)
  replace V_V := Lib.hid (V_V.out.below hb)
  replace HB := Lib.hid (HB.out.trans (hb.mono HB.out.size))
  clear hb e0_P e0_Q
  have e0_U := V_U.out.cell
  have e0_V := V_V.out.cell
  go_wp2_with fail
  refine (show Calls Tryd.prog 30 _ _ _ from same_eq2 (N_U.out.trans N_V.out.symm) V_U.out.row V_V.out.row).mono ?_
  rintro e u9 ⟨rfl, hb⟩
  replace V_A := Lib.hid (V_A.out.below hb)
  replace V_B := Lib.hid (V_B.out.below hb)
  replace F_X := Lib.hid (frozen_below hb V_X.out.cell F_X.out)
  replace V_X := Lib.hid (V_X.out.below hb)
  replace F_Y := Lib.hid (frozen_below hb V_Y.out.cell F_Y.out)
  replace V_Y := Lib.hid (V_Y.out.below hb)
  replace F_P := Lib.hid (frozen_below hb V_P.out.cell F_P.out)
  replace V_P := Lib.hid (V_P.out.below hb)
  replace F_Q := Lib.hid (frozen_below hb V_Q.out.cell F_Q.out)
  replace V_Q := Lib.hid (V_Q.out.below hb)
  replace F_U := Lib.hid (frozen_below hb V_U.out.cell F_U.out)
  replace V_U := Lib.hid (V_U.out.below hb)
  replace F_V := Lib.hid (frozen_below hb V_V.out.cell F_V.out)
  replace V_V := Lib.hid (V_V.out.below hb)
  replace HB := Lib.hid (HB.out.trans (hb.mono HB.out.size))
  clear hb e0_U e0_V
  have e0_A := V_A.out.cell
  have e0_B := V_B.out.cell
  go_wp2_with fail
  refine (show Calls Tryd.prog 40 _ _ _ from HD1.out a b ca cb _ V_A.out.row V_B.out.row).mono ?_
  rintro e u10 ⟨⟨s_X1, c_X1, s_P1, c_P1, n_X1, n_P1, rfl, hr0, hr1, hn0, hn1⟩, hb⟩
  replace V_A := Lib.hid (V_A.out.below hb)
  replace V_B := Lib.hid (V_B.out.below hb)
  replace F_X := Lib.hid (frozen_below hb V_X.out.cell F_X.out)
  replace V_X := Lib.hid (V_X.out.below hb)
  replace F_Y := Lib.hid (frozen_below hb V_Y.out.cell F_Y.out)
  replace V_Y := Lib.hid (V_Y.out.below hb)
  replace F_P := Lib.hid (frozen_below hb V_P.out.cell F_P.out)
  replace V_P := Lib.hid (V_P.out.below hb)
  replace F_Q := Lib.hid (frozen_below hb V_Q.out.cell F_Q.out)
  replace V_Q := Lib.hid (V_Q.out.below hb)
  replace F_U := Lib.hid (frozen_below hb V_U.out.cell F_U.out)
  replace V_U := Lib.hid (V_U.out.below hb)
  replace F_V := Lib.hid (frozen_below hb V_V.out.cell F_V.out)
  replace V_V := Lib.hid (V_V.out.below hb)
  replace HB := Lib.hid (HB.out.trans (hb.mono HB.out.size))
  clear hb e0_A e0_B
  have q0 := V_X.out.cell
  have g0 := F_X.out
  have hr1' := hr1.storedAt q0 (.slice s_X1 (M.dig n_X1).length c_X1)
  clear hr1
  have hr1 := hr1'
  clear hr1'
  replace V_A := Lib.hid (V_A.out.beside q0 (by omega) (.slice s_X1 (M.dig n_X1).length c_X1))
  replace V_B := Lib.hid (V_B.out.beside q0 (by omega) (.slice s_X1 (M.dig n_X1).length c_X1))
  replace V_Y := Lib.hid (V_Y.out.beside q0 (by omega) (.slice s_X1 (M.dig n_X1).length c_X1))
  replace V_P := Lib.hid (V_P.out.beside q0 (by omega) (.slice s_X1 (M.dig n_X1).length c_X1))
  replace V_Q := Lib.hid (V_Q.out.beside q0 (by omega) (.slice s_X1 (M.dig n_X1).length c_X1))
  replace V_U := Lib.hid (V_U.out.beside q0 (by omega) (.slice s_X1 (M.dig n_X1).length c_X1))
  replace V_V := Lib.hid (V_V.out.beside q0 (by omega) (.slice s_X1 (M.dig n_X1).length c_X1))
  replace V_X := Lib.hid (V_X.out.store hr0)
  replace F_X := Lib.hid (show (u10.setCell ⟨u1.heap.size, 0, none⟩ (.slice s_X1 (M.dig n_X1).length c_X1)).frozen? ⟨u1.heap.size, 0, none⟩ = false from (World.frozen?_setCell _ _ _ _).trans F_X.out)
  replace F_Y := Lib.hid (show (u10.setCell ⟨u1.heap.size, 0, none⟩ (.slice s_X1 (M.dig n_X1).length c_X1)).frozen? ⟨u2.heap.size, 0, none⟩ = false from (World.frozen?_setCell _ _ _ _).trans F_Y.out)
  replace F_P := Lib.hid (show (u10.setCell ⟨u1.heap.size, 0, none⟩ (.slice s_X1 (M.dig n_X1).length c_X1)).frozen? ⟨u3.heap.size, 0, none⟩ = false from (World.frozen?_setCell _ _ _ _).trans F_P.out)
  replace F_Q := Lib.hid (show (u10.setCell ⟨u1.heap.size, 0, none⟩ (.slice s_X1 (M.dig n_X1).length c_X1)).frozen? ⟨u4.heap.size, 0, none⟩ = false from (World.frozen?_setCell _ _ _ _).trans F_Q.out)
  replace F_U := Lib.hid (show (u10.setCell ⟨u1.heap.size, 0, none⟩ (.slice s_X1 (M.dig n_X1).length c_X1)).frozen? ⟨u5.heap.size, 0, none⟩ = false from (World.frozen?_setCell _ _ _ _).trans F_U.out)
  replace F_V := Lib.hid (show (u10.setCell ⟨u1.heap.size, 0, none⟩ (.slice s_X1 (M.dig n_X1).length c_X1)).frozen? ⟨u6.heap.size, 0, none⟩ = false from (World.frozen?_setCell _ _ _ _).trans F_V.out)
  replace HB := Lib.hid (HB.out.setCell (p := ⟨u1.heap.size, 0, none⟩) (by show w.heap.size ≤ u1.heap.size; omega) (.slice s_X1 (M.dig n_X1).length c_X1))
  have N_X1 := Lib.hid hn0
  clear hr0 hn0
  have q1 := V_P.out.cell
  have g1 := F_P.out
  replace V_A := Lib.hid (V_A.out.beside q1 (by omega) (.slice s_P1 (M.dig n_P1).length c_P1))
  replace V_B := Lib.hid (V_B.out.beside q1 (by omega) (.slice s_P1 (M.dig n_P1).length c_P1))
  replace V_X := Lib.hid (V_X.out.beside q1 (by omega) (.slice s_P1 (M.dig n_P1).length c_P1))
  replace V_Y := Lib.hid (V_Y.out.beside q1 (by omega) (.slice s_P1 (M.dig n_P1).length c_P1))
  replace V_Q := Lib.hid (V_Q.out.beside q1 (by omega) (.slice s_P1 (M.dig n_P1).length c_P1))
  replace V_U := Lib.hid (V_U.out.beside q1 (by omega) (.slice s_P1 (M.dig n_P1).length c_P1))
  replace V_V := Lib.hid (V_V.out.beside q1 (by omega) (.slice s_P1 (M.dig n_P1).length c_P1))
  replace V_P := Lib.hid (V_P.out.store hr1)
  replace F_X := Lib.hid (show ((u10.setCell ⟨u1.heap.size, 0, none⟩ (.slice s_X1 (M.dig n_X1).length c_X1)).setCell ⟨u3.heap.size, 0, none⟩ (.slice s_P1 (M.dig n_P1).length c_P1)).frozen? ⟨u1.heap.size, 0, none⟩ = false from (World.frozen?_setCell _ _ _ _).trans F_X.out)
  replace F_Y := Lib.hid (show ((u10.setCell ⟨u1.heap.size, 0, none⟩ (.slice s_X1 (M.dig n_X1).length c_X1)).setCell ⟨u3.heap.size, 0, none⟩ (.slice s_P1 (M.dig n_P1).length c_P1)).frozen? ⟨u2.heap.size, 0, none⟩ = false from (World.frozen?_setCell _ _ _ _).trans F_Y.out)
  replace F_P := Lib.hid (show ((u10.setCell ⟨u1.heap.size, 0, none⟩ (.slice s_X1 (M.dig n_X1).length c_X1)).setCell ⟨u3.heap.size, 0, none⟩ (.slice s_P1 (M.dig n_P1).length c_P1)).frozen? ⟨u3.heap.size, 0, none⟩ = false from (World.frozen?_setCell _ _ _ _).trans F_P.out)
  replace F_Q := Lib.hid (show ((u10.setCell ⟨u1.heap.size, 0, none⟩ (.slice s_X1 (M.dig n_X1).length c_X1)).setCell ⟨u3.heap.size, 0, none⟩ (.slice s_P1 (M.dig n_P1).length c_P1)).frozen? ⟨u4.heap.size, 0, none⟩ = false from (World.frozen?_setCell _ _ _ _).trans F_Q.out)
  replace F_U := Lib.hid (show ((u10.setCell ⟨u1.heap.size, 0, none⟩ (.slice s_X1 (M.dig n_X1).length c_X1)).setCell ⟨u3.heap.size, 0, none⟩ (.slice s_P1 (M.dig n_P1).length c_P1)).frozen? ⟨u5.heap.size, 0, none⟩ = false from (World.frozen?_setCell _ _ _ _).trans F_U.out)
  replace F_V := Lib.hid (show ((u10.setCell ⟨u1.heap.size, 0, none⟩ (.slice s_X1 (M.dig n_X1).length c_X1)).setCell ⟨u3.heap.size, 0, none⟩ (.slice s_P1 (M.dig n_P1).length c_P1)).frozen? ⟨u6.heap.size, 0, none⟩ = false from (World.frozen?_setCell _ _ _ _).trans F_V.out)
  replace HB := Lib.hid (HB.out.setCell (p := ⟨u3.heap.size, 0, none⟩) (by show w.heap.size ≤ u3.heap.size; omega) (.slice s_P1 (M.dig n_P1).length c_P1))
  have N_P1 := Lib.hid hn1
  clear hr1 hn1
  go_upto_region 10 with fail
  clear q0 g0 q1 g1
  generalize ((u10.setCell ⟨u1.heap.size, 0, none⟩ (.slice s_X1 (M.dig n_X1).length c_X1)).setCell ⟨u3.heap.size, 0, none⟩ (.slice s_P1 (M.dig n_P1).length c_P1)) = u11 at *
  have e0_A := V_A.out.cell
  have e0_B := V_B.out.cell
  go_wp2_with fail
  refine (show Calls Tryd.prog 64 _ _ _ from HD2.out a b ca cb _ V_A.out.row V_B.out.row).mono ?_
  rintro e u12 ⟨⟨s_Y1, c_Y1, s_Q1, c_Q1, n_Y1, n_Q1, rfl, hr0, hr1, hn0, hn1⟩, hb⟩
  replace V_A := Lib.hid (V_A.out.below hb)
  replace V_B := Lib.hid (V_B.out.below hb)
  replace F_X := Lib.hid (frozen_below hb V_X.out.cell F_X.out)
  replace V_X := Lib.hid (V_X.out.below hb)
  replace F_Y := Lib.hid (frozen_below hb V_Y.out.cell F_Y.out)
  replace V_Y := Lib.hid (V_Y.out.below hb)
  replace F_P := Lib.hid (frozen_below hb V_P.out.cell F_P.out)
  replace V_P := Lib.hid (V_P.out.below hb)
  replace F_Q := Lib.hid (frozen_below hb V_Q.out.cell F_Q.out)
  replace V_Q := Lib.hid (V_Q.out.below hb)
  replace F_U := Lib.hid (frozen_below hb V_U.out.cell F_U.out)
  replace V_U := Lib.hid (V_U.out.below hb)
  replace F_V := Lib.hid (frozen_below hb V_V.out.cell F_V.out)
  replace V_V := Lib.hid (V_V.out.below hb)
  replace HB := Lib.hid (HB.out.trans (hb.mono HB.out.size))
  clear hb e0_A e0_B
  have q0 := V_Y.out.cell
  have g0 := F_Y.out
  have hr1' := hr1.storedAt q0 (.slice s_Y1 (M.dig n_Y1).length c_Y1)
  clear hr1
  have hr1 := hr1'
  clear hr1'
  replace V_A := Lib.hid (V_A.out.beside q0 (by omega) (.slice s_Y1 (M.dig n_Y1).length c_Y1))
  replace V_B := Lib.hid (V_B.out.beside q0 (by omega) (.slice s_Y1 (M.dig n_Y1).length c_Y1))
  replace V_X := Lib.hid (V_X.out.beside q0 (by omega) (.slice s_Y1 (M.dig n_Y1).length c_Y1))
  replace V_P := Lib.hid (V_P.out.beside q0 (by omega) (.slice s_Y1 (M.dig n_Y1).length c_Y1))
  replace V_Q := Lib.hid (V_Q.out.beside q0 (by omega) (.slice s_Y1 (M.dig n_Y1).length c_Y1))
  replace V_U := Lib.hid (V_U.out.beside q0 (by omega) (.slice s_Y1 (M.dig n_Y1).length c_Y1))
  replace V_V := Lib.hid (V_V.out.beside q0 (by omega) (.slice s_Y1 (M.dig n_Y1).length c_Y1))
  replace V_Y := Lib.hid (V_Y.out.store hr0)
  replace F_X := Lib.hid (show (u12.setCell ⟨u2.heap.size, 0, none⟩ (.slice s_Y1 (M.dig n_Y1).length c_Y1)).frozen? ⟨u1.heap.size, 0, none⟩ = false from (World.frozen?_setCell _ _ _ _).trans F_X.out)
  replace F_Y := Lib.hid (show (u12.setCell ⟨u2.heap.size, 0, none⟩ (.slice s_Y1 (M.dig n_Y1).length c_Y1)).frozen? ⟨u2.heap.size, 0, none⟩ = false from (World.frozen?_setCell _ _ _ _).trans F_Y.out)
  replace F_P := Lib.hid (show (u12.setCell ⟨u2.heap.size, 0, none⟩ (.slice s_Y1 (M.dig n_Y1).length c_Y1)).frozen? ⟨u3.heap.size, 0, none⟩ = false from (World.frozen?_setCell _ _ _ _).trans F_P.out)
  replace F_Q := Lib.hid (show (u12.setCell ⟨u2.heap.size, 0, none⟩ (.slice s_Y1 (M.dig n_Y1).length c_Y1)).frozen? ⟨u4.heap.size, 0, none⟩ = false from (World.frozen?_setCell _ _ _ _).trans F_Q.out)
  replace F_U := Lib.hid (show (u12.setCell ⟨u2.heap.size, 0, none⟩ (.slice s_Y1 (M.dig n_Y1).length c_Y1)).frozen? ⟨u5.heap.size, 0, none⟩ = false from (World.frozen?_setCell _ _ _ _).trans F_U.out)
  replace F_V := Lib.hid (show (u12.setCell ⟨u2.heap.size, 0, none⟩ (.slice s_Y1 (M.dig n_Y1).length c_Y1)).frozen? ⟨u6.heap.size, 0, none⟩ = false from (World.frozen?_setCell _ _ _ _).trans F_V.out)
  replace HB := Lib.hid (HB.out.setCell (p := ⟨u2.heap.size, 0, none⟩) (by show w.heap.size ≤ u2.heap.size; omega) (.slice s_Y1 (M.dig n_Y1).length c_Y1))
  have N_Y1 := Lib.hid hn0
  clear hr0 hn0
  have q1 := V_Q.out.cell
  have g1 := F_Q.out
  replace V_A := Lib.hid (V_A.out.beside q1 (by omega) (.slice s_Q1 (M.dig n_Q1).length c_Q1))
  replace V_B := Lib.hid (V_B.out.beside q1 (by omega) (.slice s_Q1 (M.dig n_Q1).length c_Q1))
  replace V_X := Lib.hid (V_X.out.beside q1 (by omega) (.slice s_Q1 (M.dig n_Q1).length c_Q1))
  replace V_Y := Lib.hid (V_Y.out.beside q1 (by omega) (.slice s_Q1 (M.dig n_Q1).length c_Q1))
  replace V_P := Lib.hid (V_P.out.beside q1 (by omega) (.slice s_Q1 (M.dig n_Q1).length c_Q1))
  replace V_U := Lib.hid (V_U.out.beside q1 (by omega) (.slice s_Q1 (M.dig n_Q1).length c_Q1))
  replace V_V := Lib.hid (V_V.out.beside q1 (by omega) (.slice s_Q1 (M.dig n_Q1).length c_Q1))
  replace V_Q := Lib.hid (V_Q.out.store hr1)
  replace F_X := Lib.hid (show ((u12.setCell ⟨u2.heap.size, 0, none⟩ (.slice s_Y1 (M.dig n_Y1).length c_Y1)).setCell ⟨u4.heap.size, 0, none⟩ (.slice s_Q1 (M.dig n_Q1).length c_Q1)).frozen? ⟨u1.heap.size, 0, none⟩ = false from (World.frozen?_setCell _ _ _ _).trans F_X.out)
  replace F_Y := Lib.hid (show ((u12.setCell ⟨u2.heap.size, 0, none⟩ (.slice s_Y1 (M.dig n_Y1).length c_Y1)).setCell ⟨u4.heap.size, 0, none⟩ (.slice s_Q1 (M.dig n_Q1).length c_Q1)).frozen? ⟨u2.heap.size, 0, none⟩ = false from (World.frozen?_setCell _ _ _ _).trans F_Y.out)
  replace F_P := Lib.hid (show ((u12.setCell ⟨u2.heap.size, 0, none⟩ (.slice s_Y1 (M.dig n_Y1).length c_Y1)).setCell ⟨u4.heap.size, 0, none⟩ (.slice s_Q1 (M.dig n_Q1).length c_Q1)).frozen? ⟨u3.heap.size, 0, none⟩ = false from (World.frozen?_setCell _ _ _ _).trans F_P.out)
  replace F_Q := Lib.hid (show ((u12.setCell ⟨u2.heap.size, 0, none⟩ (.slice s_Y1 (M.dig n_Y1).length c_Y1)).setCell ⟨u4.heap.size, 0, none⟩ (.slice s_Q1 (M.dig n_Q1).length c_Q1)).frozen? ⟨u4.heap.size, 0, none⟩ = false from (World.frozen?_setCell _ _ _ _).trans F_Q.out)
  replace F_U := Lib.hid (show ((u12.setCell ⟨u2.heap.size, 0, none⟩ (.slice s_Y1 (M.dig n_Y1).length c_Y1)).setCell ⟨u4.heap.size, 0, none⟩ (.slice s_Q1 (M.dig n_Q1).length c_Q1)).frozen? ⟨u5.heap.size, 0, none⟩ = false from (World.frozen?_setCell _ _ _ _).trans F_U.out)
  replace F_V := Lib.hid (show ((u12.setCell ⟨u2.heap.size, 0, none⟩ (.slice s_Y1 (M.dig n_Y1).length c_Y1)).setCell ⟨u4.heap.size, 0, none⟩ (.slice s_Q1 (M.dig n_Q1).length c_Q1)).frozen? ⟨u6.heap.size, 0, none⟩ = false from (World.frozen?_setCell _ _ _ _).trans F_V.out)
  replace HB := Lib.hid (HB.out.setCell (p := ⟨u4.heap.size, 0, none⟩) (by show w.heap.size ≤ u4.heap.size; omega) (.slice s_Q1 (M.dig n_Q1).length c_Q1))
  have N_Q1 := Lib.hid hn1
  clear hr1 hn1
  go_upto_region 11 with fail
  clear q0 g0 q1 g1
  generalize ((u12.setCell ⟨u2.heap.size, 0, none⟩ (.slice s_Y1 (M.dig n_Y1).length c_Y1)).setCell ⟨u4.heap.size, 0, none⟩ (.slice s_Q1 (M.dig n_Q1).length c_Q1)) = u13 at *
  have e0_A := V_A.out.cell
  have e0_B := V_B.out.cell
  go_wp2_with fail
  refine (show Calls Tryd.prog 44 _ _ _ from HG1.out a b ca cb _ V_A.out.row V_B.out.row).mono ?_
  rintro e u14 ⟨⟨s_U1, c_U1, n_U1, rfl, hr0, hn0⟩, hb⟩
  replace V_A := Lib.hid (V_A.out.below hb)
  replace V_B := Lib.hid (V_B.out.below hb)
  replace F_X := Lib.hid (frozen_below hb V_X.out.cell F_X.out)
  replace V_X := Lib.hid (V_X.out.below hb)
  replace F_Y := Lib.hid (frozen_below hb V_Y.out.cell F_Y.out)
  replace V_Y := Lib.hid (V_Y.out.below hb)
  replace F_P := Lib.hid (frozen_below hb V_P.out.cell F_P.out)
  replace V_P := Lib.hid (V_P.out.below hb)
  replace F_Q := Lib.hid (frozen_below hb V_Q.out.cell F_Q.out)
  replace V_Q := Lib.hid (V_Q.out.below hb)
  replace F_U := Lib.hid (frozen_below hb V_U.out.cell F_U.out)
  replace V_U := Lib.hid (V_U.out.below hb)
  replace F_V := Lib.hid (frozen_below hb V_V.out.cell F_V.out)
  replace V_V := Lib.hid (V_V.out.below hb)
  replace HB := Lib.hid (HB.out.trans (hb.mono HB.out.size))
  clear hb e0_A e0_B
  have q0 := V_U.out.cell
  have g0 := F_U.out
  replace V_A := Lib.hid (V_A.out.beside q0 (by omega) (.slice s_U1 (M.dig n_U1).length c_U1))
  replace V_B := Lib.hid (V_B.out.beside q0 (by omega) (.slice s_U1 (M.dig n_U1).length c_U1))
  replace V_X := Lib.hid (V_X.out.beside q0 (by omega) (.slice s_U1 (M.dig n_U1).length c_U1))
  replace V_Y := Lib.hid (V_Y.out.beside q0 (by omega) (.slice s_U1 (M.dig n_U1).length c_U1))
  replace V_P := Lib.hid (V_P.out.beside q0 (by omega) (.slice s_U1 (M.dig n_U1).length c_U1))
  replace V_Q := Lib.hid (V_Q.out.beside q0 (by omega) (.slice s_U1 (M.dig n_U1).length c_U1))
  replace V_V := Lib.hid (V_V.out.beside q0 (by omega) (.slice s_U1 (M.dig n_U1).length c_U1))
  replace V_U := Lib.hid (V_U.out.store hr0)
  replace F_X := Lib.hid (show (u14.setCell ⟨u5.heap.size, 0, none⟩ (.slice s_U1 (M.dig n_U1).length c_U1)).frozen? ⟨u1.heap.size, 0, none⟩ = false from (World.frozen?_setCell _ _ _ _).trans F_X.out)
  replace F_Y := Lib.hid (show (u14.setCell ⟨u5.heap.size, 0, none⟩ (.slice s_U1 (M.dig n_U1).length c_U1)).frozen? ⟨u2.heap.size, 0, none⟩ = false from (World.frozen?_setCell _ _ _ _).trans F_Y.out)
  replace F_P := Lib.hid (show (u14.setCell ⟨u5.heap.size, 0, none⟩ (.slice s_U1 (M.dig n_U1).length c_U1)).frozen? ⟨u3.heap.size, 0, none⟩ = false from (World.frozen?_setCell _ _ _ _).trans F_P.out)
  replace F_Q := Lib.hid (show (u14.setCell ⟨u5.heap.size, 0, none⟩ (.slice s_U1 (M.dig n_U1).length c_U1)).frozen? ⟨u4.heap.size, 0, none⟩ = false from (World.frozen?_setCell _ _ _ _).trans F_Q.out)
  replace F_U := Lib.hid (show (u14.setCell ⟨u5.heap.size, 0, none⟩ (.slice s_U1 (M.dig n_U1).length c_U1)).frozen? ⟨u5.heap.size, 0, none⟩ = false from (World.frozen?_setCell _ _ _ _).trans F_U.out)
  replace F_V := Lib.hid (show (u14.setCell ⟨u5.heap.size, 0, none⟩ (.slice s_U1 (M.dig n_U1).length c_U1)).frozen? ⟨u6.heap.size, 0, none⟩ = false from (World.frozen?_setCell _ _ _ _).trans F_V.out)
  replace HB := Lib.hid (HB.out.setCell (p := ⟨u5.heap.size, 0, none⟩) (by show w.heap.size ≤ u5.heap.size; omega) (.slice s_U1 (M.dig n_U1).length c_U1))
  have N_U1 := Lib.hid hn0
  clear hr0 hn0
  go_upto_region 12 with fail
  clear q0 g0
  generalize (u14.setCell ⟨u5.heap.size, 0, none⟩ (.slice s_U1 (M.dig n_U1).length c_U1)) = u15 at *
  have e0_A := V_A.out.cell
  have e0_B := V_B.out.cell
  go_wp2_with fail
  refine (show Calls Tryd.prog 65 _ _ _ from HG2.out a b ca cb _ V_A.out.row V_B.out.row).mono ?_
  rintro e u16 ⟨⟨s_V1, c_V1, n_V1, rfl, hr0, hn0⟩, hb⟩
  replace V_A := Lib.hid (V_A.out.below hb)
  replace V_B := Lib.hid (V_B.out.below hb)
  replace F_X := Lib.hid (frozen_below hb V_X.out.cell F_X.out)
  replace V_X := Lib.hid (V_X.out.below hb)
  replace F_Y := Lib.hid (frozen_below hb V_Y.out.cell F_Y.out)
  replace V_Y := Lib.hid (V_Y.out.below hb)
  replace F_P := Lib.hid (frozen_below hb V_P.out.cell F_P.out)
  replace V_P := Lib.hid (V_P.out.below hb)
  replace F_Q := Lib.hid (frozen_below hb V_Q.out.cell F_Q.out)
  replace V_Q := Lib.hid (V_Q.out.below hb)
  replace F_U := Lib.hid (frozen_below hb V_U.out.cell F_U.out)
  replace V_U := Lib.hid (V_U.out.below hb)
  replace F_V := Lib.hid (frozen_below hb V_V.out.cell F_V.out)
  replace V_V := Lib.hid (V_V.out.below hb)
  replace HB := Lib.hid (HB.out.trans (hb.mono HB.out.size))
  clear hb e0_A e0_B
  have q0 := V_V.out.cell
  have g0 := F_V.out
  replace V_A := Lib.hid (V_A.out.beside q0 (by omega) (.slice s_V1 (M.dig n_V1).length c_V1))
  replace V_B := Lib.hid (V_B.out.beside q0 (by omega) (.slice s_V1 (M.dig n_V1).length c_V1))
  replace V_X := Lib.hid (V_X.out.beside q0 (by omega) (.slice s_V1 (M.dig n_V1).length c_V1))
  replace V_Y := Lib.hid (V_Y.out.beside q0 (by omega) (.slice s_V1 (M.dig n_V1).length c_V1))
  replace V_P := Lib.hid (V_P.out.beside q0 (by omega) (.slice s_V1 (M.dig n_V1).length c_V1))
  replace V_Q := Lib.hid (V_Q.out.beside q0 (by omega) (.slice s_V1 (M.dig n_V1).length c_V1))
  replace V_U := Lib.hid (V_U.out.beside q0 (by omega) (.slice s_V1 (M.dig n_V1).length c_V1))
  replace V_V := Lib.hid (V_V.out.store hr0)
  replace F_X := Lib.hid (show (u16.setCell ⟨u6.heap.size, 0, none⟩ (.slice s_V1 (M.dig n_V1).length c_V1)).frozen? ⟨u1.heap.size, 0, none⟩ = false from (World.frozen?_setCell _ _ _ _).trans F_X.out)
  replace F_Y := Lib.hid (show (u16.setCell ⟨u6.heap.size, 0, none⟩ (.slice s_V1 (M.dig n_V1).length c_V1)).frozen? ⟨u2.heap.size, 0, none⟩ = false from (World.frozen?_setCell _ _ _ _).trans F_Y.out)
  replace F_P := Lib.hid (show (u16.setCell ⟨u6.heap.size, 0, none⟩ (.slice s_V1 (M.dig n_V1).length c_V1)).frozen? ⟨u3.heap.size, 0, none⟩ = false from (World.frozen?_setCell _ _ _ _).trans F_P.out)
  replace F_Q := Lib.hid (show (u16.setCell ⟨u6.heap.size, 0, none⟩ (.slice s_V1 (M.dig n_V1).length c_V1)).frozen? ⟨u4.heap.size, 0, none⟩ = false from (World.frozen?_setCell _ _ _ _).trans F_Q.out)
  replace F_U := Lib.hid (show (u16.setCell ⟨u6.heap.size, 0, none⟩ (.slice s_V1 (M.dig n_V1).length c_V1)).frozen? ⟨u5.heap.size, 0, none⟩ = false from (World.frozen?_setCell _ _ _ _).trans F_U.out)
  replace F_V := Lib.hid (show (u16.setCell ⟨u6.heap.size, 0, none⟩ (.slice s_V1 (M.dig n_V1).length c_V1)).frozen? ⟨u6.heap.size, 0, none⟩ = false from (World.frozen?_setCell _ _ _ _).trans F_V.out)
  replace HB := Lib.hid (HB.out.setCell (p := ⟨u6.heap.size, 0, none⟩) (by show w.heap.size ≤ u6.heap.size; omega) (.slice s_V1 (M.dig n_V1).length c_V1))
  have N_V1 := Lib.hid hn0
  clear hr0 hn0
  go_upto_region 13 with fail
  clear q0 g0
  generalize (u16.setCell ⟨u6.heap.size, 0, none⟩ (.slice s_V1 (M.dig n_V1).length c_V1)) = u17 at *
  have e0_A := V_A.out.cell
  go_wp2_with fail
  refine (show Calls Tryd.prog 46 _ _ _ from HI1.out a ca _ V_A.out.row).mono ?_
  rintro e u18 ⟨rfl, hb⟩
  replace V_A := Lib.hid (V_A.out.below hb)
  replace V_B := Lib.hid (V_B.out.below hb)
  replace F_X := Lib.hid (frozen_below hb V_X.out.cell F_X.out)
  replace V_X := Lib.hid (V_X.out.below hb)
  replace F_Y := Lib.hid (frozen_below hb V_Y.out.cell F_Y.out)
  replace V_Y := Lib.hid (V_Y.out.below hb)
  replace F_P := Lib.hid (frozen_below hb V_P.out.cell F_P.out)
  replace V_P := Lib.hid (V_P.out.below hb)
  replace F_Q := Lib.hid (frozen_below hb V_Q.out.cell F_Q.out)
  replace V_Q := Lib.hid (V_Q.out.below hb)
  replace F_U := Lib.hid (frozen_below hb V_U.out.cell F_U.out)
  replace V_U := Lib.hid (V_U.out.below hb)
  replace F_V := Lib.hid (frozen_below hb V_V.out.cell F_V.out)
  replace V_V := Lib.hid (V_V.out.below hb)
  replace HB := Lib.hid (HB.out.trans (hb.mono HB.out.size))
  clear hb e0_A
  have e0_A := V_A.out.cell
  go_wp2_with fail
  refine (show Calls Tryd.prog 66 _ _ _ from HI2.out a ca _ V_A.out.row).mono ?_
  rintro e u19 ⟨rfl, hb⟩
  replace V_A := Lib.hid (V_A.out.below hb)
  replace V_B := Lib.hid (V_B.out.below hb)
  replace F_X := Lib.hid (frozen_below hb V_X.out.cell F_X.out)
  replace V_X := Lib.hid (V_X.out.below hb)
  replace F_Y := Lib.hid (frozen_below hb V_Y.out.cell F_Y.out)
  replace V_Y := Lib.hid (V_Y.out.below hb)
  replace F_P := Lib.hid (frozen_below hb V_P.out.cell F_P.out)
  replace V_P := Lib.hid (V_P.out.below hb)
  replace F_Q := Lib.hid (frozen_below hb V_Q.out.cell F_Q.out)
  replace V_Q := Lib.hid (V_Q.out.below hb)
  replace F_U := Lib.hid (frozen_below hb V_U.out.cell F_U.out)
  replace V_U := Lib.hid (V_U.out.below hb)
  replace F_V := Lib.hid (frozen_below hb V_V.out.cell F_V.out)
  replace V_V := Lib.hid (V_V.out.below hb)
  replace HB := Lib.hid (HB.out.trans (hb.mono HB.out.size))
  clear hb e0_A
  go_upto_region 15 with fail
  simp only [List.append_eq, List.cons_append, List.nil_append]
  by_cases va : Vld zs
  · by_cases vb : Vld ys
    · have VA := Lib.hid va
      have VB := Lib.hid vb
      clear va vb
      obtain ⟨x, rfl, hx⟩ := vld_num VA.out
      obtain ⟨y, rfl, hy⟩ := vld_num VB.out
      clear hx hy
      have HO := Over.one u19
      have hA : ∀ n : Over u19, n.w.cell? ⟨w.heap.size, 0, none⟩ = some (.slice a (M.dig x).length ca) := fun n => cell_below n.h V_A.out.cell
      have rA := Lib.hid (fun n : Over u19 => V_A.out.row.below n.h)
      have hB : ∀ n : Over u19, n.w.cell? ⟨w.heap.size + 1, 0, none⟩ = some (.slice b (M.dig y).length cb) := fun n => cell_below n.h V_B.out.cell
      have rB := Lib.hid (fun n : Over u19 => V_B.out.row.below n.h)
      have hX : ∀ n : Over u19, n.w.cell? ⟨u1.heap.size, 0, none⟩ = some (.slice s_X1 (M.dig n_X1).length c_X1) := fun n => cell_below n.h V_X.out.cell
      have rX := Lib.hid (fun n : Over u19 => V_X.out.row.below n.h)
      have hY : ∀ n : Over u19, n.w.cell? ⟨u2.heap.size, 0, none⟩ = some (.slice s_Y1 (M.dig n_Y1).length c_Y1) := fun n => cell_below n.h V_Y.out.cell
      have rY := Lib.hid (fun n : Over u19 => V_Y.out.row.below n.h)
      have hP : ∀ n : Over u19, n.w.cell? ⟨u3.heap.size, 0, none⟩ = some (.slice s_P1 (M.dig n_P1).length c_P1) := fun n => cell_below n.h V_P.out.cell
      have rP := Lib.hid (fun n : Over u19 => V_P.out.row.below n.h)
      have hQ : ∀ n : Over u19, n.w.cell? ⟨u4.heap.size, 0, none⟩ = some (.slice s_Q1 (M.dig n_Q1).length c_Q1) := fun n => cell_below n.h V_Q.out.cell
      have rQ := Lib.hid (fun n : Over u19 => V_Q.out.row.below n.h)
      have hU : ∀ n : Over u19, n.w.cell? ⟨u5.heap.size, 0, none⟩ = some (.slice s_U1 (M.dig n_U1).length c_U1) := fun n => cell_below n.h V_U.out.cell
      have rU := Lib.hid (fun n : Over u19 => V_U.out.row.below n.h)
      have hV : ∀ n : Over u19, n.w.cell? ⟨u6.heap.size, 0, none⟩ = some (.slice s_V1 (M.dig n_V1).length c_V1) := fun n => cell_below n.h V_V.out.cell
      have rV := Lib.hid (fun n : Over u19 => V_V.out.row.below n.h)
      refine wp_region_over (by kernel_rfl) (by kernel_rfl) ?_
      repeat (go_big_quiet_step (first | exact fun _ => rfl | rfl | (with_reducible exact quiet_over (same_eq2 (N_X1.out.trans N_Y1.out.symm) (rX.out _) (rY.out _))) | (with_reducible exact quiet_over (same_eq2 (N_P1.out.trans N_Q1.out.symm) (rP.out _) (rQ.out _))) | (with_reducible exact quiet_over (same_eq2 (N_U1.out.trans N_V1.out.symm) (rU.out _) (rV.out _))) | (with_reducible exact quiet_over (valid_yes a _ ca _ (rA.out _) VA.out)) | (with_reducible exact quiet_over (rvalid_yes a _ ca _ (rA.out _) VA.out)) | (with_reducible exact quiet_over (HP1.out a ca _ (rA.out _))) | (with_reducible exact quiet_over (HP2.out a ca _ (rA.out _))) | (with_reducible exact quiet_over (rvalid_yes b _ cb _ (rB.out _) VB.out)) | (with_reducible exact quiet_over (cmp_any a b ca cb x y _ (rA.out _) (rB.out _))) | (with_reducible exact quiet_over (rcmp_any a b ca cb x y _ (rA.out _) (rB.out _)))))
      refine wpQuiet_nil ?_
      intro _ hw'
      obtain ⟨nq, rfl⟩ := hw'
      replace HB := Lib.hid (HB.out.trans (nq.h.mono HB.out.size))
      go_wp2_with fail
      go_ret
      exact ⟨rfl, HB.out⟩
    · have VA := Lib.hid va
      have VB := Lib.hid vb
      clear va vb
      have HO := Over.one u19
      have hA : ∀ n : Over u19, n.w.cell? ⟨w.heap.size, 0, none⟩ = some (.slice a zs.length ca) := fun n => cell_below n.h V_A.out.cell
      have rA := Lib.hid (fun n : Over u19 => V_A.out.row.below n.h)
      have hB : ∀ n : Over u19, n.w.cell? ⟨w.heap.size + 1, 0, none⟩ = some (.slice b ys.length cb) := fun n => cell_below n.h V_B.out.cell
      have rB := Lib.hid (fun n : Over u19 => V_B.out.row.below n.h)
      have hX : ∀ n : Over u19, n.w.cell? ⟨u1.heap.size, 0, none⟩ = some (.slice s_X1 (M.dig n_X1).length c_X1) := fun n => cell_below n.h V_X.out.cell
      have rX := Lib.hid (fun n : Over u19 => V_X.out.row.below n.h)
      have hY : ∀ n : Over u19, n.w.cell? ⟨u2.heap.size, 0, none⟩ = some (.slice s_Y1 (M.dig n_Y1).length c_Y1) := fun n => cell_below n.h V_Y.out.cell
      have rY := Lib.hid (fun n : Over u19 => V_Y.out.row.below n.h)
      have hP : ∀ n : Over u19, n.w.cell? ⟨u3.heap.size, 0, none⟩ = some (.slice s_P1 (M.dig n_P1).length c_P1) := fun n => cell_below n.h V_P.out.cell
      have rP := Lib.hid (fun n : Over u19 => V_P.out.row.below n.h)
      have hQ : ∀ n : Over u19, n.w.cell? ⟨u4.heap.size, 0, none⟩ = some (.slice s_Q1 (M.dig n_Q1).length c_Q1) := fun n => cell_below n.h V_Q.out.cell
      have rQ := Lib.hid (fun n : Over u19 => V_Q.out.row.below n.h)
      have hU : ∀ n : Over u19, n.w.cell? ⟨u5.heap.size, 0, none⟩ = some (.slice s_U1 (M.dig n_U1).length c_U1) := fun n => cell_below n.h V_U.out.cell
      have rU := Lib.hid (fun n : Over u19 => V_U.out.row.below n.h)
      have hV : ∀ n : Over u19, n.w.cell? ⟨u6.heap.size, 0, none⟩ = some (.slice s_V1 (M.dig n_V1).length c_V1) := fun n => cell_below n.h V_V.out.cell
      have rV := Lib.hid (fun n : Over u19 => V_V.out.row.below n.h)
      refine wp_region_over (by kernel_rfl) (by kernel_rfl) ?_
      repeat (go_big_quiet_step (first | exact fun _ => rfl | rfl | (with_reducible exact quiet_over (same_eq2 (N_X1.out.trans N_Y1.out.symm) (rX.out _) (rY.out _))) | (with_reducible exact quiet_over (same_eq2 (N_P1.out.trans N_Q1.out.symm) (rP.out _) (rQ.out _))) | (with_reducible exact quiet_over (same_eq2 (N_U1.out.trans N_V1.out.symm) (rU.out _) (rV.out _))) | (with_reducible exact quiet_over (valid_yes a _ ca _ (rA.out _) VA.out)) | (with_reducible exact quiet_over (rvalid_yes a _ ca _ (rA.out _) VA.out)) | (with_reducible exact quiet_over (HP1.out a ca _ (rA.out _))) | (with_reducible exact quiet_over (HP2.out a ca _ (rA.out _))) | (with_reducible exact quiet_over (rvalid_no b _ cb _ (rB.out _) VB.out))))
      refine wpQuiet_nil ?_
      intro _ hw'
      obtain ⟨nq, rfl⟩ := hw'
      replace HB := Lib.hid (HB.out.trans (nq.h.mono HB.out.size))
      go_wp2_with fail
      go_ret
      exact ⟨rfl, HB.out⟩
  · have VA := Lib.hid va
    clear va
    have HO := Over.one u19
    have hA : ∀ n : Over u19, n.w.cell? ⟨w.heap.size, 0, none⟩ = some (.slice a zs.length ca) := fun n => cell_below n.h V_A.out.cell
    have rA := Lib.hid (fun n : Over u19 => V_A.out.row.below n.h)
    have hB : ∀ n : Over u19, n.w.cell? ⟨w.heap.size + 1, 0, none⟩ = some (.slice b ys.length cb) := fun n => cell_below n.h V_B.out.cell
    have rB := Lib.hid (fun n : Over u19 => V_B.out.row.below n.h)
    have hX : ∀ n : Over u19, n.w.cell? ⟨u1.heap.size, 0, none⟩ = some (.slice s_X1 (M.dig n_X1).length c_X1) := fun n => cell_below n.h V_X.out.cell
    have rX := Lib.hid (fun n : Over u19 => V_X.out.row.below n.h)
    have hY : ∀ n : Over u19, n.w.cell? ⟨u2.heap.size, 0, none⟩ = some (.slice s_Y1 (M.dig n_Y1).length c_Y1) := fun n => cell_below n.h V_Y.out.cell
    have rY := Lib.hid (fun n : Over u19 => V_Y.out.row.below n.h)
    have hP : ∀ n : Over u19, n.w.cell? ⟨u3.heap.size, 0, none⟩ = some (.slice s_P1 (M.dig n_P1).length c_P1) := fun n => cell_below n.h V_P.out.cell
    have rP := Lib.hid (fun n : Over u19 => V_P.out.row.below n.h)
    have hQ : ∀ n : Over u19, n.w.cell? ⟨u4.heap.size, 0, none⟩ = some (.slice s_Q1 (M.dig n_Q1).length c_Q1) := fun n => cell_below n.h V_Q.out.cell
    have rQ := Lib.hid (fun n : Over u19 => V_Q.out.row.below n.h)
    have hU : ∀ n : Over u19, n.w.cell? ⟨u5.heap.size, 0, none⟩ = some (.slice s_U1 (M.dig n_U1).length c_U1) := fun n => cell_below n.h V_U.out.cell
    have rU := Lib.hid (fun n : Over u19 => V_U.out.row.below n.h)
    have hV : ∀ n : Over u19, n.w.cell? ⟨u6.heap.size, 0, none⟩ = some (.slice s_V1 (M.dig n_V1).length c_V1) := fun n => cell_below n.h V_V.out.cell
    have rV := Lib.hid (fun n : Over u19 => V_V.out.row.below n.h)
    refine wp_region_over (by kernel_rfl) (by kernel_rfl) ?_
    repeat (go_big_quiet_step (first | exact fun _ => rfl | rfl | (with_reducible exact quiet_over (same_eq2 (N_X1.out.trans N_Y1.out.symm) (rX.out _) (rY.out _))) | (with_reducible exact quiet_over (same_eq2 (N_P1.out.trans N_Q1.out.symm) (rP.out _) (rQ.out _))) | (with_reducible exact quiet_over (same_eq2 (N_U1.out.trans N_V1.out.symm) (rU.out _) (rV.out _))) | (with_reducible exact quiet_over (valid_no a _ ca _ (rA.out _) VA.out)) | (with_reducible exact quiet_over (rvalid_no a _ ca _ (rA.out _) VA.out)) | (with_reducible exact quiet_over (HP1.out a ca _ (rA.out _))) | (with_reducible exact quiet_over (HP2.out a ca _ (rA.out _)))))
    refine wpQuiet_nil ?_
    intro _ hw'
    obtain ⟨nq, rfl⟩ := hw'
    replace HB := Lib.hid (HB.out.trans (nq.h.mono HB.out.size))
    go_wp2_with fail
    go_ret
    exact ⟨rfl, HB.out⟩
end Go.Proofs.YtneimnacanhjmaaDoor
