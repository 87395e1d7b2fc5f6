/- The walk of law02.agree. -/
import Derived.Test.YtfaggdjoogpmmaaDoorBRatBoth
import Derived.Test.YtfaggdjoogpmmaaDoorB10
namespace Go.Proofs.YtfaggdjoogpmmaaDoor
open Go Go.RowKit Go.Shelf

/-- A variable of type Ratio that holds any two lists of limbs. -/
structure RLVar (W : World) (p : Nat) (a : Option Addr) (ca : Nat) (b : Option Addr) (cb : Nat) (zs ys : List Int) : Prop where
  c0 : W.cell? ⟨p, 0, none⟩ = some (.slice a zs.length ca)
  c1 : W.cell? ⟨p, 1, none⟩ = some (.slice b ys.length cb)
  ra : Row W a zs ca
  rb : Row W b ys cb
section
variable {W W' : World} {p : Nat} {a b : Option Addr} {ca cb : Nat} {zs ys : List Int}
theorem RLVar.new (hA : Row W a zs ca) (hB : Row W b ys cb) : RLVar (W.alloc (.cells #[.slice a zs.length ca, .slice b ys.length cb] 58)) W.heap.size a ca b cb zs ys := by
  obtain ⟨⟨h0, _⟩, h1, _⟩ := two_cells W (.slice a zs.length ca) (.slice b ys.length cb) 58
  exact ⟨h0, h1, hA.alloc _, hB.alloc _⟩
theorem RLVar.below (h : RLVar W p a ca b cb zs ys) (hb : Below W.heap.size W W') : RLVar W' p a ca b cb zs ys := ⟨cell_below hb h.c0, cell_below hb h.c1, h.ra.below hb, h.rb.below hb⟩
theorem RLVar.alloc (h : RLVar W p a ca b cb zs ys) (o : Obj) : RLVar (W.alloc o) p a ca b cb zs ys := h.below ((Below.refl _ W).alloc (Nat.le_refl _) o)
theorem RLVar.beside2 (h : RLVar W p a ca b cb zs ys) {q o n c : Nat} {s : Option Addr} (hq : W.cell? ⟨q, o, none⟩ = some (.slice s n c)) (hne : p ≠ q) (u : Value) : RLVar (W.setCell ⟨q, o, none⟩ u) p a ca b cb zs ys :=
  ⟨(cell_other u (show p ≠ q from hne)).trans h.c0, (cell_other u (show p ≠ q from hne)).trans h.c1, h.ra.storedAt hq u, h.rb.storedAt hq u⟩
end
section
variable {W : World} {p : Nat} {a b : Option Addr} {ca cb x y : Nat}
theorem RVar.beside2 (h : RVar W p a ca b cb x y) {q o n c : Nat} {s : Option Addr} (hq : W.cell? ⟨q, o, none⟩ = some (.slice s n c)) (hne : p ≠ q) (u : Value) : RVar (W.setCell ⟨q, o, none⟩ u) p a ca b cb x y :=
  ⟨(cell_other u (show p ≠ q from hne)).trans h.c0, (cell_other u (show p ≠ q from hne)).trans h.c1, h.ra.storedAt hq u, h.rb.storedAt hq u⟩
theorem RVar.store2 (h : RVar W p a ca b cb x y) {s t : Option Addr} {c d n m : Nat} (hs : Row W s (M.dig n) c) (ht : Row W t (M.dig m) d) :
    RVar ((W.setCell ⟨p, 0, none⟩ (.slice s (M.dig n).length c)).setCell ⟨p, 1, none⟩ (.slice t (M.dig m).length d)) p s c t d n m := by
  have q1 : (W.setCell ⟨p, 0, none⟩ (.slice s (M.dig n).length c)).cell? ⟨p, 1, none⟩ = some (.slice b (M.dig y).length cb) := (World.cell?_setCell_other _ _ _ _ (by intro e; cases e)).trans h.c1
  exact ⟨(World.cell?_setCell_other _ _ _ _ (by intro e; cases e)).trans (World.cell?_setCell_same _ _ _ h.c0), World.cell?_setCell_same _ _ _ q1, (hs.storedAt h.c0 _).storedAt q1 _, (ht.storedAt h.c0 _).storedAt q1 _⟩
end
theorem ratSame_any {u v : Value} {x y : Nat} {w : World} (hu : RatV w u x y) (hv : RatV w v x y) :
    Calls Tryd.prog 53 #[u, v] w fun e W' => e = .returned (.bool true) ∧ Below w.heap.size w W' :=
  (ratSame_is hu hv).mono fun _ _ ⟨he, hb⟩ => ⟨by rw [he, decide_eq_true ⟨rfl, rfl⟩], hb⟩
theorem same_nat2 {a b : Option Addr} {ca cb x y : Nat} {w : World} (h : x = y) (ha : Row w a (M.dig x) ca) (hb : Row w b (M.dig y) cb) :
    Calls Tryd.prog 30 #[.agg #[.slice a (M.dig x).length ca], .agg #[.slice b (M.dig y).length cb]] w fun e W' => e = .returned (.bool true) ∧ Below w.heap.size w W' := by
  subst h; exact same_any a b _ ca cb w ha hb

set_option maxRecDepth 100000 in
set_option maxHeartbeats 4000000 in
/-- **law02.agree** -/
theorem agree2_any (a1 a2 b1 b2 : Option Addr) (c1 c2 d1 d2 : Nat) (z1 z2 y1 y2 : List Int) (w : World) (hl : RVd z1 z2 ∧ RVd y1 y2 → z1.length + z2.length + y1.length + y2.length ≤ 48) (h1 : Row w a1 z1 c1) (h2 : Row w a2 z2 c2) (h3 : Row w b1 y1 d1) (h4 : Row w b2 y2 d2) :
    Calls Tryd.prog 48 #[.agg #[.slice a1 z1.length c1, .slice a2 z2.length c2], .agg #[.slice b1 y1.length d1, .slice b2 y2.length d2]] w fun e W' => e = .returned (.bool true) ∧ Below w.heap.size w W' := by
  have V_A := Lib.hid ((RLVar.new h1 h2).alloc (.cells #[.slice b1 y1.length d1, .slice b2 y2.length d2] 58))
  have vb := RLVar.new (h3.alloc (.cells #[.slice a1 z1.length c1, .slice a2 z2.length c2] 58)) (h4.alloc _)
  rw [World.size_alloc] at vb
  have V_B := Lib.hid vb
  have HB := Lib.hid (show Below w.heap.size w ((w.alloc (.cells #[.slice a1 z1.length c1, .slice a2 z2.length c2] 58)).alloc (.cells #[.slice b1 y1.length d1, .slice b2 y2.length d2] 58)) from ((Below.refl _ w).alloc (Nat.le_refl _) _).alloc (by simp) _)
  obtain ⟨E1, m1, n1, A1, A2⟩ := ratAdd_both hl
  obtain ⟨E2, m2, n2, B1, B2⟩ := ratSub_both hl
  obtain ⟨E3, m3, n3, C1, C2⟩ := ratMul_both hl
  obtain ⟨E4, m4, n4, D1, D2⟩ := ratDivide_both hl
  obtain ⟨v5, E5, G1, G2⟩ := ratCmp_both hl
  obtain ⟨E6, n6, I1, I2⟩ := ratFloor_both z1 z2
  obtain ⟨b7, J1, J2⟩ := ratValid_both z1 z2
  obtain ⟨S8, P1, P2⟩ := ratPrint_both z1 z2
  have HA1 := Lib.hid A1
  have HA2 := Lib.hid A2
  have HB1 := Lib.hid B1
  have HB2 := Lib.hid B2
  have HC1 := Lib.hid C1
  have HC2 := Lib.hid C2
  have HD1 := Lib.hid D1
  have HD2 := Lib.hid D2
  have HG1 := Lib.hid G1
  have HG2 := Lib.hid G2
  have HI1 := Lib.hid I1
  have HI2 := Lib.hid I2
  have HJ1 := Lib.hid J1
  have HJ2 := Lib.hid J2
  have HP1 := Lib.hid P1
  have HP2 := Lib.hid P2
  clear vb h1 h2 h3 h4 hl A1 A2 B1 B2 C1 C2 D1 D2 G1 G2 I1 I2 J1 J2 P1 P2
  go_enter Tryd.func48, Tryd.ntmps48
  have e0_A := V_A.out.c0
  have e1_A := V_A.out.c1
  have e0_B := V_B.out.c0
  have e1_B := V_B.out.c1
  go_wp2_with fail
  refine (show Calls Tryd.prog 56 _ _ _ from HA1.out a1 a2 b1 b2 c1 c2 d1 d2 _ V_A.out.ra V_A.out.rb V_B.out.ra V_B.out.rb).mono ?_
  rintro e u1 ⟨⟨s_X, c_X, t_X, d_X, rfl, hr, hq⟩, hb⟩
  replace V_A := Lib.hid (V_A.out.below hb)
  replace V_B := Lib.hid (V_B.out.below hb)
  replace HB := Lib.hid (HB.out.trans (hb.mono HB.out.size))
  clear hb e0_A e1_A e0_B e1_B
  have o_X : w.heap.size + 1 < u1.heap.size := lt_of_cell V_B.out.c0
  replace V_A := Lib.hid (V_A.out.alloc (.cells #[.slice s_X (M.dig m1).length c_X, .slice t_X (M.dig n1).length d_X] 58))
  replace V_B := Lib.hid (V_B.out.alloc (.cells #[.slice s_X (M.dig m1).length c_X, .slice t_X (M.dig n1).length d_X] 58))
  replace HB := Lib.hid (HB.out.alloc HB.out.size (.cells #[.slice s_X (M.dig m1).length c_X, .slice t_X (M.dig n1).length d_X] 58))
  have V_X := Lib.hid (RVar.new hr hq)
  have F_X := Lib.hid (⟨(two_cells u1 (.slice s_X (M.dig m1).length c_X) (.slice t_X (M.dig n1).length d_X) 58).1.2, (two_cells u1 (.slice s_X (M.dig m1).length c_X) (.slice t_X (M.dig n1).length d_X) 58).2.2⟩ : _ ∧ _)
  clear hr hq
  have e0_A := V_A.out.c0
  have e1_A := V_A.out.c1
  have e0_B := V_B.out.c0
  have e1_B := V_B.out.c1
  go_wp2_with fail
  refine (show Calls Tryd.prog 87 _ _ _ from HA2.out a1 a2 b1 b2 c1 c2 d1 d2 _ V_A.out.ra V_A.out.rb V_B.out.ra V_B.out.rb).mono ?_
  rintro e u2 ⟨⟨s_Y, c_Y, t_Y, d_Y, rfl, hr, hq⟩, hb⟩
  replace F_X := Lib.hid (⟨frozen_below hb V_X.out.c0 F_X.out.1, frozen_below hb V_X.out.c1 F_X.out.2⟩ : _ ∧ _)
  replace V_A := Lib.hid (V_A.out.below hb)
  replace V_B := Lib.hid (V_B.out.below hb)
  replace V_X := Lib.hid (V_X.out.below hb)
  replace HB := Lib.hid (HB.out.trans (hb.mono HB.out.size))
  clear hb e0_A e1_A e0_B e1_B
  have o_Y : u1.heap.size < u2.heap.size := lt_of_cell V_X.out.c0
  replace F_X := Lib.hid (⟨frozen_later (.cells #[.slice s_Y (M.dig m1).length c_Y, .slice t_Y (M.dig n1).length d_Y] 58) V_X.out.c0 F_X.out.1, frozen_later (.cells #[.slice s_Y (M.dig m1).length c_Y, .slice t_Y (M.dig n1).length d_Y] 58) V_X.out.c1 F_X.out.2⟩ : _ ∧ _)
  replace V_A := Lib.hid (V_A.out.alloc (.cells #[.slice s_Y (M.dig m1).length c_Y, .slice t_Y (M.dig n1).length d_Y] 58))
  replace V_B := Lib.hid (V_B.out.alloc (.cells #[.slice s_Y (M.dig m1).length c_Y, .slice t_Y (M.dig n1).length d_Y] 58))
  replace V_X := Lib.hid (V_X.out.alloc (.cells #[.slice s_Y (M.dig m1).length c_Y, .slice t_Y (M.dig n1).length d_Y] 58))
  replace HB := Lib.hid (HB.out.alloc HB.out.size (.cells #[.slice s_Y (M.dig m1).length c_Y, .slice t_Y (M.dig n1).length d_Y] 58))
  have V_Y := Lib.hid (RVar.new hr hq)
  have F_Y := Lib.hid (⟨(two_cells u2 (.slice s_Y (M.dig m1).length c_Y) (.slice t_Y (M.dig n1).length d_Y) 58).1.2, (two_cells u2 (.slice s_Y (M.dig m1).length c_Y) (.slice t_Y (M.dig n1).length d_Y) 58).2.2⟩ : _ ∧ _)
  clear hr hq
  have e0_A := V_A.out.c0
  have e1_A := V_A.out.c1
  have e0_B := V_B.out.c0
  have e1_B := V_B.out.c1
  go_wp2_with fail
  refine (show Calls Tryd.prog 58 _ _ _ from HB1.out a1 a2 b1 b2 c1 c2 d1 d2 _ V_A.out.ra V_A.out.rb V_B.out.ra V_B.out.rb).mono ?_
  rintro e u3 ⟨⟨s_P, c_P, t_P, d_P, rfl, hr, hq⟩, hb⟩
  replace F_X := Lib.hid (⟨frozen_below hb V_X.out.c0 F_X.out.1, frozen_below hb V_X.out.c1 F_X.out.2⟩ : _ ∧ _)
  replace F_Y := Lib.hid (⟨frozen_below hb V_Y.out.c0 F_Y.out.1, frozen_below hb V_Y.out.c1 F_Y.out.2⟩ : _ ∧ _)
  replace V_A := Lib.hid (V_A.out.below hb)
  replace V_B := Lib.hid (V_B.out.below hb)
  replace V_X := Lib.hid (V_X.out.below hb)
  replace V_Y := Lib.hid (V_Y.out.below hb)
  replace HB := Lib.hid (HB.out.trans (hb.mono HB.out.size))
  clear hb e0_A e1_A e0_B e1_B
  have o_P : u2.heap.size < u3.heap.size := lt_of_cell V_Y.out.c0
  replace F_X := Lib.hid (⟨frozen_later (.cells #[.slice s_P (M.dig m2).length c_P, .slice t_P (M.dig n2).length d_P] 58) V_X.out.c0 F_X.out.1, frozen_later (.cells #[.slice s_P (M.dig m2).length c_P, .slice t_P (M.dig n2).length d_P] 58) V_X.out.c1 F_X.out.2⟩ : _ ∧ _)
  replace F_Y := Lib.hid (⟨frozen_later (.cells #[.slice s_P (M.dig m2).length c_P, .slice t_P (M.dig n2).length d_P] 58) V_Y.out.c0 F_Y.out.1, frozen_later (.cells #[.slice s_P (M.dig m2).length c_P, .slice t_P (M.dig n2).length d_P] 58) V_Y.out.c1 F_Y.out.2⟩ : _ ∧ _)
  replace V_A := Lib.hid (V_A.out.alloc (.cells #[.slice s_P (M.dig m2).length c_P, .slice t_P (M.dig n2).length d_P] 58))
  replace V_B := Lib.hid (V_B.out.alloc (.cells #[.slice s_P (M.dig m2).length c_P, .slice t_P (M.dig n2).length d_P] 58))
  replace V_X := Lib.hid (V_X.out.alloc (.cells #[.slice s_P (M.dig m2).length c_P, .slice t_P (M.dig n2).length d_P] 58))
  replace V_Y := Lib.hid (V_Y.out.alloc (.cells #[.slice s_P (M.dig m2).length c_P, .slice t_P (M.dig n2).length d_P] 58))
  replace HB := Lib.hid (HB.out.alloc HB.out.size (.cells #[.slice s_P (M.dig m2).length c_P, .slice t_P (M.dig n2).length d_P] 58))
  have V_P := Lib.hid (RVar.new hr hq)
  have F_P := Lib.hid (⟨(two_cells u3 (.slice s_P (M.dig m2).length c_P) (.slice t_P (M.dig n2).length d_P) 58).1.2, (two_cells u3 (.slice s_P (M.dig m2).length c_P) (.slice t_P (M.dig n2).length d_P) 58).2.2⟩ : _ ∧ _)
  clear hr hq
  have e0_A := V_A.out.c0
  have e1_A := V_A.out.c1
  have e0_B := V_B.out.c0
  have e1_B := V_B.out.c1
  go_wp2_with fail
  refine (show Calls Tryd.prog 88 _ _ _ from HB2.out a1 a2 b1 b2 c1 c2 d1 d2 _ V_A.out.ra V_A.out.rb V_B.out.ra V_B.out.rb).mono ?_
  rintro e u4 ⟨⟨s_Q, c_Q, t_Q, d_Q, rfl, hr, hq⟩, hb⟩
  replace F_X := Lib.hid (⟨frozen_below hb V_X.out.c0 F_X.out.1, frozen_below hb V_X.out.c1 F_X.out.2⟩ : _ ∧ _)
  replace F_Y := Lib.hid (⟨frozen_below hb V_Y.out.c0 F_Y.out.1, frozen_below hb V_Y.out.c1 F_Y.out.2⟩ : _ ∧ _)
  replace F_P := Lib.hid (⟨frozen_below hb V_P.out.c0 F_P.out.1, frozen_below hb V_P.out.c1 F_P.out.2⟩ : _ ∧ _)
  replace V_A := Lib.hid (V_A.out.below hb)
  replace V_B := Lib.hid (V_B.out.below hb)
  replace V_X := Lib.hid (V_X.out.below hb)
  replace V_Y := Lib.hid (V_Y.out.below hb)
  replace V_P := Lib.hid (V_P.out.below hb)
  replace HB := Lib.hid (HB.out.trans (hb.mono HB.out.size))
  clear hb e0_A e1_A e0_B e1_B
  have o_Q : u3.heap.size < u4.heap.size := lt_of_cell V_P.out.c0
  replace F_X := Lib.hid (⟨frozen_later (.cells #[.slice s_Q (M.dig m2).length c_Q, .slice t_Q (M.dig n2).length d_Q] 58) V_X.out.c0 F_X.out.1, frozen_later (.cells #[.slice s_Q (M.dig m2).length c_Q, .slice t_Q (M.dig n2).length d_Q] 58) V_X.out.c1 F_X.out.2⟩ : _ ∧ _)
  replace F_Y := Lib.hid (⟨frozen_later (.cells #[.slice s_Q (M.dig m2).length c_Q, .slice t_Q (M.dig n2).length d_Q] 58) V_Y.out.c0 F_Y.out.1, frozen_later (.cells #[.slice s_Q (M.dig m2).length c_Q, .slice t_Q (M.dig n2).length d_Q] 58) V_Y.out.c1 F_Y.out.2⟩ : _ ∧ _)
  replace F_P := Lib.hid (⟨frozen_later (.cells #[.slice s_Q (M.dig m2).length c_Q, .slice t_Q (M.dig n2).length d_Q] 58) V_P.out.c0 F_P.out.1, frozen_later (.cells #[.slice s_Q (M.dig m2).length c_Q, .slice t_Q (M.dig n2).length d_Q] 58) V_P.out.c1 F_P.out.2⟩ : _ ∧ _)
  replace V_A := Lib.hid (V_A.out.alloc (.cells #[.slice s_Q (M.dig m2).length c_Q, .slice t_Q (M.dig n2).length d_Q] 58))
  replace V_B := Lib.hid (V_B.out.alloc (.cells #[.slice s_Q (M.dig m2).length c_Q, .slice t_Q (M.dig n2).length d_Q] 58))
  replace V_X := Lib.hid (V_X.out.alloc (.cells #[.slice s_Q (M.dig m2).length c_Q, .slice t_Q (M.dig n2).length d_Q] 58))
  replace V_Y := Lib.hid (V_Y.out.alloc (.cells #[.slice s_Q (M.dig m2).length c_Q, .slice t_Q (M.dig n2).length d_Q] 58))
  replace V_P := Lib.hid (V_P.out.alloc (.cells #[.slice s_Q (M.dig m2).length c_Q, .slice t_Q (M.dig n2).length d_Q] 58))
  replace HB := Lib.hid (HB.out.alloc HB.out.size (.cells #[.slice s_Q (M.dig m2).length c_Q, .slice t_Q (M.dig n2).length d_Q] 58))
  have V_Q := Lib.hid (RVar.new hr hq)
  have F_Q := Lib.hid (⟨(two_cells u4 (.slice s_Q (M.dig m2).length c_Q) (.slice t_Q (M.dig n2).length d_Q) 58).1.2, (two_cells u4 (.slice s_Q (M.dig m2).length c_Q) (.slice t_Q (M.dig n2).length d_Q) 58).2.2⟩ : _ ∧ _)
  clear hr hq
  have e0_A := V_A.out.c0
  have e1_A := V_A.out.c1
  have e0_B := V_B.out.c0
  have e1_B := V_B.out.c1
  go_wp2_with fail
  refine (show Calls Tryd.prog 57 _ _ _ from HC1.out a1 a2 b1 b2 c1 c2 d1 d2 _ V_A.out.ra V_A.out.rb V_B.out.ra V_B.out.rb).mono ?_
  rintro e u5 ⟨⟨s_U, c_U, t_U, d_U, rfl, hr, hq⟩, hb⟩
  replace F_X := Lib.hid (⟨frozen_below hb V_X.out.c0 F_X.out.1, frozen_below hb V_X.out.c1 F_X.out.2⟩ : _ ∧ _)
  replace F_Y := Lib.hid (⟨frozen_below hb V_Y.out.c0 F_Y.out.1, frozen_below hb V_Y.out.c1 F_Y.out.2⟩ : _ ∧ _)
  replace F_P := Lib.hid (⟨frozen_below hb V_P.out.c0 F_P.out.1, frozen_below hb V_P.out.c1 F_P.out.2⟩ : _ ∧ _)
  replace F_Q := Lib.hid (⟨frozen_below hb V_Q.out.c0 F_Q.out.1, frozen_below hb V_Q.out.c1 F_Q.out.2⟩ : _ ∧ _)
  replace V_A := Lib.hid (V_A.out.below hb)
  replace V_B := Lib.hid (V_B.out.below hb)
  replace V_X := Lib.hid (V_X.out.below hb)
  replace V_Y := Lib.hid (V_Y.out.below hb)
  replace V_P := Lib.hid (V_P.out.below hb)
  replace V_Q := Lib.hid (V_Q.out.below hb)
  replace HB := Lib.hid (HB.out.trans (hb.mono HB.out.size))
  clear hb e0_A e1_A e0_B e1_B
  have o_U : u4.heap.size < u5.heap.size := lt_of_cell V_Q.out.c0
  replace F_X := Lib.hid (⟨frozen_later (.cells #[.slice s_U (M.dig m3).length c_U, .slice t_U (M.dig n3).length d_U] 58) V_X.out.c0 F_X.out.1, frozen_later (.cells #[.slice s_U (M.dig m3).length c_U, .slice t_U (M.dig n3).length d_U] 58) V_X.out.c1 F_X.out.2⟩ : _ ∧ _)
  replace F_Y := Lib.hid (⟨frozen_later (.cells #[.slice s_U (M.dig m3).length c_U, .slice t_U (M.dig n3).length d_U] 58) V_Y.out.c0 F_Y.out.1, frozen_later (.cells #[.slice s_U (M.dig m3).length c_U, .slice t_U (M.dig n3).length d_U] 58) V_Y.out.c1 F_Y.out.2⟩ : _ ∧ _)
  replace F_P := Lib.hid (⟨frozen_later (.cells #[.slice s_U (M.dig m3).length c_U, .slice t_U (M.dig n3).length d_U] 58) V_P.out.c0 F_P.out.1, frozen_later (.cells #[.slice s_U (M.dig m3).length c_U, .slice t_U (M.dig n3).length d_U] 58) V_P.out.c1 F_P.out.2⟩ : _ ∧ _)
  replace F_Q := Lib.hid (⟨frozen_later (.cells #[.slice s_U (M.dig m3).length c_U, .slice t_U (M.dig n3).length d_U] 58) V_Q.out.c0 F_Q.out.1, frozen_later (.cells #[.slice s_U (M.dig m3).length c_U, .slice t_U (M.dig n3).length d_U] 58) V_Q.out.c1 F_Q.out.2⟩ : _ ∧ _)
  replace V_A := Lib.hid (V_A.out.alloc (.cells #[.slice s_U (M.dig m3).length c_U, .slice t_U (M.dig n3).length d_U] 58))
  replace V_B := Lib.hid (V_B.out.alloc (.cells #[.slice s_U (M.dig m3).length c_U, .slice t_U (M.dig n3).length d_U] 58))
  replace V_X := Lib.hid (V_X.out.alloc (.cells #[.slice s_U (M.dig m3).length c_U, .slice t_U (M.dig n3).length d_U] 58))
  replace V_Y := Lib.hid (V_Y.out.alloc (.cells #[.slice s_U (M.dig m3).length c_U, .slice t_U (M.dig n3).length d_U] 58))
  replace V_P := Lib.hid (V_P.out.alloc (.cells #[.slice s_U (M.dig m3).length c_U, .slice t_U (M.dig n3).length d_U] 58))
  replace V_Q := Lib.hid (V_Q.out.alloc (.cells #[.slice s_U (M.dig m3).length c_U, .slice t_U (M.dig n3).length d_U] 58))
  replace HB := Lib.hid (HB.out.alloc HB.out.size (.cells #[.slice s_U (M.dig m3).length c_U, .slice t_U (M.dig n3).length d_U] 58))
  have V_U := Lib.hid (RVar.new hr hq)
  have F_U := Lib.hid (⟨(two_cells u5 (.slice s_U (M.dig m3).length c_U) (.slice t_U (M.dig n3).length d_U) 58).1.2, (two_cells u5 (.slice s_U (M.dig m3).length c_U) (.slice t_U (M.dig n3).length d_U) 58).2.2⟩ : _ ∧ _)
  clear hr hq
  have e0_A := V_A.out.c0
  have e1_A := V_A.out.c1
  have e0_B := V_B.out.c0
  have e1_B := V_B.out.c1
  go_wp2_with fail
  refine (show Calls Tryd.prog 89 _ _ _ from HC2.out a1 a2 b1 b2 c1 c2 d1 d2 _ V_A.out.ra V_A.out.rb V_B.out.ra V_B.out.rb).mono ?_
  rintro e u6 ⟨⟨s_V, c_V, t_V, d_V, rfl, hr, hq⟩, hb⟩
  replace F_X := Lib.hid (⟨frozen_below hb V_X.out.c0 F_X.out.1, frozen_below hb V_X.out.c1 F_X.out.2⟩ : _ ∧ _)
  replace F_Y := Lib.hid (⟨frozen_below hb V_Y.out.c0 F_Y.out.1, frozen_below hb V_Y.out.c1 F_Y.out.2⟩ : _ ∧ _)
  replace F_P := Lib.hid (⟨frozen_below hb V_P.out.c0 F_P.out.1, frozen_below hb V_P.out.c1 F_P.out.2⟩ : _ ∧ _)
  replace F_Q := Lib.hid (⟨frozen_below hb V_Q.out.c0 F_Q.out.1, frozen_below hb V_Q.out.c1 F_Q.out.2⟩ : _ ∧ _)
  replace F_U := Lib.hid (⟨frozen_below hb V_U.out.c0 F_U.out.1, frozen_below hb V_U.out.c1 F_U.out.2⟩ : _ ∧ _)
  replace V_A := Lib.hid (V_A.out.below hb)
  replace V_B := Lib.hid (V_B.out.below hb)
  replace V_X := Lib.hid (V_X.out.below hb)
  replace V_Y := Lib.hid (V_Y.out.below hb)
  replace V_P := Lib.hid (V_P.out.below hb)
  replace V_Q := Lib.hid (V_Q.out.below hb)
  replace V_U := Lib.hid (V_U.out.below hb)
  replace HB := Lib.hid (HB.out.trans (hb.mono HB.out.size))
  clear hb e0_A e1_A e0_B e1_B
  have o_V : u5.heap.size < u6.heap.size := lt_of_cell V_U.out.c0
  replace F_X := Lib.hid (⟨frozen_later (.cells #[.slice s_V (M.dig m3).length c_V, .slice t_V (M.dig n3).length d_V] 58) V_X.out.c0 F_X.out.1, frozen_later (.cells #[.slice s_V (M.dig m3).length c_V, .slice t_V (M.dig n3).length d_V] 58) V_X.out.c1 F_X.out.2⟩ : _ ∧ _)
  replace F_Y := Lib.hid (⟨frozen_later (.cells #[.slice s_V (M.dig m3).length c_V, .slice t_V (M.dig n3).length d_V] 58) V_Y.out.c0 F_Y.out.1, frozen_later (.cells #[.slice s_V (M.dig m3).length c_V, .slice t_V (M.dig n3).length d_V] 58) V_Y.out.c1 F_Y.out.2⟩ : _ ∧ _)
  replace F_P := Lib.hid (⟨frozen_later (.cells #[.slice s_V (M.dig m3).length c_V, .slice t_V (M.dig n3).length d_V] 58) V_P.out.c0 F_P.out.1, frozen_later (.cells #[.slice s_V (M.dig m3).length c_V, .slice t_V (M.dig n3).length d_V] 58) V_P.out.c1 F_P.out.2⟩ : _ ∧ _)
  replace F_Q := Lib.hid (⟨frozen_later (.cells #[.slice s_V (M.dig m3).length c_V, .slice t_V (M.dig n3).length d_V] 58) V_Q.out.c0 F_Q.out.1, frozen_later (.cells #[.slice s_V (M.dig m3).length c_V, .slice t_V (M.dig n3).length d_V] 58) V_Q.out.c1 F_Q.out.2⟩ : _ ∧ _)
  replace F_U := Lib.hid (⟨frozen_later (.cells #[.slice s_V (M.dig m3).length c_V, .slice t_V (M.dig n3).length d_V] 58) V_U.out.c0 F_U.out.1, frozen_later (.cells #[.slice s_V (M.dig m3).length c_V, .slice t_V (M.dig n3).length d_V] 58) V_U.out.c1 F_U.out.2⟩ : _ ∧ _)
  replace V_A := Lib.hid (V_A.out.alloc (.cells #[.slice s_V (M.dig m3).length c_V, .slice t_V (M.dig n3).length d_V] 58))
  replace V_B := Lib.hid (V_B.out.alloc (.cells #[.slice s_V (M.dig m3).length c_V, .slice t_V (M.dig n3).length d_V] 58))
  replace V_X := Lib.hid (V_X.out.alloc (.cells #[.slice s_V (M.dig m3).length c_V, .slice t_V (M.dig n3).length d_V] 58))
  replace V_Y := Lib.hid (V_Y.out.alloc (.cells #[.slice s_V (M.dig m3).length c_V, .slice t_V (M.dig n3).length d_V] 58))
  replace V_P := Lib.hid (V_P.out.alloc (.cells #[.slice s_V (M.dig m3).length c_V, .slice t_V (M.dig n3).length d_V] 58))
  replace V_Q := Lib.hid (V_Q.out.alloc (.cells #[.slice s_V (M.dig m3).length c_V, .slice t_V (M.dig n3).length d_V] 58))
  replace V_U := Lib.hid (V_U.out.alloc (.cells #[.slice s_V (M.dig m3).length c_V, .slice t_V (M.dig n3).length d_V] 58))
  replace HB := Lib.hid (HB.out.alloc HB.out.size (.cells #[.slice s_V (M.dig m3).length c_V, .slice t_V (M.dig n3).length d_V] 58))
  have V_V := Lib.hid (RVar.new hr hq)
  have F_V := Lib.hid (⟨(two_cells u6 (.slice s_V (M.dig m3).length c_V) (.slice t_V (M.dig n3).length d_V) 58).1.2, (two_cells u6 (.slice s_V (M.dig m3).length c_V) (.slice t_V (M.dig n3).length d_V) 58).2.2⟩ : _ ∧ _)
  clear hr hq
  have e0_X := V_X.out.c0
  have e1_X := V_X.out.c1
  have e0_Y := V_Y.out.c0
  have e1_Y := V_Y.out.c1
  go_wp2_with fail
  refine (show Calls Tryd.prog 53 _ _ _ from ratSame_any V_X.out.val V_Y.out.val).mono ?_
  rintro e u7 ⟨rfl, hb⟩
  replace F_X := Lib.hid (⟨frozen_below hb V_X.out.c0 F_X.out.1, frozen_below hb V_X.out.c1 F_X.out.2⟩ : _ ∧ _)
  replace F_Y := Lib.hid (⟨frozen_below hb V_Y.out.c0 F_Y.out.1, frozen_below hb V_Y.out.c1 F_Y.out.2⟩ : _ ∧ _)
  replace F_P := Lib.hid (⟨frozen_below hb V_P.out.c0 F_P.out.1, frozen_below hb V_P.out.c1 F_P.out.2⟩ : _ ∧ _)
  replace F_Q := Lib.hid (⟨frozen_below hb V_Q.out.c0 F_Q.out.1, frozen_below hb V_Q.out.c1 F_Q.out.2⟩ : _ ∧ _)
  replace F_U := Lib.hid (⟨frozen_below hb V_U.out.c0 F_U.out.1, frozen_below hb V_U.out.c1 F_U.out.2⟩ : _ ∧ _)
  replace F_V := Lib.hid (⟨frozen_below hb V_V.out.c0 F_V.out.1, frozen_below hb V_V.out.c1 F_V.out.2⟩ : _ ∧ _)
  replace V_A := Lib.hid (V_A.out.below hb)
  replace V_B := Lib.hid (V_B.out.below hb)
  replace V_X := Lib.hid (V_X.out.below hb)
  replace V_Y := Lib.hid (V_Y.out.below hb)
  replace V_P := Lib.hid (V_P.out.below hb)
  replace V_Q := Lib.hid (V_Q.out.below hb)
  replace V_U := Lib.hid (V_U.out.below hb)
  replace V_V := Lib.hid (V_V.out.below hb)
  replace HB := Lib.hid (HB.out.trans (hb.mono HB.out.size))
  clear hb e0_X e1_X e0_Y e1_Y
  have e0_P := V_P.out.c0
  have e1_P := V_P.out.c1
  have e0_Q := V_Q.out.c0
  have e1_Q := V_Q.out.c1
  go_wp2_with fail
  refine (show Calls Tryd.prog 53 _ _ _ from ratSame_any V_P.out.val V_Q.out.val).mono ?_
  rintro e u8 ⟨rfl, hb⟩
  replace F_X := Lib.hid (⟨frozen_below hb V_X.out.c0 F_X.out.1, frozen_below hb V_X.out.c1 F_X.out.2⟩ : _ ∧ _)
  replace F_Y := Lib.hid (⟨frozen_below hb V_Y.out.c0 F_Y.out.1, frozen_below hb V_Y.out.c1 F_Y.out.2⟩ : _ ∧ _)
  replace F_P := Lib.hid (⟨frozen_below hb V_P.out.c0 F_P.out.1, frozen_below hb V_P.out.c1 F_P.out.2⟩ : _ ∧ _)
  replace F_Q := Lib.hid (⟨frozen_below hb V_Q.out.c0 F_Q.out.1, frozen_below hb V_Q.out.c1 F_Q.out.2⟩ : _ ∧ _)
  replace F_U := Lib.hid (⟨frozen_below hb V_U.out.c0 F_U.out.1, frozen_below hb V_U.out.c1 F_U.out.2⟩ : _ ∧ _)
  replace F_V := Lib.hid (⟨frozen_below hb V_V.out.c0 F_V.out.1, frozen_below hb V_V.out.c1 F_V.out.2⟩ : _ ∧ _)
  replace V_A := Lib.hid (V_A.out.below hb)
  replace V_B := Lib.hid (V_B.out.below hb)
  replace V_X := Lib.hid (V_X.out.below hb)
  replace V_Y := Lib.hid (V_Y.out.below hb)
  replace V_P := Lib.hid (V_P.out.below hb)
  replace V_Q := Lib.hid (V_Q.out.below hb)
  replace V_U := Lib.hid (V_U.out.below hb)
  replace V_V := Lib.hid (V_V.out.below hb)
  replace HB := Lib.hid (HB.out.trans (hb.mono HB.out.size))
  clear hb e0_P e1_P e0_Q e1_Q
  have e0_U := V_U.out.c0
  have e1_U := V_U.out.c1
  have e0_V := V_V.out.c0
  have e1_V := V_V.out.c1
  go_wp2_with fail
  refine (show Calls Tryd.prog 53 _ _ _ from ratSame_any V_U.out.val V_V.out.val).mono ?_
  rintro e u9 ⟨rfl, hb⟩
  replace F_X := Lib.hid (⟨frozen_below hb V_X.out.c0 F_X.out.1, frozen_below hb V_X.out.c1 F_X.out.2⟩ : _ ∧ _)
  replace F_Y := Lib.hid (⟨frozen_below hb V_Y.out.c0 F_Y.out.1, frozen_below hb V_Y.out.c1 F_Y.out.2⟩ : _ ∧ _)
  replace F_P := Lib.hid (⟨frozen_below hb V_P.out.c0 F_P.out.1, frozen_below hb V_P.out.c1 F_P.out.2⟩ : _ ∧ _)
  replace F_Q := Lib.hid (⟨frozen_below hb V_Q.out.c0 F_Q.out.1, frozen_below hb V_Q.out.c1 F_Q.out.2⟩ : _ ∧ _)
  replace F_U := Lib.hid (⟨frozen_below hb V_U.out.c0 F_U.out.1, frozen_below hb V_U.out.c1 F_U.out.2⟩ : _ ∧ _)
  replace F_V := Lib.hid (⟨frozen_below hb V_V.out.c0 F_V.out.1, frozen_below hb V_V.out.c1 F_V.out.2⟩ : _ ∧ _)
  replace V_A := Lib.hid (V_A.out.below hb)
  replace V_B := Lib.hid (V_B.out.below hb)
  replace V_X := Lib.hid (V_X.out.below hb)
  replace V_Y := Lib.hid (V_Y.out.below hb)
  replace V_P := Lib.hid (V_P.out.below hb)
  replace V_Q := Lib.hid (V_Q.out.below hb)
  replace V_U := Lib.hid (V_U.out.below hb)
  replace V_V := Lib.hid (V_V.out.below hb)
  replace HB := Lib.hid (HB.out.trans (hb.mono HB.out.size))
  clear hb e0_U e1_U e0_V e1_V
  have e0_A := V_A.out.c0
  have e1_A := V_A.out.c1
  have e0_B := V_B.out.c0
  have e1_B := V_B.out.c1
  go_wp2_with fail
  refine (show Calls Tryd.prog 60 _ _ _ from HD1.out a1 a2 b1 b2 c1 c2 d1 d2 _ V_A.out.ra V_A.out.rb V_B.out.ra V_B.out.rb).mono ?_
  rintro e u10 ⟨⟨s_X1, c_X1, t_X1, d_X1, rfl, hr, hq⟩, hb⟩
  replace F_X := Lib.hid (⟨frozen_below hb V_X.out.c0 F_X.out.1, frozen_below hb V_X.out.c1 F_X.out.2⟩ : _ ∧ _)
  replace F_Y := Lib.hid (⟨frozen_below hb V_Y.out.c0 F_Y.out.1, frozen_below hb V_Y.out.c1 F_Y.out.2⟩ : _ ∧ _)
  replace F_P := Lib.hid (⟨frozen_below hb V_P.out.c0 F_P.out.1, frozen_below hb V_P.out.c1 F_P.out.2⟩ : _ ∧ _)
  replace F_Q := Lib.hid (⟨frozen_below hb V_Q.out.c0 F_Q.out.1, frozen_below hb V_Q.out.c1 F_Q.out.2⟩ : _ ∧ _)
  replace F_U := Lib.hid (⟨frozen_below hb V_U.out.c0 F_U.out.1, frozen_below hb V_U.out.c1 F_U.out.2⟩ : _ ∧ _)
  replace F_V := Lib.hid (⟨frozen_below hb V_V.out.c0 F_V.out.1, frozen_below hb V_V.out.c1 F_V.out.2⟩ : _ ∧ _)
  replace V_A := Lib.hid (V_A.out.below hb)
  replace V_B := Lib.hid (V_B.out.below hb)
  replace V_X := Lib.hid (V_X.out.below hb)
  replace V_Y := Lib.hid (V_Y.out.below hb)
  replace V_P := Lib.hid (V_P.out.below hb)
  replace V_Q := Lib.hid (V_Q.out.below hb)
  replace V_U := Lib.hid (V_U.out.below hb)
  replace V_V := Lib.hid (V_V.out.below hb)
  replace HB := Lib.hid (HB.out.trans (hb.mono HB.out.size))
  clear hb e0_A e1_A e0_B e1_B
  have q0 := V_X.out.c0
  have q1 := V_X.out.c1
  have g0 := F_X.out.1
  have g1 := F_X.out.2
  have q1' : (u10.setCell ⟨u1.heap.size, 0, none⟩ (.slice s_X1 (M.dig m4).length c_X1)).cell? ⟨u1.heap.size, 1, none⟩ = _ := (World.cell?_setCell_other _ _ _ _ (by intro e; cases e)).trans q1
  replace V_A := Lib.hid ((V_A.out.beside2 q0 (by omega) (.slice s_X1 (M.dig m4).length c_X1)).beside2 q1' (by omega) (.slice t_X1 (M.dig n4).length d_X1))
  replace V_B := Lib.hid ((V_B.out.beside2 q0 (by omega) (.slice s_X1 (M.dig m4).length c_X1)).beside2 q1' (by omega) (.slice t_X1 (M.dig n4).length d_X1))
  replace V_Y := Lib.hid ((V_Y.out.beside2 q0 (by omega) (.slice s_X1 (M.dig m4).length c_X1)).beside2 q1' (by omega) (.slice t_X1 (M.dig n4).length d_X1))
  replace V_P := Lib.hid ((V_P.out.beside2 q0 (by omega) (.slice s_X1 (M.dig m4).length c_X1)).beside2 q1' (by omega) (.slice t_X1 (M.dig n4).length d_X1))
  replace V_Q := Lib.hid ((V_Q.out.beside2 q0 (by omega) (.slice s_X1 (M.dig m4).length c_X1)).beside2 q1' (by omega) (.slice t_X1 (M.dig n4).length d_X1))
  replace V_U := Lib.hid ((V_U.out.beside2 q0 (by omega) (.slice s_X1 (M.dig m4).length c_X1)).beside2 q1' (by omega) (.slice t_X1 (M.dig n4).length d_X1))
  replace V_V := Lib.hid ((V_V.out.beside2 q0 (by omega) (.slice s_X1 (M.dig m4).length c_X1)).beside2 q1' (by omega) (.slice t_X1 (M.dig n4).length d_X1))
  replace F_X := Lib.hid (⟨((World.frozen?_setCell _ _ _ _).trans (World.frozen?_setCell _ _ _ _)).trans F_X.out.1, ((World.frozen?_setCell _ _ _ _).trans (World.frozen?_setCell _ _ _ _)).trans F_X.out.2⟩ : ((u10.setCell ⟨u1.heap.size, 0, none⟩ (.slice s_X1 (M.dig m4).length c_X1)).setCell ⟨u1.heap.size, 1, none⟩ (.slice t_X1 (M.dig n4).length d_X1)).frozen? ⟨u1.heap.size, 0, none⟩ = false ∧ ((u10.setCell ⟨u1.heap.size, 0, none⟩ (.slice s_X1 (M.dig m4).length c_X1)).setCell ⟨u1.heap.size, 1, none⟩ (.slice t_X1 (M.dig n4).length d_X1)).frozen? ⟨u1.heap.size, 1, none⟩ = false)
  replace F_Y := Lib.hid (⟨((World.frozen?_setCell _ _ _ _).trans (World.frozen?_setCell _ _ _ _)).trans F_Y.out.1, ((World.frozen?_setCell _ _ _ _).trans (World.frozen?_setCell _ _ _ _)).trans F_Y.out.2⟩ : ((u10.setCell ⟨u1.heap.size, 0, none⟩ (.slice s_X1 (M.dig m4).length c_X1)).setCell ⟨u1.heap.size, 1, none⟩ (.slice t_X1 (M.dig n4).length d_X1)).frozen? ⟨u2.heap.size, 0, none⟩ = false ∧ ((u10.setCell ⟨u1.heap.size, 0, none⟩ (.slice s_X1 (M.dig m4).length c_X1)).setCell ⟨u1.heap.size, 1, none⟩ (.slice t_X1 (M.dig n4).length d_X1)).frozen? ⟨u2.heap.size, 1, none⟩ = false)
  replace F_P := Lib.hid (⟨((World.frozen?_setCell _ _ _ _).trans (World.frozen?_setCell _ _ _ _)).trans F_P.out.1, ((World.frozen?_setCell _ _ _ _).trans (World.frozen?_setCell _ _ _ _)).trans F_P.out.2⟩ : ((u10.setCell ⟨u1.heap.size, 0, none⟩ (.slice s_X1 (M.dig m4).length c_X1)).setCell ⟨u1.heap.size, 1, none⟩ (.slice t_X1 (M.dig n4).length d_X1)).frozen? ⟨u3.heap.size, 0, none⟩ = false ∧ ((u10.setCell ⟨u1.heap.size, 0, none⟩ (.slice s_X1 (M.dig m4).length c_X1)).setCell ⟨u1.heap.size, 1, none⟩ (.slice t_X1 (M.dig n4).length d_X1)).frozen? ⟨u3.heap.size, 1, none⟩ = false)
  replace F_Q := Lib.hid (⟨((World.frozen?_setCell _ _ _ _).trans (World.frozen?_setCell _ _ _ _)).trans F_Q.out.1, ((World.frozen?_setCell _ _ _ _).trans (World.frozen?_setCell _ _ _ _)).trans F_Q.out.2⟩ : ((u10.setCell ⟨u1.heap.size, 0, none⟩ (.slice s_X1 (M.dig m4).length c_X1)).setCell ⟨u1.heap.size, 1, none⟩ (.slice t_X1 (M.dig n4).length d_X1)).frozen? ⟨u4.heap.size, 0, none⟩ = false ∧ ((u10.setCell ⟨u1.heap.size, 0, none⟩ (.slice s_X1 (M.dig m4).length c_X1)).setCell ⟨u1.heap.size, 1, none⟩ (.slice t_X1 (M.dig n4).length d_X1)).frozen? ⟨u4.heap.size, 1, none⟩ = false)
  replace F_U := Lib.hid (⟨((World.frozen?_setCell _ _ _ _).trans (World.frozen?_setCell _ _ _ _)).trans F_U.out.1, ((World.frozen?_setCell _ _ _ _).trans (World.frozen?_setCell _ _ _ _)).trans F_U.out.2⟩ : ((u10.setCell ⟨u1.heap.size, 0, none⟩ (.slice s_X1 (M.dig m4).length c_X1)).setCell ⟨u1.heap.size, 1, none⟩ (.slice t_X1 (M.dig n4).length d_X1)).frozen? ⟨u5.heap.size, 0, none⟩ = false ∧ ((u10.setCell ⟨u1.heap.size, 0, none⟩ (.slice s_X1 (M.dig m4).length c_X1)).setCell ⟨u1.heap.size, 1, none⟩ (.slice t_X1 (M.dig n4).length d_X1)).frozen? ⟨u5.heap.size, 1, none⟩ = false)
  replace F_V := Lib.hid (⟨((World.frozen?_setCell _ _ _ _).trans (World.frozen?_setCell _ _ _ _)).trans F_V.out.1, ((World.frozen?_setCell _ _ _ _).trans (World.frozen?_setCell _ _ _ _)).trans F_V.out.2⟩ : ((u10.setCell ⟨u1.heap.size, 0, none⟩ (.slice s_X1 (M.dig m4).length c_X1)).setCell ⟨u1.heap.size, 1, none⟩ (.slice t_X1 (M.dig n4).length d_X1)).frozen? ⟨u6.heap.size, 0, none⟩ = false ∧ ((u10.setCell ⟨u1.heap.size, 0, none⟩ (.slice s_X1 (M.dig m4).length c_X1)).setCell ⟨u1.heap.size, 1, none⟩ (.slice t_X1 (M.dig n4).length d_X1)).frozen? ⟨u6.heap.size, 1, none⟩ = false)
  replace V_X := Lib.hid (V_X.out.store2 hr hq)
  replace HB := Lib.hid ((HB.out.setCell (p := ⟨u1.heap.size, 0, none⟩) (by show w.heap.size ≤ u1.heap.size; omega) (.slice s_X1 (M.dig m4).length c_X1)).setCell (p := ⟨u1.heap.size, 1, none⟩) (by show w.heap.size ≤ u1.heap.size; omega) (.slice t_X1 (M.dig n4).length d_X1))
  clear hr hq q1'
  go_upto_region 10 with fail
  clear q0 q1 g0 g1
  generalize ((u10.setCell ⟨u1.heap.size, 0, none⟩ (.slice s_X1 (M.dig m4).length c_X1)).setCell ⟨u1.heap.size, 1, none⟩ (.slice t_X1 (M.dig n4).length d_X1)) = u11 at *
  have e0_A := V_A.out.c0
  have e1_A := V_A.out.c1
  have e0_B := V_B.out.c0
  have e1_B := V_B.out.c1
  go_wp2_with fail
  refine (show Calls Tryd.prog 90 _ _ _ from HD2.out a1 a2 b1 b2 c1 c2 d1 d2 _ V_A.out.ra V_A.out.rb V_B.out.ra V_B.out.rb).mono ?_
  rintro e u12 ⟨⟨s_Y1, c_Y1, t_Y1, d_Y1, rfl, hr, hq⟩, hb⟩
  replace F_X := Lib.hid (⟨frozen_below hb V_X.out.c0 F_X.out.1, frozen_below hb V_X.out.c1 F_X.out.2⟩ : _ ∧ _)
  replace F_Y := Lib.hid (⟨frozen_below hb V_Y.out.c0 F_Y.out.1, frozen_below hb V_Y.out.c1 F_Y.out.2⟩ : _ ∧ _)
  replace F_P := Lib.hid (⟨frozen_below hb V_P.out.c0 F_P.out.1, frozen_below hb V_P.out.c1 F_P.out.2⟩ : _ ∧ _)
  replace F_Q := Lib.hid (⟨frozen_below hb V_Q.out.c0 F_Q.out.1, frozen_below hb V_Q.out.c1 F_Q.out.2⟩ : _ ∧ _)
  replace F_U := Lib.hid (⟨frozen_below hb V_U.out.c0 F_U.out.1, frozen_below hb V_U.out.c1 F_U.out.2⟩ : _ ∧ _)
  replace F_V := Lib.hid (⟨frozen_below hb V_V.out.c0 F_V.out.1, frozen_below hb V_V.out.c1 F_V.out.2⟩ : _ ∧ _)
  replace V_A := Lib.hid (V_A.out.below hb)
  replace V_B := Lib.hid (V_B.out.below hb)
  replace V_X := Lib.hid (V_X.out.below hb)
  replace V_Y := Lib.hid (V_Y.out.below hb)
  replace V_P := Lib.hid (V_P.out.below hb)
  replace V_Q := Lib.hid (V_Q.out.below hb)
  replace V_U := Lib.hid (V_U.out.below hb)
  replace V_V := Lib.hid (V_V.out.below hb)
  replace HB := Lib.hid (HB.out.trans (hb.mono HB.out.size))
  clear hb e0_A e1_A e0_B e1_B
  have q0 := V_Y.out.c0
  have q1 := V_Y.out.c1
  have g0 := F_Y.out.1
  have g1 := F_Y.out.2
  have q1' : (u12.setCell ⟨u2.heap.size, 0, none⟩ (.slice s_Y1 (M.dig m4).length c_Y1)).cell? ⟨u2.heap.size, 1, none⟩ = _ := (World.cell?_setCell_other _ _ _ _ (by intro e; cases e)).trans q1
  replace V_A := Lib.hid ((V_A.out.beside2 q0 (by omega) (.slice s_Y1 (M.dig m4).length c_Y1)).beside2 q1' (by omega) (.slice t_Y1 (M.dig n4).length d_Y1))
  replace V_B := Lib.hid ((V_B.out.beside2 q0 (by omega) (.slice s_Y1 (M.dig m4).length c_Y1)).beside2 q1' (by omega) (.slice t_Y1 (M.dig n4).length d_Y1))
  replace V_X := Lib.hid ((V_X.out.beside2 q0 (by omega) (.slice s_Y1 (M.dig m4).length c_Y1)).beside2 q1' (by omega) (.slice t_Y1 (M.dig n4).length d_Y1))
  replace V_P := Lib.hid ((V_P.out.beside2 q0 (by omega) (.slice s_Y1 (M.dig m4).length c_Y1)).beside2 q1' (by omega) (.slice t_Y1 (M.dig n4).length d_Y1))
  replace V_Q := Lib.hid ((V_Q.out.beside2 q0 (by omega) (.slice s_Y1 (M.dig m4).length c_Y1)).beside2 q1' (by omega) (.slice t_Y1 (M.dig n4).length d_Y1))
  replace V_U := Lib.hid ((V_U.out.beside2 q0 (by omega) (.slice s_Y1 (M.dig m4).length c_Y1)).beside2 q1' (by omega) (.slice t_Y1 (M.dig n4).length d_Y1))
  replace V_V := Lib.hid ((V_V.out.beside2 q0 (by omega) (.slice s_Y1 (M.dig m4).length c_Y1)).beside2 q1' (by omega) (.slice t_Y1 (M.dig n4).length d_Y1))
  replace F_X := Lib.hid (⟨((World.frozen?_setCell _ _ _ _).trans (World.frozen?_setCell _ _ _ _)).trans F_X.out.1, ((World.frozen?_setCell _ _ _ _).trans (World.frozen?_setCell _ _ _ _)).trans F_X.out.2⟩ : ((u12.setCell ⟨u2.heap.size, 0, none⟩ (.slice s_Y1 (M.dig m4).length c_Y1)).setCell ⟨u2.heap.size, 1, none⟩ (.slice t_Y1 (M.dig n4).length d_Y1)).frozen? ⟨u1.heap.size, 0, none⟩ = false ∧ ((u12.setCell ⟨u2.heap.size, 0, none⟩ (.slice s_Y1 (M.dig m4).length c_Y1)).setCell ⟨u2.heap.size, 1, none⟩ (.slice t_Y1 (M.dig n4).length d_Y1)).frozen? ⟨u1.heap.size, 1, none⟩ = false)
  replace F_Y := Lib.hid (⟨((World.frozen?_setCell _ _ _ _).trans (World.frozen?_setCell _ _ _ _)).trans F_Y.out.1, ((World.frozen?_setCell _ _ _ _).trans (World.frozen?_setCell _ _ _ _)).trans F_Y.out.2⟩ : ((u12.setCell ⟨u2.heap.size, 0, none⟩ (.slice s_Y1 (M.dig m4).length c_Y1)).setCell ⟨u2.heap.size, 1, none⟩ (.slice t_Y1 (M.dig n4).length d_Y1)).frozen? ⟨u2.heap.size, 0, none⟩ = false ∧ ((u12.setCell ⟨u2.heap.size, 0, none⟩ (.slice s_Y1 (M.dig m4).length c_Y1)).setCell ⟨u2.heap.size, 1, none⟩ (.slice t_Y1 (M.dig n4).length d_Y1)).frozen? ⟨u2.heap.size, 1, none⟩ = false)
  replace F_P := Lib.hid (⟨((World.frozen?_setCell _ _ _ _).trans (World.frozen?_setCell _ _ _ _)).trans F_P.out.1, ((World.frozen?_setCell _ _ _ _).trans (World.frozen?_setCell _ _ _ _)).trans F_P.out.2⟩ : ((u12.setCell ⟨u2.heap.size, 0, none⟩ (.slice s_Y1 (M.dig m4).length c_Y1)).setCell ⟨u2.heap.size, 1, none⟩ (.slice t_Y1 (M.dig n4).length d_Y1)).frozen? ⟨u3.heap.size, 0, none⟩ = false ∧ ((u12.setCell ⟨u2.heap.size, 0, none⟩ (.slice s_Y1 (M.dig m4).length c_Y1)).setCell ⟨u2.heap.size, 1, none⟩ (.slice t_Y1 (M.dig n4).length d_Y1)).frozen? ⟨u3.heap.size, 1, none⟩ = false)
  replace F_Q := Lib.hid (⟨((World.frozen?_setCell _ _ _ _).trans (World.frozen?_setCell _ _ _ _)).trans F_Q.out.1, ((World.frozen?_setCell _ _ _ _).trans (World.frozen?_setCell _ _ _ _)).trans F_Q.out.2⟩ : ((u12.setCell ⟨u2.heap.size, 0, none⟩ (.slice s_Y1 (M.dig m4).length c_Y1)).setCell ⟨u2.heap.size, 1, none⟩ (.slice t_Y1 (M.dig n4).length d_Y1)).frozen? ⟨u4.heap.size, 0, none⟩ = false ∧ ((u12.setCell ⟨u2.heap.size, 0, none⟩ (.slice s_Y1 (M.dig m4).length c_Y1)).setCell ⟨u2.heap.size, 1, none⟩ (.slice t_Y1 (M.dig n4).length d_Y1)).frozen? ⟨u4.heap.size, 1, none⟩ = false)
  replace F_U := Lib.hid (⟨((World.frozen?_setCell _ _ _ _).trans (World.frozen?_setCell _ _ _ _)).trans F_U.out.1, ((World.frozen?_setCell _ _ _ _).trans (World.frozen?_setCell _ _ _ _)).trans F_U.out.2⟩ : ((u12.setCell ⟨u2.heap.size, 0, none⟩ (.slice s_Y1 (M.dig m4).length c_Y1)).setCell ⟨u2.heap.size, 1, none⟩ (.slice t_Y1 (M.dig n4).length d_Y1)).frozen? ⟨u5.heap.size, 0, none⟩ = false ∧ ((u12.setCell ⟨u2.heap.size, 0, none⟩ (.slice s_Y1 (M.dig m4).length c_Y1)).setCell ⟨u2.heap.size, 1, none⟩ (.slice t_Y1 (M.dig n4).length d_Y1)).frozen? ⟨u5.heap.size, 1, none⟩ = false)
  replace F_V := Lib.hid (⟨((World.frozen?_setCell _ _ _ _).trans (World.frozen?_setCell _ _ _ _)).trans F_V.out.1, ((World.frozen?_setCell _ _ _ _).trans (World.frozen?_setCell _ _ _ _)).trans F_V.out.2⟩ : ((u12.setCell ⟨u2.heap.size, 0, none⟩ (.slice s_Y1 (M.dig m4).length c_Y1)).setCell ⟨u2.heap.size, 1, none⟩ (.slice t_Y1 (M.dig n4).length d_Y1)).frozen? ⟨u6.heap.size, 0, none⟩ = false ∧ ((u12.setCell ⟨u2.heap.size, 0, none⟩ (.slice s_Y1 (M.dig m4).length c_Y1)).setCell ⟨u2.heap.size, 1, none⟩ (.slice t_Y1 (M.dig n4).length d_Y1)).frozen? ⟨u6.heap.size, 1, none⟩ = false)
  replace V_Y := Lib.hid (V_Y.out.store2 hr hq)
  replace HB := Lib.hid ((HB.out.setCell (p := ⟨u2.heap.size, 0, none⟩) (by show w.heap.size ≤ u2.heap.size; omega) (.slice s_Y1 (M.dig m4).length c_Y1)).setCell (p := ⟨u2.heap.size, 1, none⟩) (by show w.heap.size ≤ u2.heap.size; omega) (.slice t_Y1 (M.dig n4).length d_Y1))
  clear hr hq q1'
  go_upto_region 11 with fail
  clear q0 q1 g0 g1
  generalize ((u12.setCell ⟨u2.heap.size, 0, none⟩ (.slice s_Y1 (M.dig m4).length c_Y1)).setCell ⟨u2.heap.size, 1, none⟩ (.slice t_Y1 (M.dig n4).length d_Y1)) = u13 at *
  have e0_A := V_A.out.c0
  have e1_A := V_A.out.c1
  have e0_B := V_B.out.c0
  have e1_B := V_B.out.c1
  go_wp2_with fail
  refine (show Calls Tryd.prog 61 _ _ _ from HG1.out a1 a2 b1 b2 c1 c2 d1 d2 _ V_A.out.ra V_A.out.rb V_B.out.ra V_B.out.rb).mono ?_
  rintro e u14 ⟨rfl, hb⟩
  replace F_X := Lib.hid (⟨frozen_below hb V_X.out.c0 F_X.out.1, frozen_below hb V_X.out.c1 F_X.out.2⟩ : _ ∧ _)
  replace F_Y := Lib.hid (⟨frozen_below hb V_Y.out.c0 F_Y.out.1, frozen_below hb V_Y.out.c1 F_Y.out.2⟩ : _ ∧ _)
  replace F_P := Lib.hid (⟨frozen_below hb V_P.out.c0 F_P.out.1, frozen_below hb V_P.out.c1 F_P.out.2⟩ : _ ∧ _)
  replace F_Q := Lib.hid (⟨frozen_below hb V_Q.out.c0 F_Q.out.1, frozen_below hb V_Q.out.c1 F_Q.out.2⟩ : _ ∧ _)
  replace F_U := Lib.hid (⟨frozen_below hb V_U.out.c0 F_U.out.1, frozen_below hb V_U.out.c1 F_U.out.2⟩ : _ ∧ _)
  replace F_V := Lib.hid (⟨frozen_below hb V_V.out.c0 F_V.out.1, frozen_below hb V_V.out.c1 F_V.out.2⟩ : _ ∧ _)
  replace V_A := Lib.hid (V_A.out.below hb)
  replace V_B := Lib.hid (V_B.out.below hb)
  replace V_X := Lib.hid (V_X.out.below hb)
  replace V_Y := Lib.hid (V_Y.out.below hb)
  replace V_P := Lib.hid (V_P.out.below hb)
  replace V_Q := Lib.hid (V_Q.out.below hb)
  replace V_U := Lib.hid (V_U.out.below hb)
  replace V_V := Lib.hid (V_V.out.below hb)
  replace HB := Lib.hid (HB.out.trans (hb.mono HB.out.size))
  clear hb e0_A e1_A e0_B e1_B
  have e0_A := V_A.out.c0
  have e1_A := V_A.out.c1
  have e0_B := V_B.out.c0
  have e1_B := V_B.out.c1
  go_wp2_with fail
  refine (show Calls Tryd.prog 91 _ _ _ from HG2.out a1 a2 b1 b2 c1 c2 d1 d2 _ V_A.out.ra V_A.out.rb V_B.out.ra V_B.out.rb).mono ?_
  rintro e u15 ⟨rfl, hb⟩
  replace F_X := Lib.hid (⟨frozen_below hb V_X.out.c0 F_X.out.1, frozen_below hb V_X.out.c1 F_X.out.2⟩ : _ ∧ _)
  replace F_Y := Lib.hid (⟨frozen_below hb V_Y.out.c0 F_Y.out.1, frozen_below hb V_Y.out.c1 F_Y.out.2⟩ : _ ∧ _)
  replace F_P := Lib.hid (⟨frozen_below hb V_P.out.c0 F_P.out.1, frozen_below hb V_P.out.c1 F_P.out.2⟩ : _ ∧ _)
  replace F_Q := Lib.hid (⟨frozen_below hb V_Q.out.c0 F_Q.out.1, frozen_below hb V_Q.out.c1 F_Q.out.2⟩ : _ ∧ _)
  replace F_U := Lib.hid (⟨frozen_below hb V_U.out.c0 F_U.out.1, frozen_below hb V_U.out.c1 F_U.out.2⟩ : _ ∧ _)
  replace F_V := Lib.hid (⟨frozen_below hb V_V.out.c0 F_V.out.1, frozen_below hb V_V.out.c1 F_V.out.2⟩ : _ ∧ _)
  replace V_A := Lib.hid (V_A.out.below hb)
  replace V_B := Lib.hid (V_B.out.below hb)
  replace V_X := Lib.hid (V_X.out.below hb)
  replace V_Y := Lib.hid (V_Y.out.below hb)
  replace V_P := Lib.hid (V_P.out.below hb)
  replace V_Q := Lib.hid (V_Q.out.below hb)
  replace V_U := Lib.hid (V_U.out.below hb)
  replace V_V := Lib.hid (V_V.out.below hb)
  replace HB := Lib.hid (HB.out.trans (hb.mono HB.out.size))
  clear hb e0_A e1_A e0_B e1_B
  have e0_A := V_A.out.c0
  have e1_A := V_A.out.c1
  go_wp2_with fail
  refine (show Calls Tryd.prog 62 _ _ _ from HI1.out a1 a2 c1 c2 _ V_A.out.ra V_A.out.rb).mono ?_
  rintro e u16 ⟨⟨s_K, c_K, n_K, rfl, hr, hn⟩, hb⟩
  replace F_X := Lib.hid (⟨frozen_below hb V_X.out.c0 F_X.out.1, frozen_below hb V_X.out.c1 F_X.out.2⟩ : _ ∧ _)
  replace F_Y := Lib.hid (⟨frozen_below hb V_Y.out.c0 F_Y.out.1, frozen_below hb V_Y.out.c1 F_Y.out.2⟩ : _ ∧ _)
  replace F_P := Lib.hid (⟨frozen_below hb V_P.out.c0 F_P.out.1, frozen_below hb V_P.out.c1 F_P.out.2⟩ : _ ∧ _)
  replace F_Q := Lib.hid (⟨frozen_below hb V_Q.out.c0 F_Q.out.1, frozen_below hb V_Q.out.c1 F_Q.out.2⟩ : _ ∧ _)
  replace F_U := Lib.hid (⟨frozen_below hb V_U.out.c0 F_U.out.1, frozen_below hb V_U.out.c1 F_U.out.2⟩ : _ ∧ _)
  replace F_V := Lib.hid (⟨frozen_below hb V_V.out.c0 F_V.out.1, frozen_below hb V_V.out.c1 F_V.out.2⟩ : _ ∧ _)
  replace V_A := Lib.hid (V_A.out.below hb)
  replace V_B := Lib.hid (V_B.out.below hb)
  replace V_X := Lib.hid (V_X.out.below hb)
  replace V_Y := Lib.hid (V_Y.out.below hb)
  replace V_P := Lib.hid (V_P.out.below hb)
  replace V_Q := Lib.hid (V_Q.out.below hb)
  replace V_U := Lib.hid (V_U.out.below hb)
  replace V_V := Lib.hid (V_V.out.below hb)
  replace HB := Lib.hid (HB.out.trans (hb.mono HB.out.size))
  clear hb e0_A e1_A
  replace F_X := Lib.hid (⟨frozen_later (.cells #[.slice s_K (M.dig n_K).length c_K] 24) V_X.out.c0 F_X.out.1, frozen_later (.cells #[.slice s_K (M.dig n_K).length c_K] 24) V_X.out.c1 F_X.out.2⟩ : _ ∧ _)
  replace F_Y := Lib.hid (⟨frozen_later (.cells #[.slice s_K (M.dig n_K).length c_K] 24) V_Y.out.c0 F_Y.out.1, frozen_later (.cells #[.slice s_K (M.dig n_K).length c_K] 24) V_Y.out.c1 F_Y.out.2⟩ : _ ∧ _)
  replace F_P := Lib.hid (⟨frozen_later (.cells #[.slice s_K (M.dig n_K).length c_K] 24) V_P.out.c0 F_P.out.1, frozen_later (.cells #[.slice s_K (M.dig n_K).length c_K] 24) V_P.out.c1 F_P.out.2⟩ : _ ∧ _)
  replace F_Q := Lib.hid (⟨frozen_later (.cells #[.slice s_K (M.dig n_K).length c_K] 24) V_Q.out.c0 F_Q.out.1, frozen_later (.cells #[.slice s_K (M.dig n_K).length c_K] 24) V_Q.out.c1 F_Q.out.2⟩ : _ ∧ _)
  replace F_U := Lib.hid (⟨frozen_later (.cells #[.slice s_K (M.dig n_K).length c_K] 24) V_U.out.c0 F_U.out.1, frozen_later (.cells #[.slice s_K (M.dig n_K).length c_K] 24) V_U.out.c1 F_U.out.2⟩ : _ ∧ _)
  replace F_V := Lib.hid (⟨frozen_later (.cells #[.slice s_K (M.dig n_K).length c_K] 24) V_V.out.c0 F_V.out.1, frozen_later (.cells #[.slice s_K (M.dig n_K).length c_K] 24) V_V.out.c1 F_V.out.2⟩ : _ ∧ _)
  replace V_A := Lib.hid (V_A.out.alloc (.cells #[.slice s_K (M.dig n_K).length c_K] 24))
  replace V_B := Lib.hid (V_B.out.alloc (.cells #[.slice s_K (M.dig n_K).length c_K] 24))
  replace V_X := Lib.hid (V_X.out.alloc (.cells #[.slice s_K (M.dig n_K).length c_K] 24))
  replace V_Y := Lib.hid (V_Y.out.alloc (.cells #[.slice s_K (M.dig n_K).length c_K] 24))
  replace V_P := Lib.hid (V_P.out.alloc (.cells #[.slice s_K (M.dig n_K).length c_K] 24))
  replace V_Q := Lib.hid (V_Q.out.alloc (.cells #[.slice s_K (M.dig n_K).length c_K] 24))
  replace V_U := Lib.hid (V_U.out.alloc (.cells #[.slice s_K (M.dig n_K).length c_K] 24))
  replace V_V := Lib.hid (V_V.out.alloc (.cells #[.slice s_K (M.dig n_K).length c_K] 24))
  replace HB := Lib.hid (HB.out.alloc HB.out.size (.cells #[.slice s_K (M.dig n_K).length c_K] 24))
  have V_K := Lib.hid (Var.new hr)
  have N_K := Lib.hid hn
  clear hr hn
  have e0_A := V_A.out.c0
  have e1_A := V_A.out.c1
  go_wp2_with fail
  refine (show Calls Tryd.prog 92 _ _ _ from HI2.out a1 a2 c1 c2 _ V_A.out.ra V_A.out.rb).mono ?_
  rintro e u17 ⟨⟨s_L, c_L, n_L, rfl, hr, hn⟩, hb⟩
  replace F_X := Lib.hid (⟨frozen_below hb V_X.out.c0 F_X.out.1, frozen_below hb V_X.out.c1 F_X.out.2⟩ : _ ∧ _)
  replace F_Y := Lib.hid (⟨frozen_below hb V_Y.out.c0 F_Y.out.1, frozen_below hb V_Y.out.c1 F_Y.out.2⟩ : _ ∧ _)
  replace F_P := Lib.hid (⟨frozen_below hb V_P.out.c0 F_P.out.1, frozen_below hb V_P.out.c1 F_P.out.2⟩ : _ ∧ _)
  replace F_Q := Lib.hid (⟨frozen_below hb V_Q.out.c0 F_Q.out.1, frozen_below hb V_Q.out.c1 F_Q.out.2⟩ : _ ∧ _)
  replace F_U := Lib.hid (⟨frozen_below hb V_U.out.c0 F_U.out.1, frozen_below hb V_U.out.c1 F_U.out.2⟩ : _ ∧ _)
  replace F_V := Lib.hid (⟨frozen_below hb V_V.out.c0 F_V.out.1, frozen_below hb V_V.out.c1 F_V.out.2⟩ : _ ∧ _)
  replace V_A := Lib.hid (V_A.out.below hb)
  replace V_B := Lib.hid (V_B.out.below hb)
  replace V_X := Lib.hid (V_X.out.below hb)
  replace V_Y := Lib.hid (V_Y.out.below hb)
  replace V_P := Lib.hid (V_P.out.below hb)
  replace V_Q := Lib.hid (V_Q.out.below hb)
  replace V_U := Lib.hid (V_U.out.below hb)
  replace V_V := Lib.hid (V_V.out.below hb)
  replace V_K := Lib.hid (V_K.out.below hb)
  replace HB := Lib.hid (HB.out.trans (hb.mono HB.out.size))
  clear hb e0_A e1_A
  replace F_X := Lib.hid (⟨frozen_later (.cells #[.slice s_L (M.dig n_L).length c_L] 24) V_X.out.c0 F_X.out.1, frozen_later (.cells #[.slice s_L (M.dig n_L).length c_L] 24) V_X.out.c1 F_X.out.2⟩ : _ ∧ _)
  replace F_Y := Lib.hid (⟨frozen_later (.cells #[.slice s_L (M.dig n_L).length c_L] 24) V_Y.out.c0 F_Y.out.1, frozen_later (.cells #[.slice s_L (M.dig n_L).length c_L] 24) V_Y.out.c1 F_Y.out.2⟩ : _ ∧ _)
  replace F_P := Lib.hid (⟨frozen_later (.cells #[.slice s_L (M.dig n_L).length c_L] 24) V_P.out.c0 F_P.out.1, frozen_later (.cells #[.slice s_L (M.dig n_L).length c_L] 24) V_P.out.c1 F_P.out.2⟩ : _ ∧ _)
  replace F_Q := Lib.hid (⟨frozen_later (.cells #[.slice s_L (M.dig n_L).length c_L] 24) V_Q.out.c0 F_Q.out.1, frozen_later (.cells #[.slice s_L (M.dig n_L).length c_L] 24) V_Q.out.c1 F_Q.out.2⟩ : _ ∧ _)
  replace F_U := Lib.hid (⟨frozen_later (.cells #[.slice s_L (M.dig n_L).length c_L] 24) V_U.out.c0 F_U.out.1, frozen_later (.cells #[.slice s_L (M.dig n_L).length c_L] 24) V_U.out.c1 F_U.out.2⟩ : _ ∧ _)
  replace F_V := Lib.hid (⟨frozen_later (.cells #[.slice s_L (M.dig n_L).length c_L] 24) V_V.out.c0 F_V.out.1, frozen_later (.cells #[.slice s_L (M.dig n_L).length c_L] 24) V_V.out.c1 F_V.out.2⟩ : _ ∧ _)
  replace V_A := Lib.hid (V_A.out.alloc (.cells #[.slice s_L (M.dig n_L).length c_L] 24))
  replace V_B := Lib.hid (V_B.out.alloc (.cells #[.slice s_L (M.dig n_L).length c_L] 24))
  replace V_X := Lib.hid (V_X.out.alloc (.cells #[.slice s_L (M.dig n_L).length c_L] 24))
  replace V_Y := Lib.hid (V_Y.out.alloc (.cells #[.slice s_L (M.dig n_L).length c_L] 24))
  replace V_P := Lib.hid (V_P.out.alloc (.cells #[.slice s_L (M.dig n_L).length c_L] 24))
  replace V_Q := Lib.hid (V_Q.out.alloc (.cells #[.slice s_L (M.dig n_L).length c_L] 24))
  replace V_U := Lib.hid (V_U.out.alloc (.cells #[.slice s_L (M.dig n_L).length c_L] 24))
  replace V_V := Lib.hid (V_V.out.alloc (.cells #[.slice s_L (M.dig n_L).length c_L] 24))
  replace V_K := Lib.hid (V_K.out.alloc (.cells #[.slice s_L (M.dig n_L).length c_L] 24))
  replace HB := Lib.hid (HB.out.alloc HB.out.size (.cells #[.slice s_L (M.dig n_L).length c_L] 24))
  have V_L := Lib.hid (Var.new hr)
  have N_L := Lib.hid hn
  clear hr hn
  go_upto_region 15 with fail
  generalize u17.alloc (.cells #[.slice s_L (M.dig n_L).length c_L] 24) = uz at *
  have HO := Over.one uz
  have hA0 : ∀ n : Over uz, n.w.cell? ⟨w.heap.size, 0, none⟩ = some (.slice a1 z1.length c1) := fun n => cell_below n.h V_A.out.c0
  have hA1 : ∀ n : Over uz, n.w.cell? ⟨w.heap.size, 1, none⟩ = some (.slice a2 z2.length c2) := fun n => cell_below n.h V_A.out.c1
  have hX0 : ∀ n : Over uz, n.w.cell? ⟨u1.heap.size, 0, none⟩ = some (.slice s_X1 (M.dig m4).length c_X1) := fun n => cell_below n.h V_X.out.c0
  have hX1 : ∀ n : Over uz, n.w.cell? ⟨u1.heap.size, 1, none⟩ = some (.slice t_X1 (M.dig n4).length d_X1) := fun n => cell_below n.h V_X.out.c1
  have hY0 : ∀ n : Over uz, n.w.cell? ⟨u2.heap.size, 0, none⟩ = some (.slice s_Y1 (M.dig m4).length c_Y1) := fun n => cell_below n.h V_Y.out.c0
  have hY1 : ∀ n : Over uz, n.w.cell? ⟨u2.heap.size, 1, none⟩ = some (.slice t_Y1 (M.dig n4).length d_Y1) := fun n => cell_below n.h V_Y.out.c1
  have hK : ∀ n : Over uz, n.w.cell? ⟨u16.heap.size, 0, none⟩ = some (.slice s_K (M.dig n_K).length c_K) := fun n => cell_below n.h V_K.out.cell
  have rK := Lib.hid (fun n : Over uz => V_K.out.row.below n.h)
  have hL : ∀ n : Over uz, n.w.cell? ⟨u17.heap.size, 0, none⟩ = some (.slice s_L (M.dig n_L).length c_L) := fun n => cell_below n.h V_L.out.cell
  have rL := Lib.hid (fun n : Over uz => V_L.out.row.below n.h)
  have rX := Lib.hid (fun n : Over uz => (V_X.out.below n.h).val)
  have rY := Lib.hid (fun n : Over uz => (V_Y.out.below n.h).val)
  have rA := Lib.hid (fun n : Over uz => V_A.out.ra.below n.h)
  have rA' := Lib.hid (fun n : Over uz => V_A.out.rb.below n.h)
  refine wp_region_over (by kernel_rfl) (by kernel_rfl) ?_
  repeat (go_big_quiet_step (first | exact fun _ => rfl | rfl | (with_reducible exact quiet_over (ratSame_any (rX.out _) (rY.out _))) | (with_reducible exact quiet_over (same_nat2 (N_K.out.trans N_L.out.symm) (rK.out _) (rL.out _))) | (with_reducible exact quiet_over (HJ1.out a1 a2 c1 c2 _ (rA.out _) (rA'.out _))) | (with_reducible exact quiet_over (HJ2.out a1 a2 c1 c2 _ (rA.out _) (rA'.out _))) | (with_reducible exact quiet_over (HP1.out a1 a2 c1 c2 _ (rA.out _) (rA'.out _))) | (with_reducible exact quiet_over (HP2.out a1 a2 c1 c2 _ (rA.out _) (rA'.out _)))))
  refine wpQuiet_nil ?_
  intro _ hw'
  obtain ⟨nq, rfl⟩ := hw'
  replace HB := Lib.hid (HB.out.trans (nq.h.mono HB.out.size))
  go_wp2_with fail
  go_ret
  exact ⟨rfl, HB.out⟩
end Go.Proofs.YtfaggdjoogpmmaaDoor
