/- The walk of law01.NatNumbers. -/
import Derived.Test.YtneimnacanhjmaaDoorBNumBoth
import Derived.Test.YtneimnacanhjmaaDoorBQuietW
import Derived.Test.YtneimnacanhjmaaDoorB10
namespace Go.Proofs.YtneimnacanhjmaaDoor
open Go Go.RowKit Go.Shelf

theorem same_val {a b : Option Addr} {ca cb x y : Nat} {w : World} (h : x = y) (ha : Row w a (M.dig x) ca) (hb : Row w b (M.dig y) cb) :
    Calls Tryd.prog 30 #[.agg #[.slice a (M.dig x).length ca], .agg #[.slice b (M.dig y).length cb]] w fun e W' => e = .returned (.bool true) ∧ Below w.heap.size w W' := by
  subst h; exact same_any a b _ ca cb w ha hb
theorem some_ne {p q : Nat} (h : p ≠ q) : some p ≠ some q := fun e => h (Option.some.inj e)

/-- A variable of type [3]int. -/
structure TVar (W : World) (p : Nat) (x y z : Int) : Prop where
  c0 : W.cell? ⟨p, 0, none⟩ = some (.int .i64 x)
  c1 : W.cell? ⟨p, 1, none⟩ = some (.int .i64 y)
  c2 : W.cell? ⟨p, 2, none⟩ = some (.int .i64 z)
theorem TVar.below {W W' : World} {p : Nat} {x y z : Int} (h : TVar W p x y z) (hb : Below W.heap.size W W') : TVar W' p x y z := ⟨cell_below hb h.c0, cell_below hb h.c1, cell_below hb h.c2⟩
theorem TVar.alloc {W : World} {p : Nat} {x y z : Int} (h : TVar W p x y z) (o : Obj) : TVar (W.alloc o) p x y z := h.below ((Below.refl _ W).alloc (Nat.le_refl _) o)
theorem TVar.new (w : World) (x y z : Int) (t : TypeId) : TVar (w.alloc (.cells #[.int .i64 x, .int .i64 y, .int .i64 z] t)) w.heap.size x y z := by
  constructor <;> go_simp

set_option maxRecDepth 100000 in
set_option maxHeartbeats 1000000 in
theorem numbers_any (m0 m1 m2 : Int) (S : ByteArray) (ta : Option Addr) (tc : Nat) (ts : List Int) (w : World) (hm0 : m0 ≤ 9223372036854775807) (hR : Row w ta ts tc) :
    Calls Tryd.prog 6 #[.agg #[.int .i64 m0, .int .i64 m1, .int .i64 m2], .string S, .slice ta ts.length tc] w fun e W' => e = .returned (.bool true) ∧ Below w.heap.size w W' := by
  have V_N := Lib.hid (TVar.new w m0 m1 m2 39)
  have hB0 := (Below.refl _ w).alloc (Nat.le_refl _) (.cells #[.int .i64 m0, .int .i64 m1, .int .i64 m2] 39)
  have HR := Lib.hid (hR.below hB0)
  have HB := Lib.hid hB0
  have HLT := Lib.hid (fun W : World => light_any ta ts.length tc W)
  obtain ⟨E1, k1, A1, A2⟩ := of_two m0 hm0
  obtain ⟨E3, k3, C1, C2⟩ := choose_two m1 m2
  obtain ⟨E4, k4, D1, D2⟩ := parse_two S
  have HA1 := Lib.hid A1
  have HA2 := Lib.hid A2
  have HC1 := Lib.hid C1
  have HC2 := Lib.hid C2
  have HD1 := Lib.hid D1
  have HD2 := Lib.hid D2
  clear hR hB0 A1 A2 C1 C2 D1 D2 hm0
  by_cases hl : (ts.length : Int) ≤ 400
  · by_cases hS : 3000 < (S.size : Int)
    · skip
      go_enter Tryd.func6, Tryd.ntmps6
      go_wp2_with fail
      generalize w.alloc (.cells #[.int .i64 m0, .int .i64 m1, .int .i64 m2] 39) = w0 at *
      refine (HLT.out _).mono ?_
      rintro e w' ⟨rfl, rfl⟩
      have hlo0 : w.heap.size < w'.heap.size := lt_of_cell V_N.out.c0
      rw [show decide ((ts.length : Int) ≤ 400) = true from decide_eq_true hl]
      go_wp2_with fail
      refine (awake_any _).mono ?_
      rintro e w8 ⟨rfl, hb⟩
      replace HB := Lib.hid (HB.out.trans (hb.mono HB.out.size))
      clear hb
      go_wp2_with fail
      go_ret
      exact ⟨rfl, HB.out⟩
    · skip
      go_enter Tryd.func6, Tryd.ntmps6
      go_wp2_with fail
      generalize w.alloc (.cells #[.int .i64 m0, .int .i64 m1, .int .i64 m2] 39) = w0 at *
      refine (HLT.out _).mono ?_
      rintro e w' ⟨rfl, rfl⟩
      have hlo0 : w.heap.size < w'.heap.size := lt_of_cell V_N.out.c0
      rw [show decide ((ts.length : Int) ≤ 400) = true from decide_eq_true hl]
      
      go_wp2_with fail
      refine (roll_any ta tc ts _ HR.out (by omega)).mono ?_
      rintro e w1 ⟨rfl, hd, hb⟩
      replace V_N := Lib.hid (V_N.out.below hb)
      replace HB := Lib.hid (HB.out.trans (hb.mono HB.out.size))
      have HD := Lib.hid hd
      have hlo := hb.size
      clear hb hd HR HLT
      go_wp2_with fail
      refine (show Calls Tryd.prog 22 #[.pointer (some ⟨w'.heap.size, 0, none⟩), .int .i64 3] w1 _ from diceNat_any w1 w'.heap.size ta tc ts 0 3 (by omega) HD.out).mono ?_
      rintro e w2 ⟨v, x, k2, rfl, ⟨a, ca, rfl, hx⟩, hxl, _, hg⟩
      replace V_N := Lib.hid (show TVar w2 w.heap.size m0 m1 m2 from ⟨hg.cell V_N.out.c0 (some_ne (p := w.heap.size) (by omega)), hg.cell V_N.out.c1 (some_ne (p := w.heap.size) (by omega)), hg.cell V_N.out.c2 (some_ne (p := w.heap.size) (by omega))⟩)
      replace HB := Lib.hid (HB.out.trans (below_of_dice hg (by omega) HB.out.size))
      replace V_N := Lib.hid (V_N.out.alloc (.cells #[.slice a (M.dig x).length ca] 24))
      replace HB := Lib.hid (HB.out.alloc HB.out.size (.cells #[.slice a (M.dig x).length ca] 24))
      
      obtain ⟨E2, k2', B1, B2⟩ := power_two x m1 (by omega)
      have HP1 := Lib.hid B1
      have HP2 := Lib.hid B2
      have V_A := Lib.hid (Var.new hx)
      clear hx hg hlo HD B1 B2
      
      have e0 := V_N.out.c0
      have e1 := V_N.out.c1
      have e2 := V_N.out.c2
      have e3 := V_A.out.cell
      go_wp2_with fail
      refine (show Calls Tryd.prog 31 _ _ _ from HA1.out _).mono ?_
      rintro e u3 ⟨⟨s_X, c_X, n_X, rfl, hr, hn⟩, hb⟩
      clear e0 e1 e2 e3
      replace V_N := Lib.hid (V_N.out.below hb)
      replace V_A := Lib.hid (V_A.out.below hb)
      replace HB := Lib.hid (HB.out.trans (hb.mono HB.out.size))
      replace V_N := Lib.hid (V_N.out.alloc (.cells #[.slice s_X (M.dig n_X).length c_X] 24))
      replace V_A := Lib.hid (V_A.out.alloc (.cells #[.slice s_X (M.dig n_X).length c_X] 24))
      replace HB := Lib.hid (HB.out.alloc HB.out.size (.cells #[.slice s_X (M.dig n_X).length c_X] 24))
      have V_X := Lib.hid (Var.new hr)
      have N_X := Lib.hid hn
      clear hb hr hn
      have e0 := V_N.out.c0
      have e1 := V_N.out.c1
      have e2 := V_N.out.c2
      have e3 := V_A.out.cell
      go_wp2_with fail
      refine (show Calls Tryd.prog 32 _ _ _ from HA2.out _).mono ?_
      rintro e u4 ⟨⟨s_Y, c_Y, n_Y, rfl, hr, hn⟩, hb⟩
      clear e0 e1 e2 e3
      replace V_N := Lib.hid (V_N.out.below hb)
      replace V_A := Lib.hid (V_A.out.below hb)
      replace V_X := Lib.hid (V_X.out.below hb)
      replace HB := Lib.hid (HB.out.trans (hb.mono HB.out.size))
      replace V_N := Lib.hid (V_N.out.alloc (.cells #[.slice s_Y (M.dig n_Y).length c_Y] 24))
      replace V_A := Lib.hid (V_A.out.alloc (.cells #[.slice s_Y (M.dig n_Y).length c_Y] 24))
      replace V_X := Lib.hid (V_X.out.alloc (.cells #[.slice s_Y (M.dig n_Y).length c_Y] 24))
      replace HB := Lib.hid (HB.out.alloc HB.out.size (.cells #[.slice s_Y (M.dig n_Y).length c_Y] 24))
      have V_Y := Lib.hid (Var.new hr)
      have N_Y := Lib.hid hn
      clear hb hr hn
      have e0 := V_N.out.c0
      have e1 := V_N.out.c1
      have e2 := V_N.out.c2
      have e3 := V_A.out.cell
      go_wp2_with fail
      refine (show Calls Tryd.prog 33 _ _ _ from HP1.out a ca _ V_A.out.row).mono ?_
      rintro e u5 ⟨⟨s_P, c_P, n_P, rfl, hr, hn⟩, hb⟩
      clear e0 e1 e2 e3
      replace V_N := Lib.hid (V_N.out.below hb)
      replace V_A := Lib.hid (V_A.out.below hb)
      replace V_X := Lib.hid (V_X.out.below hb)
      replace V_Y := Lib.hid (V_Y.out.below hb)
      replace HB := Lib.hid (HB.out.trans (hb.mono HB.out.size))
      replace V_N := Lib.hid (V_N.out.alloc (.cells #[.slice s_P (M.dig n_P).length c_P] 24))
      replace V_A := Lib.hid (V_A.out.alloc (.cells #[.slice s_P (M.dig n_P).length c_P] 24))
      replace V_X := Lib.hid (V_X.out.alloc (.cells #[.slice s_P (M.dig n_P).length c_P] 24))
      replace V_Y := Lib.hid (V_Y.out.alloc (.cells #[.slice s_P (M.dig n_P).length c_P] 24))
      replace HB := Lib.hid (HB.out.alloc HB.out.size (.cells #[.slice s_P (M.dig n_P).length c_P] 24))
      have V_P := Lib.hid (Var.new hr)
      have N_P := Lib.hid hn
      clear hb hr hn
      have e0 := V_N.out.c0
      have e1 := V_N.out.c1
      have e2 := V_N.out.c2
      have e3 := V_A.out.cell
      go_wp2_with fail
      refine (show Calls Tryd.prog 34 _ _ _ from HP2.out a ca _ V_A.out.row).mono ?_
      rintro e u6 ⟨⟨s_Q, c_Q, n_Q, rfl, hr, hn⟩, hb⟩
      clear e0 e1 e2 e3
      replace V_N := Lib.hid (V_N.out.below hb)
      replace V_A := Lib.hid (V_A.out.below hb)
      replace V_X := Lib.hid (V_X.out.below hb)
      replace V_Y := Lib.hid (V_Y.out.below hb)
      replace V_P := Lib.hid (V_P.out.below hb)
      replace HB := Lib.hid (HB.out.trans (hb.mono HB.out.size))
      replace V_N := Lib.hid (V_N.out.alloc (.cells #[.slice s_Q (M.dig n_Q).length c_Q] 24))
      replace V_A := Lib.hid (V_A.out.alloc (.cells #[.slice s_Q (M.dig n_Q).length c_Q] 24))
      replace V_X := Lib.hid (V_X.out.alloc (.cells #[.slice s_Q (M.dig n_Q).length c_Q] 24))
      replace V_Y := Lib.hid (V_Y.out.alloc (.cells #[.slice s_Q (M.dig n_Q).length c_Q] 24))
      replace V_P := Lib.hid (V_P.out.alloc (.cells #[.slice s_Q (M.dig n_Q).length c_Q] 24))
      replace HB := Lib.hid (HB.out.alloc HB.out.size (.cells #[.slice s_Q (M.dig n_Q).length c_Q] 24))
      have V_Q := Lib.hid (Var.new hr)
      have N_Q := Lib.hid hn
      clear hb hr hn
      have e0 := V_N.out.c0
      have e1 := V_N.out.c1
      have e2 := V_N.out.c2
      have e3 := V_A.out.cell
      go_wp2_with fail
      refine (show Calls Tryd.prog 35 _ _ _ from HC1.out _).mono ?_
      rintro e u7 ⟨⟨s_U, c_U, n_U, rfl, hr, hn⟩, hb⟩
      clear e0 e1 e2 e3
      replace V_N := Lib.hid (V_N.out.below hb)
      replace V_A := Lib.hid (V_A.out.below hb)
      replace V_X := Lib.hid (V_X.out.below hb)
      replace V_Y := Lib.hid (V_Y.out.below hb)
      replace V_P := Lib.hid (V_P.out.below hb)
      replace V_Q := Lib.hid (V_Q.out.below hb)
      replace HB := Lib.hid (HB.out.trans (hb.mono HB.out.size))
      replace V_N := Lib.hid (V_N.out.alloc (.cells #[.slice s_U (M.dig n_U).length c_U] 24))
      replace V_A := Lib.hid (V_A.out.alloc (.cells #[.slice s_U (M.dig n_U).length c_U] 24))
      replace V_X := Lib.hid (V_X.out.alloc (.cells #[.slice s_U (M.dig n_U).length c_U] 24))
      replace V_Y := Lib.hid (V_Y.out.alloc (.cells #[.slice s_U (M.dig n_U).length c_U] 24))
      replace V_P := Lib.hid (V_P.out.alloc (.cells #[.slice s_U (M.dig n_U).length c_U] 24))
      replace V_Q := Lib.hid (V_Q.out.alloc (.cells #[.slice s_U (M.dig n_U).length c_U] 24))
      replace HB := Lib.hid (HB.out.alloc HB.out.size (.cells #[.slice s_U (M.dig n_U).length c_U] 24))
      have V_U := Lib.hid (Var.new hr)
      have N_U := Lib.hid hn
      clear hb hr hn
      have e0 := V_N.out.c0
      have e1 := V_N.out.c1
      have e2 := V_N.out.c2
      have e3 := V_A.out.cell
      go_wp2_with fail
      refine (show Calls Tryd.prog 36 _ _ _ from HC2.out _).mono ?_
      rintro e u8 ⟨⟨s_V, c_V, n_V, rfl, hr, hn⟩, hb⟩
      clear e0 e1 e2 e3
      replace V_N := Lib.hid (V_N.out.below hb)
      replace V_A := Lib.hid (V_A.out.below hb)
      replace V_X := Lib.hid (V_X.out.below hb)
      replace V_Y := Lib.hid (V_Y.out.below hb)
      replace V_P := Lib.hid (V_P.out.below hb)
      replace V_Q := Lib.hid (V_Q.out.below hb)
      replace V_U := Lib.hid (V_U.out.below hb)
      replace HB := Lib.hid (HB.out.trans (hb.mono HB.out.size))
      replace V_N := Lib.hid (V_N.out.alloc (.cells #[.slice s_V (M.dig n_V).length c_V] 24))
      replace V_A := Lib.hid (V_A.out.alloc (.cells #[.slice s_V (M.dig n_V).length c_V] 24))
      replace V_X := Lib.hid (V_X.out.alloc (.cells #[.slice s_V (M.dig n_V).length c_V] 24))
      replace V_Y := Lib.hid (V_Y.out.alloc (.cells #[.slice s_V (M.dig n_V).length c_V] 24))
      replace V_P := Lib.hid (V_P.out.alloc (.cells #[.slice s_V (M.dig n_V).length c_V] 24))
      replace V_Q := Lib.hid (V_Q.out.alloc (.cells #[.slice s_V (M.dig n_V).length c_V] 24))
      replace V_U := Lib.hid (V_U.out.alloc (.cells #[.slice s_V (M.dig n_V).length c_V] 24))
      replace HB := Lib.hid (HB.out.alloc HB.out.size (.cells #[.slice s_V (M.dig n_V).length c_V] 24))
      have V_V := Lib.hid (Var.new hr)
      have N_V := Lib.hid hn
      clear hb hr hn
      have e0 := V_N.out.c0
      have e1 := V_N.out.c1
      have e2 := V_N.out.c2
      have e3 := V_A.out.cell
      go_wp2_with fail
      refine (show Calls Tryd.prog 37 _ _ _ from HD1.out _).mono ?_
      rintro e u9 ⟨⟨s_R, c_R, n_R, rfl, hr, hn⟩, hb⟩
      clear e0 e1 e2 e3
      replace V_N := Lib.hid (V_N.out.below hb)
      replace V_A := Lib.hid (V_A.out.below hb)
      replace V_X := Lib.hid (V_X.out.below hb)
      replace V_Y := Lib.hid (V_Y.out.below hb)
      replace V_P := Lib.hid (V_P.out.below hb)
      replace V_Q := Lib.hid (V_Q.out.below hb)
      replace V_U := Lib.hid (V_U.out.below hb)
      replace V_V := Lib.hid (V_V.out.below hb)
      replace HB := Lib.hid (HB.out.trans (hb.mono HB.out.size))
      replace V_N := Lib.hid (V_N.out.alloc (.cells #[.slice s_R (M.dig n_R).length c_R] 24))
      replace V_A := Lib.hid (V_A.out.alloc (.cells #[.slice s_R (M.dig n_R).length c_R] 24))
      replace V_X := Lib.hid (V_X.out.alloc (.cells #[.slice s_R (M.dig n_R).length c_R] 24))
      replace V_Y := Lib.hid (V_Y.out.alloc (.cells #[.slice s_R (M.dig n_R).length c_R] 24))
      replace V_P := Lib.hid (V_P.out.alloc (.cells #[.slice s_R (M.dig n_R).length c_R] 24))
      replace V_Q := Lib.hid (V_Q.out.alloc (.cells #[.slice s_R (M.dig n_R).length c_R] 24))
      replace V_U := Lib.hid (V_U.out.alloc (.cells #[.slice s_R (M.dig n_R).length c_R] 24))
      replace V_V := Lib.hid (V_V.out.alloc (.cells #[.slice s_R (M.dig n_R).length c_R] 24))
      replace HB := Lib.hid (HB.out.alloc HB.out.size (.cells #[.slice s_R (M.dig n_R).length c_R] 24))
      have V_R := Lib.hid (Var.new hr)
      have N_R := Lib.hid hn
      clear hb hr hn
      have e0 := V_N.out.c0
      have e1 := V_N.out.c1
      have e2 := V_N.out.c2
      have e3 := V_A.out.cell
      go_wp2_with fail
      refine (show Calls Tryd.prog 38 _ _ _ from HD2.out _).mono ?_
      rintro e u10 ⟨⟨s_S, c_S, n_S, rfl, hr, hn⟩, hb⟩
      clear e0 e1 e2 e3
      replace V_N := Lib.hid (V_N.out.below hb)
      replace V_A := Lib.hid (V_A.out.below hb)
      replace V_X := Lib.hid (V_X.out.below hb)
      replace V_Y := Lib.hid (V_Y.out.below hb)
      replace V_P := Lib.hid (V_P.out.below hb)
      replace V_Q := Lib.hid (V_Q.out.below hb)
      replace V_U := Lib.hid (V_U.out.below hb)
      replace V_V := Lib.hid (V_V.out.below hb)
      replace V_R := Lib.hid (V_R.out.below hb)
      replace HB := Lib.hid (HB.out.trans (hb.mono HB.out.size))
      replace V_N := Lib.hid (V_N.out.alloc (.cells #[.slice s_S (M.dig n_S).length c_S] 24))
      replace V_A := Lib.hid (V_A.out.alloc (.cells #[.slice s_S (M.dig n_S).length c_S] 24))
      replace V_X := Lib.hid (V_X.out.alloc (.cells #[.slice s_S (M.dig n_S).length c_S] 24))
      replace V_Y := Lib.hid (V_Y.out.alloc (.cells #[.slice s_S (M.dig n_S).length c_S] 24))
      replace V_P := Lib.hid (V_P.out.alloc (.cells #[.slice s_S (M.dig n_S).length c_S] 24))
      replace V_Q := Lib.hid (V_Q.out.alloc (.cells #[.slice s_S (M.dig n_S).length c_S] 24))
      replace V_U := Lib.hid (V_U.out.alloc (.cells #[.slice s_S (M.dig n_S).length c_S] 24))
      replace V_V := Lib.hid (V_V.out.alloc (.cells #[.slice s_S (M.dig n_S).length c_S] 24))
      replace V_R := Lib.hid (V_R.out.alloc (.cells #[.slice s_S (M.dig n_S).length c_S] 24))
      replace HB := Lib.hid (HB.out.alloc HB.out.size (.cells #[.slice s_S (M.dig n_S).length c_S] 24))
      have V_S := Lib.hid (Var.new hr)
      have N_S := Lib.hid hn
      clear hb hr hn
      go_upto_region 12 with fail
      generalize u10.alloc (.cells #[.slice s_S (M.dig n_S).length c_S] 24) = uz at *
      clear V_N V_A
      go_wp2_with fail
      refine (awake_any _).mono ?_
      rintro e z0 ⟨rfl, hb⟩
      replace V_X := Lib.hid (V_X.out.below hb)
      replace V_Y := Lib.hid (V_Y.out.below hb)
      replace V_P := Lib.hid (V_P.out.below hb)
      replace V_Q := Lib.hid (V_Q.out.below hb)
      replace V_U := Lib.hid (V_U.out.below hb)
      replace V_V := Lib.hid (V_V.out.below hb)
      replace V_R := Lib.hid (V_R.out.below hb)
      replace V_S := Lib.hid (V_S.out.below hb)
      replace HB := Lib.hid (HB.out.trans (hb.mono HB.out.size))
      clear hb
      have e0 := V_X.out.cell
      have e1 := V_Y.out.cell
      go_wp2_with fail
      refine (same_val (N_X.out.trans N_Y.out.symm) V_X.out.row V_Y.out.row).mono ?_
      rintro e z1 ⟨rfl, hb⟩
      clear e0 e1
      replace V_X := Lib.hid (V_X.out.below hb)
      replace V_Y := Lib.hid (V_Y.out.below hb)
      replace V_P := Lib.hid (V_P.out.below hb)
      replace V_Q := Lib.hid (V_Q.out.below hb)
      replace V_U := Lib.hid (V_U.out.below hb)
      replace V_V := Lib.hid (V_V.out.below hb)
      replace V_R := Lib.hid (V_R.out.below hb)
      replace V_S := Lib.hid (V_S.out.below hb)
      replace HB := Lib.hid (HB.out.trans (hb.mono HB.out.size))
      clear hb
      have e0 := V_P.out.cell
      have e1 := V_Q.out.cell
      go_wp2_with fail
      refine (same_val (N_P.out.trans N_Q.out.symm) V_P.out.row V_Q.out.row).mono ?_
      rintro e z2 ⟨rfl, hb⟩
      clear e0 e1
      replace V_X := Lib.hid (V_X.out.below hb)
      replace V_Y := Lib.hid (V_Y.out.below hb)
      replace V_P := Lib.hid (V_P.out.below hb)
      replace V_Q := Lib.hid (V_Q.out.below hb)
      replace V_U := Lib.hid (V_U.out.below hb)
      replace V_V := Lib.hid (V_V.out.below hb)
      replace V_R := Lib.hid (V_R.out.below hb)
      replace V_S := Lib.hid (V_S.out.below hb)
      replace HB := Lib.hid (HB.out.trans (hb.mono HB.out.size))
      clear hb
      have e0 := V_U.out.cell
      have e1 := V_V.out.cell
      go_wp2_with fail
      refine (same_val (N_U.out.trans N_V.out.symm) V_U.out.row V_V.out.row).mono ?_
      rintro e z3 ⟨rfl, hb⟩
      clear e0 e1
      replace V_X := Lib.hid (V_X.out.below hb)
      replace V_Y := Lib.hid (V_Y.out.below hb)
      replace V_P := Lib.hid (V_P.out.below hb)
      replace V_Q := Lib.hid (V_Q.out.below hb)
      replace V_U := Lib.hid (V_U.out.below hb)
      replace V_V := Lib.hid (V_V.out.below hb)
      replace V_R := Lib.hid (V_R.out.below hb)
      replace V_S := Lib.hid (V_S.out.below hb)
      replace HB := Lib.hid (HB.out.trans (hb.mono HB.out.size))
      clear hb
      have e0 := V_R.out.cell
      have e1 := V_S.out.cell
      go_wp2_with fail
      refine (same_val (N_R.out.trans N_S.out.symm) V_R.out.row V_S.out.row).mono ?_
      rintro e z4 ⟨rfl, hb⟩
      clear e0 e1
      replace V_X := Lib.hid (V_X.out.below hb)
      replace V_Y := Lib.hid (V_Y.out.below hb)
      replace V_P := Lib.hid (V_P.out.below hb)
      replace V_Q := Lib.hid (V_Q.out.below hb)
      replace V_U := Lib.hid (V_U.out.below hb)
      replace V_V := Lib.hid (V_V.out.below hb)
      replace V_R := Lib.hid (V_R.out.below hb)
      replace V_S := Lib.hid (V_S.out.below hb)
      replace HB := Lib.hid (HB.out.trans (hb.mono HB.out.size))
      clear hb
      go_wp2_with fail
      go_ret
      exact ⟨rfl, HB.out⟩
  · skip
    go_enter Tryd.func6, Tryd.ntmps6
    go_wp2_with fail
    generalize w.alloc (.cells #[.int .i64 m0, .int .i64 m1, .int .i64 m2] 39) = w0 at *
    refine (HLT.out _).mono ?_
    rintro e w' ⟨rfl, rfl⟩
    have hlo0 : w.heap.size < w'.heap.size := lt_of_cell V_N.out.c0
    rw [show decide ((ts.length : Int) ≤ 400) = false from decide_eq_false (by omega)]
    go_wp2_with fail
    refine (awake_any _).mono ?_
    rintro e w8 ⟨rfl, hb⟩
    replace HB := Lib.hid (HB.out.trans (hb.mono HB.out.size))
    clear hb
    go_wp2_with fail
    go_ret
    exact ⟨rfl, HB.out⟩
end Go.Proofs.YtneimnacanhjmaaDoor
