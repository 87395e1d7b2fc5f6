/- The walk of RatioInts. -/
import Derived.Test.YtneimnacanhjmaaDoorBOfAll
import Derived.Test.YtneimnacanhjmaaDoorB10
namespace Go.Proofs.YtneimnacanhjmaaDoor
open Go Go.RowKit Go.Shelf

/-- RRes, with names for the two numbers. -/
def RRes2 (E : Int) (k l : Nat) (e : Ending) (W : World) : Prop := ∃ s c t d n m, e = .returned (.tuple #[.agg #[.slice s (M.dig n).length c, .slice t (M.dig m).length d], .int .i64 E]) ∧ Row W s (M.dig n) c ∧ Row W t (M.dig m) d ∧ n = k ∧ m = l
theorem two_res {f : FuncId} {args : Array Value} {w : World} {E : Int} {k l : Nat} (h : Calls Tryd.prog f args w fun e W' => RRes E k l e W' ∧ Below w.heap.size w W') : Calls Tryd.prog f args w fun e W' => RRes2 E k l e W' ∧ Below w.heap.size w W' :=
  h.mono fun _ _ ⟨⟨s, c, t, d, he, h1, h2⟩, hb⟩ => ⟨⟨s, c, t, d, k, l, he, h1, h2, rfl, rfl⟩, hb⟩
theorem ratSame_eq {u v : Value} {x y z t : Nat} {w : World} (hu : RatV w u x y) (hv : RatV w v z t) (h1 : x = z) (h2 : y = t) :
    Calls Tryd.prog 53 #[u, v] w fun e W' => e = .returned (.bool true) ∧ Below w.heap.size w W' := by
  refine (ratSame_is hu hv).mono ?_
  rintro e W' ⟨rfl, hb⟩
  exact ⟨by rw [decide_eq_true ⟨h1, h2⟩], hb⟩
/-- A variable that holds any list of limbs. -/
structure LVar (W : World) (p : Nat) (a : Option Addr) (ca : Nat) (zs : List Int) : Prop where
  cell : W.cell? ⟨p, 0, none⟩ = some (.slice a zs.length ca)
  row : Row W a zs ca
theorem LVar.below {W W' : World} {p : Nat} {a : Option Addr} {ca : Nat} {zs : List Int} (h : LVar W p a ca zs) (hb : Below W.heap.size W W') : LVar W' p a ca zs := ⟨cell_below hb h.cell, h.row.below hb⟩
theorem LVar.alloc {W : World} {p : Nat} {a : Option Addr} {ca : Nat} {zs : List Int} (h : LVar W p a ca zs) (o : Obj) : LVar (W.alloc o) p a ca zs := h.below ((Below.refl _ W).alloc (Nat.le_refl _) o)
theorem LVar.new {W : World} {a : Option Addr} {ca : Nat} {zs : List Int} (h : Row W a zs ca) : LVar (W.alloc (.cells #[.slice a zs.length ca] 24)) W.heap.size a ca zs := ⟨cell_new _ _ _, h.alloc _⟩
/-- A variable of type [2]int. -/
def PVar (W : World) (p : Nat) (m n : Int) : Prop := W.cell? ⟨p, 0, none⟩ = some (.int .i64 m) ∧ W.cell? ⟨p, 1, none⟩ = some (.int .i64 n)
theorem PVar.below {W W' : World} {p : Nat} {m n : Int} (h : PVar W p m n) (hb : Below W.heap.size W W') : PVar W' p m n := ⟨cell_below hb h.1, cell_below hb h.2⟩
theorem PVar.alloc {W : World} {p : Nat} {m n : Int} (h : PVar W p m n) (o : Obj) : PVar (W.alloc o) p m n := h.below ((Below.refl _ W).alloc (Nat.le_refl _) o)
theorem PVar.new (w : World) (m n : Int) (t : TypeId) : PVar (w.alloc (.cells #[.int .i64 m, .int .i64 n] t)) w.heap.size m n := by
  constructor <;> go_simp

set_option maxRecDepth 100000 in
set_option maxHeartbeats 2000000 in
theorem ints_any (m n : Int) (a b : Option Addr) (ca cb : Nat) (zs ys : List Int) (w : World) (hm : m ≤ 9223372036854775807) (hn : n ≤ 9223372036854775807) (hA : Row w a zs ca) (hB : Row w b ys cb) :
    Calls Tryd.prog 14 #[.agg #[.int .i64 m, .int .i64 n], .agg #[.slice a zs.length ca], .agg #[.slice b ys.length cb]] w fun e W' => e = .returned (.bool true) ∧ Below w.heap.size w W' := by
  have V_N := Lib.hid (((PVar.new w m n 33).alloc (.cells #[.slice a zs.length ca] 24)).alloc (.cells #[.slice b ys.length cb] 24))
  have va := (LVar.new (hA.alloc (.cells #[.int .i64 m, .int .i64 n] 33))).alloc (.cells #[.slice b ys.length cb] 24)
  have vb := LVar.new ((hB.alloc (.cells #[.int .i64 m, .int .i64 n] 33)).alloc (.cells #[.slice a zs.length ca] 24))
  simp only [World.size_alloc] at va vb
  have V_A := Lib.hid va
  have V_B := Lib.hid vb
  have HB := Lib.hid (show Below w.heap.size w (((w.alloc (.cells #[.int .i64 m, .int .i64 n] 33)).alloc (.cells #[.slice a zs.length ca] 24)).alloc (.cells #[.slice b ys.length cb] 24)) from
    (((Below.refl _ w).alloc (Nat.le_refl _) _).alloc (by simp) _).alloc (by simp; omega) _)
  have hmA := hA.most
  have hrA := hA.room
  have hmB := hB.most
  have hrB := hB.room
  obtain ⟨E1, k1, l1, C1, C2⟩ := of_both m n hm hn
  obtain ⟨E2, k2, l2, C3, C4⟩ := make_both zs ys
  have HC1 := Lib.hid C1
  have HC2 := Lib.hid C2
  have HC3 := Lib.hid C3
  have HC4 := Lib.hid C4
  clear va vb hA hB C1 C2 C3 C4
  by_cases ha : 30 < zs.length
  · skip
    go_enter Tryd.func14, Tryd.ntmps14
    go_wp2_with fail
    refine (ratAwake_any _).mono ?_
    rintro e w1 ⟨rfl, hb⟩
    have HB1 := Lib.hid (HB.out.trans (hb.mono HB.out.size))
    clear hb
    go_wp2_with fail
    go_ret
    exact ⟨rfl, HB1.out⟩
  by_cases hbl : 30 < ys.length
  · skip
    go_enter Tryd.func14, Tryd.ntmps14
    go_wp2_with fail
    refine (ratAwake_any _).mono ?_
    rintro e w1 ⟨rfl, hb⟩
    have HB1 := Lib.hid (HB.out.trans (hb.mono HB.out.size))
    clear hb
    go_wp2_with fail
    go_ret
    exact ⟨rfl, HB1.out⟩
  go_enter Tryd.func14, Tryd.ntmps14
  have e0_N := V_N.out.1
  have e1_N := V_N.out.2
  go_wp2_with fail
  refine (show Calls Tryd.prog 54 _ _ _ from two_res (HC1.out _)).mono ?_
  rintro e u1 ⟨⟨s_X, c_X, t_X, d_X, n_X, m_X, rfl, hrs, hrt, hn, hm⟩, hb⟩
  replace V_N := Lib.hid (V_N.out.below hb)
  replace V_A := Lib.hid (V_A.out.below hb)
  replace V_B := Lib.hid (V_B.out.below hb)
  replace HB := Lib.hid (HB.out.trans (hb.mono HB.out.size))
  clear hb e0_N e1_N
  replace V_N := Lib.hid (V_N.out.alloc (.cells #[.slice s_X (M.dig n_X).length c_X, .slice t_X (M.dig m_X).length d_X] 58))
  replace V_A := Lib.hid (V_A.out.alloc (.cells #[.slice s_X (M.dig n_X).length c_X, .slice t_X (M.dig m_X).length d_X] 58))
  replace V_B := Lib.hid (V_B.out.alloc (.cells #[.slice s_X (M.dig n_X).length c_X, .slice t_X (M.dig m_X).length d_X] 58))
  replace HB := Lib.hid (HB.out.alloc HB.out.size (.cells #[.slice s_X (M.dig n_X).length c_X, .slice t_X (M.dig m_X).length d_X] 58))
  have V_X := Lib.hid (RVar.new hrs hrt)
  have N_X := Lib.hid hn
  have M_X := Lib.hid hm
  clear hrs hrt hn hm
  have e0_N := V_N.out.1
  have e1_N := V_N.out.2
  go_wp2_with fail
  refine (show Calls Tryd.prog 55 _ _ _ from two_res (HC2.out _)).mono ?_
  rintro e u2 ⟨⟨s_Y, c_Y, t_Y, d_Y, n_Y, m_Y, rfl, hrs, hrt, hn, hm⟩, hb⟩
  replace V_N := Lib.hid (V_N.out.below hb)
  replace V_A := Lib.hid (V_A.out.below hb)
  replace V_B := Lib.hid (V_B.out.below hb)
  replace V_X := Lib.hid (V_X.out.below hb)
  replace HB := Lib.hid (HB.out.trans (hb.mono HB.out.size))
  clear hb e0_N e1_N
  replace V_N := Lib.hid (V_N.out.alloc (.cells #[.slice s_Y (M.dig n_Y).length c_Y, .slice t_Y (M.dig m_Y).length d_Y] 58))
  replace V_A := Lib.hid (V_A.out.alloc (.cells #[.slice s_Y (M.dig n_Y).length c_Y, .slice t_Y (M.dig m_Y).length d_Y] 58))
  replace V_B := Lib.hid (V_B.out.alloc (.cells #[.slice s_Y (M.dig n_Y).length c_Y, .slice t_Y (M.dig m_Y).length d_Y] 58))
  replace V_X := Lib.hid (V_X.out.alloc (.cells #[.slice s_Y (M.dig n_Y).length c_Y, .slice t_Y (M.dig m_Y).length d_Y] 58))
  replace HB := Lib.hid (HB.out.alloc HB.out.size (.cells #[.slice s_Y (M.dig n_Y).length c_Y, .slice t_Y (M.dig m_Y).length d_Y] 58))
  have V_Y := Lib.hid (RVar.new hrs hrt)
  have N_Y := Lib.hid hn
  have M_Y := Lib.hid hm
  clear hrs hrt hn hm
  have e0_A := V_A.out.cell
  have e0_B := V_B.out.cell
  go_wp2_with fail
  refine (show Calls Tryd.prog 51 _ _ _ from two_res (HC3.out a b ca cb _ V_A.out.row V_B.out.row)).mono ?_
  rintro e u3 ⟨⟨s_P, c_P, t_P, d_P, n_P, m_P, rfl, hrs, hrt, hn, hm⟩, hb⟩
  replace V_N := Lib.hid (V_N.out.below hb)
  replace V_A := Lib.hid (V_A.out.below hb)
  replace V_B := Lib.hid (V_B.out.below hb)
  replace V_X := Lib.hid (V_X.out.below hb)
  replace V_Y := Lib.hid (V_Y.out.below hb)
  replace HB := Lib.hid (HB.out.trans (hb.mono HB.out.size))
  clear hb e0_A e0_B
  replace V_N := Lib.hid (V_N.out.alloc (.cells #[.slice s_P (M.dig n_P).length c_P, .slice t_P (M.dig m_P).length d_P] 58))
  replace V_A := Lib.hid (V_A.out.alloc (.cells #[.slice s_P (M.dig n_P).length c_P, .slice t_P (M.dig m_P).length d_P] 58))
  replace V_B := Lib.hid (V_B.out.alloc (.cells #[.slice s_P (M.dig n_P).length c_P, .slice t_P (M.dig m_P).length d_P] 58))
  replace V_X := Lib.hid (V_X.out.alloc (.cells #[.slice s_P (M.dig n_P).length c_P, .slice t_P (M.dig m_P).length d_P] 58))
  replace V_Y := Lib.hid (V_Y.out.alloc (.cells #[.slice s_P (M.dig n_P).length c_P, .slice t_P (M.dig m_P).length d_P] 58))
  replace HB := Lib.hid (HB.out.alloc HB.out.size (.cells #[.slice s_P (M.dig n_P).length c_P, .slice t_P (M.dig m_P).length d_P] 58))
  have V_P := Lib.hid (RVar.new hrs hrt)
  have N_P := Lib.hid hn
  have M_P := Lib.hid hm
  clear hrs hrt hn hm
  have e0_A := V_A.out.cell
  have e0_B := V_B.out.cell
  go_wp2_with fail
  refine (show Calls Tryd.prog 52 _ _ _ from two_res (HC4.out a b ca cb _ V_A.out.row V_B.out.row)).mono ?_
  rintro e u4 ⟨⟨s_Q, c_Q, t_Q, d_Q, n_Q, m_Q, rfl, hrs, hrt, hn, hm⟩, hb⟩
  replace V_N := Lib.hid (V_N.out.below hb)
  replace V_A := Lib.hid (V_A.out.below hb)
  replace V_B := Lib.hid (V_B.out.below hb)
  replace V_X := Lib.hid (V_X.out.below hb)
  replace V_Y := Lib.hid (V_Y.out.below hb)
  replace V_P := Lib.hid (V_P.out.below hb)
  replace HB := Lib.hid (HB.out.trans (hb.mono HB.out.size))
  clear hb e0_A e0_B
  replace V_N := Lib.hid (V_N.out.alloc (.cells #[.slice s_Q (M.dig n_Q).length c_Q, .slice t_Q (M.dig m_Q).length d_Q] 58))
  replace V_A := Lib.hid (V_A.out.alloc (.cells #[.slice s_Q (M.dig n_Q).length c_Q, .slice t_Q (M.dig m_Q).length d_Q] 58))
  replace V_B := Lib.hid (V_B.out.alloc (.cells #[.slice s_Q (M.dig n_Q).length c_Q, .slice t_Q (M.dig m_Q).length d_Q] 58))
  replace V_X := Lib.hid (V_X.out.alloc (.cells #[.slice s_Q (M.dig n_Q).length c_Q, .slice t_Q (M.dig m_Q).length d_Q] 58))
  replace V_Y := Lib.hid (V_Y.out.alloc (.cells #[.slice s_Q (M.dig n_Q).length c_Q, .slice t_Q (M.dig m_Q).length d_Q] 58))
  replace V_P := Lib.hid (V_P.out.alloc (.cells #[.slice s_Q (M.dig n_Q).length c_Q, .slice t_Q (M.dig m_Q).length d_Q] 58))
  replace HB := Lib.hid (HB.out.alloc HB.out.size (.cells #[.slice s_Q (M.dig n_Q).length c_Q, .slice t_Q (M.dig m_Q).length d_Q] 58))
  have V_Q := Lib.hid (RVar.new hrs hrt)
  have N_Q := Lib.hid hn
  have M_Q := Lib.hid hm
  clear hrs hrt hn hm
  go_wp2_with fail
  refine (show Calls Tryd.prog 47 _ _ _ from ratAwake_any _).mono ?_
  rintro e u5 ⟨rfl, hb⟩
  replace V_N := Lib.hid (V_N.out.below hb)
  replace V_A := Lib.hid (V_A.out.below hb)
  replace V_B := Lib.hid (V_B.out.below hb)
  replace V_X := Lib.hid (V_X.out.below hb)
  replace V_Y := Lib.hid (V_Y.out.below hb)
  replace V_P := Lib.hid (V_P.out.below hb)
  replace V_Q := Lib.hid (V_Q.out.below hb)
  replace HB := Lib.hid (HB.out.trans (hb.mono HB.out.size))
  clear hb
  have e0_X := V_X.out.c0
  have e1_X := V_X.out.c1
  have e0_Y := V_Y.out.c0
  have e1_Y := V_Y.out.c1
  go_wp2_with fail
  refine (show Calls Tryd.prog 53 _ _ _ from ratSame_eq V_X.out.val V_Y.out.val (N_X.out.trans N_Y.out.symm) (M_X.out.trans M_Y.out.symm)).mono ?_
  rintro e u6 ⟨rfl, hb⟩
  replace V_N := Lib.hid (V_N.out.below hb)
  replace V_A := Lib.hid (V_A.out.below hb)
  replace V_B := Lib.hid (V_B.out.below hb)
  replace V_X := Lib.hid (V_X.out.below hb)
  replace V_Y := Lib.hid (V_Y.out.below hb)
  replace V_P := Lib.hid (V_P.out.below hb)
  replace V_Q := Lib.hid (V_Q.out.below hb)
  replace HB := Lib.hid (HB.out.trans (hb.mono HB.out.size))
  clear hb e0_X e1_X e0_Y e1_Y
  have e0_P := V_P.out.c0
  have e1_P := V_P.out.c1
  have e0_Q := V_Q.out.c0
  have e1_Q := V_Q.out.c1
  go_wp2_with fail
  refine (show Calls Tryd.prog 53 _ _ _ from ratSame_eq V_P.out.val V_Q.out.val (N_P.out.trans N_Q.out.symm) (M_P.out.trans M_Q.out.symm)).mono ?_
  rintro e u7 ⟨rfl, hb⟩
  replace V_N := Lib.hid (V_N.out.below hb)
  replace V_A := Lib.hid (V_A.out.below hb)
  replace V_B := Lib.hid (V_B.out.below hb)
  replace V_X := Lib.hid (V_X.out.below hb)
  replace V_Y := Lib.hid (V_Y.out.below hb)
  replace V_P := Lib.hid (V_P.out.below hb)
  replace V_Q := Lib.hid (V_Q.out.below hb)
  replace HB := Lib.hid (HB.out.trans (hb.mono HB.out.size))
  clear hb e0_P e1_P e0_Q e1_Q
  go_wp2_with fail
  go_ret
  exact ⟨rfl, HB.out⟩
theorem ints_row (m n : Int) (a : Option Addr) (ca : Nat) (zs : List Int) (b : Option Addr) (cb : Nat) (ys : List Int) (w : World) (hm : m ≤ 9223372036854775807) (hn : n ≤ 9223372036854775807) (hA : Row w a zs ca) (hB : Row w b ys cb) :
    Calls Tryd.prog 14 #[.agg #[.int .i64 m, .int .i64 n], .agg #[.slice a zs.length ca], .agg #[.slice b ys.length cb]] w fun e W' => e = .returned (.bool true) ∧ Below w.heap.size w W' :=
  ints_any m n a b ca cb zs ys w hm hn hA hB
end Go.Proofs.YtneimnacanhjmaaDoor
