/- The reference's cross, Add, Sub, Floor of valid fractions whose products fit. -/
import Derived.Test.YtfaggdjoogpmmaaDoorBRefFit
import Derived.Test.YtfaggdjoogpmmaaDoorBRefSub
import Derived.Test.YtfaggdjoogpmmaaDoorBRefSum
import Derived.Test.YtfaggdjoogpmmaaDoorB10
namespace Go.Proofs.YtfaggdjoogpmmaaDoor
open Go Go.RowKit Go.Shelf

/-- Three results of type Nat, empty. -/
structure Res3 (w W : World) : Prop where
  c0 : W.cell? ⟨w.heap.size + 1 + 1, 0, none⟩ = some (.slice none 0 0)
  f0 : W.frozen? ⟨w.heap.size + 1 + 1, 0, none⟩ = false
  c1 : W.cell? ⟨w.heap.size + 1 + 1 + 1, 0, none⟩ = some (.slice none 0 0)
  f1 : W.frozen? ⟨w.heap.size + 1 + 1 + 1, 0, none⟩ = false
  c2 : W.cell? ⟨w.heap.size + 1 + 1 + 1 + 1, 0, none⟩ = some (.slice none 0 0)
  f2 : W.frozen? ⟨w.heap.size + 1 + 1 + 1 + 1, 0, none⟩ = false
theorem Res3.keep {w W W' : World} (h : Res3 w W) (hb : Below W.heap.size W W') : Res3 w W' :=
  ⟨cell_below hb h.c0, frozen_below hb h.c0 h.f0, cell_below hb h.c1, frozen_below hb h.c1 h.f1, cell_below hb h.c2, frozen_below hb h.c2 h.f2⟩
theorem Res3.alloc {w W : World} (h : Res3 w W) (o : Obj) : Res3 w (W.alloc o) := h.keep ((Below.refl _ W).alloc (Nat.le_refl _) o)
theorem Res3.start {w W : World} (h : W.heap.size = w.heap.size + 1 + 1) : Res3 w (((W.alloc (.cells #[.slice none 0 0] 24)).alloc (.cells #[.slice none 0 0] 24)).alloc (.cells #[.slice none 0 0] 24)) := by
  have k0 := cell_of_new W (.slice none 0 0) 24
  have k1 := cell_of_new (W.alloc (.cells #[.slice none 0 0] 24)) (.slice none 0 0) 24
  have k2 := cell_of_new ((W.alloc (.cells #[.slice none 0 0] 24)).alloc (.cells #[.slice none 0 0] 24)) (.slice none 0 0) 24
  simp only [World.size_alloc, h] at k0 k1 k2
  exact ⟨cell_later _ (cell_later _ k0.1), frozen_later _ (cell_later _ k0.1) (frozen_later _ k0.1 k0.2), cell_later _ k1.1, frozen_later _ k1.1 k1.2, k2.1, k2.2⟩
/-- The three results have been stored. -/
theorem Res3.done {w W : World} (h : Res3 w W) (hb : Below w.heap.size w W) {i j k : Nat} {a b c : Option Addr} {ca cb cc : Nat} (h1 : Row W a (M.dig i) ca) (h2 : Row W b (M.dig j) cb) (h3 : Row W c (M.dig k) cc) :
    Row (((W.setCell ⟨w.heap.size + 1 + 1, 0, none⟩ (.slice a (M.dig i).length ca)).setCell ⟨w.heap.size + 1 + 1 + 1, 0, none⟩ (.slice b (M.dig j).length cb)).setCell ⟨w.heap.size + 1 + 1 + 1 + 1, 0, none⟩ (.slice c (M.dig k).length cc)) a (M.dig i) ca ∧ Row (((W.setCell ⟨w.heap.size + 1 + 1, 0, none⟩ (.slice a (M.dig i).length ca)).setCell ⟨w.heap.size + 1 + 1 + 1, 0, none⟩ (.slice b (M.dig j).length cb)).setCell ⟨w.heap.size + 1 + 1 + 1 + 1, 0, none⟩ (.slice c (M.dig k).length cc)) b (M.dig j) cb ∧ Row (((W.setCell ⟨w.heap.size + 1 + 1, 0, none⟩ (.slice a (M.dig i).length ca)).setCell ⟨w.heap.size + 1 + 1 + 1, 0, none⟩ (.slice b (M.dig j).length cb)).setCell ⟨w.heap.size + 1 + 1 + 1 + 1, 0, none⟩ (.slice c (M.dig k).length cc)) c (M.dig k) cc ∧ Below w.heap.size w (((W.setCell ⟨w.heap.size + 1 + 1, 0, none⟩ (.slice a (M.dig i).length ca)).setCell ⟨w.heap.size + 1 + 1 + 1, 0, none⟩ (.slice b (M.dig j).length cb)).setCell ⟨w.heap.size + 1 + 1 + 1 + 1, 0, none⟩ (.slice c (M.dig k).length cc)) := by
  have d1 : (W.setCell ⟨w.heap.size + 1 + 1, 0, none⟩ (.slice a (M.dig i).length ca)).cell? ⟨w.heap.size + 1 + 1 + 1, 0, none⟩ = some (.slice none 0 0) := (cell_other _ (show w.heap.size + 1 + 1 + 1 ≠ w.heap.size + 1 + 1 by omega)).trans h.c1
  have d2 : ((W.setCell ⟨w.heap.size + 1 + 1, 0, none⟩ (.slice a (M.dig i).length ca)).setCell ⟨w.heap.size + 1 + 1 + 1, 0, none⟩ (.slice b (M.dig j).length cb)).cell? ⟨w.heap.size + 1 + 1 + 1 + 1, 0, none⟩ = some (.slice none 0 0) :=
    (cell_other _ (show w.heap.size + 1 + 1 + 1 + 1 ≠ w.heap.size + 1 + 1 + 1 by omega)).trans ((cell_other _ (show w.heap.size + 1 + 1 + 1 + 1 ≠ w.heap.size + 1 + 1 by omega)).trans h.c2)
  exact ⟨((h1.storedAt h.c0 _).storedAt d1 _).storedAt d2 _, ((h2.storedAt h.c0 _).storedAt d1 _).storedAt d2 _, ((h3.storedAt h.c0 _).storedAt d1 _).storedAt d2 _,
    ((hb.setCell (p := ⟨w.heap.size + 1 + 1, 0, none⟩) (by show _ ≤ w.heap.size + 1 + 1; omega) _).setCell (p := ⟨w.heap.size + 1 + 1 + 1, 0, none⟩) (by show _ ≤ w.heap.size + 1 + 1 + 1; omega) _).setCell (p := ⟨w.heap.size + 1 + 1 + 1 + 1, 0, none⟩) (by show _ ≤ w.heap.size + 1 + 1 + 1 + 1; omega) _⟩

/-- Three numbers. -/
def CRes (i j k : Nat) (e : Ending) (W : World) : Prop := ∃ a ca b cb c cc, e = .returned (.tuple #[.agg #[.slice a (M.dig i).length ca], .agg #[.slice b (M.dig j).length cb], .agg #[.slice c (M.dig k).length cc], .int .i64 0]) ∧ Row W a (M.dig i) ca ∧ Row W b (M.dig j) cb ∧ Row W c (M.dig k) cc

set_option maxRecDepth 100000 in
set_option maxHeartbeats 2000000 in
theorem rcross_fit {u v : Value} {x y z t : Nat} {w : World} (hu : RatV w u x y) (hv : RatV w v z t) (hx : (M.dig x).length ≤ 200) (hy : (M.dig y).length ≤ 200) (hz : (M.dig z).length ≤ 200) (ht : (M.dig t).length ≤ 200) (h1 : (M.dig (x * t)).length ≤ 200) (h2 : (M.dig (z * y)).length ≤ 200) (h3 : (M.dig (y * t)).length ≤ 200) :
    Calls Tryd.prog 111 #[u, v] w fun e W' => CRes (x * t) (z * y) (y * t) e W' ∧ Below w.heap.size w W' := by
  obtain ⟨a, ca, b, cb, rfl, hA, hB⟩ := hu
  obtain ⟨c, cc, d, cd, rfl, hC, hD⟩ := hv
  have HS := Lib.hid ((((R2St.start0 hA hB hC hD).alloc (.cells #[.slice none 0 0] 24)).alloc (.cells #[.slice none 0 0] 24)).alloc (.cells #[.slice none 0 0] 24))
  have HR := Lib.hid (Res3.start (w := w) (W := ((w.alloc (.cells #[.slice a (M.dig x).length ca, .slice b (M.dig y).length cb] 58)).alloc (.cells #[.slice c (M.dig z).length cc, .slice d (M.dig t).length cd] 58))) (by simp))
  clear hA hB hC hD
  go_enter Tryd.func111, Tryd.ntmps111
  have p0 := HS.out.p0
  have q1 := HS.out.q1
  go_wp2_with fail
  generalize (((((w.alloc (.cells #[.slice a (M.dig x).length ca, .slice b (M.dig y).length cb] 58)).alloc (.cells #[.slice c (M.dig z).length cc, .slice d (M.dig t).length cd] 58)).alloc (.cells #[.slice none 0 0] 24)).alloc (.cells #[.slice none 0 0] 24)).alloc (.cells #[.slice none 0 0] 24)) = w3 at *
  refine (rMul_any a d ca cd x t _ hx ht HS.out.ra HS.out.rd).mono ?_
  rintro e w4 ⟨hres, hb⟩
  obtain ⟨v, rfl, s_P, c_P, rfl, hr⟩ := hres.ok h1
  clear hres p0 q1
  replace HS := Lib.hid (HS.out.keep hb)
  replace HR := Lib.hid (HR.out.keep hb)
  have hlo4 : w.heap.size + 1 + 1 + 1 + 1 < w4.heap.size := lt_of_cell HR.out.c2
  replace HS := Lib.hid (HS.out.alloc (.cells #[.slice s_P (M.dig (x * t)).length c_P] 24))
  have V_P := Lib.hid (Var.new hr)
  clear hr hb
  replace HR := Lib.hid (HR.out.alloc (.cells #[.slice s_P (M.dig (x * t)).length c_P] 24))
  have q0 := HS.out.q0
  have p1 := HS.out.p1
  go_wp2_with fail
  refine (rMul_any c b cc cb z y _ hz hy HS.out.rc HS.out.rb).mono ?_
  rintro e w5 ⟨hres, hb⟩
  obtain ⟨v, rfl, s_Q, c_Q, rfl, hr⟩ := hres.ok h2
  clear hres q0 p1
  replace HS := Lib.hid (HS.out.keep hb)
  replace V_P := Lib.hid (V_P.out.below hb)
  replace HR := Lib.hid (HR.out.keep hb)
  have hlo5 : w.heap.size + 1 + 1 + 1 + 1 < w5.heap.size := lt_of_cell HR.out.c2
  replace HS := Lib.hid (HS.out.alloc (.cells #[.slice s_Q (M.dig (z * y)).length c_Q] 24))
  replace V_P := Lib.hid (V_P.out.alloc (.cells #[.slice s_Q (M.dig (z * y)).length c_Q] 24))
  have V_Q := Lib.hid (Var.new hr)
  clear hr hb
  replace HR := Lib.hid (HR.out.alloc (.cells #[.slice s_Q (M.dig (z * y)).length c_Q] 24))
  have p1 := HS.out.p1
  have q1 := HS.out.q1
  go_wp2_with fail
  refine (rMul_any b d cb cd y t _ hy ht HS.out.rb HS.out.rd).mono ?_
  rintro e w6 ⟨hres, hb⟩
  obtain ⟨v, rfl, s_R, c_R, rfl, hr⟩ := hres.ok h3
  clear hres p1 q1
  replace HS := Lib.hid (HS.out.keep hb)
  replace V_P := Lib.hid (V_P.out.below hb)
  replace V_Q := Lib.hid (V_Q.out.below hb)
  replace HR := Lib.hid (HR.out.keep hb)
  have hlo6 : w.heap.size + 1 + 1 + 1 + 1 < w6.heap.size := lt_of_cell HR.out.c2
  replace HS := Lib.hid (HS.out.alloc (.cells #[.slice s_R (M.dig (y * t)).length c_R] 24))
  replace V_P := Lib.hid (V_P.out.alloc (.cells #[.slice s_R (M.dig (y * t)).length c_R] 24))
  replace V_Q := Lib.hid (V_Q.out.alloc (.cells #[.slice s_R (M.dig (y * t)).length c_R] 24))
  have V_R := Lib.hid (Var.new hr)
  clear hr hb
  replace HR := Lib.hid (HR.out.alloc (.cells #[.slice s_R (M.dig (y * t)).length c_R] 24))
  have e1 := V_P.out.cell
  have e2 := V_Q.out.cell
  have e3 := V_R.out.cell
  go_upto_region 6 with fail
  have HO := Lib.hid (HR.out.done HS.out.below V_P.out.row V_Q.out.row V_R.out.row)
  have r0 := HR.out.c0
  have r1 := HR.out.c1
  have r2 := HR.out.c2
  have f0 := HR.out.f0
  have f1 := HR.out.f1
  have f2 := HR.out.f2
  clear V_P V_Q V_R HS HR
  generalize w6.alloc (.cells #[.slice s_R (M.dig (y * t)).length c_R] 24) = w7 at *
  have n0 : ¬ w4.heap.size = w.heap.size + 1 + 1 := by omega
  have n1 : ¬ w.heap.size + 1 + 1 = w4.heap.size := by omega
  have n2 : ¬ w4.heap.size = w.heap.size + 1 + 1 + 1 := by omega
  have n3 : ¬ w.heap.size + 1 + 1 + 1 = w4.heap.size := by omega
  have n4 : ¬ w4.heap.size = w.heap.size + 1 + 1 + 1 + 1 := by omega
  have n5 : ¬ w.heap.size + 1 + 1 + 1 + 1 = w4.heap.size := by omega
  have n6 : ¬ w5.heap.size = w.heap.size + 1 + 1 := by omega
  have n7 : ¬ w.heap.size + 1 + 1 = w5.heap.size := by omega
  have n8 : ¬ w5.heap.size = w.heap.size + 1 + 1 + 1 := by omega
  have n9 : ¬ w.heap.size + 1 + 1 + 1 = w5.heap.size := by omega
  have n10 : ¬ w5.heap.size = w.heap.size + 1 + 1 + 1 + 1 := by omega
  have n11 : ¬ w.heap.size + 1 + 1 + 1 + 1 = w5.heap.size := by omega
  have n12 : ¬ w6.heap.size = w.heap.size + 1 + 1 := by omega
  have n13 : ¬ w.heap.size + 1 + 1 = w6.heap.size := by omega
  have n14 : ¬ w6.heap.size = w.heap.size + 1 + 1 + 1 := by omega
  have n15 : ¬ w.heap.size + 1 + 1 + 1 = w6.heap.size := by omega
  have n16 : ¬ w6.heap.size = w.heap.size + 1 + 1 + 1 + 1 := by omega
  have n17 : ¬ w.heap.size + 1 + 1 + 1 + 1 = w6.heap.size := by omega
  clear hlo4 hlo5 hlo6
  go_region
  all_goals (
    go_wp2_with fail
    refine bodyPost_ret (v := .tuple #[.agg #[.slice s_P (M.dig (x * t)).length c_P], .agg #[.slice s_Q (M.dig (z * y)).length c_Q], .agg #[.slice s_R (M.dig (y * t)).length c_R], .int .i64 0]) (by simp [results, Tryd.results111, go_sem, r0, r1, r2]) rfl ⟨⟨_, _, _, _, _, _, rfl, HO.out.1.drewN 1, HO.out.2.1.drewN 1, HO.out.2.2.1.drewN 1⟩, belowN HO.out.2.2.2 1⟩)
end Go.Proofs.YtfaggdjoogpmmaaDoor
