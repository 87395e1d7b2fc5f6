/- nat.Int of what is too great, or no number. -/
import Derived.Test.YtfaggdjoogpmmaaDoorBInt
import Derived.Test.YtfaggdjoogpmmaaDoorBBad
namespace Go.Proofs.YtfaggdjoogpmmaaDoor
open Go Go.RowKit Go.Shelf
attribute [local go_sem] Oper.semAt_some

set_option maxRecDepth 100000 in
set_option maxHeartbeats 1000000 in
theorem int_big (a : Option Addr) (ca x : Nat) (w : World) (hx : (4611686018427387904 : Int) < (x : Int)) (hx200 : (M.dig x).length ≤ 200) (hA : Row w a (M.dig x) ca) :
    Calls Tryd.prog 46 #[.agg #[.slice a (M.dig x).length ca]] w fun e W' => e = .returned (.tuple #[.int .i64 0, .int .i64 3]) ∧ Below w.heap.size w W' := by
  have HV := Lib.hid (vld_dig hx200)
  obtain ⟨N, hN⟩ : ∃ N : Nat, (N : Int) = 4611686018427387904 := ⟨4611686018427387904, rfl⟩
  have ho := fun W : World => of_any N W (by omega)
  rw [hN] at ho
  have HO := Lib.hid ho
  have HN := Lib.hid hN
  clear ho hN
  refine (callsIn_wide (n := 6)).1 ?_
  refine callsIn_of_wp_marks Tryd.func46 rfl trivial ?_ rfl
  simp only [Tryd.ntmps46, List.size_toArray, List.length_cons, List.length_nil, Nat.reduceAdd, Nat.reduceSub, Array.replicate_succ, Array.replicate_zero, List.push_toArray, List.append_toArray, List.nil_append, List.cons_append]
  have c0 := cell_new w (.slice a (M.dig x).length ca) 24
  have HB0 := Lib.hid ((Below.refl _ w).alloc (Nat.le_refl _) (.cells #[.slice a (M.dig x).length ca] 24))
  gi_wp2_with fail
  refine ⟨trivial, ?_⟩
  refine (callsIn_wide.2 (valid_yes a _ ca _ (hA.below HB0.out) HV.out)).mono ?_
  rintro e w1 ⟨rfl, hb1⟩
  have c1 := (hb1.cell (p := ⟨w.heap.size, 0, none⟩) (by simp)).trans c0
  have HB1 := Lib.hid (HB0.out.trans (hb1.mono (by simp)))
  clear hb1 c0 HB0
  gi_wp2_with fail
  refine ⟨trivial, ?_⟩
  refine (callsIn_wide.2 (HO.out w1)).mono ?_
  rintro e w2 ⟨v, rfl, ⟨a2, p2, rfl, hr2⟩, hb2⟩
  have c2 := (hb2.cell (p := ⟨w.heap.size, 0, none⟩) (lt_of_cell c1)).trans c1
  have HB2 := Lib.hid (HB1.out.trans (hb2.mono HB1.out.size))
  have HR2 := Lib.hid hr2
  clear hb2 c1 HB1 hr2
  have d2 := cell_later (.cells #[.slice a2 (M.dig N).length p2] 24) c2
  have hl2 : w.heap.size < w2.heap.size := lt_of_cell c2
  have hn2 : ¬ w.heap.size = w2.heap.size := by omega
  have VN := Lib.hid (Var.new' HR2.out)
  gi_wp2_with fail
  refine ⟨trivial, ?_⟩
  refine (callsIn_wide.2 (cmp_any a a2 ca p2 x N (w2.alloc (.cells #[.slice a2 (M.dig N).length p2] 24)) ((hA.below HB2.out).alloc _) VN.out)).mono ?_
  rintro e w3 ⟨rfl, hb3⟩
  have c3 := (hb3.cell (p := ⟨w.heap.size, 0, none⟩) (lt_of_cell d2)).trans d2
  have HB3 := Lib.hid ((HB2.out.alloc (Nat.le_of_lt hl2) (.cells #[.slice a2 (M.dig N).length p2] 24)).trans (hb3.mono (by simp; omega)))
  have hl3 : w.heap.size < w3.heap.size := lt_of_cell c3
  clear hb3 c2 d2 HB2 hl2 hn2
  have hs : Lib.compareInt (x : Int) (N : Int) = 1 := compare_gt (by rw [HN.out]; exact hx)
  rw [hs]
  gi_wp2_with fail
  refine ⟨.tuple #[.int .i64 0, .int .i64 3], ?_, rfl, HB3.out⟩
  simp [results, Tryd.f46, go_sem]

set_option maxRecDepth 100000 in
set_option maxHeartbeats 1000000 in
theorem int_bad (a : Option Addr) (ca : Nat) (zs : List Int) (w : World) (hV : ¬ Vld zs) (hA : Row w a zs ca) :
    Calls Tryd.prog 46 #[.agg #[.slice a zs.length ca]] w fun e W' => e = .returned (.tuple #[.int .i64 0, .int .i64 1]) ∧ Below w.heap.size w W' := by
  have HV := Lib.hid hV
  refine (callsIn_wide (n := 6)).1 ?_
  refine callsIn_of_wp_marks Tryd.func46 rfl trivial ?_ rfl
  simp only [Tryd.ntmps46, List.size_toArray, List.length_cons, List.length_nil, Nat.reduceAdd, Nat.reduceSub, Array.replicate_succ, Array.replicate_zero, List.push_toArray, List.append_toArray, List.nil_append, List.cons_append]
  have c0 := cell_new w (.slice a zs.length ca) 24
  have HB0 := Lib.hid ((Below.refl _ w).alloc (Nat.le_refl _) (.cells #[.slice a zs.length ca] 24))
  gi_wp2_with fail
  refine ⟨trivial, ?_⟩
  refine (callsIn_wide.2 (valid_no a _ ca _ (hA.below HB0.out) HV.out)).mono ?_
  rintro e w1 ⟨rfl, hb1⟩
  have HB1 := Lib.hid (HB0.out.trans (hb1.mono (by simp)))
  clear hb1 c0 HB0
  gi_wp2_with fail
  refine ⟨.tuple #[.int .i64 0, .int .i64 1], ?_, rfl, HB1.out⟩
  simp [results, Tryd.f46, go_sem]
end Go.Proofs.YtfaggdjoogpmmaaDoor
