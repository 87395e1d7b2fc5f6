/- ratio.Of and ref02.Of of any two ints. -/
import Derived.Test.YtneimnacanhjmaaDoorB10
import Derived.Test.YtneimnacanhjmaaDoorBMakeAll
namespace Go.Proofs.YtneimnacanhjmaaDoor
open Go Go.RowKit Go.Shelf

set_option maxRecDepth 100000 in
set_option maxHeartbeats 2000000 in
theorem of_neg (n : Int) (w : World) (hn : n < 0) :
    Calls Tryd.prog 31 #[.int .i64 n] w fun e W' => e = .returned (.tuple #[.agg #[.slice none 0 0], .int .i64 2]) ∧ Below w.heap.size w W' := by
  have c0 := cell_of_new w (.slice none 0 0) 24
  go_enter Tryd.func31, Tryd.ntmps31
  go_wp2_with fail
  refine bodyPost_ret (v := .tuple #[.agg #[.slice none 0 0], .int .i64 2]) (by simp [results, Tryd.results31, go_sem, c0]) rfl ⟨rfl, ?_⟩
  first | exact ((Below.refl _ w).alloc (Nat.le_refl _) _).setCell (p := ⟨w.heap.size, 0, none⟩) (Nat.le_refl _) _ | exact (Below.refl _ w).alloc (Nat.le_refl _) _

set_option maxRecDepth 100000 in
set_option maxHeartbeats 2000000 in
theorem rof_neg (n : Int) (w : World) (hn : n < 0) :
    Calls Tryd.prog 32 #[.int .i64 n] w fun e W' => e = .returned (.tuple #[.agg #[.slice none 0 0], .int .i64 2]) ∧ Below w.heap.size w W' := by
  have c0 := cell_of_new w (.slice none 0 0) 24
  go_enter Tryd.func32, Tryd.ntmps32
  go_wp2_with fail
  refine bodyPost_ret (v := .tuple #[.agg #[.slice none 0 0], .int .i64 2]) (by simp [results, Tryd.results32, go_sem, c0]) rfl ⟨rfl, ?_⟩
  first | exact ((Below.refl _ w).alloc (Nat.le_refl _) _).setCell (p := ⟨w.heap.size, 0, none⟩) (Nat.le_refl _) _ | exact (Below.refl _ w).alloc (Nat.le_refl _) _

set_option maxRecDepth 100000 in
set_option maxHeartbeats 2000000 in
theorem ratOf_neg1 (m n : Int) (w : World) (hm : m < 0) :
    Calls Tryd.prog 54 #[.int .i64 m, .int .i64 n] w fun e W' => e = .returned (.tuple #[.agg #[.slice none 0 0, .slice none 0 0], .int .i64 2]) ∧ Below w.heap.size w W' := by
  obtain ⟨⟨r0, f0⟩, r1, f1⟩ := two_cells w (.slice none 0 0) (.slice none 0 0) 58
  have R := Lib.hid (show ResSt w (w.alloc (.cells #[.slice none 0 0, .slice none 0 0] 58)) from ⟨r0, f0, r1, f1, (Below.refl _ w).alloc (Nat.le_refl _) _⟩)
  clear r0 f0 r1 f1
  go_enter Tryd.func54, Tryd.ntmps54
  go_wp2_with fail
  generalize (w.alloc (.cells #[.slice none 0 0, .slice none 0 0] 58)) = w1 at *
  refine (of_neg _ _ hm).mono ?_
  rintro e w2 ⟨rfl, hb2⟩
  have R2 := Lib.hid ((R.out.keep hb2).alloc (.cells #[.slice none 0 0] 24))
  clear hb2 R
  have r0 := R2.out.r0
  have r1 := R2.out.r1
  have f0 := R2.out.f0
  have f1 := R2.out.f1
  have HB := Lib.hid R2.out.below
  clear R2
  go_wp2_with fail
  refine bodyPost_ret (v := .tuple #[.agg #[.slice none 0 0, .slice none 0 0], .int .i64 2]) (by simp [results, Tryd.results54, go_sem, r0, r1]) rfl ⟨rfl, ?_⟩
  exact (HB.out.setCell (p := ⟨w.heap.size, 0, none⟩) (Nat.le_refl _) _).setCell (p := ⟨w.heap.size, 1, none⟩) (Nat.le_refl _) _

set_option maxRecDepth 100000 in
set_option maxHeartbeats 2000000 in
theorem ratOf_neg2 (x : Nat) (n : Int) (w : World) (hx : x ≤ 9223372036854775807) (hn : n < 0) :
    Calls Tryd.prog 54 #[.int .i64 (x : Int), .int .i64 n] w fun e W' => e = .returned (.tuple #[.agg #[.slice none 0 0, .slice none 0 0], .int .i64 2]) ∧ Below w.heap.size w W' := by
  obtain ⟨⟨r0, f0⟩, r1, f1⟩ := two_cells w (.slice none 0 0) (.slice none 0 0) 58
  have R := Lib.hid (show ResSt w (w.alloc (.cells #[.slice none 0 0, .slice none 0 0] 58)) from ⟨r0, f0, r1, f1, (Below.refl _ w).alloc (Nat.le_refl _) _⟩)
  clear r0 f0 r1 f1
  go_enter Tryd.func54, Tryd.ntmps54
  go_wp2_with fail
  generalize (w.alloc (.cells #[.slice none 0 0, .slice none 0 0] 58)) = w1 at *
  refine (of_any x _ hx).mono ?_
  rintro e w2 ⟨v, rfl, ⟨a, ca, rfl, hA⟩, hb2⟩
  have R2 := Lib.hid ((R.out.keep hb2).alloc (.cells #[.slice a (M.dig x).length ca] 24))
  clear hb2 hA R
  go_wp2_with fail
  refine (of_neg n _ hn).mono ?_
  rintro e w3 ⟨rfl, hb3⟩
  have R3 := Lib.hid ((R2.out.keep hb3).alloc (.cells #[.slice none 0 0] 24))
  clear hb3 R2
  have r0 := R3.out.r0
  have r1 := R3.out.r1
  have f0 := R3.out.f0
  have f1 := R3.out.f1
  have HB := Lib.hid R3.out.below
  clear R3
  go_wp2_with fail
  refine bodyPost_ret (v := .tuple #[.agg #[.slice none 0 0, .slice none 0 0], .int .i64 2]) (by simp [results, Tryd.results54, go_sem, r0, r1]) rfl ⟨rfl, ?_⟩
  exact (HB.out.setCell (p := ⟨w.heap.size, 0, none⟩) (Nat.le_refl _) _).setCell (p := ⟨w.heap.size, 1, none⟩) (Nat.le_refl _) _

set_option maxRecDepth 100000 in
set_option maxHeartbeats 2000000 in
theorem ratOf_res (x y : Nat) (w : World) (hx : x ≤ 9223372036854775807) (hy : y ≤ 9223372036854775807) {E : Int} {k l : Nat}
    (hM : ∀ (a b : Option Addr) (ca cb : Nat) (w : World), Row w a (M.dig x) ca → Row w b (M.dig y) cb → Calls Tryd.prog 51 #[.agg #[.slice a (M.dig x).length ca], .agg #[.slice b (M.dig y).length cb]] w fun e W' => RRes E k l e W' ∧ Below w.heap.size w W') :
    Calls Tryd.prog 54 #[.int .i64 (x : Int), .int .i64 (y : Int)] w fun e W' => RRes E k l e W' ∧ Below w.heap.size w W' := by
  have HM := Lib.hid hM
  clear hM
  obtain ⟨⟨r0, f0⟩, r1, f1⟩ := two_cells w (.slice none 0 0) (.slice none 0 0) 58
  have R := Lib.hid (show ResSt w (w.alloc (.cells #[.slice none 0 0, .slice none 0 0] 58)) from ⟨r0, f0, r1, f1, (Below.refl _ w).alloc (Nat.le_refl _) _⟩)
  clear r0 f0 r1 f1
  go_enter Tryd.func54, Tryd.ntmps54
  go_wp2_with fail
  generalize (w.alloc (.cells #[.slice none 0 0, .slice none 0 0] 58)) = w1 at *
  refine (of_any x _ hx).mono ?_
  rintro e w2 ⟨v, rfl, ⟨a, ca, rfl, hA⟩, hb2⟩
  have R2 := Lib.hid ((R.out.keep hb2).alloc (.cells #[.slice a (M.dig x).length ca] 24))
  have A := Lib.hid (Var.new hA)
  clear hb2 hA R
  go_wp2_with fail
  refine (of_any y _ hy).mono ?_
  rintro e w3 ⟨v, rfl, ⟨b, cb, rfl, hB⟩, hb3⟩
  have R3 := Lib.hid ((R2.out.keep hb3).alloc (.cells #[.slice b (M.dig y).length cb] 24))
  have A3 := Lib.hid ((A.out.below hb3).alloc (.cells #[.slice b (M.dig y).length cb] 24))
  have B := Lib.hid (Var.new hB)
  clear hb3 hB R2 A
  have e0 := A3.out.cell
  have e1 := B.out.cell
  go_wp2_with fail
  refine (HM.out a b ca cb _ A3.out.row B.out.row).mono ?_
  rintro e w4 ⟨⟨c, cc, d, cd, rfl, hC, hD⟩, hb4⟩
  have R4 := Lib.hid (R3.out.keep hb4)
  have HR := Lib.hid (R4.out.done hC hD)
  have r0 := R4.out.r0
  have r1 := R4.out.r1
  have f0 := R4.out.f0
  have f1 := R4.out.f1
  clear hb4 hC hD e0 e1 R3
  go_wp2_with fail
  refine bodyPost_ret (v := .tuple #[.agg #[.slice c (M.dig k).length cc, .slice d (M.dig l).length cd], .int .i64 E]) (by simp [results, Tryd.results54, go_sem, r0, r1]) rfl ⟨HR.out.1.res, HR.out.2⟩

set_option maxRecDepth 100000 in
set_option maxHeartbeats 2000000 in
theorem rratOf_neg1 (m : Int) (y : Nat) (w : World) (hm : m < 0) (hy : y ≤ 9223372036854775807) :
    Calls Tryd.prog 55 #[.int .i64 m, .int .i64 (y : Int)] w fun e W' => e = .returned (.tuple #[.agg #[.slice none 0 0, .slice none 0 0], .int .i64 2]) ∧ Below w.heap.size w W' := by
  obtain ⟨⟨r0, f0⟩, r1, f1⟩ := two_cells w (.slice none 0 0) (.slice none 0 0) 58
  have R := Lib.hid (show ResSt w (w.alloc (.cells #[.slice none 0 0, .slice none 0 0] 58)) from ⟨r0, f0, r1, f1, (Below.refl _ w).alloc (Nat.le_refl _) _⟩)
  clear r0 f0 r1 f1
  go_enter Tryd.func55, Tryd.ntmps55
  go_wp2_with fail
  generalize (w.alloc (.cells #[.slice none 0 0, .slice none 0 0] 58)) = w1 at *
  refine (rof_neg _ _ hm).mono ?_
  rintro e w2 ⟨rfl, hb2⟩
  have R2 := Lib.hid ((R.out.keep hb2).alloc (.cells #[.slice none 0 0] 24))
  clear hb2 R
  go_wp2_with fail
  refine (rof_any y _ hy).mono ?_
  rintro e w3 ⟨v, rfl, ⟨b, cb, rfl, hB⟩, hb3⟩
  have R3 := Lib.hid ((R2.out.keep hb3).alloc (.cells #[.slice b (M.dig y).length cb] 24))
  clear hb3 hB R2
  have r0 := R3.out.r0
  have r1 := R3.out.r1
  have f0 := R3.out.f0
  have f1 := R3.out.f1
  have HB := Lib.hid R3.out.below
  clear R3
  go_wp2_with fail
  refine bodyPost_ret (v := .tuple #[.agg #[.slice none 0 0, .slice none 0 0], .int .i64 2]) (by simp [results, Tryd.results55, go_sem, r0, r1]) rfl ⟨rfl, ?_⟩
  exact (HB.out.setCell (p := ⟨w.heap.size, 0, none⟩) (Nat.le_refl _) _).setCell (p := ⟨w.heap.size, 1, none⟩) (Nat.le_refl _) _

set_option maxRecDepth 100000 in
set_option maxHeartbeats 2000000 in
theorem rratOf_neg12 (m n : Int) (w : World) (hm : m < 0) (hn : n < 0) :
    Calls Tryd.prog 55 #[.int .i64 m, .int .i64 n] w fun e W' => e = .returned (.tuple #[.agg #[.slice none 0 0, .slice none 0 0], .int .i64 2]) ∧ Below w.heap.size w W' := by
  obtain ⟨⟨r0, f0⟩, r1, f1⟩ := two_cells w (.slice none 0 0) (.slice none 0 0) 58
  have R := Lib.hid (show ResSt w (w.alloc (.cells #[.slice none 0 0, .slice none 0 0] 58)) from ⟨r0, f0, r1, f1, (Below.refl _ w).alloc (Nat.le_refl _) _⟩)
  clear r0 f0 r1 f1
  go_enter Tryd.func55, Tryd.ntmps55
  go_wp2_with fail
  generalize (w.alloc (.cells #[.slice none 0 0, .slice none 0 0] 58)) = w1 at *
  refine (rof_neg _ _ hm).mono ?_
  rintro e w2 ⟨rfl, hb2⟩
  have R2 := Lib.hid ((R.out.keep hb2).alloc (.cells #[.slice none 0 0] 24))
  clear hb2 R
  go_wp2_with fail
  refine (rof_neg n _ hn).mono ?_
  rintro e w3 ⟨rfl, hb3⟩
  have R3 := Lib.hid ((R2.out.keep hb3).alloc (.cells #[.slice none 0 0] 24))
  clear hb3 R2
  have r0 := R3.out.r0
  have r1 := R3.out.r1
  have f0 := R3.out.f0
  have f1 := R3.out.f1
  have HB := Lib.hid R3.out.below
  clear R3
  go_wp2_with fail
  refine bodyPost_ret (v := .tuple #[.agg #[.slice none 0 0, .slice none 0 0], .int .i64 2]) (by simp [results, Tryd.results55, go_sem, r0, r1]) rfl ⟨rfl, ?_⟩
  exact (HB.out.setCell (p := ⟨w.heap.size, 0, none⟩) (Nat.le_refl _) _).setCell (p := ⟨w.heap.size, 1, none⟩) (Nat.le_refl _) _

set_option maxRecDepth 100000 in
set_option maxHeartbeats 2000000 in
theorem rratOf_neg2 (x : Nat) (n : Int) (w : World) (hx : x ≤ 9223372036854775807) (hn : n < 0) :
    Calls Tryd.prog 55 #[.int .i64 (x : Int), .int .i64 n] w fun e W' => e = .returned (.tuple #[.agg #[.slice none 0 0, .slice none 0 0], .int .i64 2]) ∧ Below w.heap.size w W' := by
  obtain ⟨⟨r0, f0⟩, r1, f1⟩ := two_cells w (.slice none 0 0) (.slice none 0 0) 58
  have R := Lib.hid (show ResSt w (w.alloc (.cells #[.slice none 0 0, .slice none 0 0] 58)) from ⟨r0, f0, r1, f1, (Below.refl _ w).alloc (Nat.le_refl _) _⟩)
  clear r0 f0 r1 f1
  go_enter Tryd.func55, Tryd.ntmps55
  go_wp2_with fail
  generalize (w.alloc (.cells #[.slice none 0 0, .slice none 0 0] 58)) = w1 at *
  refine (rof_any x _ hx).mono ?_
  rintro e w2 ⟨v, rfl, ⟨a, ca, rfl, hA⟩, hb2⟩
  have R2 := Lib.hid ((R.out.keep hb2).alloc (.cells #[.slice a (M.dig x).length ca] 24))
  clear hb2 hA R
  go_wp2_with fail
  refine (rof_neg n _ hn).mono ?_
  rintro e w3 ⟨rfl, hb3⟩
  have R3 := Lib.hid ((R2.out.keep hb3).alloc (.cells #[.slice none 0 0] 24))
  clear hb3 R2
  have r0 := R3.out.r0
  have r1 := R3.out.r1
  have f0 := R3.out.f0
  have f1 := R3.out.f1
  have HB := Lib.hid R3.out.below
  clear R3
  go_wp2_with fail
  refine bodyPost_ret (v := .tuple #[.agg #[.slice none 0 0, .slice none 0 0], .int .i64 2]) (by simp [results, Tryd.results55, go_sem, r0, r1]) rfl ⟨rfl, ?_⟩
  exact (HB.out.setCell (p := ⟨w.heap.size, 0, none⟩) (Nat.le_refl _) _).setCell (p := ⟨w.heap.size, 1, none⟩) (Nat.le_refl _) _

set_option maxRecDepth 100000 in
set_option maxHeartbeats 2000000 in
theorem rratOf_res (x y : Nat) (w : World) (hx : x ≤ 9223372036854775807) (hy : y ≤ 9223372036854775807) {E : Int} {k l : Nat}
    (hM : ∀ (a b : Option Addr) (ca cb : Nat) (w : World), Row w a (M.dig x) ca → Row w b (M.dig y) cb → Calls Tryd.prog 52 #[.agg #[.slice a (M.dig x).length ca], .agg #[.slice b (M.dig y).length cb]] w fun e W' => RRes E k l e W' ∧ Below w.heap.size w W') :
    Calls Tryd.prog 55 #[.int .i64 (x : Int), .int .i64 (y : Int)] w fun e W' => RRes E k l e W' ∧ Below w.heap.size w W' := by
  have HM := Lib.hid hM
  clear hM
  obtain ⟨⟨r0, f0⟩, r1, f1⟩ := two_cells w (.slice none 0 0) (.slice none 0 0) 58
  have R := Lib.hid (show ResSt w (w.alloc (.cells #[.slice none 0 0, .slice none 0 0] 58)) from ⟨r0, f0, r1, f1, (Below.refl _ w).alloc (Nat.le_refl _) _⟩)
  clear r0 f0 r1 f1
  go_enter Tryd.func55, Tryd.ntmps55
  go_wp2_with fail
  generalize (w.alloc (.cells #[.slice none 0 0, .slice none 0 0] 58)) = w1 at *
  refine (rof_any x _ hx).mono ?_
  rintro e w2 ⟨v, rfl, ⟨a, ca, rfl, hA⟩, hb2⟩
  have R2 := Lib.hid ((R.out.keep hb2).alloc (.cells #[.slice a (M.dig x).length ca] 24))
  have A := Lib.hid (Var.new hA)
  clear hb2 hA R
  go_wp2_with fail
  refine (rof_any y _ hy).mono ?_
  rintro e w3 ⟨v, rfl, ⟨b, cb, rfl, hB⟩, hb3⟩
  have R3 := Lib.hid ((R2.out.keep hb3).alloc (.cells #[.slice b (M.dig y).length cb] 24))
  have A3 := Lib.hid ((A.out.below hb3).alloc (.cells #[.slice b (M.dig y).length cb] 24))
  have B := Lib.hid (Var.new hB)
  clear hb3 hB R2 A
  have e0 := A3.out.cell
  have e1 := B.out.cell
  go_wp2_with fail
  refine (HM.out a b ca cb _ A3.out.row B.out.row).mono ?_
  rintro e w4 ⟨⟨c, cc, d, cd, rfl, hC, hD⟩, hb4⟩
  have R4 := Lib.hid (R3.out.keep hb4)
  have HR := Lib.hid (R4.out.done hC hD)
  have r0 := R4.out.r0
  have r1 := R4.out.r1
  have f0 := R4.out.f0
  have f1 := R4.out.f1
  clear hb4 hC hD e0 e1 R3
  go_wp2_with fail
  refine bodyPost_ret (v := .tuple #[.agg #[.slice c (M.dig k).length cc, .slice d (M.dig l).length cd], .int .i64 E]) (by simp [results, Tryd.results55, go_sem, r0, r1]) rfl ⟨HR.out.1.res, HR.out.2⟩

/-- **Of** of any two ints: what the code and the reference return. -/
theorem of_both (m n : Int) (hm : m ≤ 9223372036854775807) (hn : n ≤ 9223372036854775807) : ∃ (E : Int) (k l : Nat),
    (∀ w : World, Calls Tryd.prog 54 #[.int .i64 m, .int .i64 n] w fun e W' => RRes E k l e W' ∧ Below w.heap.size w W') ∧
    (∀ w : World, Calls Tryd.prog 55 #[.int .i64 m, .int .i64 n] w fun e W' => RRes E k l e W' ∧ Below w.heap.size w W') := by
  by_cases h1 : m < 0
  · refine ⟨2, 0, 0, fun w => (ratOf_neg1 m n w h1).mono fun _ _ ⟨he, hb⟩ => ⟨he ▸ RRes.none, hb⟩, fun w => ?_⟩
    by_cases h2 : n < 0
    · exact (rratOf_neg12 m n w h1 h2).mono fun _ _ ⟨he, hb⟩ => ⟨he ▸ RRes.none, hb⟩
    · obtain ⟨y, rfl⟩ := Int.eq_ofNat_of_zero_le (by omega : 0 ≤ n)
      exact (rratOf_neg1 m y w h1 (by omega)).mono fun _ _ ⟨he, hb⟩ => ⟨he ▸ RRes.none, hb⟩
  · obtain ⟨x, rfl⟩ := Int.eq_ofNat_of_zero_le (by omega : 0 ≤ m)
    by_cases h2 : n < 0
    · exact ⟨2, 0, 0, fun w => (ratOf_neg2 x n w (by omega) h2).mono fun _ _ ⟨he, hb⟩ => ⟨he ▸ RRes.none, hb⟩, fun w => (rratOf_neg2 x n w (by omega) h2).mono fun _ _ ⟨he, hb⟩ => ⟨he ▸ RRes.none, hb⟩⟩
    · obtain ⟨y, rfl⟩ := Int.eq_ofNat_of_zero_le (by omega : 0 ≤ n)
      obtain ⟨E, k, l, c1, c2⟩ := make_both (M.dig x) (M.dig y)
      exact ⟨E, k, l, fun w => ratOf_res x y w (by omega) (by omega) c1, fun w => rratOf_res x y w (by omega) (by omega) c2⟩
end Go.Proofs.YtneimnacanhjmaaDoor
