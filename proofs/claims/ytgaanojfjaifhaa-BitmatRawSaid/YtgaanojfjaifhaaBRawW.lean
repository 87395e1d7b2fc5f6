/- BitmatRaw: the walk. -/
import Derived.Test.YtgaanojfjaifhaaBAgree
namespace Go.Proofs.Ytgaanojfjaifhaa.B
open Go Go.RowKit Go.Shelf
open BM (bt St)

theorem wrap60 (x : Nat) (h : x < 200) : wrap64 ((x : Int) - 60) = (x : Int) - 60 := by unfold wrap64; omega

set_option maxRecDepth 100000 in
set_option maxHeartbeats 4000000 in
theorem bitmatRaw_any (C : Int) (a : Option Addr) (ca : Nat) (R : List V) (D : Int) (b : Option Addr) (cb : Nat) (T : List V) (v : V) (w : World) (hA : Row w a R ca) (hB : Row w b T cb) :
    Calls Try.prog 3 #[.agg #[.int .i64 C, .slice a R.length ca], .agg #[.int .i64 D, .slice b T.length cb], .int .u64 (v.toNat : Int)] w fun e W => e = .returned (.bool true) ∧ Below w.heap.size w W := by
  have hra := hA.room
  have hra2 := hA.most
  have hrb := hB.room
  have hrb2 := hB.most
  have hbA := (BX.new (C := C) hA)
  have hbB := (BX.new (C := D) (hB.alloc (.cells #[.int .i64 C, .slice a R.length ca] 24)))
  have hbA2 := hbA.below ((Below.refl _ _).alloc (Nat.le_refl _) (.cells #[.int .i64 D, .slice b T.length cb] 24))
  have hbw := ((Below.refl w.heap.size w).alloc (Nat.le_refl _) (.cells #[.int .i64 C, .slice a R.length ca] 24)).alloc (by simp) (.cells #[.int .i64 D, .slice b T.length cb] 24)
  obtain ⟨u0, hu0⟩ : ∃ u0, (w.alloc (.cells #[.int .i64 C, .slice a R.length ca] 24)).alloc (.cells #[.int .i64 D, .slice b T.length cb] 24) = u0 := ⟨_, rfl⟩
  rw [hu0] at hbA2 hbB hbw
  rw [World.size_alloc] at hbB
  have XA := Lib.hid hbA2
  have XB := Lib.hid hbB
  have HW := Lib.hid hbw
  have a0 := hbA2.box.c0
  have a1 := hbA2.box.c1
  have b0 := hbB.box.c0
  have b1 := hbB.box.c1
  clear hA hB hbA hbB hbA2 hbw
  by_cases hbig : R.length ≤ 70 ∧ T.length ≤ 70
  · obtain ⟨hl1, hl2⟩ := hbig
    obtain ⟨x, hx⟩ : ∃ x : Nat, v.toNat % 200 = x := ⟨_, rfl⟩
    have hxl : x < 200 := by rw [← hx]; exact Nat.mod_lt _ (by decide)
    obtain ⟨N, hN⟩ : ∃ N : Int, (x : Int) - 60 = N := ⟨_, rfl⟩
    obtain ⟨UE, hUE⟩ : ∃ y : Int, (if sideB N then 0 else 2) = y := ⟨_, rfl⟩
    obtain ⟨UC, hUC⟩ : ∃ y : Int, (if sideB N then N else 0) = y := ⟨_, rfl⟩
    obtain ⟨UL, hUL⟩ : ∃ y : List V, (if sideB N then tab N.toNat unitF else []) = y := ⟨_, rfl⟩
    have cU : ∀ W : World, Calls Try.prog 6 #[.int .i64 N] W (fun e W' => (∃ v, e = .returned (.tuple #[v, .int .i64 UE]) ∧ MatR W.heap.size W' v UC UL) ∧ Below W.heap.size W W') := fun W => by have := unit_any N W; rw [hUE, hUC, hUL] at this; exact this
    have rU : ∀ W : World, Calls Try.prog 7 #[.int .i64 N] W (fun e W' => (∃ v, e = .returned (.tuple #[v, .int .i64 UE]) ∧ MatR W.heap.size W' v UC UL) ∧ Below W.heap.size W W') := fun W => by have := runit_any N W; rw [hUE, hUC, hUL] at this; exact this
    have HcU := Lib.hid cU
    have HrU := Lib.hid rU
    have hm200 : (v.toNat : Int) % 200 = (x : Int) := by rw [← hx]; rfl
    have hw1 : wrap64 (x : Int) = (x : Int) := wrap64_id x (Nat.lt_trans hxl (by decide))
    have hw2 : wrap64 N = N := by rw [← hN]; exact wrap60 x hxl
    clear cU rU hUE hUC hUL hx
    go_enter Try.func3, Try.ntmps3
    go_wp2_with fail
    refine (HcU.out _).mono ?_
    rintro e v1 ⟨⟨_, rfl, mM, kM, rfl, hr, _⟩, hb⟩
    replace XA := Lib.hid (XA.out.below hb)
    replace XB := Lib.hid (XB.out.below hb)
    replace HW := Lib.hid (HW.out.trans (hb.mono HW.out.size))
    obtain ⟨y0, y1, y2, y3⟩ := box0 v1
    have hx := BX.new (C := UC) hr
    have hb2 := (Below.refl v1.heap.size v1).alloc (Nat.le_refl _) (.cells #[.int .i64 UC, .slice mM UL.length kM] 24)
    obtain ⟨u1, hu1⟩ : ∃ u, v1.alloc (.cells #[.int .i64 UC, .slice mM UL.length kM] 24) = u := ⟨_, rfl⟩
    rw [hu1] at hx hb2
    replace XA := Lib.hid (XA.out.below hb2)
    replace XB := Lib.hid (XB.out.below hb2)
    replace HW := Lib.hid (HW.out.trans (hb2.mono HW.out.size))
    have XM := Lib.hid hx
    clear hb hr hx hb2 a0 a1 b0 b1
    go_wp2_with fail
    refine (HrU.out _).mono ?_
    rintro e v2 ⟨⟨_, rfl, mN, kN, rfl, hr, _⟩, hb⟩
    replace XA := Lib.hid (XA.out.below hb)
    replace XB := Lib.hid (XB.out.below hb)
    replace XM := Lib.hid (XM.out.below hb)
    replace HW := Lib.hid (HW.out.trans (hb.mono HW.out.size))
    clear y0 y1 y2 y3
    obtain ⟨y0, y1, y2, y3⟩ := box0 v2
    have hx := BX.new (C := UC) hr
    have hb2 := (Below.refl v2.heap.size v2).alloc (Nat.le_refl _) (.cells #[.int .i64 UC, .slice mN UL.length kN] 24)
    obtain ⟨u2, hu2⟩ : ∃ u, v2.alloc (.cells #[.int .i64 UC, .slice mN UL.length kN] 24) = u := ⟨_, rfl⟩
    rw [hu2] at hx hb2
    replace XA := Lib.hid (XA.out.below hb2)
    replace XB := Lib.hid (XB.out.below hb2)
    replace XM := Lib.hid (XM.out.below hb2)
    replace HW := Lib.hid (HW.out.trans (hb2.mono HW.out.size))
    have XN := Lib.hid hx
    clear hb hr hx hb2
    have HAW := Lib.hid (awake_yes u2)
    go_wp2_with fail
    refine HAW.out.mono ?_
    rintro e u3 ⟨rfl, hb⟩
    replace XA := Lib.hid (XA.out.below hb)
    replace XB := Lib.hid (XB.out.below hb)
    replace XM := Lib.hid (XM.out.below hb)
    replace XN := Lib.hid (XN.out.below hb)
    replace HW := Lib.hid (HW.out.trans (hb.mono HW.out.size))
    clear hb y0 y1 y2 y3
    have a0 := XA.out.box.c0
    have a1 := XA.out.box.c1
    have b0 := XB.out.box.c0
    have b1 := XB.out.box.c1
    have HAG := Lib.hid (agree_any C D a b ca cb R T v u3 XA.out.row XB.out.row)
    go_wp2_with fail
    refine HAG.out.mono ?_
    rintro e u4 ⟨rfl, hb⟩
    replace XM := Lib.hid (XM.out.below hb)
    replace XN := Lib.hid (XN.out.below hb)
    replace HW := Lib.hid (HW.out.trans (hb.mono HW.out.size))
    clear hb a0 a1 b0 b1
    have m0 := XM.out.box.c0
    have m1 := XM.out.box.c1
    have n0 := XN.out.box.c0
    have n1 := XN.out.box.c1
    have HSA := Lib.hid (same_yes UC UC mM mN kM kN UL UL u4 XM.out.row XN.out.row rfl rfl)
    go_wp2_with fail
    refine HSA.out.mono ?_
    rintro e u5 ⟨rfl, hb⟩
    replace HW := Lib.hid (HW.out.trans (hb.mono HW.out.size))
    clear hb m0 m1 n0 n1
    go_wp2_with fail
    go_ret
    exact ⟨rfl, HW.out⟩
  · go_enter Try.func3, Try.ntmps3
    have hAW := awake_yes u0
    by_cases h1 : R.length ≤ 70
    · have h2 : ¬ T.length ≤ 70 := fun h => hbig ⟨h1, h⟩
      clear hbig
      go_wp2_with fail
      refine hAW.mono ?_
      rintro e w2 ⟨rfl, hb2⟩
      go_wp2_with fail
      go_ret
      exact ⟨rfl, HW.out.trans (hb2.mono HW.out.size)⟩
    · clear hbig
      go_wp2_with fail
      refine hAW.mono ?_
      rintro e w2 ⟨rfl, hb2⟩
      go_wp2_with fail
      go_ret
      exact ⟨rfl, HW.out.trans (hb2.mono HW.out.size)⟩
end Go.Proofs.Ytgaanojfjaifhaa.B
