/- The walk of law01.NatRaw. -/
import Derived.Test.YtneimnacanhjmaaDoorBAgree
import Derived.Test.YtneimnacanhjmaaDoorB10
namespace Go.Proofs.YtneimnacanhjmaaDoor
open Go Go.RowKit Go.Shelf

set_option maxRecDepth 100000 in
set_option maxHeartbeats 2000000 in
theorem raw_any (a : Option Addr) (ca : Nat) (zs : List Int) (b : Option Addr) (cb : Nat) (ys : List Int) (w : World) (hA : Row w a zs ca) (hB : Row w b ys cb) :
    Calls Tryd.prog 3 #[.agg #[.slice a zs.length ca], .agg #[.slice b ys.length cb]] w fun e W' => e = .returned (.bool true) ∧ Below w.heap.size w W' := by
  have V_A := Lib.hid ((LVar.new hA).alloc (.cells #[.slice b ys.length cb] 24))
  have vb := LVar.new (hB.alloc (.cells #[.slice a zs.length ca] 24))
  rw [World.size_alloc] at vb
  have V_B := Lib.hid vb
  have HB := Lib.hid (show Below w.heap.size w ((w.alloc (.cells #[.slice a zs.length ca] 24)).alloc (.cells #[.slice b ys.length cb] 24)) from ((Below.refl _ w).alloc (Nat.le_refl _) _).alloc (by simp) _)
  have hmA := hA.most
  have hrA := hA.room
  have hmB := hB.most
  have hrB := hB.room
  clear vb hA hB
  by_cases ha : 40 < zs.length
  · skip
    go_enter Tryd.func3, Tryd.ntmps3
    go_wp2_with fail
    refine (awake_any _).mono ?_
    rintro e u1 ⟨rfl, hb⟩
    replace HB := Lib.hid (HB.out.trans (hb.mono HB.out.size))
    replace V_A := Lib.hid (V_A.out.below hb)
    replace V_B := Lib.hid (V_B.out.below hb)
    clear hb
    have e0_A := V_A.out.cell
    have e0_B := V_B.out.cell
    go_wp2_with fail
    go_ret
    exact ⟨rfl, HB.out⟩
  by_cases hbl : 40 < ys.length
  · skip
    go_enter Tryd.func3, Tryd.ntmps3
    go_wp2_with fail
    refine (awake_any _).mono ?_
    rintro e u1 ⟨rfl, hb⟩
    replace HB := Lib.hid (HB.out.trans (hb.mono HB.out.size))
    replace V_A := Lib.hid (V_A.out.below hb)
    replace V_B := Lib.hid (V_B.out.below hb)
    clear hb
    have e0_A := V_A.out.cell
    have e0_B := V_B.out.cell
    go_wp2_with fail
    go_ret
    exact ⟨rfl, HB.out⟩
  go_enter Tryd.func3, Tryd.ntmps3
  go_wp2_with fail
  refine (awake_any _).mono ?_
  rintro e u1 ⟨rfl, hb⟩
  replace HB := Lib.hid (HB.out.trans (hb.mono HB.out.size))
  replace V_A := Lib.hid (V_A.out.below hb)
  replace V_B := Lib.hid (V_B.out.below hb)
  clear hb
  have e0_A := V_A.out.cell
  have e0_B := V_B.out.cell
  go_wp2_with fail
  refine (agree_any a b ca cb zs ys _ V_A.out.row V_B.out.row).mono ?_
  rintro e u2 ⟨rfl, hb⟩
  clear e0_A e0_B
  replace HB := Lib.hid (HB.out.trans (hb.mono HB.out.size))
  replace V_A := Lib.hid (V_A.out.below hb)
  replace V_B := Lib.hid (V_B.out.below hb)
  clear hb
  have e0_A := V_A.out.cell
  have e0_B := V_B.out.cell
  go_wp2_with fail
  refine (agree_any b a cb ca ys zs _ V_B.out.row V_A.out.row).mono ?_
  rintro e u3 ⟨rfl, hb⟩
  clear e0_A e0_B
  replace HB := Lib.hid (HB.out.trans (hb.mono HB.out.size))
  replace V_A := Lib.hid (V_A.out.below hb)
  replace V_B := Lib.hid (V_B.out.below hb)
  clear hb
  have e0_A := V_A.out.cell
  have e0_B := V_B.out.cell
  go_wp2_with fail
  go_ret
  exact ⟨rfl, HB.out⟩
end Go.Proofs.YtneimnacanhjmaaDoor
