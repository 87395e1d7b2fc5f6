/- The walk of law02.RatioRaw. -/
import Derived.Test.YtneimnacanhjmaaDoorBAgree2
import Derived.Test.YtneimnacanhjmaaDoorB10
namespace Go.Proofs.YtneimnacanhjmaaDoor
open Go Go.RowKit Go.Shelf

set_option maxRecDepth 100000 in
set_option maxHeartbeats 2000000 in
theorem ratRaw_any (a1 : Option Addr) (c1 : Nat) (z1 : List Int) (a2 : Option Addr) (c2 : Nat) (z2 : List Int) (b1 : Option Addr) (d1 : Nat) (y1 : List Int) (b2 : Option Addr) (d2 : Nat) (y2 : List Int) (w : World) (h1 : Row w a1 z1 c1) (h2 : Row w a2 z2 c2) (h3 : Row w b1 y1 d1) (h4 : Row w b2 y2 d2) :
    Calls Tryd.prog 12 #[.agg #[.slice a1 z1.length c1, .slice a2 z2.length c2], .agg #[.slice b1 y1.length d1, .slice b2 y2.length d2]] w fun e W' => e = .returned (.bool true) ∧ Below w.heap.size w W' := by
  have V_A := Lib.hid ((RLVar.new h1 h2).alloc (.cells #[.slice b1 y1.length d1, .slice b2 y2.length d2] 58))
  have vb := RLVar.new (h3.alloc (.cells #[.slice a1 z1.length c1, .slice a2 z2.length c2] 58)) (h4.alloc _)
  rw [World.size_alloc] at vb
  have V_B := Lib.hid vb
  have HB := Lib.hid (show Below w.heap.size w ((w.alloc (.cells #[.slice a1 z1.length c1, .slice a2 z2.length c2] 58)).alloc (.cells #[.slice b1 y1.length d1, .slice b2 y2.length d2] 58)) from ((Below.refl _ w).alloc (Nat.le_refl _) _).alloc (by simp) _)
  have m1 := h1.most
  have r1 := h1.room
  have m2 := h2.most
  have r2 := h2.room
  have m3 := h3.most
  have r3 := h3.room
  have m4 := h4.most
  have r4 := h4.room
  clear vb h1 h2 h3 h4
  have k0 := V_A.out.c0
  have k1 := V_A.out.c1
  have l0 := V_B.out.c0
  have l1 := V_B.out.c1
  by_cases hT : z1.length + z2.length + y1.length + y2.length ≤ 800
  · by_cases hl : z1.length + z2.length + y1.length + y2.length ≤ 48
    · have hi : ¬ (48 : Int) < (z1.length : Int) + (z2.length : Int) + (y1.length : Int) + (y2.length : Int) := by omega
      go_enter Tryd.func12, Tryd.ntmps12
      go_wp2_with fail
      generalize ((w.alloc (.cells #[.slice a1 z1.length c1, .slice a2 z2.length c2] 58)).alloc (.cells #[.slice b1 y1.length d1, .slice b2 y2.length d2] 58)) = w0 at *
      refine (ratAwake_any _).mono ?_
      rintro e u1 ⟨rfl, hb⟩
      clear k0 k1 l0 l1
      replace HB := Lib.hid (HB.out.trans (hb.mono HB.out.size))
      replace V_A := Lib.hid (V_A.out.below hb)
      replace V_B := Lib.hid (V_B.out.below hb)
      clear hb
      have k0 := V_A.out.c0
      have k1 := V_A.out.c1
      have l0 := V_B.out.c0
      have l1 := V_B.out.c1
      go_wp2_with fail
      refine (agree2_any a1 a2 b1 b2 c1 c2 d1 d2 z1 z2 y1 y2 _ (fun _ => hl) V_A.out.ra V_A.out.rb V_B.out.ra V_B.out.rb).mono ?_
      rintro e u2 ⟨rfl, hb⟩
      clear k0 k1 l0 l1
      replace HB := Lib.hid (HB.out.trans (hb.mono HB.out.size))
      replace V_A := Lib.hid (V_A.out.below hb)
      replace V_B := Lib.hid (V_B.out.below hb)
      clear hb
      have k0 := V_A.out.c0
      have k1 := V_A.out.c1
      have l0 := V_B.out.c0
      have l1 := V_B.out.c1
      go_wp2_with fail
      refine (agree2_any b1 b2 a1 a2 d1 d2 c1 c2 y1 y2 z1 z2 _ (fun _ => by omega) V_B.out.ra V_B.out.rb V_A.out.ra V_A.out.rb).mono ?_
      rintro e u3 ⟨rfl, hb⟩
      clear k0 k1 l0 l1
      replace HB := Lib.hid (HB.out.trans (hb.mono HB.out.size))
      replace V_A := Lib.hid (V_A.out.below hb)
      replace V_B := Lib.hid (V_B.out.below hb)
      clear hb
      have k0 := V_A.out.c0
      have k1 := V_A.out.c1
      have l0 := V_B.out.c0
      have l1 := V_B.out.c1
      go_wp2_with fail
      go_ret
      exact ⟨rfl, HB.out⟩
    · have hi : (48 : Int) < (z1.length : Int) + (z2.length : Int) + (y1.length : Int) + (y2.length : Int) := by omega
      go_enter Tryd.func12, Tryd.ntmps12
      go_wp2_with fail
      generalize ((w.alloc (.cells #[.slice a1 z1.length c1, .slice a2 z2.length c2] 58)).alloc (.cells #[.slice b1 y1.length d1, .slice b2 y2.length d2] 58)) = w0 at *
      refine (ratAwake_any _).mono ?_
      rintro e u1 ⟨rfl, hb⟩
      clear k0 k1 l0 l1
      replace HB := Lib.hid (HB.out.trans (hb.mono HB.out.size))
      replace V_A := Lib.hid (V_A.out.below hb)
      replace V_B := Lib.hid (V_B.out.below hb)
      clear hb
      have k0 := V_A.out.c0
      have k1 := V_A.out.c1
      have l0 := V_B.out.c0
      have l1 := V_B.out.c1
      go_wp2_with fail
      go_ret
      exact ⟨rfl, HB.out⟩
  · have HN := Lib.hid (show ¬ (RVd z1 z2 ∧ RVd y1 y2) from fun h => hT (by have e1 := h.1.1.len; have e2 := h.1.2.1.len; have e3 := h.2.1.len; have e4 := h.2.2.1.len; omega))
    clear hT m1 m2 m3 m4 r1 r2 r3 r4
    go_enter Tryd.func12, Tryd.ntmps12
    go_wp2_with fail
    generalize ((w.alloc (.cells #[.slice a1 z1.length c1, .slice a2 z2.length c2] 58)).alloc (.cells #[.slice b1 y1.length d1, .slice b2 y2.length d2] 58)) = w0 at *
    refine (ratAwake_any _).mono ?_
    rintro e u1 ⟨rfl, hb⟩
    obtain ⟨sw, hsw⟩ : ∃ sw, wrap64 (wrap64 (wrap64 ((z1.length : Int) + (z2.length : Int)) + (y1.length : Int)) + (y2.length : Int)) = sw := ⟨_, rfl⟩
    rw [hsw]
    clear hsw
    by_cases hs : 48 < sw
    · skip
      clear k0 k1 l0 l1
      replace HB := Lib.hid (HB.out.trans (hb.mono HB.out.size))
      replace V_A := Lib.hid (V_A.out.below hb)
      replace V_B := Lib.hid (V_B.out.below hb)
      clear hb
      have k0 := V_A.out.c0
      have k1 := V_A.out.c1
      have l0 := V_B.out.c0
      have l1 := V_B.out.c1
      go_wp2_with fail
      go_ret
      exact ⟨rfl, HB.out⟩
    · skip
      clear k0 k1 l0 l1
      replace HB := Lib.hid (HB.out.trans (hb.mono HB.out.size))
      replace V_A := Lib.hid (V_A.out.below hb)
      replace V_B := Lib.hid (V_B.out.below hb)
      clear hb
      have k0 := V_A.out.c0
      have k1 := V_A.out.c1
      have l0 := V_B.out.c0
      have l1 := V_B.out.c1
      go_wp2_with fail
      refine (agree2_any a1 a2 b1 b2 c1 c2 d1 d2 z1 z2 y1 y2 _ (fun h => absurd h HN.out) V_A.out.ra V_A.out.rb V_B.out.ra V_B.out.rb).mono ?_
      rintro e u2 ⟨rfl, hb⟩
      clear k0 k1 l0 l1
      replace HB := Lib.hid (HB.out.trans (hb.mono HB.out.size))
      replace V_A := Lib.hid (V_A.out.below hb)
      replace V_B := Lib.hid (V_B.out.below hb)
      clear hb
      have k0 := V_A.out.c0
      have k1 := V_A.out.c1
      have l0 := V_B.out.c0
      have l1 := V_B.out.c1
      go_wp2_with fail
      refine (agree2_any b1 b2 a1 a2 d1 d2 c1 c2 y1 y2 z1 z2 _ (fun h => absurd ⟨h.2, h.1⟩ HN.out) V_B.out.ra V_B.out.rb V_A.out.ra V_A.out.rb).mono ?_
      rintro e u3 ⟨rfl, hb⟩
      clear k0 k1 l0 l1
      replace HB := Lib.hid (HB.out.trans (hb.mono HB.out.size))
      replace V_A := Lib.hid (V_A.out.below hb)
      replace V_B := Lib.hid (V_B.out.below hb)
      clear hb
      have k0 := V_A.out.c0
      have k1 := V_A.out.c1
      have l0 := V_B.out.c0
      have l1 := V_B.out.c1
      go_wp2_with fail
      go_ret
      exact ⟨rfl, HB.out⟩
end Go.Proofs.YtneimnacanhjmaaDoor
