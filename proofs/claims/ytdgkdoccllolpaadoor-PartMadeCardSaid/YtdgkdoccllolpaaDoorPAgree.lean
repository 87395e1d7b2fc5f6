/- memfaultlaw09.agree: both answer the same. -/
import Derived.Test.YtdgkdoccllolpaaDoorPVFault
import Derived.Test.YtdgkdoccllolpaaDoorPRVFault
import Derived.Test.YtdgkdoccllolpaaDoorPCovered
import Derived.Test.YtdgkdoccllolpaaDoorPRCovered
import Derived.Test.YtdgkdoccllolpaaDoorPRIndex
import Derived.Test.YtdgkdoccllolpaaDoorPSame
import Derived.Deep.RegionHeld3
import Derived.Deep.DeepMust
namespace Go.Proofs.YtdgkdoccllolpaaDoor.P
open Go Go.RowKit Go.Shelf
open G
structure AG (w : World) (x y : Nat → Int) (kd : Int) (pl : Nat → Int) (ch m v : Int) (hd : Bool) (n0 n1 : Int) (W : World) : Prop where
  shape : Six W w.heap.size 23 x
  place : Six W (w.heap.size + 1) 24 y
  flt : Flt W (w.heap.size + 2) kd pl ch m v hd
  two : Box W (w.heap.size + 3) 27 [.int .i64 n0, .int .i64 n1]
  tab : Tab W
  bel : Below w.heap.size w W
theorem AG.below {w W W' : World} {x y : Nat → Int} {kd : Int} {pl : Nat → Int} {ch m v : Int} {hd : Bool} {n0 n1 : Int} (h : AG w x y kd pl ch m v hd n0 n1 W) (hb : Below W.heap.size W W') : AG w x y kd pl ch m v hd n0 n1 W' :=
  ⟨h.shape.below hb, h.place.below hb, h.flt.below hb, h.two.below hb, h.tab.below hb, h.bel.trans (hb.mono h.bel.size)⟩
theorem AG.start (w : World) (x y : Nat → Int) (kd : Int) (pl : Nat → Int) (ch m v : Int) (hd : Bool) (n0 n1 : Int) (hT : Tab w) :
    AG w x y kd pl ch m v hd n0 n1 ((((w.alloc (.cells #[.int .i64 (x 0), .int .i64 (x 1), .int .i64 (x 2), .int .i64 (x 3), .int .i64 (x 4), .int .i64 (x 5)] 23)).alloc (.cells #[.int .i64 (y 0), .int .i64 (y 1), .int .i64 (y 2), .int .i64 (y 3), .int .i64 (y 4), .int .i64 (y 5)] 24)).alloc (.cells #[.int .i64 kd, .int .i64 (pl 0), .int .i64 (pl 1), .int .i64 (pl 2), .int .i64 (pl 3), .int .i64 (pl 4), .int .i64 (pl 5), .int .i64 ch, .int .u8 m, .int .u8 v, .bool hd] 26)).alloc (.cells #[.int .i64 n0, .int .i64 n1] 27)) := by
  have h1 := Six.new w 23 x
  have h2 := Six.new (w.alloc (.cells #[.int .i64 (x 0), .int .i64 (x 1), .int .i64 (x 2), .int .i64 (x 3), .int .i64 (x 4), .int .i64 (x 5)] 23)) 24 y
  have h3 := Flt.new ((w.alloc (.cells #[.int .i64 (x 0), .int .i64 (x 1), .int .i64 (x 2), .int .i64 (x 3), .int .i64 (x 4), .int .i64 (x 5)] 23)).alloc (.cells #[.int .i64 (y 0), .int .i64 (y 1), .int .i64 (y 2), .int .i64 (y 3), .int .i64 (y 4), .int .i64 (y 5)] 24)) kd pl ch m v hd
  have h4 := Box.new (((w.alloc (.cells #[.int .i64 (x 0), .int .i64 (x 1), .int .i64 (x 2), .int .i64 (x 3), .int .i64 (x 4), .int .i64 (x 5)] 23)).alloc (.cells #[.int .i64 (y 0), .int .i64 (y 1), .int .i64 (y 2), .int .i64 (y 3), .int .i64 (y 4), .int .i64 (y 5)] 24)).alloc (.cells #[.int .i64 kd, .int .i64 (pl 0), .int .i64 (pl 1), .int .i64 (pl 2), .int .i64 (pl 3), .int .i64 (pl 4), .int .i64 (pl 5), .int .i64 ch, .int .u8 m, .int .u8 v, .bool hd] 26)) 27 [.int .i64 n0, .int .i64 n1]
  have hb := ((((Below.refl w.heap.size w).alloc (Nat.le_refl _) (.cells #[.int .i64 (x 0), .int .i64 (x 1), .int .i64 (x 2), .int .i64 (x 3), .int .i64 (x 4), .int .i64 (x 5)] 23)).alloc (by simp) (.cells #[.int .i64 (y 0), .int .i64 (y 1), .int .i64 (y 2), .int .i64 (y 3), .int .i64 (y 4), .int .i64 (y 5)] 24)).alloc (by simp; omega) (.cells #[.int .i64 kd, .int .i64 (pl 0), .int .i64 (pl 1), .int .i64 (pl 2), .int .i64 (pl 3), .int .i64 (pl 4), .int .i64 (pl 5), .int .i64 ch, .int .u8 m, .int .u8 v, .bool hd] 26)).alloc (by simp; omega) (.cells #[.int .i64 n0, .int .i64 n1] 27)
  simp only [World.size_alloc] at h2 h3 h4
  exact ⟨((h1.alloc _).alloc _).alloc _, (h2.alloc _).alloc _, h3.alloc _, h4, hT.below hb, hb⟩
structure AGP (w : World) (x y : Nat → Int) (kd : Int) (pl : Nat → Int) (ch m v : Int) (hd : Bool) (n0 n1 : Int) (q3 q4 : Nat) (R : Nat → Int) (W : World) : Prop where
  g : AG w x y kd pl ch m v hd n0 n1 W
  s3 : Six W q3 24 R
  s4 : Six W q4 24 R
theorem AGP.below {w W W' : World} {x y : Nat → Int} {kd : Int} {pl : Nat → Int} {ch m v : Int} {hd : Bool} {n0 n1 : Int} {q3 q4 : Nat} {R : Nat → Int} (h : AGP w x y kd pl ch m v hd n0 n1 q3 q4 R W) (hb : Below W.heap.size W W') : AGP w x y kd pl ch m v hd n0 n1 q3 q4 R W' :=
  ⟨h.g.below hb, h.s3.below hb, h.s4.below hb⟩
theorem AGP.cells {w W : World} {x y : Nat → Int} {kd : Int} {pl : Nat → Int} {ch m v : Int} {hd : Bool} {n0 n1 : Int} {q3 q4 : Nat} {R : Nat → Int} (h : AGP w x y kd pl ch m v hd n0 n1 q3 q4 R W) : W.cell? ⟨w.heap.size, 0, none⟩ = some (.int .i64 (x 0)) ∧ W.cell? ⟨w.heap.size, 1, none⟩ = some (.int .i64 (x 1)) ∧ W.cell? ⟨w.heap.size, 2, none⟩ = some (.int .i64 (x 2)) ∧ W.cell? ⟨w.heap.size, 3, none⟩ = some (.int .i64 (x 3)) ∧ W.cell? ⟨w.heap.size, 4, none⟩ = some (.int .i64 (x 4)) ∧ W.cell? ⟨w.heap.size, 5, none⟩ = some (.int .i64 (x 5)) ∧ W.cell? ⟨w.heap.size + 1, 0, none⟩ = some (.int .i64 (y 0)) ∧ W.cell? ⟨w.heap.size + 1, 1, none⟩ = some (.int .i64 (y 1)) ∧ W.cell? ⟨w.heap.size + 1, 2, none⟩ = some (.int .i64 (y 2)) ∧ W.cell? ⟨w.heap.size + 1, 3, none⟩ = some (.int .i64 (y 3)) ∧ W.cell? ⟨w.heap.size + 1, 4, none⟩ = some (.int .i64 (y 4)) ∧ W.cell? ⟨w.heap.size + 1, 5, none⟩ = some (.int .i64 (y 5)) ∧ W.cell? ⟨w.heap.size + 2, 0, none⟩ = some (.int .i64 kd) ∧ W.cell? ⟨w.heap.size + 2, 1, none⟩ = some (.int .i64 (pl 0)) ∧ W.cell? ⟨w.heap.size + 2, 2, none⟩ = some (.int .i64 (pl 1)) ∧ W.cell? ⟨w.heap.size + 2, 3, none⟩ = some (.int .i64 (pl 2)) ∧ W.cell? ⟨w.heap.size + 2, 4, none⟩ = some (.int .i64 (pl 3)) ∧ W.cell? ⟨w.heap.size + 2, 5, none⟩ = some (.int .i64 (pl 4)) ∧ W.cell? ⟨w.heap.size + 2, 6, none⟩ = some (.int .i64 (pl 5)) ∧ W.cell? ⟨w.heap.size + 2, 7, none⟩ = some (.int .i64 ch) ∧ W.cell? ⟨w.heap.size + 2, 8, none⟩ = some (.int .u8 m) ∧ W.cell? ⟨w.heap.size + 2, 9, none⟩ = some (.int .u8 v) ∧ W.cell? ⟨w.heap.size + 2, 10, none⟩ = some (.bool hd) ∧ W.cell? ⟨w.heap.size + 3, 0, none⟩ = some (.int .i64 n0) ∧ W.cell? ⟨w.heap.size + 3, 1, none⟩ = some (.int .i64 n1) ∧ W.cell? ⟨q3, 0, none⟩ = some (.int .i64 (R 0)) ∧ W.cell? ⟨q3, 1, none⟩ = some (.int .i64 (R 1)) ∧ W.cell? ⟨q3, 2, none⟩ = some (.int .i64 (R 2)) ∧ W.cell? ⟨q3, 3, none⟩ = some (.int .i64 (R 3)) ∧ W.cell? ⟨q3, 4, none⟩ = some (.int .i64 (R 4)) ∧ W.cell? ⟨q3, 5, none⟩ = some (.int .i64 (R 5)) ∧ W.cell? ⟨q4, 0, none⟩ = some (.int .i64 (R 0)) ∧ W.cell? ⟨q4, 1, none⟩ = some (.int .i64 (R 1)) ∧ W.cell? ⟨q4, 2, none⟩ = some (.int .i64 (R 2)) ∧ W.cell? ⟨q4, 3, none⟩ = some (.int .i64 (R 3)) ∧ W.cell? ⟨q4, 4, none⟩ = some (.int .i64 (R 4)) ∧ W.cell? ⟨q4, 5, none⟩ = some (.int .i64 (R 5)) := by
  obtain ⟨x0, x1, x2, x3, x4, x5⟩ := h.g.shape.all
  obtain ⟨y0, y1, y2, y3, y4, y5⟩ := h.g.place.all
  obtain ⟨f0, f1, f2, f3, f4, f5, f6, f7, f8, f9, f10⟩ := h.g.flt.all
  have g0 := Box.cell h.g.two 0 (v := .int .i64 n0) rfl
  have g1 := Box.cell h.g.two 1 (v := .int .i64 n1) rfl
  obtain ⟨a0, a1, a2, a3, a4, a5⟩ := h.s3.all
  obtain ⟨b0, b1, b2, b3, b4, b5⟩ := h.s4.all
  exact ⟨x0, x1, x2, x3, x4, x5, y0, y1, y2, y3, y4, y5, f0, f1, f2, f3, f4, f5, f6, f7, f8, f9, f10, g0, g1, a0, a1, a2, a3, a4, a5, b0, b1, b2, b3, b4, b5⟩
set_option maxRecDepth 100000 in
set_option maxHeartbeats 8000000 in
theorem agree_any (x y : Nat → Int) (kd : Int) (pl : Nat → Int) (ch m v : Int) (hd : Bool) (n0 n1 : Int) (w : World) (hT : Tab w) :
    Calls Tryd.prog 9 #[.agg #[.int .i64 (x 0), .int .i64 (x 1), .int .i64 (x 2), .int .i64 (x 3), .int .i64 (x 4), .int .i64 (x 5)], .agg #[.int .i64 (y 0), .int .i64 (y 1), .int .i64 (y 2), .int .i64 (y 3), .int .i64 (y 4), .int .i64 (y 5)], .agg #[.int .i64 kd, .int .i64 (pl 0), .int .i64 (pl 1), .int .i64 (pl 2), .int .i64 (pl 3), .int .i64 (pl 4), .int .i64 (pl 5), .int .i64 ch, .int .u8 m, .int .u8 v, .bool hd], .agg #[.int .i64 n0, .int .i64 n1]] w fun e W => e = .returned (.bool true) ∧ Below w.heap.size w W := by
  have hag := AG.start w x y kd pl ch m v hd n0 n1 hT
  obtain ⟨w0, hw0⟩ : ∃ w0, (((w.alloc (.cells #[.int .i64 (x 0), .int .i64 (x 1), .int .i64 (x 2), .int .i64 (x 3), .int .i64 (x 4), .int .i64 (x 5)] 23)).alloc (.cells #[.int .i64 (y 0), .int .i64 (y 1), .int .i64 (y 2), .int .i64 (y 3), .int .i64 (y 4), .int .i64 (y 5)] 24)).alloc (.cells #[.int .i64 kd, .int .i64 (pl 0), .int .i64 (pl 1), .int .i64 (pl 2), .int .i64 (pl 3), .int .i64 (pl 4), .int .i64 (pl 5), .int .i64 ch, .int .u8 m, .int .u8 v, .bool hd] 26)).alloc (.cells #[.int .i64 n0, .int .i64 n1] 27) = w0 := ⟨_, rfl⟩
  rw [hw0] at hag
  have HG0 := Lib.hid hag
  obtain ⟨x0, x1, x2, x3, x4, x5⟩ := HG0.out.shape.all
  obtain ⟨y0, y1, y2, y3, y4, y5⟩ := HG0.out.place.all
  obtain ⟨f0, f1, f2, f3, f4, f5, f6, f7, f8, f9, f10⟩ := HG0.out.flt.all
  have g0 := Box.cell HG0.out.two 0 (v := .int .i64 n0) rfl
  have g1 := Box.cell HG0.out.two 1 (v := .int .i64 n1) rfl
  clear hag hT
  go_enter Tryd.func9, Tryd.ntmps9
  go_wp2_with fail
  refine (index_any x y _).mono ?_
  rintro e v1 ⟨rfl, hb1⟩
  have HG1 := Lib.hid (HG0.out.below hb1)
  clear x0 x1 x2 x3 x4 x5 y0 y1 y2 y3 y4 y5 f0 f1 f2 f3 f4 f5 f6 f7 f8 f9 f10 g0 g1
  obtain ⟨x0, x1, x2, x3, x4, x5⟩ := HG1.out.shape.all
  obtain ⟨y0, y1, y2, y3, y4, y5⟩ := HG1.out.place.all
  obtain ⟨f0, f1, f2, f3, f4, f5, f6, f7, f8, f9, f10⟩ := HG1.out.flt.all
  have g0 := Box.cell HG1.out.two 0 (v := .int .i64 n0) rfl
  have g1 := Box.cell HG1.out.two 1 (v := .int .i64 n1) rfl
  clear hb1 HG0
  go_wp2_with fail
  refine (rindex_any x y _).mono ?_
  rintro e v2 ⟨rfl, hb2⟩
  have HG2 := Lib.hid (HG1.out.below hb2)
  clear x0 x1 x2 x3 x4 x5 y0 y1 y2 y3 y4 y5 f0 f1 f2 f3 f4 f5 f6 f7 f8 f9 f10 g0 g1
  obtain ⟨x0, x1, x2, x3, x4, x5⟩ := HG2.out.shape.all
  obtain ⟨y0, y1, y2, y3, y4, y5⟩ := HG2.out.place.all
  obtain ⟨f0, f1, f2, f3, f4, f5, f6, f7, f8, f9, f10⟩ := HG2.out.flt.all
  have g0 := Box.cell HG2.out.two 0 (v := .int .i64 n0) rfl
  have g1 := Box.cell HG2.out.two 1 (v := .int .i64 n1) rfl
  clear hb2 HG1
  go_wp2_with fail
  refine (at_any x n0 _).mono ?_
  rintro e v3 ⟨rfl, hb3⟩
  obtain ⟨w3, hw3⟩ : ∃ w, v3.alloc (.cells #[.int .i64 (atP x n0 0), .int .i64 (atP x n0 1), .int .i64 (atP x n0 2), .int .i64 (atP x n0 3), .int .i64 (atP x n0 4), .int .i64 (atP x n0 5)] 24) = w := ⟨_, rfl⟩
  have hb3' := hb3.trans ((Below.refl _ v3).alloc hb3.size (.cells #[.int .i64 (atP x n0 0), .int .i64 (atP x n0 1), .int .i64 (atP x n0 2), .int .i64 (atP x n0 3), .int .i64 (atP x n0 4), .int .i64 (atP x n0 5)] 24))
  have hs3 := Six.new v3 24 (atP x n0)
  rw [hw3] at hb3' hs3
  obtain ⟨q3, hq3⟩ : ∃ q, v3.heap.size = q := ⟨_, rfl⟩
  rw [hq3] at hs3
  have HG3 := Lib.hid (HG2.out.below hb3')
  clear x0 x1 x2 x3 x4 x5 y0 y1 y2 y3 y4 y5 f0 f1 f2 f3 f4 f5 f6 f7 f8 f9 f10 g0 g1
  obtain ⟨x0, x1, x2, x3, x4, x5⟩ := HG3.out.shape.all
  obtain ⟨y0, y1, y2, y3, y4, y5⟩ := HG3.out.place.all
  obtain ⟨f0, f1, f2, f3, f4, f5, f6, f7, f8, f9, f10⟩ := HG3.out.flt.all
  have g0 := Box.cell HG3.out.two 0 (v := .int .i64 n0) rfl
  have g1 := Box.cell HG3.out.two 1 (v := .int .i64 n1) rfl
  have HS3 := Lib.hid hs3
  clear hs3 hb3'
  clear hb3 HG2
  go_wp2_with fail
  refine (rat_any x n0 _).mono ?_
  rintro e v4 ⟨rfl, hb4⟩
  obtain ⟨w4, hw4⟩ : ∃ w, v4.alloc (.cells #[.int .i64 (atP x n0 0), .int .i64 (atP x n0 1), .int .i64 (atP x n0 2), .int .i64 (atP x n0 3), .int .i64 (atP x n0 4), .int .i64 (atP x n0 5)] 24) = w := ⟨_, rfl⟩
  have hb4' := hb4.trans ((Below.refl _ v4).alloc hb4.size (.cells #[.int .i64 (atP x n0 0), .int .i64 (atP x n0 1), .int .i64 (atP x n0 2), .int .i64 (atP x n0 3), .int .i64 (atP x n0 4), .int .i64 (atP x n0 5)] 24))
  have hs4 := Six.new v4 24 (atP x n0)
  rw [hw4] at hb4' hs4
  obtain ⟨q4, hq4⟩ : ∃ q, v4.heap.size = q := ⟨_, rfl⟩
  rw [hq4] at hs4
  have HG4 := Lib.hid (HG3.out.below hb4')
  have HS3' := Lib.hid (HS3.out.below hb4')
  clear HS3
  have HS3 := HS3'
  clear HS3'
  clear x0 x1 x2 x3 x4 x5 y0 y1 y2 y3 y4 y5 f0 f1 f2 f3 f4 f5 f6 f7 f8 f9 f10 g0 g1
  obtain ⟨x0, x1, x2, x3, x4, x5⟩ := HG4.out.shape.all
  obtain ⟨y0, y1, y2, y3, y4, y5⟩ := HG4.out.place.all
  obtain ⟨f0, f1, f2, f3, f4, f5, f6, f7, f8, f9, f10⟩ := HG4.out.flt.all
  have g0 := Box.cell HG4.out.two 0 (v := .int .i64 n0) rfl
  have g1 := Box.cell HG4.out.two 1 (v := .int .i64 n1) rfl
  have HS4 := Lib.hid hs4
  clear hs4 hb4'
  clear hb4 HG3
  have HQ := Lib.hid (AGP.mk (HG4.out.below ((Below.refl _ w4).drew)) (HS3.out.drewN 1) (HS4.out.drewN 1))
  clear HG4 HS3 HS4
  obtain ⟨R, hR⟩ : ∃ R, atP x n0 = R := ⟨_, rfl⟩
  rw [hR] at HQ
  clear hR
  go_upto_region 5 with fail
  dsimp only [List.append_eq, List.cons_append, List.nil_append]
  go_region_held3 (fun W' => W'.cell? ⟨w.heap.size, 0, none⟩ = some (.int .i64 (x 0)) ∧ W'.cell? ⟨w.heap.size, 1, none⟩ = some (.int .i64 (x 1)) ∧ W'.cell? ⟨w.heap.size, 2, none⟩ = some (.int .i64 (x 2)) ∧ W'.cell? ⟨w.heap.size, 3, none⟩ = some (.int .i64 (x 3)) ∧ W'.cell? ⟨w.heap.size, 4, none⟩ = some (.int .i64 (x 4)) ∧ W'.cell? ⟨w.heap.size, 5, none⟩ = some (.int .i64 (x 5)) ∧ W'.cell? ⟨w.heap.size + 1, 0, none⟩ = some (.int .i64 (y 0)) ∧ W'.cell? ⟨w.heap.size + 1, 1, none⟩ = some (.int .i64 (y 1)) ∧ W'.cell? ⟨w.heap.size + 1, 2, none⟩ = some (.int .i64 (y 2)) ∧ W'.cell? ⟨w.heap.size + 1, 3, none⟩ = some (.int .i64 (y 3)) ∧ W'.cell? ⟨w.heap.size + 1, 4, none⟩ = some (.int .i64 (y 4)) ∧ W'.cell? ⟨w.heap.size + 1, 5, none⟩ = some (.int .i64 (y 5)) ∧ W'.cell? ⟨w.heap.size + 2, 0, none⟩ = some (.int .i64 kd) ∧ W'.cell? ⟨w.heap.size + 2, 1, none⟩ = some (.int .i64 (pl 0)) ∧ W'.cell? ⟨w.heap.size + 2, 2, none⟩ = some (.int .i64 (pl 1)) ∧ W'.cell? ⟨w.heap.size + 2, 3, none⟩ = some (.int .i64 (pl 2)) ∧ W'.cell? ⟨w.heap.size + 2, 4, none⟩ = some (.int .i64 (pl 3)) ∧ W'.cell? ⟨w.heap.size + 2, 5, none⟩ = some (.int .i64 (pl 4)) ∧ W'.cell? ⟨w.heap.size + 2, 6, none⟩ = some (.int .i64 (pl 5)) ∧ W'.cell? ⟨w.heap.size + 2, 7, none⟩ = some (.int .i64 ch) ∧ W'.cell? ⟨w.heap.size + 2, 8, none⟩ = some (.int .u8 m) ∧ W'.cell? ⟨w.heap.size + 2, 9, none⟩ = some (.int .u8 v) ∧ W'.cell? ⟨w.heap.size + 2, 10, none⟩ = some (.bool hd) ∧ W'.cell? ⟨w.heap.size + 3, 0, none⟩ = some (.int .i64 n0) ∧ W'.cell? ⟨w.heap.size + 3, 1, none⟩ = some (.int .i64 n1) ∧ W'.cell? ⟨q3, 0, none⟩ = some (.int .i64 (R 0)) ∧ W'.cell? ⟨q3, 1, none⟩ = some (.int .i64 (R 1)) ∧ W'.cell? ⟨q3, 2, none⟩ = some (.int .i64 (R 2)) ∧ W'.cell? ⟨q3, 3, none⟩ = some (.int .i64 (R 3)) ∧ W'.cell? ⟨q3, 4, none⟩ = some (.int .i64 (R 4)) ∧ W'.cell? ⟨q3, 5, none⟩ = some (.int .i64 (R 5)) ∧ W'.cell? ⟨q4, 0, none⟩ = some (.int .i64 (R 0)) ∧ W'.cell? ⟨q4, 1, none⟩ = some (.int .i64 (R 1)) ∧ W'.cell? ⟨q4, 2, none⟩ = some (.int .i64 (R 2)) ∧ W'.cell? ⟨q4, 3, none⟩ = some (.int .i64 (R 3)) ∧ W'.cell? ⟨q4, 4, none⟩ = some (.int .i64 (R 4)) ∧ W'.cell? ⟨q4, 5, none⟩ = some (.int .i64 (R 5))) (first | exact HQ.out.cells) (first
    | ((try go_simp); go_at_call 27; (with_reducible refine (valid_any x _).mono ?_); go_must (rintro e v1 ⟨rfl, hb⟩; (have HQ' := Lib.hid (HQ.out.below hb)); (clear HQ); (have HQ := HQ'); (clear HQ'); clear hb))
    | ((try go_simp); go_at_call 28; (with_reducible refine (rvalid_any x _).mono ?_); go_must (rintro e v1 ⟨rfl, hb⟩; (have HQ' := Lib.hid (HQ.out.below hb)); (clear HQ); (have HQ := HQ'); (clear HQ'); clear hb))
    | ((try go_simp); go_at_call 19; (with_reducible refine (size_any x _).mono ?_); go_must (rintro e v1 ⟨rfl, hb⟩; (have HQ' := Lib.hid (HQ.out.below hb)); (clear HQ); (have HQ := HQ'); (clear HQ'); clear hb))
    | ((try go_simp); go_at_call 29; (with_reducible refine (rsize_any x _).mono ?_); go_must (rintro e v1 ⟨rfl, hb⟩; (have HQ' := Lib.hid (HQ.out.below hb)); (clear HQ); (have HQ := HQ'); (clear HQ'); clear hb))
    | ((try go_simp); go_at_call 22; (with_reducible refine (vplace_any x y _).mono ?_); go_must (rintro e v1 ⟨rfl, hb⟩; (have HQ' := Lib.hid (HQ.out.below hb)); (clear HQ); (have HQ := HQ'); (clear HQ'); clear hb))
    | ((try go_simp); go_at_call 30; (with_reducible refine (rvplace_any x y _).mono ?_); go_must (rintro e v1 ⟨rfl, hb⟩; (have HQ' := Lib.hid (HQ.out.below hb)); (clear HQ); (have HQ := HQ'); (clear HQ'); clear hb))
    | ((try go_simp); go_at_call 31; (with_reducible refine (vfault_any x n1 kd pl ch m v hd _ HQ.out.g.tab).mono ?_); go_must (rintro e v1 ⟨rfl, hb⟩; (have HQ' := Lib.hid (HQ.out.below hb)); (clear HQ); (have HQ := HQ'); (clear HQ'); clear hb))
    | ((try go_simp); go_at_call 32; (with_reducible refine (rvfault_any x n1 kd pl ch m v hd _).mono ?_); go_must (rintro e v1 ⟨rfl, hb⟩; (have HQ' := Lib.hid (HQ.out.below hb)); (clear HQ); (have HQ := HQ'); (clear HQ'); clear hb))
    | ((try go_simp); go_at_call 24; (with_reducible refine (covers_any kd pl y ch m v hd _ HQ.out.g.tab).mono ?_); go_must (rintro e v1 ⟨rfl, hb⟩; (have HQ' := Lib.hid (HQ.out.below hb)); (clear HQ); (have HQ := HQ'); (clear HQ'); clear hb))
    | ((try go_simp); go_at_call 33; (with_reducible refine (rcovers_any kd pl y ch m v hd _).mono ?_); go_must (rintro e v1 ⟨rfl, hb⟩; (have HQ' := Lib.hid (HQ.out.below hb)); (clear HQ); (have HQ := HQ'); (clear HQ'); clear hb))
    | ((try go_simp); go_at_call 23; (with_reducible refine (covered_any x kd pl ch m v hd _ HQ.out.g.tab).mono ?_); go_must (rintro e v1 ⟨ra, rc, rfl, ho, hb⟩; (have HQ' := Lib.hid (HQ.out.below hb)); (clear HQ); (have HQ := HQ'); (clear HQ'); (have HO := Lib.hid ho); (clear ho); clear hb))
    | ((try go_simp); go_at_call 35; (with_reducible refine (rcovered_any x kd pl ch m v hd _).mono ?_); go_must (rintro e v1 ⟨rb, rd, rfl, ho2, hb⟩; (have HQ' := Lib.hid (HQ.out.below hb)); (clear HQ); (have HQ := HQ'); (clear HQ'); (have HSA := Lib.hid (same_any ra rb rc rd _ _ (HO.out.below hb).rowAt ho2.rowAt)); (clear ho2 HO); clear hb))
    | ((try go_simp); go_at_call 34; (with_reducible refine (HSA.out).mono ?_); go_must (rintro e v1 ⟨rfl, hb⟩; (have HQ' := Lib.hid (HQ.out.below hb)); (clear HQ); (have HQ := HQ'); (clear HQ'); clear hb)))
  have HB := Lib.hid HQ.out.g.bel
  clear HQ
  go_wp2_with fail
  go_ret
  exact ⟨rfl, HB.out⟩
end Go.Proofs.YtdgkdoccllolpaaDoor.P
