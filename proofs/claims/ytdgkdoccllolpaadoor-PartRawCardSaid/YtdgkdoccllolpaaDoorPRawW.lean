/- PartRaw: the walk. -/
import Derived.Test.YtdgkdoccllolpaaDoorPAgree
import Derived.Test.YtdgkdoccllolpaaDoorPAwake
namespace Go.Proofs.YtdgkdoccllolpaaDoor.P
open Go Go.RowKit Go.Shelf
open G
set_option maxRecDepth 100000 in
set_option maxHeartbeats 4000000 in
/-- **PartRaw** -/
theorem raw_any (x : Nat → Int) (kd : Int) (pl : Nat → Int) (ch m v : Int) (hd : Bool) (n0 n1 : Int) (w : World) (hT : Tab w) :
    Calls Tryd.prog 3 #[.agg #[.int .i64 (x 0), .int .i64 (x 1), .int .i64 (x 2), .int .i64 (x 3), .int .i64 (x 4), .int .i64 (x 5)], .agg #[.int .i64 kd, .int .i64 (pl 0), .int .i64 (pl 1), .int .i64 (pl 2), .int .i64 (pl 3), .int .i64 (pl 4), .int .i64 (pl 5), .int .i64 ch, .int .u8 m, .int .u8 v, .bool hd], .agg #[.int .i64 n0, .int .i64 n1]] w fun e W => e = .returned (.bool true) ∧ Below w.heap.size w W := by
  have hag := AG.start w x x kd pl ch m v hd n0 n1 hT
  have hs := Six.new w 23 x
  have hf := Flt.new (w.alloc (.cells #[.int .i64 (x 0), .int .i64 (x 1), .int .i64 (x 2), .int .i64 (x 3), .int .i64 (x 4), .int .i64 (x 5)] 23)) kd pl ch m v hd
  have h2 := Box.new ((w.alloc (.cells #[.int .i64 (x 0), .int .i64 (x 1), .int .i64 (x 2), .int .i64 (x 3), .int .i64 (x 4), .int .i64 (x 5)] 23)).alloc (.cells #[.int .i64 kd, .int .i64 (pl 0), .int .i64 (pl 1), .int .i64 (pl 2), .int .i64 (pl 3), .int .i64 (pl 4), .int .i64 (pl 5), .int .i64 ch, .int .u8 m, .int .u8 v, .bool hd] 26)) 27 [.int .i64 n0, .int .i64 n1]
  have hb := (((Below.refl w.heap.size w).alloc (Nat.le_refl _) (.cells #[.int .i64 (x 0), .int .i64 (x 1), .int .i64 (x 2), .int .i64 (x 3), .int .i64 (x 4), .int .i64 (x 5)] 23)).alloc (by simp) (.cells #[.int .i64 kd, .int .i64 (pl 0), .int .i64 (pl 1), .int .i64 (pl 2), .int .i64 (pl 3), .int .i64 (pl 4), .int .i64 (pl 5), .int .i64 ch, .int .u8 m, .int .u8 v, .bool hd] 26)).alloc (by simp; omega) (.cells #[.int .i64 n0, .int .i64 n1] 27)
  have hs' := (hs.alloc (.cells #[.int .i64 kd, .int .i64 (pl 0), .int .i64 (pl 1), .int .i64 (pl 2), .int .i64 (pl 3), .int .i64 (pl 4), .int .i64 (pl 5), .int .i64 ch, .int .u8 m, .int .u8 v, .bool hd] 26)).alloc (.cells #[.int .i64 n0, .int .i64 n1] 27)
  have hf' := hf.alloc (.cells #[.int .i64 n0, .int .i64 n1] 27)
  simp only [World.size_alloc] at hf' h2
  obtain ⟨w0, hw0⟩ : ∃ w0, ((w.alloc (.cells #[.int .i64 (x 0), .int .i64 (x 1), .int .i64 (x 2), .int .i64 (x 3), .int .i64 (x 4), .int .i64 (x 5)] 23)).alloc (.cells #[.int .i64 kd, .int .i64 (pl 0), .int .i64 (pl 1), .int .i64 (pl 2), .int .i64 (pl 3), .int .i64 (pl 4), .int .i64 (pl 5), .int .i64 ch, .int .u8 m, .int .u8 v, .bool hd] 26)).alloc (.cells #[.int .i64 n0, .int .i64 n1] 27) = w0 := ⟨_, rfl⟩
  have h2' : Box w0 (w.heap.size + 1 + 1) 27 [.int .i64 n0, .int .i64 n1] := by rw [← hw0]; exact h2
  rw [hw0] at hs' hf' hb
  have HS := Lib.hid hs'
  have HF := Lib.hid hf'
  have H2 := Lib.hid h2'
  have HB := Lib.hid hb
  have HT := Lib.hid (hT.below hb)
  clear hag hs hf h2 hb hs' hf' h2' hT
  go_enter Tryd.func3, Tryd.ntmps3
  go_wp2_with fail
  refine (awake_any _ HT.out).mono ?_
  rintro e w1 ⟨rfl, hb1⟩
  obtain ⟨x0, x1, x2, x3, x4, x5⟩ := (HS.out.below hb1).all
  obtain ⟨f0, f1, f2, f3, f4, f5, f6, f7, f8, f9, f10⟩ := (HF.out.below hb1).all
  have g0 := Box.cell (H2.out.below hb1) 0 (v := .int .i64 n0) rfl
  have g1 := Box.cell (H2.out.below hb1) 1 (v := .int .i64 n1) rfl
  have HB1 := Lib.hid (HB.out.trans (hb1.mono HB.out.size))
  have HA := Lib.hid (agree_any x pl kd pl ch m v hd n0 n1 w1 (HT.out.below hb1))
  clear hb1 HS HF H2 HB HT
  go_wp2_with fail
  refine HA.out.mono ?_
  rintro e w2 ⟨rfl, hb2⟩
  have HB2 := Lib.hid (HB1.out.trans (hb2.mono HB1.out.size))
  clear hb2 HA HB1
  go_wp2_with fail
  go_ret
  exact ⟨rfl, HB2.out⟩
end Go.Proofs.YtdgkdoccllolpaaDoor.P
