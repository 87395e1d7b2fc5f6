/- Dice.Fault. -/
import Derived.Test.YtdgkdoccllolpaaDoorPFS
import Derived.Deep.RegionHeld3
import Derived.Deep.DeepMust
import Derived.Deep.DeepCutAuto
namespace Go.Proofs.YtdgkdoccllolpaaDoor.P
open Go Go.RowKit Go.Shelf
open G
section
attribute [local semireducible] Six
theorem keptS_six {W W' : World} {dp p : Nat} {t : TypeId} {x : Nat → Int} (h : KeptS dp W W') (hp : p ≠ dp) (hs : Six W p t x) : Six W' p t x := h _ _ _ hp hs
end
theorem six_ne {W : World} {p : Nat} {t : TypeId} {x : Nat → Int} (h : Six W p t x) : W.heap.size ≠ p := Nat.ne_of_gt h.lt
theorem flt_gt {W : World} {r : Nat} {k : Int} {a : Nat → Int} {c m v : Int} {b : Bool} (h : Flt W r k a c m v b) : r < W.heap.size := h.lt
theorem fs_size {w W : World} {dp r : Nat} {a : Option Addr} {cap : Nat} {ts : List Int} (h : FS w dp a cap ts r W) : dp < W.heap.size := Nat.lt_of_lt_of_le h.dlt h.grown.size
theorem fs_ne {w W : World} {dp r : Nat} {a : Option Addr} {cap : Nat} {ts : List Int} (h : FS w dp a cap ts r W) : r < W.heap.size := h.res.lt
theorem mf_new {w W : World} {dp r : Nat} {a : Option Addr} {cap : Nat} {ts : List Int} {y : Nat → Int} {k1 c1 m1 : Int} {hd : Bool} (h : FS w dp a cap ts r W) :
    ∃ (g : Nat) (kd : Int) (y' : Nat → Int) (ch m : Int), Value.pointer (some ⟨W.heap.size, 0, none⟩) = .pointer (some ⟨g, 0, none⟩) ∧ Flt (W.alloc (.cells #[.int .i64 k1, .int .i64 (y 0), .int .i64 (y 1), .int .i64 (y 2), .int .i64 (y 3), .int .i64 (y 4), .int .i64 (y 5), .int .i64 c1, .int .u8 m1, .int .u8 0, .bool hd] 26)) g kd y' ch m 0 hd ∧ FS w dp a cap ts r (W.alloc (.cells #[.int .i64 k1, .int .i64 (y 0), .int .i64 (y 1), .int .i64 (y 2), .int .i64 (y 3), .int .i64 (y 4), .int .i64 (y 5), .int .i64 c1, .int .u8 m1, .int .u8 0, .bool hd] 26)) ∧ r < g :=
  ⟨_, k1, y, c1, m1, rfl, Flt.new W k1 y c1 m1 0 hd, h.alloc _, flt_gt h.res⟩
theorem mf_old {w W : World} {dp r g : Nat} {a : Option Addr} {cap : Nat} {ts : List Int} {y : Nat → Int} {k1 c1 m1 : Int} {hd : Bool} (h : FS w dp a cap ts r W) (hA : Flt W g 0 z6 0 0 0 false) (hg : r < g) :
    ∃ (g' : Nat) (kd : Int) (y' : Nat → Int) (ch m : Int), Value.pointer (some ⟨g, 0, none⟩) = .pointer (some ⟨g', 0, none⟩) ∧ Flt (((((((((((W.setCell ⟨g, 0, none⟩ (.int .i64 k1)).setCell ⟨g, 1, none⟩ (.int .i64 (y 0))).setCell ⟨g, 2, none⟩ (.int .i64 (y 1))).setCell ⟨g, 3, none⟩ (.int .i64 (y 2))).setCell ⟨g, 4, none⟩ (.int .i64 (y 3))).setCell ⟨g, 5, none⟩ (.int .i64 (y 4))).setCell ⟨g, 6, none⟩ (.int .i64 (y 5))).setCell ⟨g, 7, none⟩ (.int .i64 c1)).setCell ⟨g, 8, none⟩ (.int .u8 m1)).setCell ⟨g, 9, none⟩ (.int .u8 0)).setCell ⟨g, 10, none⟩ (.bool hd)) g' kd y' ch m 0 hd ∧ FS w dp a cap ts r (((((((((((W.setCell ⟨g, 0, none⟩ (.int .i64 k1)).setCell ⟨g, 1, none⟩ (.int .i64 (y 0))).setCell ⟨g, 2, none⟩ (.int .i64 (y 1))).setCell ⟨g, 3, none⟩ (.int .i64 (y 2))).setCell ⟨g, 4, none⟩ (.int .i64 (y 3))).setCell ⟨g, 5, none⟩ (.int .i64 (y 4))).setCell ⟨g, 6, none⟩ (.int .i64 (y 5))).setCell ⟨g, 7, none⟩ (.int .i64 c1)).setCell ⟨g, 8, none⟩ (.int .u8 m1)).setCell ⟨g, 9, none⟩ (.int .u8 0)).setCell ⟨g, 10, none⟩ (.bool hd)) ∧ r < g' :=
  ⟨g, k1, y, c1, m1, rfl, put11_flt hA k1 y c1 m1 0 hd, h.put11 (by have := h.rlo; omega) (Nat.ne_of_gt hg) k1 y c1 m1 0 hd, hg⟩
set_option maxRecDepth 100000 in
set_option maxHeartbeats 8000000 in
theorem fault_any (w : World) (dp : Nat) (a : Option Addr) (cap : Nat) (ts : List Int) (k : Nat) (x : Nat → Int) (hd : Bool) (hx : okB x = true) (hD : Dice w dp a cap ts k) :
    Calls Tryd.prog 13 #[.pointer (some ⟨dp, 0, none⟩), .agg #[.int .i64 (x 0), .int .i64 (x 1), .int .i64 (x 2), .int .i64 (x 3), .int .i64 (x 4), .int .i64 (x 5)], .int .i64 9, .bool hd] w fun e W => ∃ (kd : Int) (y : Nat → Int) (ch m v : Int) (hd : Bool), e = .returned (.agg #[.int .i64 kd, .int .i64 (y 0), .int .i64 (y 1), .int .i64 (y 2), .int .i64 (y 3), .int .i64 (y 4), .int .i64 (y 5), .int .i64 ch, .int .u8 m, .int .u8 v, .bool hd]) ∧ (∃ k', Dice W dp a cap ts k') ∧ w.grownBy W (some dp) := by
  have hf := (Six.new w 23 x).alloc (.cells #[.int .i64 0, .int .i64 0, .int .i64 0, .int .i64 0, .int .i64 0, .int .i64 0, .int .i64 0, .int .i64 0, .int .u8 0, .int .u8 0, .bool false] 26)
  have hr := Flt.new (w.alloc (.cells #[.int .i64 (x 0), .int .i64 (x 1), .int .i64 (x 2), .int .i64 (x 3), .int .i64 (x 4), .int .i64 (x 5)] 23)) 0 z6 0 0 0 false
  have hdd := (hD.alloc (.cells #[.int .i64 (x 0), .int .i64 (x 1), .int .i64 (x 2), .int .i64 (x 3), .int .i64 (x 4), .int .i64 (x 5)] 23)).alloc (.cells #[.int .i64 0, .int .i64 0, .int .i64 0, .int .i64 0, .int .i64 0, .int .i64 0, .int .i64 0, .int .i64 0, .int .u8 0, .int .u8 0, .bool false] 26)
  have hg := grown_alloc (grown_alloc (World.grownBy.refl w (some dp)) (.cells #[.int .i64 (x 0), .int .i64 (x 1), .int .i64 (x 2), .int .i64 (x 3), .int .i64 (x 4), .int .i64 (x 5)] 23)) (.cells #[.int .i64 0, .int .i64 0, .int .i64 0, .int .i64 0, .int .i64 0, .int .i64 0, .int .i64 0, .int .i64 0, .int .u8 0, .int .u8 0, .bool false] 26)
  rw [World.size_alloc] at hr
  obtain ⟨w0, hw0⟩ : ∃ w0, (w.alloc (.cells #[.int .i64 (x 0), .int .i64 (x 1), .int .i64 (x 2), .int .i64 (x 3), .int .i64 (x 4), .int .i64 (x 5)] 23)).alloc (.cells #[.int .i64 0, .int .i64 0, .int .i64 0, .int .i64 0, .int .i64 0, .int .i64 0, .int .i64 0, .int .i64 0, .int .u8 0, .int .u8 0, .bool false] 26) = w0 := ⟨_, rfl⟩
  have hr' : Flt w0 (w.heap.size + 1) 0 z6 0 0 0 false := by rw [← hw0]; exact hr
  rw [hw0] at hf hdd hg
  have hs0 := FS.mk (w := w) ⟨k, hdd⟩ hg hr' hD.lt hD.far (Nat.le_succ _)
  obtain ⟨p, hp⟩ : ∃ p, w.heap.size = p := ⟨_, rfl⟩
  have hdp : dp < p := by rw [← hp]; exact hD.lt
  rw [hp] at hf hs0
  obtain ⟨c0, c1, c2, c3, c4, c5⟩ := (show Six w0.drew p 23 x from hf.drewN 1).all
  have HS := Lib.hid hs0.drew
  have HS0 := Lib.hid hs0
  have HX0 := Lib.hid hf
  have HX := Lib.hid (show Six w0.drew p 23 x from hf.drewN 1)
  have HOK := Lib.hid hx
  have HPS := Lib.hid (show w.heap.size ≤ p from Nat.le_of_eq hp)
  have hgw : ∀ {g : Nat} {W : World}, FS w dp a cap ts (p + 1) W → p + 1 < g → w.heap.size ≤ g := fun h hg => by have := h.rlo; omega
  have hag : ∀ {g : Nat}, dp < g → g ≠ dp := fun h => Nat.ne_of_gt h
  clear hf hr hr' hdd hg hD hx hs0
  go_enter Tryd.func13, Tryd.ntmps13
  go_upto_region 1 with fail
  go_cut [9] (fun s9 wx => ∃ (g : Nat) (kd : Int) (y : Nat → Int) (ch m : Int), s9 = .pointer (some ⟨g, 0, none⟩) ∧ Flt wx g kd y ch m 0 hd ∧ FS w dp a cap ts (p + 1) wx ∧ p + 1 < g)
  case first =>
    go_region_held3 (fun W' => W'.cell? ⟨p, 0, none⟩ = some (.int .i64 (x 0)) ∧ W'.cell? ⟨p, 1, none⟩ = some (.int .i64 (x 1)) ∧ W'.cell? ⟨p, 2, none⟩ = some (.int .i64 (x 2)) ∧ W'.cell? ⟨p, 3, none⟩ = some (.int .i64 (x 3)) ∧ W'.cell? ⟨p, 4, none⟩ = some (.int .i64 (x 4)) ∧ W'.cell? ⟨p, 5, none⟩ = some (.int .i64 (x 5))) (first | (go_keep; done) | exact (show Six (w0.alloc (.cells #[.int .i64 0, .int .i64 0, .int .i64 0, .int .i64 0, .int .i64 0, .int .i64 0, .int .i64 0, .int .i64 0, .int .u8 0, .int .u8 0, .bool false] 26)).drew p 23 x from (HX0.out.alloc (.cells #[.int .i64 0, .int .i64 0, .int .i64 0, .int .i64 0, .int .i64 0, .int .i64 0, .int .i64 0, .int .i64 0, .int .u8 0, .int .u8 0, .bool false] 26)).drewN 1).all) (first
      | ((try go_simp); go_at_call 17; (first | ((with_reducible refine (next_fs 6 6 rfl (by decide) (by decide) HS.out).mono ?_); go_must (rintro e wn ⟨n0, hn0, rfl, hsn, hkn, hksn⟩; have hxn := keptS_six hksn (Nat.ne_of_gt hdp) HX.out; (try (have HA' := Lib.hid (hkn _ _ _ _ _ _ _ (hag hg0) HA.out); clear HA; have HA := HA'; clear HA'; obtain ⟨a0, a1, a2, a3, a4, a5, a6, a7, a8, a9, a10⟩ := HA.out.all; obtain ⟨q0, q1, q2, q3, q4, q5, q6, q7, q8, q9, q10⟩ := HA.out.frees)); obtain ⟨c0, c1, c2, c3, c4, c5⟩ := hxn.all; have HS' := Lib.hid hsn; have HX' := Lib.hid hxn; clear HS HX; have HS := HS'; have HX := HX'; clear HS' HX' hsn hxn hkn hksn)) | ((with_reducible refine (next_fs 6 6 rfl (by decide) (by decide) (HS0.out.alloc (.cells #[.int .i64 0, .int .i64 0, .int .i64 0, .int .i64 0, .int .i64 0, .int .i64 0, .int .i64 0, .int .i64 0, .int .u8 0, .int .u8 0, .bool false] 26)).drew).mono ?_); go_must (rintro e wn ⟨n0, hn0, rfl, hsn, hkn, hksn⟩; have hxn := keptS_six hksn (Nat.ne_of_gt hdp) (show Six (w0.alloc (.cells #[.int .i64 0, .int .i64 0, .int .i64 0, .int .i64 0, .int .i64 0, .int .i64 0, .int .i64 0, .int .i64 0, .int .u8 0, .int .u8 0, .bool false] 26)).drew p _ x from (HX0.out.alloc (.cells #[.int .i64 0, .int .i64 0, .int .i64 0, .int .i64 0, .int .i64 0, .int .i64 0, .int .i64 0, .int .i64 0, .int .u8 0, .int .u8 0, .bool false] 26)).drewN 1); have hg0 := fs_size HS0.out; have hgp := six_ne HX0.out; have hgr := flt_gt HS0.out.res; have HA := Lib.hid (hkn _ _ _ _ _ _ _ (hag hg0) (Flt.new w0 0 z6 0 0 0 false).drew); obtain ⟨a0, a1, a2, a3, a4, a5, a6, a7, a8, a9, a10⟩ := HA.out.all; obtain ⟨q0, q1, q2, q3, q4, q5, q6, q7, q8, q9, q10⟩ := HA.out.frees; obtain ⟨c0, c1, c2, c3, c4, c5⟩ := hxn.all; have HS' := Lib.hid hsn; have HX' := Lib.hid hxn; clear HS HX; have HS := HS'; have HX := HX'; clear HS' HX' hsn hxn hkn hksn))))
      | ((try go_simp); go_at_call 16; (first | ((with_reducible refine (place_fs HOK.out HS.out).mono ?_); go_must (rintro e wn ⟨y, rfl, hsn, hkn, hksn⟩; have hxn := keptS_six hksn (Nat.ne_of_gt hdp) HX.out; (try (have HA' := Lib.hid (hkn _ _ _ _ _ _ _ (hag hg0) HA.out); clear HA; have HA := HA'; clear HA'; obtain ⟨a0, a1, a2, a3, a4, a5, a6, a7, a8, a9, a10⟩ := HA.out.all; obtain ⟨q0, q1, q2, q3, q4, q5, q6, q7, q8, q9, q10⟩ := HA.out.frees)); obtain ⟨c0, c1, c2, c3, c4, c5⟩ := hxn.all; have HS' := Lib.hid hsn; have HX' := Lib.hid hxn; clear HS HX; have HS := HS'; have HX := HX'; clear HS' HX' hsn hxn hkn hksn)) | ((with_reducible refine (place_fs HOK.out (HS.out.alloc (.cells #[.int .i64 0, .int .i64 0, .int .i64 0, .int .i64 0, .int .i64 0, .int .i64 0, .int .i64 0, .int .i64 0, .int .u8 0, .int .u8 0, .bool false] 26))).mono ?_); go_must (rintro e wn ⟨y, rfl, hsn, hkn, hksn⟩; have hxn := keptS_six hksn (Nat.ne_of_gt hdp) (HX.out.alloc (.cells #[.int .i64 0, .int .i64 0, .int .i64 0, .int .i64 0, .int .i64 0, .int .i64 0, .int .i64 0, .int .i64 0, .int .u8 0, .int .u8 0, .bool false] 26)); have hg0 := fs_size HS.out; have hgp := six_ne HX.out; have hgr := flt_gt HS.out.res; have HA := Lib.hid (hkn _ _ _ _ _ _ _ (hag hg0) (Flt.new _ 0 z6 0 0 0 false)); obtain ⟨a0, a1, a2, a3, a4, a5, a6, a7, a8, a9, a10⟩ := HA.out.all; obtain ⟨q0, q1, q2, q3, q4, q5, q6, q7, q8, q9, q10⟩ := HA.out.frees; obtain ⟨c0, c1, c2, c3, c4, c5⟩ := hxn.all; have HS' := Lib.hid hsn; have HX' := Lib.hid hxn; clear HS HX; have HS := HS'; have HX := HX'; clear HS' HX' hsn hxn hkn hksn))))
      | ((try go_simp); go_at_call 17; (first | ((with_reducible refine (next_fs 9 9 rfl (by decide) (by decide) HS.out).mono ?_); go_must (rintro e wn ⟨n2, hn2, rfl, hsn, hkn, hksn⟩; have hxn := keptS_six hksn (Nat.ne_of_gt hdp) HX.out; (try (have HA' := Lib.hid (hkn _ _ _ _ _ _ _ (hag hg0) HA.out); clear HA; have HA := HA'; clear HA'; obtain ⟨a0, a1, a2, a3, a4, a5, a6, a7, a8, a9, a10⟩ := HA.out.all; obtain ⟨q0, q1, q2, q3, q4, q5, q6, q7, q8, q9, q10⟩ := HA.out.frees)); obtain ⟨c0, c1, c2, c3, c4, c5⟩ := hxn.all; have HS' := Lib.hid hsn; have HX' := Lib.hid hxn; clear HS HX; have HS := HS'; have HX := HX'; clear HS' HX' hsn hxn hkn hksn)) | ((with_reducible refine (next_fs 9 9 rfl (by decide) (by decide) (HS.out.alloc (.cells #[.int .i64 0, .int .i64 0, .int .i64 0, .int .i64 0, .int .i64 0, .int .i64 0, .int .i64 0, .int .i64 0, .int .u8 0, .int .u8 0, .bool false] 26))).mono ?_); go_must (rintro e wn ⟨n2, hn2, rfl, hsn, hkn, hksn⟩; have hxn := keptS_six hksn (Nat.ne_of_gt hdp) (HX.out.alloc (.cells #[.int .i64 0, .int .i64 0, .int .i64 0, .int .i64 0, .int .i64 0, .int .i64 0, .int .i64 0, .int .i64 0, .int .u8 0, .int .u8 0, .bool false] 26)); have hg0 := fs_size HS.out; have hgp := six_ne HX.out; have hgr := flt_gt HS.out.res; have HA := Lib.hid (hkn _ _ _ _ _ _ _ (hag hg0) (Flt.new _ 0 z6 0 0 0 false)); obtain ⟨a0, a1, a2, a3, a4, a5, a6, a7, a8, a9, a10⟩ := HA.out.all; obtain ⟨q0, q1, q2, q3, q4, q5, q6, q7, q8, q9, q10⟩ := HA.out.frees; obtain ⟨c0, c1, c2, c3, c4, c5⟩ := hxn.all; have HS' := Lib.hid hsn; have HX' := Lib.hid hxn; clear HS HX; have HS := HS'; have HX := HX'; clear HS' HX' hsn hxn hkn hksn))))
      | ((try go_simp); go_at_call 17; (first | ((with_reducible refine (next_fs 255 255 rfl (by decide) (by decide) HS.out).mono ?_); go_must (rintro e wn ⟨n3, hn3, rfl, hsn, hkn, hksn⟩; have hxn := keptS_six hksn (Nat.ne_of_gt hdp) HX.out; (try (have HA' := Lib.hid (hkn _ _ _ _ _ _ _ (hag hg0) HA.out); clear HA; have HA := HA'; clear HA'; obtain ⟨a0, a1, a2, a3, a4, a5, a6, a7, a8, a9, a10⟩ := HA.out.all; obtain ⟨q0, q1, q2, q3, q4, q5, q6, q7, q8, q9, q10⟩ := HA.out.frees)); obtain ⟨c0, c1, c2, c3, c4, c5⟩ := hxn.all; have HS' := Lib.hid hsn; have HX' := Lib.hid hxn; clear HS HX; have HS := HS'; have HX := HX'; clear HS' HX' hsn hxn hkn hksn)) | ((with_reducible refine (next_fs 255 255 rfl (by decide) (by decide) (HS.out.alloc (.cells #[.int .i64 0, .int .i64 0, .int .i64 0, .int .i64 0, .int .i64 0, .int .i64 0, .int .i64 0, .int .i64 0, .int .u8 0, .int .u8 0, .bool false] 26))).mono ?_); go_must (rintro e wn ⟨n3, hn3, rfl, hsn, hkn, hksn⟩; have hxn := keptS_six hksn (Nat.ne_of_gt hdp) (HX.out.alloc (.cells #[.int .i64 0, .int .i64 0, .int .i64 0, .int .i64 0, .int .i64 0, .int .i64 0, .int .i64 0, .int .i64 0, .int .u8 0, .int .u8 0, .bool false] 26)); have hg0 := fs_size HS.out; have hgp := six_ne HX.out; have hgr := flt_gt HS.out.res; have HA := Lib.hid (hkn _ _ _ _ _ _ _ (hag hg0) (Flt.new _ 0 z6 0 0 0 false)); obtain ⟨a0, a1, a2, a3, a4, a5, a6, a7, a8, a9, a10⟩ := HA.out.all; obtain ⟨q0, q1, q2, q3, q4, q5, q6, q7, q8, q9, q10⟩ := HA.out.frees; obtain ⟨c0, c1, c2, c3, c4, c5⟩ := hxn.all; have HS' := Lib.hid hsn; have HX' := Lib.hid hxn; clear HS HX; have HS := HS'; have HX := HX'; clear HS' HX' hsn hxn hkn hksn)))))
    all_goals (
      go_wp2_with fail
      go_meet
      first
        | with_reducible exact mf_new HS.out
        | with_reducible exact mf_old HS.out HA.out hgr
        | (trace_state; sorry))
  case rest =>
    clear HS HX HS0 HX0 c0 c1 c2 c3 c4 c5
    obtain ⟨g, kd, y, ch, m, rfl, hfl, hfs, hpg⟩ := hcut
    have HS1 := Lib.hid hfs
    have HF1 := Lib.hid hfl
    have hgd : g ≠ dp := by omega
    have HGR := Lib.hid (show g ≠ p + 1 from Nat.ne_of_gt hpg)
    have HGW := Lib.hid (show w.heap.size ≤ g from hgw hfs hpg)
    clear hfl hfs hag hgw
    go_wp2_with fail
    refine (one_fs 2 2 rfl (by decide) (by decide) HS1.out).mono ?_
    rintro e w2 ⟨t, rfl, hs2, hk2⟩
    have HS2 := Lib.hid hs2
    have HF2 := Lib.hid (hk2 _ _ _ _ _ _ _ hgd HF1.out)
    clear hs2 hk2 HS1 HF1
    go_upto_if 26 with fail
    go_cut [] (fun wx => ∃ (m : Int), Flt wx g kd y ch m 0 hd ∧ FS w dp a cap ts (p + 1) wx)
    case first =>
      cases t with
      | false =>
        go_wp2_with fail
        go_meet
        exact ⟨m, HF2.out, HS2.out⟩
      | true =>
        go_wp2_with fail
        refine (next_fs 8 8 rfl (by decide) (by decide) HS2.out).mono ?_
        rintro e w3 ⟨v3, hv3, rfl, hs3, hk3, hks3⟩
        have HS3 := Lib.hid hs3
        have HF3 := Lib.hid (hk3 _ _ _ _ _ _ _ hgd HF2.out)
        obtain ⟨f0, f1, f2, f3, f4, f5, f6, f7, f8, f9, f10⟩ := HF3.out.all
        obtain ⟨q0, q1, q2, q3, q4, q5, q6, q7, q8, q9, q10⟩ := HF3.out.frees
        clear hs3 hk3 hks3 HS2 HF2
        go_wp2_with fail
        go_meet
        exact ⟨_, HF3.out.setMask _, HS3.out.set (q := ⟨g, 8, none⟩) HGW.out HGR.out _⟩
    case rest =>
      clear HS2 HF2 m
      obtain ⟨m, hfl, hfs⟩ := hcut
      have HS3 := Lib.hid hfs
      have HF3 := Lib.hid hfl
      clear hfl hfs
      go_upto_if 32 with fail
      go_cut [] (fun wx => ∃ (m v : Int), Flt wx g kd y ch m v hd ∧ FS w dp a cap ts (p + 1) wx)
      case first =>
        cases hd with
        | false =>
          go_wp2_with fail
          go_meet
          exact ⟨m, 0, HF3.out, HS3.out⟩
        | true =>
          obtain ⟨f0, f1, f2, f3, f4, f5, f6, f7, f8, f9, f10⟩ := HF3.out.drew.all
          have HS4 := Lib.hid HS3.out.drew
          have HF4 := Lib.hid HF3.out.drew
          clear HS3 HF3
          go_upto_region 5 with fail
          go_region_held3 (fun W' => W'.cell? ⟨g, 8, none⟩ = some (.int .u8 m)) (first | (go_keep; done) | (refine (World.cell?_setCell_other _ _ _ _ (by intro e; cases e)).trans ?_; assumption)) (first
            | ((try go_simp); go_at_call 17; (with_reducible refine (next_fs 256 256 rfl (by decide) (by decide) HS4.out).mono ?_); go_must (rintro e wn ⟨v4, hv4, rfl, hs4, hk4, hks4⟩; have HS5 := Lib.hid hs4; have HF5 := Lib.hid (hk4 _ _ _ _ _ _ _ hgd HF4.out); obtain ⟨e0, e1, e2, e3, e4, e5, e6, e7, e8, e9, e10⟩ := HF5.out.all; obtain ⟨q0, q1, q2, q3, q4, q5, q6, q7, q8, q9, q10⟩ := HF5.out.frees; clear hs4 hk4 hks4)))
          go_wp2_with fail
          go_meet
          exact ⟨m, _, HF5.out.setValue _, HS5.out.set (q := ⟨g, 9, none⟩) HGW.out HGR.out _⟩
      case rest =>
        clear HS3 HF3 m
        obtain ⟨m, v, hfl, hfs⟩ := hcut
        have HS4 := Lib.hid hfs
        have HF4 := Lib.hid hfl
        obtain ⟨f0, f1, f2, f3, f4, f5, f6, f7, f8, f9, f10⟩ := HF4.out.all
        obtain ⟨q0, q1, q2, q3, q4, q5, q6, q7, q8, q9, q10⟩ := HF4.out.frees
        clear hfl hfs
        by_cases hk2 : kd = 2
        · subst hk2
          have HSb := Lib.hid (HS4.out.set (q := ⟨g, 6, none⟩) HGW.out HGR.out (.int .i64 0))
          clear HS4
          have hall := (put11_flt HSb.out.res (2) (yv (y 0) (y 1) (y 2) (y 3) (y 4) (0)) (ch) (m) (v) (hd)).all
          have hfin := HSb.out.fin (2) (yv (y 0) (y 1) (y 2) (y 3) (y 4) (0)) (ch) (m) (v) (hd)
          obtain ⟨r0, r1, r2, r3, r4, r5, r6, r7, r8, r9, r10⟩ := HSb.out.res.all
          obtain ⟨t0, t1, t2, t3, t4, t5, t6, t7, t8, t9, t10⟩ := HSb.out.res.frees
          simp only [put11, yv] at hall hfin
          obtain ⟨hp0, hp1, hp2, hp3, hp4, hp5, hp6, hp7, hp8, hp9, hp10⟩ := hall
          have HFIN := Lib.hid hfin
          clear hfin
          go_wp2_with fail
          exact bodyPost_ret (v := .agg #[.int .i64 (2), .int .i64 (y 0), .int .i64 (y 1), .int .i64 (y 2), .int .i64 (y 3), .int .i64 (y 4), .int .i64 (0), .int .i64 (ch), .int .u8 (m), .int .u8 (v), .bool (hd)]) (by simp [results, Tryd.results13, go_sem, hp0, hp1, hp2, hp3, hp4, hp5, hp6, hp7, hp8, hp9, hp10]) rfl ⟨2, (yv (y 0) (y 1) (y 2) (y 3) (y 4) (0)), ch, m, v, hd, rfl, HFIN.out.1, HFIN.out.2⟩
        by_cases hk3 : kd = 3
        · subst hk3
          have HSb := Lib.hid (HS4.out.set (q := ⟨g, 5, none⟩) HGW.out HGR.out (.int .i64 0))
          clear HS4
          have hall := (put11_flt HSb.out.res (3) (yv (y 0) (y 1) (y 2) (y 3) (0) (y 5)) (ch) (m) (v) (hd)).all
          have hfin := HSb.out.fin (3) (yv (y 0) (y 1) (y 2) (y 3) (0) (y 5)) (ch) (m) (v) (hd)
          obtain ⟨r0, r1, r2, r3, r4, r5, r6, r7, r8, r9, r10⟩ := HSb.out.res.all
          obtain ⟨t0, t1, t2, t3, t4, t5, t6, t7, t8, t9, t10⟩ := HSb.out.res.frees
          simp only [put11, yv] at hall hfin
          obtain ⟨hp0, hp1, hp2, hp3, hp4, hp5, hp6, hp7, hp8, hp9, hp10⟩ := hall
          have HFIN := Lib.hid hfin
          clear hfin
          go_wp2_with fail
          exact bodyPost_ret (v := .agg #[.int .i64 (3), .int .i64 (y 0), .int .i64 (y 1), .int .i64 (y 2), .int .i64 (y 3), .int .i64 (0), .int .i64 (y 5), .int .i64 (ch), .int .u8 (m), .int .u8 (v), .bool (hd)]) (by simp [results, Tryd.results13, go_sem, hp0, hp1, hp2, hp3, hp4, hp5, hp6, hp7, hp8, hp9, hp10]) rfl ⟨3, (yv (y 0) (y 1) (y 2) (y 3) (0) (y 5)), ch, m, v, hd, rfl, HFIN.out.1, HFIN.out.2⟩
        by_cases hk4 : kd = 4
        · subst hk4
          have HSb := Lib.hid ((HS4.out.set (q := ⟨g, 6, none⟩) HGW.out HGR.out (.int .i64 0)).set (q := ⟨g, 5, none⟩) HGW.out HGR.out (.int .i64 0))
          clear HS4
          have hall := (put11_flt HSb.out.res (4) (yv (y 0) (y 1) (y 2) (y 3) (0) (0)) (ch) (m) (v) (hd)).all
          have hfin := HSb.out.fin (4) (yv (y 0) (y 1) (y 2) (y 3) (0) (0)) (ch) (m) (v) (hd)
          obtain ⟨r0, r1, r2, r3, r4, r5, r6, r7, r8, r9, r10⟩ := HSb.out.res.all
          obtain ⟨t0, t1, t2, t3, t4, t5, t6, t7, t8, t9, t10⟩ := HSb.out.res.frees
          simp only [put11, yv] at hall hfin
          obtain ⟨hp0, hp1, hp2, hp3, hp4, hp5, hp6, hp7, hp8, hp9, hp10⟩ := hall
          have HFIN := Lib.hid hfin
          clear hfin
          go_wp2_with fail
          exact bodyPost_ret (v := .agg #[.int .i64 (4), .int .i64 (y 0), .int .i64 (y 1), .int .i64 (y 2), .int .i64 (y 3), .int .i64 (0), .int .i64 (0), .int .i64 (ch), .int .u8 (m), .int .u8 (v), .bool (hd)]) (by simp [results, Tryd.results13, go_sem, hp0, hp1, hp2, hp3, hp4, hp5, hp6, hp7, hp8, hp9, hp10]) rfl ⟨4, (yv (y 0) (y 1) (y 2) (y 3) (0) (0)), ch, m, v, hd, rfl, HFIN.out.1, HFIN.out.2⟩
        by_cases hk5 : kd = 5
        · subst hk5
          have HSb := Lib.hid (((HS4.out.set (q := ⟨g, 6, none⟩) HGW.out HGR.out (.int .i64 0)).set (q := ⟨g, 5, none⟩) HGW.out HGR.out (.int .i64 0)).set (q := ⟨g, 4, none⟩) HGW.out HGR.out (.int .i64 0))
          clear HS4
          have hall := (put11_flt HSb.out.res (5) (yv (y 0) (y 1) (y 2) (0) (0) (0)) (ch) (m) (v) (hd)).all
          have hfin := HSb.out.fin (5) (yv (y 0) (y 1) (y 2) (0) (0) (0)) (ch) (m) (v) (hd)
          obtain ⟨r0, r1, r2, r3, r4, r5, r6, r7, r8, r9, r10⟩ := HSb.out.res.all
          obtain ⟨t0, t1, t2, t3, t4, t5, t6, t7, t8, t9, t10⟩ := HSb.out.res.frees
          simp only [put11, yv] at hall hfin
          obtain ⟨hp0, hp1, hp2, hp3, hp4, hp5, hp6, hp7, hp8, hp9, hp10⟩ := hall
          have HFIN := Lib.hid hfin
          clear hfin
          go_wp2_with fail
          exact bodyPost_ret (v := .agg #[.int .i64 (5), .int .i64 (y 0), .int .i64 (y 1), .int .i64 (y 2), .int .i64 (0), .int .i64 (0), .int .i64 (0), .int .i64 (ch), .int .u8 (m), .int .u8 (v), .bool (hd)]) (by simp [results, Tryd.results13, go_sem, hp0, hp1, hp2, hp3, hp4, hp5, hp6, hp7, hp8, hp9, hp10]) rfl ⟨5, (yv (y 0) (y 1) (y 2) (0) (0) (0)), ch, m, v, hd, rfl, HFIN.out.1, HFIN.out.2⟩
        by_cases hk6 : kd = 6
        · subst hk6
          have HSb := Lib.hid ((((HS4.out.set (q := ⟨g, 6, none⟩) HGW.out HGR.out (.int .i64 0)).set (q := ⟨g, 5, none⟩) HGW.out HGR.out (.int .i64 0)).set (q := ⟨g, 4, none⟩) HGW.out HGR.out (.int .i64 0)).set (q := ⟨g, 3, none⟩) HGW.out HGR.out (.int .i64 0))
          clear HS4
          have hall := (put11_flt HSb.out.res (6) (yv (y 0) (y 1) (0) (0) (0) (0)) (ch) (m) (v) (hd)).all
          have hfin := HSb.out.fin (6) (yv (y 0) (y 1) (0) (0) (0) (0)) (ch) (m) (v) (hd)
          obtain ⟨r0, r1, r2, r3, r4, r5, r6, r7, r8, r9, r10⟩ := HSb.out.res.all
          obtain ⟨t0, t1, t2, t3, t4, t5, t6, t7, t8, t9, t10⟩ := HSb.out.res.frees
          simp only [put11, yv] at hall hfin
          obtain ⟨hp0, hp1, hp2, hp3, hp4, hp5, hp6, hp7, hp8, hp9, hp10⟩ := hall
          have HFIN := Lib.hid hfin
          clear hfin
          go_wp2_with fail
          exact bodyPost_ret (v := .agg #[.int .i64 (6), .int .i64 (y 0), .int .i64 (y 1), .int .i64 (0), .int .i64 (0), .int .i64 (0), .int .i64 (0), .int .i64 (ch), .int .u8 (m), .int .u8 (v), .bool (hd)]) (by simp [results, Tryd.results13, go_sem, hp0, hp1, hp2, hp3, hp4, hp5, hp6, hp7, hp8, hp9, hp10]) rfl ⟨6, (yv (y 0) (y 1) (0) (0) (0) (0)), ch, m, v, hd, rfl, HFIN.out.1, HFIN.out.2⟩
        have hb2 : (kd == 2) = false := by rw [beq_eq_false_iff_ne]; exact hk2
        have hb3 : (kd == 3) = false := by rw [beq_eq_false_iff_ne]; exact hk3
        have hb4 : (kd == 4) = false := by rw [beq_eq_false_iff_ne]; exact hk4
        have hb5 : (kd == 5) = false := by rw [beq_eq_false_iff_ne]; exact hk5
        have hb6 : (kd == 6) = false := by rw [beq_eq_false_iff_ne]; exact hk6
        have HSb := Lib.hid HS4.out
        clear HS4
        have hall := (put11_flt HSb.out.res (kd) (yv (y 0) (y 1) (y 2) (y 3) (y 4) (y 5)) (ch) (m) (v) (hd)).all
        have hfin := HSb.out.fin (kd) (yv (y 0) (y 1) (y 2) (y 3) (y 4) (y 5)) (ch) (m) (v) (hd)
        obtain ⟨r0, r1, r2, r3, r4, r5, r6, r7, r8, r9, r10⟩ := HSb.out.res.all
        obtain ⟨t0, t1, t2, t3, t4, t5, t6, t7, t8, t9, t10⟩ := HSb.out.res.frees
        simp only [put11, yv] at hall hfin
        obtain ⟨hp0, hp1, hp2, hp3, hp4, hp5, hp6, hp7, hp8, hp9, hp10⟩ := hall
        have HFIN := Lib.hid hfin
        clear hfin
        go_wp2_with fail
        exact bodyPost_ret (v := .agg #[.int .i64 (kd), .int .i64 (y 0), .int .i64 (y 1), .int .i64 (y 2), .int .i64 (y 3), .int .i64 (y 4), .int .i64 (y 5), .int .i64 (ch), .int .u8 (m), .int .u8 (v), .bool (hd)]) (by simp [results, Tryd.results13, go_sem, hp0, hp1, hp2, hp3, hp4, hp5, hp6, hp7, hp8, hp9, hp10]) rfl ⟨kd, (yv (y 0) (y 1) (y 2) (y 3) (y 4) (y 5)), ch, m, v, hd, rfl, HFIN.out.1, HFIN.out.2⟩
end Go.Proofs.YtdgkdoccllolpaaDoor.P
