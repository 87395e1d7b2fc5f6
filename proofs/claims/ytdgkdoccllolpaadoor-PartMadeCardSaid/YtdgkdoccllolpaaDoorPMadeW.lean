/- PartMade: the walk. -/
import Derived.Test.YtdgkdoccllolpaaDoorPMS
import Derived.Test.YtdgkdoccllolpaaDoorPAgree
import Derived.Test.YtdgkdoccllolpaaDoorPAwake
import Derived.Deep.RegionHeld3
import Derived.Deep.DeepMust
import Derived.Deep.DeepCutAuto
namespace Go.Proofs.YtdgkdoccllolpaaDoor.P
open Go Go.RowKit Go.Shelf
open G
theorem ms_lt {w W : World} {n0 n1 : Int} {dp p B : Nat} {a : Option Addr} {cap : Nat} {ts : List Int} {x : Nat → Int} (h : MS w n0 n1 dp a cap ts p B x W) : dp < W.heap.size := Nat.lt_of_lt_of_le h.lkb.dlt h.lkb.size
theorem made_cells {w W : World} {n0 n1 : Int} {dp p B g pq : Nat} {a : Option Addr} {cap : Nat} {ts : List Int} {x yp y : Nat → Int} {kd ch m v : Int} {hd : Bool} (h : MS w n0 n1 dp a cap ts p B x W) (hf : Flt W g kd y ch m v hd) (hq : Six W pq 24 yp) : W.cell? ⟨p, 0, none⟩ = some (.int .i64 (x 0)) ∧ W.cell? ⟨p, 1, none⟩ = some (.int .i64 (x 1)) ∧ W.cell? ⟨p, 2, none⟩ = some (.int .i64 (x 2)) ∧ W.cell? ⟨p, 3, none⟩ = some (.int .i64 (x 3)) ∧ W.cell? ⟨p, 4, none⟩ = some (.int .i64 (x 4)) ∧ W.cell? ⟨p, 5, none⟩ = some (.int .i64 (x 5)) ∧ W.cell? ⟨pq, 0, none⟩ = some (.int .i64 (yp 0)) ∧ W.cell? ⟨pq, 1, none⟩ = some (.int .i64 (yp 1)) ∧ W.cell? ⟨pq, 2, none⟩ = some (.int .i64 (yp 2)) ∧ W.cell? ⟨pq, 3, none⟩ = some (.int .i64 (yp 3)) ∧ W.cell? ⟨pq, 4, none⟩ = some (.int .i64 (yp 4)) ∧ W.cell? ⟨pq, 5, none⟩ = some (.int .i64 (yp 5)) ∧ W.cell? ⟨g, 0, none⟩ = some (.int .i64 kd) ∧ W.cell? ⟨g, 1, none⟩ = some (.int .i64 (y 0)) ∧ W.cell? ⟨g, 2, none⟩ = some (.int .i64 (y 1)) ∧ W.cell? ⟨g, 3, none⟩ = some (.int .i64 (y 2)) ∧ W.cell? ⟨g, 4, none⟩ = some (.int .i64 (y 3)) ∧ W.cell? ⟨g, 5, none⟩ = some (.int .i64 (y 4)) ∧ W.cell? ⟨g, 6, none⟩ = some (.int .i64 (y 5)) ∧ W.cell? ⟨g, 7, none⟩ = some (.int .i64 ch) ∧ W.cell? ⟨g, 8, none⟩ = some (.int .u8 m) ∧ W.cell? ⟨g, 9, none⟩ = some (.int .u8 v) ∧ W.cell? ⟨g, 10, none⟩ = some (.bool hd) ∧ W.cell? ⟨w.heap.size, 0, none⟩ = some (.int .i64 n0) ∧ W.cell? ⟨w.heap.size, 1, none⟩ = some (.int .i64 n1) := by
  obtain ⟨x0, x1, x2, x3, x4, x5⟩ := h.lkb.lk.shape.all
  obtain ⟨y0, y1, y2, y3, y4, y5⟩ := hq.all
  obtain ⟨f0, f1, f2, f3, f4, f5, f6, f7, f8, f9, f10⟩ := hf.all
  exact ⟨x0, x1, x2, x3, x4, x5, y0, y1, y2, y3, y4, y5, f0, f1, f2, f3, f4, f5, f6, f7, f8, f9, f10, Box.cell h.two 0 rfl, Box.cell h.two 1 rfl⟩
theorem ms_new {w W : World} {n0 n1 : Int} {dp p B : Nat} {a : Option Addr} {cap : Nat} {ts : List Int} {x y : Nat → Int} {kd ch m v : Int} {hd : Bool} (h : MS w n0 n1 dp a cap ts p B x W) :
    ∃ (g : Nat) (kd' : Int) (y' : Nat → Int) (ch' m' v' : Int) (hd' : Bool), Value.pointer (some ⟨W.heap.size, 0, none⟩) = .pointer (some ⟨g, 0, none⟩) ∧ Flt (W.alloc (.cells #[.int .i64 kd, .int .i64 (y 0), .int .i64 (y 1), .int .i64 (y 2), .int .i64 (y 3), .int .i64 (y 4), .int .i64 (y 5), .int .i64 ch, .int .u8 m, .int .u8 v, .bool hd] 26)) g kd' y' ch' m' v' hd' ∧ MS w n0 n1 dp a cap ts p B x (W.alloc (.cells #[.int .i64 kd, .int .i64 (y 0), .int .i64 (y 1), .int .i64 (y 2), .int .i64 (y 3), .int .i64 (y 4), .int .i64 (y 5), .int .i64 ch, .int .u8 m, .int .u8 v, .bool hd] 26)) ∧ B ≤ g :=
  ⟨_, kd, y, ch, m, v, hd, rfl, Flt.new W kd y ch m v hd, h.alloc _, h.lkb.size⟩
theorem ms_old {w W : World} {n0 n1 : Int} {dp p B g : Nat} {a : Option Addr} {cap : Nat} {ts : List Int} {x y : Nat → Int} {kd ch m v : Int} {hd : Bool} (h : MS w n0 n1 dp a cap ts p B x W) (hA : Flt W g 0 z6 0 0 0 false) (hg : B ≤ g) :
    ∃ (g' : Nat) (kd' : Int) (y' : Nat → Int) (ch' m' v' : Int) (hd' : Bool), Value.pointer (some ⟨g, 0, none⟩) = .pointer (some ⟨g', 0, none⟩) ∧ Flt (((((((((((W.setCell ⟨g, 0, none⟩ (.int .i64 kd)).setCell ⟨g, 1, none⟩ (.int .i64 (y 0))).setCell ⟨g, 2, none⟩ (.int .i64 (y 1))).setCell ⟨g, 3, none⟩ (.int .i64 (y 2))).setCell ⟨g, 4, none⟩ (.int .i64 (y 3))).setCell ⟨g, 5, none⟩ (.int .i64 (y 4))).setCell ⟨g, 6, none⟩ (.int .i64 (y 5))).setCell ⟨g, 7, none⟩ (.int .i64 ch)).setCell ⟨g, 8, none⟩ (.int .u8 m)).setCell ⟨g, 9, none⟩ (.int .u8 v)).setCell ⟨g, 10, none⟩ (.bool hd)) g' kd' y' ch' m' v' hd' ∧ MS w n0 n1 dp a cap ts p B x (((((((((((W.setCell ⟨g, 0, none⟩ (.int .i64 kd)).setCell ⟨g, 1, none⟩ (.int .i64 (y 0))).setCell ⟨g, 2, none⟩ (.int .i64 (y 1))).setCell ⟨g, 3, none⟩ (.int .i64 (y 2))).setCell ⟨g, 4, none⟩ (.int .i64 (y 3))).setCell ⟨g, 5, none⟩ (.int .i64 (y 4))).setCell ⟨g, 6, none⟩ (.int .i64 (y 5))).setCell ⟨g, 7, none⟩ (.int .i64 ch)).setCell ⟨g, 8, none⟩ (.int .u8 m)).setCell ⟨g, 9, none⟩ (.int .u8 v)).setCell ⟨g, 10, none⟩ (.bool hd)) ∧ B ≤ g' :=
  ⟨g, kd, y, ch, m, v, hd, rfl, put11_flt hA kd y ch m v hd, h.put11 hg kd y ch m v hd, hg⟩
/-- The beginning. -/
theorem MS.start {w w1 w2 : World} {n0 n1 : Int} {a : Option Addr} {cap k : Nat} {ts : List Int} {x : Nat → Int} (hT : Tab w) (hb : Below (w.alloc (.cells #[.int .i64 n0, .int .i64 n1] 27)).heap.size (w.alloc (.cells #[.int .i64 n0, .int .i64 n1] 27)) w1) (hl : (w.alloc (.cells #[.int .i64 n0, .int .i64 n1] 27)).heap.size < w1.heap.size) (hd : Dice w2 (w.heap.size + 1) a cap ts k) (hg : w1.grownBy w2 (some (w.heap.size + 1))) :
    MS w n0 n1 (w.heap.size + 1) a cap ts w2.heap.size (w2.alloc (.cells #[.int .i64 (x 0), .int .i64 (x 1), .int .i64 (x 2), .int .i64 (x 3), .int .i64 (x 4), .int .i64 (x 5)] 23)).heap.size x (w2.alloc (.cells #[.int .i64 (x 0), .int .i64 (x 1), .int .i64 (x 2), .int .i64 (x 3), .int .i64 (x 4), .int .i64 (x 5)] 23)) := by
  have e : (w.alloc (.cells #[.int .i64 n0, .int .i64 n1] 27)).heap.size = w.heap.size + 1 := World.size_alloc _ _
  have hTa : Tab (w.alloc (.cells #[.int .i64 n0, .int .i64 n1] 27)) := hT.below ((Below.refl _ w).alloc (Nat.le_refl _) _)
  have hs := hg.size
  have h2 := (Box.new w 27 [.int .i64 n0, .int .i64 n1]).below hb
  have h3 := h2.grown hg (fun e2 => by have := Option.some.inj e2; omega)
  have hk := LK.start (x := x) hTa hb hl (by rw [e]; exact hd) (by rw [e]; exact hg)
  rw [e] at hk hl
  exact ⟨⟨hk, Nat.le_refl _, hk.dice.elim fun _ h => h.far, hk.dice.elim fun _ h => h.lt, hk.shape.lt, hk.tab.lt⟩, h3.alloc (.cells #[.int .i64 (x 0), .int .i64 (x 1), .int .i64 (x 2), .int .i64 (x 3), .int .i64 (x 4), .int .i64 (x 5)] 23), hd.lt, hd.far, by have := hT.lt; omega, by omega, by omega⟩
set_option maxRecDepth 100000 in
set_option maxHeartbeats 8000000 in
/-- **PartMade** -/
theorem made_any (a : Option Addr) (cap : Nat) (ts : List Int) (n0 n1 : Int) (w : World) (hR : IRow w a ts cap) (hT : Tab w) :
    Calls Tryd.prog 4 #[.slice a ts.length cap, .agg #[.int .i64 n0, .int .i64 n1]] w fun e W => e = .returned (.bool true) ∧ Below w.heap.size w W := by
  have HAW := Lib.hid (fun W hT => awake_any W hT)
  have HT := Lib.hid hT
  have hba := (Below.refl w.heap.size w).alloc (Nat.le_refl _) (.cells #[.int .i64 n0, .int .i64 n1] 27)
  have HTA := Lib.hid (hT.below hba)
  have HBA := Lib.hid hba
  have HRA := Lib.hid (show IRow (w.alloc (.cells #[.int .i64 n0, .int .i64 n1] 27)) a ts cap from hR.below hba)
  obtain ⟨wa, hwa⟩ : ∃ wa, w.alloc (.cells #[.int .i64 n0, .int .i64 n1] 27) = wa := ⟨_, rfl⟩
  rw [hwa] at HTA HBA HRA
  have hsa : wa.heap.size = w.heap.size + 1 := by rw [← hwa]; exact World.size_alloc _ _
  clear hba hR hT
  by_cases h400 : (ts.length : Int) ≤ 400
  case neg =>
    have hd : decide ((ts.length : Int) ≤ 400) = false := by simpa using h400
    have HL := Lib.hid (G.light_any a ts.length cap wa)
    rw [hd] at HL
    clear hd
    go_enter Tryd.func4, Tryd.ntmps4
    go_wp2_with fail
    refine HL.out.mono ?_
    rintro e w1 ⟨rfl, rfl⟩
    go_wp2_with fail
    refine (HAW.out _ HTA.out).mono ?_
    rintro e w2 ⟨rfl, hb2⟩
    have HB2 := Lib.hid (HBA.out.trans (hb2.mono HBA.out.size))
    clear hb2
    go_wp2_with fail
    go_ret
    exact ⟨rfl, HB2.out⟩
  case pos =>
    have hd : decide ((ts.length : Int) ≤ 400) = true := by simpa using h400
    have HL := Lib.hid (G.light_any a ts.length cap wa)
    rw [hd] at HL
    have HRO := Lib.hid (G.roll_any a cap ts wa HRA.out (by omega))
    rw [hsa] at HRO
    clear hd HRA
    go_enter Tryd.func4, Tryd.ntmps4
    go_wp2_with fail
    refine HL.out.mono ?_
    rintro e w1 ⟨rfl, rfl⟩
    go_wp2_with fail
    refine HRO.out.mono ?_
    rintro e w1 ⟨rfl, hd1, hb1⟩
    have HSH := Lib.hid (shape_any w1 (w.heap.size + 1) a cap ts 0 8 (by decide) hd1)
    have HB1 := Lib.hid (And.intro hb1 hd1.lt)
    clear hd1 hb1 HL HRO
    go_wp2_with fail
    refine HSH.out.mono ?_
    rintro e w2 ⟨x, k2, rfl, hok, htm, hd2, hg2⟩
    have hms := MS.start (w := w) (w1 := w1) (n0 := n0) (n1 := n1) (x := x) HT.out (by rw [hwa, hsa]; exact HB1.out.1) (by rw [hwa, hsa]; exact HB1.out.2) hd2 hg2
    obtain ⟨w3, hw3⟩ : ∃ w3, w2.alloc (.cells #[.int .i64 (x 0), .int .i64 (x 1), .int .i64 (x 2), .int .i64 (x 3), .int .i64 (x 4), .int .i64 (x 5)] 23) = w3 := ⟨_, rfl⟩
    rw [hw3] at hms
    obtain ⟨p, hp⟩ : ∃ p, w2.heap.size = p := ⟨_, rfl⟩
    rw [hp] at hms
    obtain ⟨B, hB⟩ : ∃ B, w3.heap.size = B := ⟨_, rfl⟩
    rw [hB] at hms
    have HS0 := Lib.hid hms
    have HS := Lib.hid hms.drew
    have HOK := Lib.hid hok
    have hdp : w.heap.size + 1 < B := hms.lkb.dlt
    obtain ⟨c0, c1, c2, c3, c4, c5⟩ := hms.lkb.lk.shape.all
    clear hok htm hd2 hg2 hms HSH HB1 HT hsa hB
    go_upto_region 5 with fail
    go_cut [7] (fun s7 wx => ∃ (g : Nat) (kd : Int) (y : Nat → Int) (ch m v : Int) (hd : Bool), s7 = .pointer (some ⟨g, 0, none⟩) ∧ Flt wx g kd y ch m v hd ∧ MS w n0 n1 (w.heap.size + 1) a cap ts p B x wx ∧ B ≤ g)
    case first =>
      go_region_held3 (fun W' => W'.cell? ⟨p, 0, none⟩ = some (.int .i64 (x 0)) ∧ W'.cell? ⟨p, 1, none⟩ = some (.int .i64 (x 1)) ∧ W'.cell? ⟨p, 2, none⟩ = some (.int .i64 (x 2)) ∧ W'.cell? ⟨p, 3, none⟩ = some (.int .i64 (x 3)) ∧ W'.cell? ⟨p, 4, none⟩ = some (.int .i64 (x 4)) ∧ W'.cell? ⟨p, 5, none⟩ = some (.int .i64 (x 5))) (first | (go_keep; done) | exact ((HS0.out.alloc (.cells #[.int .i64 0, .int .i64 0, .int .i64 0, .int .i64 0, .int .i64 0, .int .i64 0, .int .i64 0, .int .i64 0, .int .u8 0, .int .u8 0, .bool false] 26)).drew).lkb.lk.shape.all) (first
        | ((try go_simp); go_at_call 14; (first | ((with_reducible refine (one_ms 2 2 rfl (by decide) (by decide) HS.out).mono ?_); go_must (rintro e wn ⟨t, rfl, hsn, hkn⟩; (try (have HA' := Lib.hid (keptS_flt hkn (Nat.ne_of_gt hga) HA.out); clear HA; have HA := HA'; clear HA'; obtain ⟨a0, a1, a2, a3, a4, a5, a6, a7, a8, a9, a10⟩ := HA.out.all; obtain ⟨q0, q1, q2, q3, q4, q5, q6, q7, q8, q9, q10⟩ := HA.out.frees)); have HS' := Lib.hid hsn; clear HS; have HS := HS'; clear HS'; obtain ⟨c0, c1, c2, c3, c4, c5⟩ := hsn.lkb.lk.shape.all; clear hsn hkn)) | ((with_reducible refine (one_ms 2 2 rfl (by decide) (by decide) (HS0.out.alloc (.cells #[.int .i64 0, .int .i64 0, .int .i64 0, .int .i64 0, .int .i64 0, .int .i64 0, .int .i64 0, .int .i64 0, .int .u8 0, .int .u8 0, .bool false] 26)).drew).mono ?_); go_must (rintro e wn ⟨t, rfl, hsn, hkn⟩; have hgB := HS0.out.lkb.size; have hga := ms_lt HS0.out; have hgp := six_ne HS0.out.lkb.lk.shape; have HA := Lib.hid (keptS_flt hkn (Nat.ne_of_gt hga) (Flt.new w3 0 z6 0 0 0 false).drew); obtain ⟨a0, a1, a2, a3, a4, a5, a6, a7, a8, a9, a10⟩ := HA.out.all; obtain ⟨q0, q1, q2, q3, q4, q5, q6, q7, q8, q9, q10⟩ := HA.out.frees; have HS' := Lib.hid hsn; clear HS; have HS := HS'; clear HS'; obtain ⟨c0, c1, c2, c3, c4, c5⟩ := hsn.lkb.lk.shape.all; clear hsn hkn))))
        | ((try go_simp); go_at_call 13; (first | ((with_reducible refine (fault_ms HOK.out t HS.out).mono ?_); go_must (rintro e wn ⟨kd, y, ch, m, v, hd, rfl, hsn, hkn⟩; (try (have HA' := Lib.hid (keptS_flt hkn (Nat.ne_of_gt hga) HA.out); clear HA; have HA := HA'; clear HA'; obtain ⟨a0, a1, a2, a3, a4, a5, a6, a7, a8, a9, a10⟩ := HA.out.all; obtain ⟨q0, q1, q2, q3, q4, q5, q6, q7, q8, q9, q10⟩ := HA.out.frees)); have HS' := Lib.hid hsn; clear HS; have HS := HS'; clear HS'; obtain ⟨c0, c1, c2, c3, c4, c5⟩ := hsn.lkb.lk.shape.all; clear hsn hkn)) | ((with_reducible refine (fault_ms HOK.out t (HS.out.alloc (.cells #[.int .i64 0, .int .i64 0, .int .i64 0, .int .i64 0, .int .i64 0, .int .i64 0, .int .i64 0, .int .i64 0, .int .u8 0, .int .u8 0, .bool false] 26))).mono ?_); go_must (rintro e wn ⟨kd, y, ch, m, v, hd, rfl, hsn, hkn⟩; have hgB := HS.out.lkb.size; have hga := ms_lt HS.out; have hgp := six_ne HS.out.lkb.lk.shape; have HA := Lib.hid (keptS_flt hkn (Nat.ne_of_gt hga) (Flt.new _ 0 z6 0 0 0 false)); obtain ⟨a0, a1, a2, a3, a4, a5, a6, a7, a8, a9, a10⟩ := HA.out.all; obtain ⟨q0, q1, q2, q3, q4, q5, q6, q7, q8, q9, q10⟩ := HA.out.frees; have HS' := Lib.hid hsn; clear HS; have HS := HS'; clear HS'; obtain ⟨c0, c1, c2, c3, c4, c5⟩ := hsn.lkb.lk.shape.all; clear hsn hkn)))))
      all_goals (
        go_wp2_with fail
        go_meet
        first
          | with_reducible exact ms_new HS.out
          | with_reducible exact ms_old HS.out HA.out hgB)
    case rest =>
      obtain ⟨g, kd, y, ch, m, v, hd, rfl, hfl, hms, hgB⟩ := hcut
      have HS1 := Lib.hid hms
      have HF1 := Lib.hid hfl
      have hga : g ≠ w.heap.size + 1 := by omega
      have hgp : p < g := Nat.lt_of_lt_of_le hms.lkb.plt hgB
      clear hfl hms HS c0 c1 c2 c3 c4 c5
      go_wp2_with fail
      refine (one_ms 2 2 rfl (by decide) (by decide) HS1.out).mono ?_
      rintro e w4 ⟨t, rfl, hs4, hk4⟩
      have HS4 := Lib.hid hs4
      have HF4 := Lib.hid (keptS_flt hk4 hga HF1.out)
      clear hs4 hk4 HS1 HF1
      go_upto_if 23 with fail
      go_cut [] (fun wx => ∃ (kd : Int) (y : Nat → Int) (ch m v : Int) (hd : Bool), Flt wx g kd y ch m v hd ∧ MS w n0 n1 (w.heap.size + 1) a cap ts p B x wx)
      case first =>
        cases t with
        | false =>
          go_wp2_with fail
          go_meet
          exact ⟨kd, y, ch, m, v, hd, HF4.out, HS4.out⟩
        | true =>
          obtain ⟨a0, a1, a2, a3, a4, a5, a6, a7, a8, a9, a10⟩ := HF4.out.all
          go_wp2_with fail
          refine (oddf_ms kd y ch m v hd HS4.out).mono ?_
          rintro e w5 ⟨kd2, y2, ch2, m2, v2, hd2, rfl, hs5, hk5⟩
          have HS5 := Lib.hid hs5
          have HF5 := Lib.hid (keptS_flt hk5 hga HF4.out)
          clear hs5 hk5 HS4 HF4 a0 a1 a2 a3 a4 a5 a6 a7 a8 a9 a10
          obtain ⟨a0, a1, a2, a3, a4, a5, a6, a7, a8, a9, a10⟩ := HF5.out.all
          obtain ⟨q0, q1, q2, q3, q4, q5, q6, q7, q8, q9, q10⟩ := HF5.out.frees
          go_wp2_with fail
          go_meet
          exact ⟨kd2, y2, ch2, m2, v2, hd2, put11_flt HF5.out kd2 y2 ch2 m2 v2 hd2, HS5.out.put11 hgB kd2 y2 ch2 m2 v2 hd2⟩
      case rest =>
        clear HS4 HF4
        clear kd y ch m v hd
        obtain ⟨kd, y, ch, m, v, hd, hfl, hms⟩ := hcut
        have HS1 := Lib.hid hms
        have HF1 := Lib.hid hfl
        obtain ⟨c0, c1, c2, c3, c4, c5⟩ := hms.lkb.lk.shape.all
        clear hfl hms
        go_wp2_with fail
        refine (place_ms HOK.out HS1.out).mono ?_
        rintro e w5 ⟨yp, rfl, hs5, hk5⟩
        obtain ⟨w6, hw6⟩ : ∃ w6, w5.alloc (.cells #[.int .i64 (yp 0), .int .i64 (yp 1), .int .i64 (yp 2), .int .i64 (yp 3), .int .i64 (yp 4), .int .i64 (yp 5)] 24) = w6 := ⟨_, rfl⟩
        have hs6 := hs5.alloc (.cells #[.int .i64 (yp 0), .int .i64 (yp 1), .int .i64 (yp 2), .int .i64 (yp 3), .int .i64 (yp 4), .int .i64 (yp 5)] 24)
        have hf6 := (keptS_flt hk5 hga HF1.out).alloc (.cells #[.int .i64 (yp 0), .int .i64 (yp 1), .int .i64 (yp 2), .int .i64 (yp 3), .int .i64 (yp 4), .int .i64 (yp 5)] 24)
        have hp6 := Six.new w5 24 yp
        have hpB := hs5.lkb.size
        obtain ⟨pq, hpq⟩ : ∃ q, w5.heap.size = q := ⟨_, rfl⟩
        rw [hw6] at hs6 hf6 hp6
        rw [hpq] at hp6 hpB
        have HS6 := Lib.hid hs6
        have HF6 := Lib.hid hf6
        have HP6 := Lib.hid hp6
        have hpa : pq ≠ w.heap.size + 1 := by omega
        have hpp : p ≠ pq := by have := hs5.lkb.plt; omega
        have hpg : p ≠ g := by omega
        clear hs5 hk5 hs6 hf6 hp6 HS1 HF1 c0 c1 c2 c3 c4 c5
        go_wp2_with fail
        refine (one_ms 4 4 rfl (by decide) (by decide) HS6.out).mono ?_
        rintro e w7 ⟨t2, rfl, hs7, hk7⟩
        have HS7 := Lib.hid hs7
        have HF7 := Lib.hid (keptS_flt hk7 hga HF6.out)
        have HP7 := Lib.hid (keptS_six hk7 hpa HP6.out)
        clear hs7 hk7 HS6 HF6 HP6
        go_upto_if 31 with fail
        go_cut [] (fun wx => ∃ (z : Nat → Int), Flt wx g kd y ch m v hd ∧ Six wx pq 24 yp ∧ MS w n0 n1 (w.heap.size + 1) a cap ts p B z wx)
        case first =>
          cases t2 with
          | false =>
            go_wp2_with fail
            go_meet
            exact ⟨x, HF7.out, HP7.out, HS7.out⟩
          | true =>
            have HQ := Lib.hid (And.intro HS7.out.drew (And.intro HF7.out.drew (HP7.out.drewN 1)))
            obtain ⟨c0, c1, c2, c3, c4, c5⟩ := HQ.out.1.lkb.lk.shape.all
            have c3' : w7.cell? ⟨p, 3, none⟩ = some (.int .i64 (x 3)) := c3
            have q3 := HQ.out.1.lkb.lk.shape.free 3
            clear HS7 HF7 HP7
            go_wp2_with fail
            go_region_with (first
              | ((try go_simp); go_at_call 17; (with_reducible refine (next_ms 8 8 rfl (by decide) (by decide) HQ.out.1).mono ?_); go_must (rintro e w8 ⟨v8, hv8, rfl, hs8, hk8⟩; have HQ' := Lib.hid (And.intro hs8 (And.intro (keptS_flt hk8 hga HQ.out.2.1) (keptS_six hk8 hpa HQ.out.2.2))); clear HQ; have HQ := HQ'; clear HQ'; have d3 := HQ.out.1.lkb.lk.shape.at 3 (by decide); have qq3 := HQ.out.1.lkb.lk.shape.free 3; clear hs8 hk8)))
            all_goals (
              go_wp2_with fail
              go_meet
              exact ⟨_, HQ.out.2.1.other (q := ⟨p, 3, none⟩) hpg _, HQ.out.2.2.other (q := ⟨p, 3, none⟩) hpp _, HQ.out.1.bank _⟩)
        case rest =>
          obtain ⟨z, hfl, hpl, hms⟩ := hcut
          have HQ := Lib.hid (And.intro hms.drew (And.intro hfl.drew (hpl.drewN 1)))
          obtain ⟨r, hr, hr6⟩ := mod_nat n0 260 (by decide)
          have HM := Lib.hid (fun W => (show Calls Tryd.prog 18 #[.int .i64 n0, .int .i64 260] W fun e W' => e = .returned (.int .i64 (r : Int)) ∧ W = W' from by rw [← hr]; exact mod_any n0 260 (by omega) (by omega) W))
          have HCL := Lib.hid (fun W => made_cells (W := W) (w := w) (n0 := n0) (n1 := n1) (dp := w.heap.size + 1) (p := p) (B := B) (a := a) (cap := cap) (ts := ts) (g := g) (pq := pq) (x := z) (yp := yp) (kd := kd) (y := y) (ch := ch) (m := m) (v := v) (hd := hd))
          clear hfl hpl hms HS7 HF7 HP7 hr hr6
          go_upto_region 11 with fail
          go_region_held3 (fun W' => W'.cell? ⟨p, 0, none⟩ = some (.int .i64 (z 0)) ∧ W'.cell? ⟨p, 1, none⟩ = some (.int .i64 (z 1)) ∧ W'.cell? ⟨p, 2, none⟩ = some (.int .i64 (z 2)) ∧ W'.cell? ⟨p, 3, none⟩ = some (.int .i64 (z 3)) ∧ W'.cell? ⟨p, 4, none⟩ = some (.int .i64 (z 4)) ∧ W'.cell? ⟨p, 5, none⟩ = some (.int .i64 (z 5)) ∧ W'.cell? ⟨pq, 0, none⟩ = some (.int .i64 (yp 0)) ∧ W'.cell? ⟨pq, 1, none⟩ = some (.int .i64 (yp 1)) ∧ W'.cell? ⟨pq, 2, none⟩ = some (.int .i64 (yp 2)) ∧ W'.cell? ⟨pq, 3, none⟩ = some (.int .i64 (yp 3)) ∧ W'.cell? ⟨pq, 4, none⟩ = some (.int .i64 (yp 4)) ∧ W'.cell? ⟨pq, 5, none⟩ = some (.int .i64 (yp 5)) ∧ W'.cell? ⟨g, 0, none⟩ = some (.int .i64 kd) ∧ W'.cell? ⟨g, 1, none⟩ = some (.int .i64 (y 0)) ∧ W'.cell? ⟨g, 2, none⟩ = some (.int .i64 (y 1)) ∧ W'.cell? ⟨g, 3, none⟩ = some (.int .i64 (y 2)) ∧ W'.cell? ⟨g, 4, none⟩ = some (.int .i64 (y 3)) ∧ W'.cell? ⟨g, 5, none⟩ = some (.int .i64 (y 4)) ∧ W'.cell? ⟨g, 6, none⟩ = some (.int .i64 (y 5)) ∧ W'.cell? ⟨g, 7, none⟩ = some (.int .i64 ch) ∧ W'.cell? ⟨g, 8, none⟩ = some (.int .u8 m) ∧ W'.cell? ⟨g, 9, none⟩ = some (.int .u8 v) ∧ W'.cell? ⟨g, 10, none⟩ = some (.bool hd) ∧ W'.cell? ⟨w.heap.size, 0, none⟩ = some (.int .i64 n0) ∧ W'.cell? ⟨w.heap.size, 1, none⟩ = some (.int .i64 n1)) (first | exact HCL.out _ HQ.out.1 HQ.out.2.1 HQ.out.2.2) (first
            | ((try go_simp); go_at_call 8; (with_reducible refine (HAW.out _ HQ.out.1.lkb.lk.tab).mono ?_); go_must (rintro e wn ⟨rfl, hb⟩; (have HQ' := Lib.hid (And.intro (HQ.out.1.below hb) (And.intro (HQ.out.2.1.below hb) (HQ.out.2.2.below hb)))); (clear HQ hb); (have HQ := HQ'); (clear HQ')))
            | ((try go_simp); go_at_call 18; (with_reducible refine (HM.out _).mono ?_); go_must (rintro e wn ⟨rfl, rfl⟩))
            | ((try go_simp); go_at_call 9; (with_reducible refine (agree_any z yp kd y ch m v hd _ 9 _ HQ.out.1.lkb.lk.tab).mono ?_); go_must (rintro e wn ⟨rfl, hb⟩; (have HQ' := Lib.hid (And.intro (HQ.out.1.below hb) (And.intro (HQ.out.2.1.below hb) (HQ.out.2.2.below hb)))); (clear HQ hb); (have HQ := HQ'); (clear HQ')))
            | ((try go_simp); go_at_call 9; (with_reducible refine (agree_any z y kd y ch m v hd n0 n1 _ HQ.out.1.lkb.lk.tab).mono ?_); go_must (rintro e wn ⟨rfl, hb⟩; (have HQ' := Lib.hid (And.intro (HQ.out.1.below hb) (And.intro (HQ.out.2.1.below hb) (HQ.out.2.2.below hb)))); (clear HQ hb); (have HQ := HQ'); (clear HQ'))))
          have HB := Lib.hid HQ.out.1.lkb.lk.bel
          rw [hwa] at HB
          have HBF := Lib.hid (HBA.out.trans (HB.out.mono HBA.out.size))
          clear HQ
          go_wp2_with fail
          go_ret
          exact ⟨rfl, HBF.out⟩
end Go.Proofs.YtdgkdoccllolpaaDoor.P
