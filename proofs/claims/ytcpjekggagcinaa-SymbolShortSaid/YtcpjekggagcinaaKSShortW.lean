/- SymbolShort: the walk. -/
import Derived.Test.YtcpjekggagcinaaK4
namespace Go.Proofs.Ytcpjekggagcinaa.P
open Go Go.RowKit Go.Shelf
open G.S (codeV Cd code_box box4_at)
open G (Box IRow Dice grown_then)

set_option maxRecDepth 100000 in
set_option maxHeartbeats 4000000 in
theorem symbolShort_any (a : Option Addr) (cap : Nat) (ts : List Int) (x : Int) (w : World) (hR : IRow w a ts cap) :
    Calls Try.prog 8 #[.slice a ts.length cap, .int .i64 x] w fun e W => e = .returned (.bool true) ∧ Below w.heap.size w W := by
  have hroom := hR.room
  have hmost := hR.most
  by_cases h400 : (ts.length : Int) ≤ 400
  case neg =>
    have hd : decide ((ts.length : Int) ≤ 400) = false := by simpa using h400
    have HL := Lib.hid (G.light_any a ts.length cap w)
    rw [hd] at HL
    clear hd hR
    go_enter Try.func8, Try.ntmps8
    go_wp2_with fail
    refine HL.out.mono ?_
    rintro e w1 ⟨rfl, rfl⟩
    go_wp2_with fail
    refine (awake_yes _).mono ?_
    rintro e w2 ⟨rfl, hb2⟩
    go_wp2_with fail
    exact bodyPost_ret (v := .bool true) (by simp [results, Try.results8, go_sem]) rfl ⟨rfl, hb2⟩
  case pos =>
    have hd : decide ((ts.length : Int) ≤ 400) = true := by simpa using h400
    have HL := Lib.hid (G.light_any a ts.length cap w)
    rw [hd] at HL
    have HRO := Lib.hid (G.roll_any a cap ts w hR (by omega))
    clear hd hR
    go_enter Try.func8, Try.ntmps8
    go_wp2_with fail
    refine HL.out.mono ?_
    rintro e w1 ⟨rfl, rfl⟩
    go_wp2_with fail
    refine HRO.out.mono ?_
    rintro e w1 ⟨rfl, hd1, hb1⟩
    have HSY := Lib.hid (symbols_any w1 w.heap.size a cap ts 0 hd1)
    have HFAR := Lib.hid hd1.far
    have hdp1 := hd1.lt
    have HB1 := Lib.hid hb1
    clear hd1 hb1 HL HRO
    go_wp2_with fail
    refine HSY.out.mono ?_
    rintro e w2 ⟨D, C, F, k2, hcd, hF, rfl, hd2, hg2⟩
    unfold codeV
    have hs12 := hg2.size
    have hbw2 := below_dice HB1.out hg2 (Nat.le_refl _)
    obtain ⟨pc, w3, W3, hpc, hw3, hst, hbx3, hb23, hpl3⟩ := new_code w2 D C F
    have HCD := Lib.hid hcd
    have HF := Lib.hid hF
    have HC3 := Lib.hid hbx3
    have HD3 := Lib.hid (hd2.below hb23)
    have HB3 := Lib.hid (hbw2.trans (hb23.mono hbw2.size))
    obtain ⟨hD1, hD2, hC1, hC2, _⟩ := hcd
    have hdpc : w.heap.size < pc := by omega
    have hdp3 := HD3.out.lt
    obtain ⟨Wa, Wb, Wc, e1, e2, e3, e4, f1, f2, f3, f4, f5, f6, f7, f8⟩ := hst
    have hdp : w.heap.size ≤ w.heap.size := Nat.le_refl _
    clear hd2 hg2 hbw2 hbx3 hb23 HSY HB1 hF
    obtain ⟨x0, x1, x2, x3⟩ := box4_at HC3.out
    have HBY := Lib.hid (bytesG_any W3 w.heap.size a cap ts k2 D (by omega) HD3.out)
    go_wp2_with fail
    refine HBY.out.mono ?_
    rintro e w4 ⟨data, ad, cd, k4, hdl, rfl, ho4, hd4, hg4⟩
    have hx4 := HC3.out.grown hg4 (by intro e; cases e; omega)
    have hs34 := hg4.size
    have HB4 := Lib.hid (below_dice HB3.out hg4 (Nat.le_refl _) HB3.out.size)
    have HDL := Lib.hid hdl
    have HO4 := Lib.hid ho4
    obtain ⟨y0, y1, y2, y3⟩ := box4_at hx4
    obtain ⟨pl, w5, W5, hpl, hw5, hst5, hbx5, hb45, hpl5⟩ := new_code w4 D C F
    obtain ⟨Va, Vb, Vc, n1, n2, n3, n4, m1, m2, m3, m4, m5, m6, m7, m8⟩ := hst5
    have HX5 := Lib.hid (hx4.below hb45)
    have HL5 := Lib.hid hbx5
    have HB5 := Lib.hid (HB4.out.trans (hb45.mono HB4.out.size))
    have HO5 := Lib.hid (ho4.below hb45)
    have HO45 := Lib.hid ho4
    have hpcl : pc < pl := by omega
    obtain ⟨M, hM⟩ : ∃ M, 32 - D + 1 = M := ⟨_, rfl⟩
    obtain ⟨r, hr, hrM⟩ := G.mod_nat x M (by omega)
    have hmd := G.mod_any x (M : Int) (by omega) (by omega)
    rw [hr] at hmd
    have HMD := Lib.hid hmd
    have hrD : r + D ≤ 32 := by omega
    obtain ⟨LD, hLD⟩ : ∃ LD, D + r = LD := ⟨_, rfl⟩
    have eL : (D : Int) + (r : Int) = (LD : Int) := by omega
    have v1 : IntKind.i64.wrap (32 - (D : Int)) = 32 - (D : Int) := by rw [IntKind.wrap_i64]; omega
    have v2 : IntKind.i64.wrap (32 - (D : Int) + 1) = (M : Int) := by rw [IntKind.wrap_i64]; omega
    have v3 : IntKind.i64.wrap (LD : Int) = (LD : Int) := by rw [IntKind.wrap_i64]; omega
    have v4 : IntKind.i64.wrap ((LD : Int) - (D : Int)) = (r : Int) := by rw [IntKind.wrap_i64]; omega
    obtain ⟨z0, z1, z2, z3⟩ := box4_at HX5.out
    obtain ⟨l0, l1, l2, l3⟩ := box4_at hbx5
    have l4 := hbx5.free 1
    have hl6 := (hbx5.set 1 (.int .i64 (LD : Int))).drewN 1
    clear hdl ho4 hd4 hg4 hx4 hbx5 hb45 HBY HD3 HC3 HB3 HB4 HO4 hM hmd hr
    go_upto_region 7 with fail
    obtain ⟨W7, hW7⟩ : ∃ W7, (W5.setCell ⟨pl, 1, none⟩ (.int .i64 (LD : Int))).drew = W7 := ⟨_, rfl⟩
    have HW7 := Lib.hid hW7
    go_cut [] (fun wx => wx = W7)
    case first =>
      go_region_law (go_simp; go_at_call 24; (with_reducible refine (HMD.out _).mono ?_); rintro e w6 ⟨rfl, rfl⟩; go_simp)
      all_goals (
        go_wp2_with fail
        go_meet
        first | rfl | exact HW7.out)
    case rest =>
      obtain rfl := hcut
      have hl7 : Box wc pl 28 [.int .i64 2, .int .i64 (LD : Int), .int .i64 (C : Int), .int .i64 (F : Int)] := by rw [← HW7.out]; exact hl6
      have hb57 : Below pl W5 wc := by rw [← HW7.out]; exact ((Below.refl pl W5).setCell (p := ⟨pl, 1, none⟩) (Nat.le_refl pl) _).drew
      have hx7 : Box wc pc 28 [.int .i64 2, .int .i64 (D : Int), .int .i64 (C : Int), .int .i64 (F : Int)] := HX5.out.belowAt hb57 hpcl
      have hbw7 : Below w.heap.size w wc := HB5.out.trans (hb57.mono (by omega))
      have ho7 : Own wc W3.heap.size (.slice ad D cd) data := by
        rw [← HW7.out]
        exact (HO5.out.other (p := ⟨pl, 1, none⟩) _ (by intro e; have h : pl < w4.heap.size := (World.ownsRow.lt HO45.out _ e).2; omega)).drewN 1
      have HO7 := Lib.hid ho7
      have HL7 := Lib.hid hl7
      have HX7 := Lib.hid hx7
      have HB7 := Lib.hid hbw7
      have hen := encode_yes HCD.out HF.out ad data cd wc (ho7.rowAtN HDL.out) HDL.out
      unfold codeV at hen
      have HEN := Lib.hid hen
      obtain ⟨p0, p1, p2, p3⟩ := box4_at hx7
      clear hl7 hb57 hx7 hbw7 ho7 hen hl6 HX5 HL5 HB5 HO5 HW7 hW7 z0 z1 z2 z3 l0 l1 l2 l3 l4 y0 y1 y2 y3 x0 x1 x2 x3 HMD e1 e2 e3 e4 f1 f2 f3 f4 f5 f6 f7 f8 n1 n2 n3 n4 m1 m2 m3 m4 m5 m6 m7 m8 hw3 hw5
      go_wp2_with fail
      (with_reducible refine HEN.out.mono ?_)
      rintro e w8 ⟨xs, ax, cx, rfl, hox, hex, hb8⟩
      have HOX := Lib.hid hox
      have HEX := Lib.hid hex
      have HB8 := Lib.hid (HB7.out.trans (hb8.mono HB7.out.size))
      have HX8 := Lib.hid (HX7.out.below hb8)
      have HL8 := Lib.hid (HL7.out.below hb8)
      have HO8 := Lib.hid (HO7.out.below hb8)
      obtain ⟨mk, hmk, hown⟩ := make_fact r (by omega)
      have hbm : Below w8.heap.size w8 (w8.drew.alloc mk) := ((Below.refl _ w8).drew).alloc (Nat.le_refl _) _
      have hom := hown w8.drew w8.heap.size (Nat.le_refl _)
      obtain ⟨wm, hwm⟩ : ∃ wm, w8.drew.alloc mk = wm := ⟨_, rfl⟩
      rw [hwm] at hbm hom
      have HOM := Lib.hid (show Own wm w8.heap.size (.slice (some ⟨w8.heap.size, 0, none⟩) r r) (List.replicate r 0) from hom)
      have HBM := Lib.hid hbm
      have HRM := Lib.hid ((HO8.out.below hbm).rowAtN HDL.out)
      obtain ⟨q0, q1, q2, q3⟩ := box4_at HX8.out
      obtain ⟨l0, l1, l2, l3⟩ := box4_at HL8.out
      obtain ⟨k0, k1, k2', k3⟩ := box4_at (HX8.out.below hbm)
      obtain ⟨j0, j1, j2, j3⟩ := box4_at (HL8.out.below hbm)
      have hrL : r + D = LD := by omega
      have HRL := Lib.hid hrL
      have HCL := Lib.hid (show Cd LD C F from ⟨by omega, by omega, hC1, hC2, HCD.out.f2⟩)
      clear hox hex hb8 HX7 HL7 HO7 HB7 HEN hown hbm hom hrL p0 p1 p2 p3
      go_upto_region 9 with fail
      go_cut [11, 12] (fun t u wx => ∃ (ys : List PM.G) (ay : Option Addr) (cy : Nat), t = .slice ay (LD + C) cy ∧ u = .int .i64 0 ∧ Own wx w8.heap.size (.slice ay (LD + C) cy) ys ∧ IsEnc LD C (List.replicate r 0 ++ data) ys ∧ Below w8.heap.size w8 wx)
      case first =>
        go_region_law (first
          | (refine step_appAny rfl (.tmp 49) (.tmp 50) rfl (B := w8.heap.size) (zs := List.replicate r (0 : PM.G)) (ys := data) (by rfl) HOM.out (by rw [HDL.out]; rfl) HRM.out (by rw [List.length_replicate, HDL.out]; omega) HBM.out.size ?_; intro a10 c10 w10 ho10 hb10; rw [List.length_replicate, HDL.out, HRL.out]; have hb810 := HBM.out.trans hb10; have HB10 := Lib.hid hb810; obtain ⟨g0, g1, g2, g3⟩ := box4_at (HL8.out.below hb810); rw [List.length_append, List.length_replicate, HDL.out, HRL.out] at ho10; have hen := encode_yes HCL.out HF.out a10 (List.replicate r 0 ++ data) c10 w10 (ho10.rowAtN (by rw [List.length_append, List.length_replicate, HDL.out, HRL.out])) (by rw [List.length_append, List.length_replicate, HDL.out, HRL.out]); unfold codeV at hen; have HEN := Lib.hid hen; clear ho10 hb10 hb810 hen)
          | (go_simp; go_at_call 18; (with_reducible refine HEN.out.mono ?_); rintro e w11 ⟨ys, ay, cy, rfl, hoy, hey, hb11⟩; have HOY := Lib.hid (hoy.mono HB10.out.size); have HEY := Lib.hid hey; have HB11 := Lib.hid (HB10.out.trans (hb11.mono HB10.out.size)); clear hoy hey hb11; go_simp))
        all_goals (
          go_wp2_with fail
          go_meet
          exact ⟨ys, ay, cy, rfl, rfl, HOY.out, HEY.out, HB11.out⟩)
      case rest =>
        obtain ⟨ys, ay, cy, rfl, rfl, hoy, hey, hb9⟩ := hcut
        have HB9 := Lib.hid (HB8.out.trans (hb9.mono HB8.out.size))
        have HX9 := Lib.hid (HX8.out.below hb9)
        have HL9 := Lib.hid (HL8.out.below hb9)
        have HOX9 := Lib.hid (HOX.out.below hb9)
        have HOY9 := Lib.hid hoy
        have heq := enc_zeros (r := r) HDL.out (by omega) HEX.out (by rw [HRL.out]; exact hey)
        have HEQ := Lib.hid heq
        have hyl := hey.cw.len
        have hxl := HEX.out.cw.len
        have HYL := Lib.hid hyl
        have HXL := Lib.hid hxl
        obtain ⟨gy, rfl, _, _⟩ := hoy.fresh (by omega)
        have hcy : LD + C ≤ cy := by have := (hoy.rowAtN hyl).room; rwa [hyl] at this
        have hcym : cy ≤ 9223372036854775807 := (hoy.rowAtN hyl).most
        have hcx : D + C ≤ cx := by have := (HOX.out.rowAtN hxl).room; rwa [hxl] at this
        have hcxm : cx ≤ 9223372036854775807 := (HOX.out.rowAtN hxl).most
        clear hoy hey hb9 heq hyl hxl HB8 HX8 HL8 HO8 HOX HOM HBM HRM HCL HEX q0 q1 q2 q3 l0 l1 l2 l3 k0 k1 k2' k3 j0 j1 j2 j3 hmk hwm
        go_wp2_with fail
        refine (awake_yes _).mono ?_
        rintro e w12 ⟨rfl, hb12⟩
        obtain ⟨x0, x1, x2, x3⟩ := box4_at (HX9.out.below hb12)
        obtain ⟨l0, l1, l2, l3⟩ := box4_at (HL9.out.below hb12)
        have hbb : (((LD + C : Nat) : Int) == (LD : Int) + (C : Int)) = true := by rw [beq_iff_eq]; omega
        have eS : (LD : Int) - (D : Int) = (r : Int) := by omega
        have hrcy : ¬ cy = r := by omega
        have hrcy1 : (r : Int) ≤ ((LD + C : Nat) : Int) := by omega
        have hrcy2 : (r : Int) ≤ (cy : Int) := by omega
        have hsm := same_yes ax (some ⟨gy, 0 + r, none⟩) cx (cy - r) xs (ys.drop r) w12 ((HOX9.out.below hb12).rowAtN HXL.out) (((HOY9.out.below hb12).rowAtN HYL.out).drop r (by rw [HYL.out]; omega)) HEQ.out
        rw [List.length_drop, HYL.out, HXL.out, Nat.zero_add] at hsm
        have HSM := Lib.hid hsm
        have HB12 := Lib.hid (HB9.out.trans (hb12.mono HB9.out.size))
        clear hb12 hsm HX9 HL9 HOX9 HOY9 HB9
        go_wp2_with fail
        (with_reducible refine HSM.out.mono ?_)
        rintro e w13 ⟨rfl, hb13⟩
        have HB13 := Lib.hid (HB12.out.trans (hb13.mono HB12.out.size))
        clear hb13 HB12 HSM
        go_wp2_with fail
        exact bodyPost_ret (v := .bool true) (by simp [results, Try.results8, go_sem]) rfl ⟨rfl, HB13.out⟩
end Go.Proofs.Ytcpjekggagcinaa.P
