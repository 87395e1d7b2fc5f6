/- ChanceFewer: the walk. -/
import Derived.Test.YtknjoajeilgieaaDoorB11
namespace Go.Proofs.YtknjoajeilgieaaDoor
open Go Go.RowKit Go.Shelf

namespace C
open G (Box IRow Dice)
theorem below_dice' {B : Nat} {w W W' : World} {dp : Nat} (hb : Below B w W) (hg : W.grownBy W' (some dp)) (hB : B ≤ dp) (hs : B ≤ W.heap.size) : Below B w W' :=
  hb.trans ⟨hg.os, hg.tape, hg.output, hg.size, fun k hk => hg.block k (by omega) (by intro e; cases e; omega)⟩
theorem cmp_le {x y : Nat} (h : x ≤ y) : Lib.compareInt (x : Int) (y : Int) ≤ 0 := by
  unfold Lib.compareInt
  split
  · omega
  · split <;> omega
set_option maxRecDepth 100000 in
set_option maxHeartbeats 4000000 in
/-- **ChanceFewer** -/
theorem fewer_any (a : Option Addr) (cap : Nat) (ts : List Int) (wi : Int) (w : World) (hR : IRow w a ts cap) :
    Calls Tryd.prog 5 #[.slice a ts.length cap, .int .i64 wi] w fun e W => e = .returned (.bool true) ∧ Below w.heap.size w W := by
  have hroom := hR.room
  have hmost := hR.most
  by_cases h400 : (ts.length : Int) ≤ 400
  case neg =>
    have hd : decide ((ts.length : Int) ≤ 400) = false := by simpa using h400
    have HL := Lib.hid (G.light_any a ts.length cap w)
    rw [hd] at HL
    clear hd hR
    go_enter Tryd.func5, Tryd.ntmps5
    go_wp2_with fail
    refine HL.out.mono ?_
    rintro e w1 ⟨rfl, rfl⟩
    go_wp2_with fail
    refine (awake_yes _).mono ?_
    rintro e w2 ⟨rfl, hb2⟩
    go_wp2_with fail
    exact bodyPost_ret (v := .bool true) (by simp [results, Tryd.results5, go_sem]) rfl ⟨rfl, hb2⟩
  case pos =>
    have hd : decide ((ts.length : Int) ≤ 400) = true := by simpa using h400
    have HL := Lib.hid (G.light_any a ts.length cap w)
    rw [hd] at HL
    have HRO := Lib.hid (G.roll_any a cap ts w hR (by omega))
    clear hd hR
    go_enter Tryd.func5, Tryd.ntmps5
    go_wp2_with fail
    refine HL.out.mono ?_
    rintro e w1 ⟨rfl, rfl⟩
    go_wp2_with fail
    refine HRO.out.mono ?_
    rintro e w1 ⟨rfl, hd1, hb1⟩
    have HSY := Lib.hid (CS.symbols_any w1 w.heap.size a cap ts 0 hd1)
    have HB1 := Lib.hid hb1
    clear hd1 hb1 HL HRO
    go_wp2_with fail
    refine HSY.out.mono ?_
    rintro e w2 ⟨D, C, F, k2, hok, rfl, hd2, hg2⟩
    unfold codeV
    have hbw2 := below_dice' HB1.out hg2 (Nat.le_refl _) HB1.out.size
    obtain ⟨pc, w3, W3, hpc, hw3, hst, hbx3, hb23, hpl3⟩ := CS.new_code w2 D C F
    have HOK := Lib.hid hok
    have HC3 := Lib.hid (show CBox W3 pc D C F from hbx3)
    have HB3 := Lib.hid (hbw2.trans (hb23.mono hbw2.size))
    obtain ⟨hD1, hD2, hC1, hC2, hF2⟩ := hok
    obtain ⟨Wa, Wb, Wc, e1, e2, e3, e4, f1, f2, f3, f4, f5, f6, f7, f8⟩ := hst
    obtain ⟨q0, q1, q2, q3⟩ := HC3.out.at
    obtain ⟨n, hn⟩ : ∃ n, D + C = n := ⟨_, rfl⟩
    have en : (D : Int) + (C : Int) = (n : Int) := by omega
    have hn40 : n ≤ 40 := by omega
    obtain ⟨k, hk, hkl⟩ := mod_nat wi (n + 1) (by omega)
    have hwn : IntKind.i64.wrap (n : Int) = (n : Int) := by rw [IntKind.wrap_i64]; omega
    have hwn1 : IntKind.i64.wrap ((n : Int) + 1) = (n : Int) + 1 := by rw [IntKind.wrap_i64]; omega
    have HMD := Lib.hid (fun W => (show Calls Tryd.prog 11 #[.int .i64 wi, .int .i64 ((n : Int) + 1)] W fun e W' => e = .returned (.int .i64 (k : Int)) ∧ W = W' from (mod_any wi (n + 1) W (by omega) (by omega)).mono fun e W' ⟨h1, h2⟩ => ⟨by rw [h1, hk], h2.symm⟩))
    have hkn : k ≤ n := by omega
    have HWR := Lib.hid (fun W => (show Calls Tryd.prog 22 #[.agg #[.int .i64 2, .int .i64 (D : Int), .int .i64 (C : Int), .int .i64 (F : Int)], .int .i64 (k : Int)] W fun e W' => NumE (wrongN n C k F) e W' ∧ Below W.heap.size W W' from by
      have h := wrong_any HOK.out k (by omega) W
      rw [hn] at h
      exact h))
    have HW0 := Lib.hid (fun W => (show Calls Tryd.prog 22 #[.agg #[.int .i64 2, .int .i64 (D : Int), .int .i64 (C : Int), .int .i64 0], .int .i64 (k : Int)] W fun e W' => NumE (wrongN n C k 0) e W' ∧ Below W.heap.size W W' from by
      have h := wrong_any (D := D) (C := C) (F := 0) ⟨hD1, hD2, hC1, hC2, Nat.zero_le _⟩ k (by omega) W
      rw [hn] at h
      exact h))
    have HWO := Lib.hid (fun W => (show Calls Tryd.prog 19 #[.agg #[.int .i64 2, .int .i64 (D : Int), .int .i64 (C : Int), .int .i64 0], .int .i64 (k : Int)] W fun e W' => NumE (wordsN n C k) e W' ∧ Below W.heap.size W W' from by
      have h := Words_any (D := D) (C := C) (F := 0) ⟨hD1, hD2, hC1, hC2, Nat.zero_le _⟩ k (by omega) W
      rw [hn] at h
      exact h))
    obtain ⟨X, hX⟩ : ∃ X, wrongN n C k F = X := ⟨_, rfl⟩
    obtain ⟨Y, hY⟩ : ∃ Y, wrongN n C k 0 = Y := ⟨_, rfl⟩
    obtain ⟨Z, hZ⟩ : ∃ Z, wordsN n C k = Z := ⟨_, rfl⟩
    rw [hX] at HWR
    rw [hY] at HW0
    rw [hZ] at HWO
    have hfew : k + F ≤ C → X = 0 := fun h => by rw [← hX]; exact wrong_few hC2 h
    have hfew0 : k ≤ C → Y = 0 := fun h => by rw [← hY]; exact wrong_few hC2 h
    have heq : 1 ≤ k → Y = Z := fun h => by rw [← hY, ← hZ]; exact wrong0 n C k h hkn
    have hle : 1 ≤ k → Z ≤ X := fun h => by rw [← hX, ← hZ]; exact words_le_wrong h hkn
    have HM := Lib.hid (And.intro hfew (And.intro hfew0 (And.intro heq hle)))
    clear hd2 hg2 hbw2 hbx3 hb23 HSY HB1 hk hn hX hY hZ hfew hfew0 heq hle
    go_wp2_with fail
    (with_reducible refine (HMD.out _).mono ?_)
    rintro e w4 ⟨rfl, rfl⟩
    go_wp2_with fail
    (with_reducible refine (HWR.out _).mono ?_)
    rintro e w5 ⟨⟨s5, c5, rfl, hr5⟩, hb5⟩
    have hv5 := Var.new hr5
    obtain ⟨pa, hpa⟩ : ∃ p, w5.heap.size = p := ⟨_, rfl⟩
    obtain ⟨w6, hw6⟩ : ∃ w6, w5.alloc (.cells #[.slice s5 (M.dig X).length c5] 24) = w6 := ⟨_, rfl⟩
    have hbw : Below w5.heap.size w5 w6 := by rw [← hw6]; exact (Below.refl _ w5).alloc (Nat.le_refl _) _
    rw [hw6, hpa] at hv5
    have hb56 := hb5.trans (hbw.mono hb5.size)
    have VA := Lib.hid hv5
    have HC6 := Lib.hid (HC3.out.below hb56)
    have HB6 := Lib.hid (HB3.out.trans (hb56.mono HB3.out.size))
    obtain ⟨r0, r1, r2, r3⟩ := HC6.out.at
    obtain ⟨p9, w7, W7, hp9, hw7, hst7, hbx7, hb67, hpl7⟩ := CS.new_code w6 D C F
    obtain ⟨Xa, Xb, Xc, g1, g2, g3, g4, i1, i2, i3, i4, i5, i6, i7, i8⟩ := hst7
    have hbx8 := hbx7.set 3 (.int .i64 0)
    have j3 := hbx7.cell 3 rfl
    have j3f := hbx7.free 3
    obtain ⟨W8, hW8⟩ : ∃ W8, W7.setCell ⟨p9, 3, none⟩ (.int .i64 0) = W8 := ⟨_, rfl⟩
    have hb68 : Below w6.heap.size w6 W8 := by rw [← hW8]; exact hb67.setCell (p := ⟨p9, 3, none⟩) (by show w6.heap.size ≤ p9; omega) _
    rw [hW8] at hbx8
    have H9 := Lib.hid (show CBox W8 p9 D C 0 from hbx8)
    obtain ⟨s0, s1, s2, s3⟩ := H9.out.at
    have s3' : W8.cell? ⟨p9, 3, none⟩ = some (.int .i64 0) := s3
    have VA8 := Lib.hid (VA.out.below hb68)
    have HC8 := Lib.hid (HC6.out.below hb68)
    have HB8 := Lib.hid (HB6.out.trans (hb68.mono HB6.out.size))
    clear hr5 hv5 hb5 hbw hb56 hbx7 hb67 hb68 hbx8 VA HC3 HB3 HC6 HB6 HMD HWR s3 q0 q1 q2 q3
    go_wp2_with fail
    (with_reducible refine (HW0.out _).mono ?_)
    rintro e w9 ⟨⟨s9, c9, rfl, hr9⟩, hb9⟩
    have hv9 := Var.new hr9
    obtain ⟨pb, hpb⟩ : ∃ p, w9.heap.size = p := ⟨_, rfl⟩
    obtain ⟨wA, hwA⟩ : ∃ wA, w9.alloc (.cells #[.slice s9 (M.dig Y).length c9] 24) = wA := ⟨_, rfl⟩
    have hbw : Below w9.heap.size w9 wA := by rw [← hwA]; exact (Below.refl _ w9).alloc (Nat.le_refl _) _
    rw [hwA, hpb] at hv9
    have hbA := hb9.trans (hbw.mono hb9.size)
    have VB := Lib.hid hv9
    have VA9 := Lib.hid (VA8.out.below hbA)
    have HC9 := Lib.hid (HC8.out.below hbA)
    have H9A := Lib.hid (H9.out.below hbA)
    have HB9 := Lib.hid (HB8.out.trans (hbA.mono HB8.out.size))
    obtain ⟨t0, t1, t2, t3⟩ := H9A.out.at
    have t3' : wA.cell? ⟨p9, 3, none⟩ = some (.int .i64 0) := t3
    clear hr9 hv9 hb9 hbw hbA VA8 HC8 H9 HB8 HW0 t3 s0 s1 s2 s3' r0 r1 r2 r3 e1 e2 e3 e4 f1 f2 f3 f4 f5 f6 f7 f8 g1 g2 g3 g4 i1 i2 i3 i4 i5 i6 i7 i8 j3 j3f
    go_wp2_with fail
    (with_reducible refine (HWO.out _).mono ?_)
    rintro e wB ⟨⟨sB, cB, rfl, hrB⟩, hbB⟩
    have hvB := Var.new hrB
    obtain ⟨pk, hpk⟩ : ∃ p, wB.heap.size = p := ⟨_, rfl⟩
    obtain ⟨wC, hwC⟩ : ∃ wC, wB.alloc (.cells #[.slice sB (M.dig Z).length cB] 24) = wC := ⟨_, rfl⟩
    have hbw : Below wB.heap.size wB wC := by rw [← hwC]; exact (Below.refl _ wB).alloc (Nat.le_refl _) _
    rw [hwC, hpk] at hvB
    have hbC := hbB.trans (hbw.mono hbB.size)
    have VK := Lib.hid hvB
    have VAC := Lib.hid (VA9.out.below hbC)
    have VBC := Lib.hid (VB.out.below hbC)
    have HCC := Lib.hid (HC9.out.below hbC)
    have HBC := Lib.hid (HB9.out.trans (hbC.mono HB9.out.size))
    clear hrB hvB hbB hbw hbC VA9 VB HC9 H9A HB9 HWO t0 t1 t2 t3'
    by_cases hk0 : k = 0
    · subst hk0
      have x0 : X = 0 := HM.out.1 (by omega)
      have y0 : Y = 0 := HM.out.2.1 (by omega)
      subst x0 y0
      have hz : ((0 : Nat) : Int) = 0 := rfl
      rw [hz]
      go_wp2_with fail
      refine (awake_yes _).mono ?_
      rintro e wD ⟨rfl, hbD⟩
      have ca := (VAC.out.below hbD).cell
      have cb := (VBC.out.below hbD).cell
      rw [M.dig_zero] at ca cb
      have HBD := Lib.hid (HBC.out.trans (hbD.mono HBC.out.size))
      clear hbD
      go_wp2_with fail
      exact bodyPost_ret (v := .bool true) (by simp [results, Tryd.results5, go_sem]) rfl ⟨rfl, HBD.out⟩
    · have hkI : ((k : Int) == 0) = false := by rw [beq_eq_false_iff_ne]; omega
      have yz : Y = Z := HM.out.2.2.1 (by omega)
      have zx : Z ≤ X := HM.out.2.2.2 (by omega)
      subst yz
      have HCM := Lib.hid (fun (W : World) (a b : Option Addr) (ca cb : Nat) (h1 : Row W a (M.dig Y) ca) (h2 : Row W b (M.dig X) cb) => rcmp_any a b ca cb Y X W h1 h2)
      have hcl := cmp_le zx
      obtain ⟨cm, hcm⟩ : ∃ cm, Lib.compareInt (Y : Int) (X : Int) = cm := ⟨_, rfl⟩
      rw [hcm] at HCM hcl
      clear hcm zx
      go_wp2_with fail
      refine (awake_yes _).mono ?_
      rintro e wD ⟨rfl, hbD⟩
      have VAD := Lib.hid (VAC.out.below hbD)
      have VBD := Lib.hid (VBC.out.below hbD)
      have VKD := Lib.hid (VK.out.below hbD)
      have HCD := Lib.hid (HCC.out.below hbD)
      have HBD := Lib.hid (HBC.out.trans (hbD.mono HBC.out.size))
      have ca := VAD.out.cell
      have cb := VBD.out.cell
      have HC1 := Lib.hid (HCM.out wD _ _ _ _ VBD.out.row VAD.out.row)
      clear hbD VAC VBC VK HCC HBC HCM
      go_wp2_with fail
      (with_reducible refine HC1.out.mono ?_)
      rintro e wE ⟨rfl, hbE⟩
      have VAE := Lib.hid (VAD.out.below hbE)
      have VBE := Lib.hid (VBD.out.below hbE)
      have VKE := Lib.hid (VKD.out.below hbE)
      have HCE := Lib.hid (HCD.out.below hbE)
      have HBE := Lib.hid (HBD.out.trans (hbE.mono HBD.out.size))
      have cb' := VBE.out.cell
      have ck' := VKE.out.cell
      have HSA := Lib.hid (same_num (n := Y) (w := wE) ⟨_, _, rfl, VBE.out.row⟩ ⟨_, _, rfl, VKE.out.row⟩)
      clear hbE VAD VBD VKD HCD HBD ca cb HC1
      go_wp2_with fail
      (with_reducible refine HSA.out.mono ?_)
      rintro e wF ⟨rfl, hbF⟩
      have VAF := Lib.hid (VAE.out.below hbF)
      have HCF := Lib.hid (HCE.out.below hbF)
      have HBF := Lib.hid (HBE.out.trans (hbF.mono HBE.out.size))
      have ca := VAF.out.cell
      obtain ⟨q0, q1, q2, q3⟩ := HCF.out.at
      obtain ⟨d, hd⟩ : ∃ d : Int, (C : Int) - (F : Int) = d := ⟨_, rfl⟩
      have hwd : IntKind.i64.wrap d = d := by rw [IntKind.wrap_i64]; omega
      clear hbF VAE VBE VKE HCE HBE cb' ck' HSA
      by_cases hgt : d < (k : Int)
      · go_wp2_with fail
        exact bodyPost_ret (v := .bool true) (by simp [results, Tryd.results5, go_sem]) rfl ⟨rfl, HBF.out⟩
      · have x0 : X = 0 := HM.out.1 (by omega)
        subst x0
        rw [M.dig_zero] at ca
        go_wp2_with fail
        exact bodyPost_ret (v := .bool true) (by simp [results, Tryd.results5, go_sem]) rfl ⟨rfl, HBF.out⟩
end C
end Go.Proofs.YtknjoajeilgieaaDoor
