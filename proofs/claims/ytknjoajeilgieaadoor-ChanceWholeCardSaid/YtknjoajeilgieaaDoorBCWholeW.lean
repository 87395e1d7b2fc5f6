/- ChanceWhole: the walk. -/
import Derived.Test.YtknjoajeilgieaaDoorBCWhole
import Derived.Test.YtknjoajeilgieaaDoorBCBallsW
namespace Go.Proofs.YtknjoajeilgieaaDoor
open Go Go.RowKit Go.Shelf

namespace C
set_option maxRecDepth 100000 in
set_option maxHeartbeats 4000000 in
/-- **ChanceWhole** -/
theorem whole_any (w : World) : Calls Tryd.prog 8 #[] w fun e W => e = .returned (.bool true) ∧ Below w.heap.size w W := by
  have HWL := Lib.hid (fun (k : Nat) (hk : k ≤ 73) => whole_lt hk)
  have HRL := Lib.hid (fun (k : Nat) (hk : k ≤ 72) => wb_lt hk)
  have HWE := Lib.hid whole_eq
  have HWB := Lib.hid (fun (k : Nat) (hk : k ≤ 72) W => wrongBits_any k hk W)
  have hz := Bx.zero w
  obtain ⟨w1, hw1⟩ : ∃ w1, w.alloc (.cells #[.slice none 0 0] 24) = w1 := ⟨_, rfl⟩
  have hb1 : Below w.heap.size w w1 := by rw [← hw1]; exact (Below.refl _ w).alloc (Nat.le_refl _) _
  rw [hw1] at hz
  obtain ⟨ps, hps⟩ : ∃ p, w.heap.size = p := ⟨_, rfl⟩
  rw [hps] at hz
  have hws : w.heap.size ≤ ps := by omega
  have HS1 := Lib.hid hz
  have HB1 := Lib.hid hb1
  clear hz hb1
  go_enter Tryd.func8, Tryd.ntmps8
  go_wp2_with fail
  go_loopw [2] (fun i wr => ∃ k : Nat, i = .int .i64 (k : Int) ∧ k ≤ 73 ∧ Hid (Bx wr ps (sm wbN k)) ∧ Hid (Below w.heap.size w wr)) (fun i _ => 73 - (intOf i).toNat)
  case atStart => exact ⟨0, rfl, by omega, HS1, HB1⟩
  case round => as_aux_lemma =>
    clear HS1 HB1
    obtain ⟨k, rfl, hk, HS, HB⟩ := hrel
    by_cases hlt : k ≤ 72
    · have hkI : (k : Int) ≤ 72 := by omega
      have HW1 := Lib.hid (HWB.out k hlt wr)
      have hl1 := HRL.out k hlt
      have hl3 := HWL.out (k + 1) (by omega)
      have hl4 := HWL.out k (by omega)
      rw [sm_succ] at hl3
      have hst : sm wbN (k + 1) = sm wbN k + wbN k := rfl
      obtain ⟨x, hx⟩ : ∃ x, wbN k = x := ⟨_, rfl⟩
      obtain ⟨S, hS⟩ : ∃ S, sm wbN k = S := ⟨_, rfl⟩
      rw [hx] at HW1 hl1 hl3 hst
      rw [hS] at HS hl3 hl4 hst
      have HLN := Lib.hid (And.intro (len100 hl1) (And.intro (len100 hl3) (len100 hl4)))
      have HST := Lib.hid hst
      clear hx hS hl1 hl3 hl4 hst
      go_wp2_with fail
      (with_reducible refine HW1.out.mono ?_)
      rintro e w9 ⟨⟨s9, c9, rfl, hr9⟩, hb9⟩
      have hv9 := Var.new hr9
      obtain ⟨pa, hpa⟩ : ∃ p, w9.heap.size = p := ⟨_, rfl⟩
      obtain ⟨wC, hwC⟩ : ∃ wC, w9.alloc (.cells #[.slice s9 (M.dig x).length c9] 24) = wC := ⟨_, rfl⟩
      have hbw : Below w9.heap.size w9 wC := by rw [← hwC]; exact (Below.refl _ w9).alloc (Nat.le_refl _) _
      rw [hwC, hpa] at hv9
      have hbA := hb9.trans (hbw.mono hb9.size)
      have VXC := Lib.hid hv9
      have HSC := Lib.hid (HS.out.below hbA)
      have HBC := Lib.hid (HB.out.trans (hbA.mono HB.out.size))
      have cx := VXC.out.cell
      obtain ⟨aS, dS, cS, rS⟩ := HSC.out.cell
      have lx : ¬ (100 : Int) < ((M.dig x).length : Int) := by have := HLN.out.1; omega
      have HAD := Lib.hid ((radd_num (u := .agg #[.slice aS (M.dig S).length dS]) (v := .agg #[.slice s9 (M.dig x).length c9]) (w := wC) (x := S) (y := x) (Nat.le_trans HLN.out.2.2 (by omega)) (Nat.le_trans HLN.out.1 (by omega)) ⟨aS, dS, rfl, rS⟩ ⟨s9, c9, rfl, VXC.out.row⟩).mono (fun e W' h => And.intro (fit_num h.1 (Nat.le_trans HLN.out.2.1 (by omega))) h.2))
      clear hr9 hv9 hb9 hbw hbA HS HB HW1 rS
      go_wp2_with fail
      (with_reducible refine HAD.out.mono ?_)
      rintro e wD ⟨⟨aD, cD, rfl, hrD⟩, hbD⟩
      have hsD := HSC.out.below hbD
      obtain ⟨_, _, d1, _⟩ := hsD.cell
      have d2 := hsD.free
      have HSE := Lib.hid (hsD.store hrD)
      have HBE := Lib.hid ((HBC.out.trans (hbD.mono HBC.out.size)).setCell (p := ⟨ps, 0, none⟩) hws (.slice aD (M.dig (S + x)).length cD))
      clear hrD hbD hsD HSC HBC VXC HAD cx cS
      go_wp2_with fail
      go_roundw
      case rel => exact ⟨k + 1, by go_num, by omega, Lib.hid (by rw [HST.out]; exact HSE.out), HBE⟩
      case measure => simp [intOf]; omega
    · obtain rfl : k = 73 := by omega
      rw [show ((73 : Nat) : Int) = 73 from rfl]
      have heq := HWE.out
      have hl := HWL.out 73 (by omega)
      obtain ⟨S, hS⟩ : ∃ S, sm wbN 73 = S := ⟨_, rfl⟩
      rw [hS] at heq hl HS
      have HLS := Lib.hid (len100 hl)
      obtain ⟨P, hP⟩ : ∃ P, 2 ^ 64 = P := ⟨_, rfl⟩
      rw [hP] at heq
      have hpD : P < 2 ^ 200 := by rw [← hP]; decide
      have hp1 : 1 ≤ P := by rw [← hP]; decide
      have hlP1 : P - 1 < 2 ^ 200 := by omega
      have HLN := Lib.hid (And.intro (len100 hpD) (len100 hlP1))
      have HE := Lib.hid (show (P - 1) * 73 = S by rw [Nat.mul_comm]; exact heq.symm)
      have HPD := Lib.hid hP
      have HO1 := Lib.hid (fun W => (show Calls Tryd.prog 17 #[.int .i64 2] W (fun e W' => NumE 2 e W' ∧ Below W.heap.size W W') from of_num 2 W (by omega)))
      have HO2 := Lib.hid (fun W => (show Calls Tryd.prog 17 #[.int .i64 1] W (fun e W' => NumE 1 e W' ∧ Below W.heap.size W W') from of_num 1 W (by omega)))
      have HO3 := Lib.hid (fun W => (show Calls Tryd.prog 17 #[.int .i64 73] W (fun e W' => NumE 73 e W' ∧ Below W.heap.size W W') from of_num 73 W (by omega)))
      clear hS hl heq hpD hP hlP1 HWE HWL HRL HWB
      go_wp2_with fail
      (with_reducible refine (HO1.out _).mono ?_)
      rintro e wA ⟨⟨sA, cA, rfl, hr⟩, hb⟩
      have hv := Var.new hr
      obtain ⟨pA, hpA⟩ : ∃ p, wA.heap.size = p := ⟨_, rfl⟩
      obtain ⟨wB, hwB⟩ : ∃ wB, wA.alloc (.cells #[.slice sA (M.dig 2).length cA] 24) = wB := ⟨_, rfl⟩
      have hbw : Below wA.heap.size wA wB := by rw [← hwB]; exact (Below.refl _ wA).alloc (Nat.le_refl _) _
      rw [hwB, hpA] at hv
      have hb2 := hb.trans (hbw.mono hb.size)
      have V256 := Lib.hid hv
      have HSB := Lib.hid (HS.out.below hb2)
      have HBB := Lib.hid (HB.out.trans (hb2.mono HB.out.size))
      clear hr hv hb hbw hb2 HS HB HO1
      go_wp2_with fail
      (with_reducible refine (HO2.out _).mono ?_)
      rintro e wC ⟨⟨sC, cC, rfl, hr⟩, hb⟩
      have hv := Var.new hr
      obtain ⟨pC, hpC⟩ : ∃ p, wC.heap.size = p := ⟨_, rfl⟩
      obtain ⟨wD, hwD'⟩ : ∃ wD, wC.alloc (.cells #[.slice sC (M.dig 1).length cC] 24) = wD := ⟨_, rfl⟩
      have hbw : Below wC.heap.size wC wD := by rw [← hwD']; exact (Below.refl _ wC).alloc (Nat.le_refl _) _
      rw [hwD', hpC] at hv
      have hb2 := hb.trans (hbw.mono hb.size)
      have V1 := Lib.hid hv
      have V256D := Lib.hid (V256.out.below hb2)
      have HSD := Lib.hid (HSB.out.below hb2)
      have HBD := Lib.hid (HBB.out.trans (hb2.mono HBB.out.size))
      have c256 := V256D.out.cell
      have HPOW := Lib.hid (show Calls Tryd.prog 18 #[.agg #[.slice sA (M.dig 2).length cA], .int .i64 64] wD (fun e W' => (∃ a c, e = .returned (.tuple #[.agg #[.slice a (M.dig P).length c], .int .i64 0]) ∧ Row W' a (M.dig P) c) ∧ Below wD.heap.size wD W') from by
        have h := (rpower_any sA cA 2 64 wD (small_len (by decide)) (by omega) V256D.out.row).mono (fun e W' h => And.intro (fit_num h.1 (by rw [HPD.out]; exact Nat.le_trans HLN.out.1 (by omega))) h.2)
        rw [HPD.out] at h
        exact h)
      clear hr hv hb hbw hb2 HSB HBB HO2 V256
      go_wp2_with fail
      (with_reducible refine HPOW.out.mono ?_)
      rintro e wE ⟨⟨sE, cE, rfl, hr⟩, hb⟩
      have hv := Bx.new hr
      obtain ⟨pE, hpE⟩ : ∃ p, wE.heap.size = p := ⟨_, rfl⟩
      obtain ⟨wF, hwF⟩ : ∃ wF, wE.alloc (.cells #[.slice sE (M.dig P).length cE] 24) = wF := ⟨_, rfl⟩
      have hbw : Below wE.heap.size wE wF := by rw [← hwF]; exact (Below.refl _ wE).alloc (Nat.le_refl _) _
      have hcE : wF.cell? ⟨pE, 0, none⟩ = some (.slice sE (M.dig P).length cE) := by rw [← hwF, ← hpE]; exact cell_new _ _ _
      rw [hwF, hpE] at hv
      have hb2 := hb.trans (hbw.mono hb.size)
      have HQ := Lib.hid hv
      have V1F := Lib.hid (V1.out.below hb2)
      have c1 := V1F.out.cell
      have HSF := Lib.hid (HSD.out.below hb2)
      have HBF := Lib.hid (HBD.out.trans (hb2.mono HBD.out.size))
      have hlS := HSD.out.lt
      have hlE : wD.heap.size ≤ wE.heap.size := hb.size
      have hpw : w.heap.size ≤ pE := by have := HBD.out.size; omega
      have hne1 : ps ≠ pE := by omega
      have HSUB := Lib.hid ((rsub_num (u := .agg #[.slice sE (M.dig P).length cE]) (v := .agg #[.slice sC (M.dig 1).length cC]) (w := wF) (x := P) (y := 1) (Nat.le_trans HLN.out.1 (by omega)) (small_len (by decide)) hp1 ⟨sE, cE, rfl, hr.below hbw⟩ ⟨sC, cC, rfl, V1F.out.row⟩).mono (fun e W' h => And.intro (fit_num h.1 (Nat.le_trans HLN.out.2 (by omega))) h.2))
      clear hr hv hb hbw hb2 HSD HBD HPOW V256D V1 c256 hlS hlE
      go_wp2_with fail
      (with_reducible refine HSUB.out.mono ?_)
      rintro e wG ⟨⟨sG, cG, rfl, hr⟩, hb⟩
      have hq := HQ.out.below hb
      obtain ⟨_, _, d1, _⟩ := hq.cell
      have d2 := hq.free
      obtain ⟨wH, hwH⟩ : ∃ wH, wG.setCell ⟨pE, 0, none⟩ (.slice sG (M.dig (P - 1)).length cG) = wH := ⟨_, rfl⟩
      have hqH := hq.store hr
      have hsH := (HSF.out.below hb).other hq hne1 (.slice sG (M.dig (P - 1)).length cG)
      have hbH := (HBF.out.trans (hb.mono HBF.out.size)).setCell (p := ⟨pE, 0, none⟩) hpw (.slice sG (M.dig (P - 1)).length cG)
      rw [hwH] at hqH hsH hbH
      have HQH := Lib.hid hqH
      have HSH := Lib.hid hsH
      have HBH := Lib.hid hbH
      clear hr hb hq hqH hsH hbH HQ HSF HBF V1F c1 HSUB hcE
      go_wp2_with fail
      (with_reducible refine (HO3.out _).mono ?_)
      rintro e wM ⟨⟨sM, cM, rfl, hr⟩, hb⟩
      have hv := Var.new hr
      obtain ⟨pM, hpM⟩ : ∃ p, wM.heap.size = p := ⟨_, rfl⟩
      obtain ⟨wN, hwN⟩ : ∃ wN, wM.alloc (.cells #[.slice sM (M.dig 73).length cM] 24) = wN := ⟨_, rfl⟩
      have hbw : Below wM.heap.size wM wN := by rw [← hwN]; exact (Below.refl _ wM).alloc (Nat.le_refl _) _
      rw [hwN, hpM] at hv
      have hb2 := hb.trans (hbw.mono hb.size)
      have VM := Lib.hid hv
      have cM' := VM.out.cell
      have HSN := Lib.hid (HSH.out.below hb2)
      have HBN := Lib.hid (HBH.out.trans (hb2.mono HBH.out.size))
      obtain ⟨aQ, dQ, cQ, rQ⟩ := (HQH.out.below hb2).cell
      have HMU := Lib.hid ((rmul_num (u := .agg #[.slice aQ (M.dig (P - 1)).length dQ]) (v := .agg #[.slice sM (M.dig 73).length cM]) (w := wN) (x := P - 1) (y := 73) (Nat.le_trans HLN.out.2 (by omega)) (small_len (by decide)) ⟨aQ, dQ, rfl, rQ⟩ ⟨sM, cM, rfl, VM.out.row⟩).mono (fun e W' h => And.intro (fit_num h.1 (by rw [HE.out]; exact Nat.le_trans HLS.out (by omega))) h.2))
      rw [HE.out] at HMU
      clear hr hv hb hbw hb2 HSH HBH HQH HO3 rQ
      go_wp2_with fail
      (with_reducible refine HMU.out.mono ?_)
      rintro e wI ⟨⟨sI, cI, rfl, hr⟩, hb⟩
      have hv := Var.new hr
      obtain ⟨pI, hpI⟩ : ∃ p, wI.heap.size = p := ⟨_, rfl⟩
      obtain ⟨wJ, hwJ⟩ : ∃ wJ, wI.alloc (.cells #[.slice sI (M.dig S).length cI] 24) = wJ := ⟨_, rfl⟩
      have hbw : Below wI.heap.size wI wJ := by rw [← hwJ]; exact (Below.refl _ wI).alloc (Nat.le_refl _) _
      rw [hwJ, hpI] at hv
      have hb2 := hb.trans (hbw.mono hb.size)
      have VI := Lib.hid hv
      have HSJ := Lib.hid (HSN.out.below hb2)
      have HBJ := Lib.hid (HBN.out.trans (hb2.mono HBN.out.size))
      clear hr hv hb hbw hb2 HSN HBN HMU cQ cM' VM d1 d2
      go_wp2_with fail
      refine (awake_yes _).mono ?_
      rintro e wK ⟨rfl, hbK⟩
      have VIK := Lib.hid (VI.out.below hbK)
      have cI' := VIK.out.cell
      obtain ⟨aS, dS, cS, rS⟩ := (HSJ.out.below hbK).cell
      have HSA := Lib.hid (same_num (n := S) (w := wK) ⟨aS, dS, rfl, rS⟩ ⟨sI, cI, rfl, VIK.out.row⟩)
      have HBK := Lib.hid (HBJ.out.trans (hbK.mono HBJ.out.size))
      clear hbK VI HSJ HBJ rS
      go_wp2_with fail
      (with_reducible refine HSA.out.mono ?_)
      rintro e wL ⟨rfl, hbL⟩
      have HBL := Lib.hid (HBK.out.trans (hbL.mono HBK.out.size))
      clear hbL
      go_wp2_with fail
      exact bodyPost_ret (v := .bool true) (by simp [results, Tryd.results8, go_sem]) rfl ⟨rfl, HBL.out⟩
end C
end Go.Proofs.YtknjoajeilgieaaDoor
