/- ChanceAdds: the walk. -/
import Derived.Test.YtbhfhekjcnnfeaaDoorBCAdd
import Derived.Test.YtbhfhekjcnnfeaaDoorBCBallsW
namespace Go.Proofs.YtbhfhekjcnnfeaaDoor
open Go Go.RowKit Go.Shelf

namespace C
open G (Box IRow Dice)
theorem var_other {W : World} {p q n c ca x : Nat} {a s : Option Addr} (h : Var W p a ca x) (hq : W.cell? ⟨q, 0, none⟩ = some (.slice s n c)) (hne : p ≠ q) (u : Value) : Var (W.setCell ⟨q, 0, none⟩ u) p a ca x :=
  ⟨(cell_other u (show p ≠ q from hne)).trans h.cell, h.row.store hq u⟩
set_option maxRecDepth 100000 in
set_option maxHeartbeats 4000000 in
/-- **ChanceAdds** -/
theorem adds_any (a : Option Addr) (cap : Nat) (ts : List Int) (w : World) (hR : IRow w a ts cap) :
    Calls Tryd.prog 3 #[.slice a ts.length cap] w fun e W => e = .returned (.bool true) ∧ Below w.heap.size w W := by
  have hroom := hR.room
  have hmost := hR.most
  by_cases h400 : (ts.length : Int) ≤ 400
  case neg =>
    have hd : decide ((ts.length : Int) ≤ 400) = false := by simpa using h400
    have HL := Lib.hid (G.light_any a ts.length cap w)
    rw [hd] at HL
    clear hd hR
    go_enter Tryd.func3, Tryd.ntmps3
    go_wp2_with fail
    refine HL.out.mono ?_
    rintro e w1 ⟨rfl, rfl⟩
    go_wp2_with fail
    refine (awake_yes _).mono ?_
    rintro e w2 ⟨rfl, hb2⟩
    go_wp2_with fail
    exact bodyPost_ret (v := .bool true) (by simp [results, Tryd.results3, go_sem]) rfl ⟨rfl, hb2⟩
  case pos =>
    have hd : decide ((ts.length : Int) ≤ 400) = true := by simpa using h400
    have HL := Lib.hid (G.light_any a ts.length cap w)
    rw [hd] at HL
    have HRO := Lib.hid (G.roll_any a cap ts w hR (by omega))
    clear hd hR
    go_enter Tryd.func3, Tryd.ntmps3
    go_wp2_with fail
    refine HL.out.mono ?_
    rintro e w1 ⟨rfl, rfl⟩
    go_wp2_with fail
    refine HRO.out.mono ?_
    rintro e w1 ⟨rfl, hd1, hb1⟩
    have HSY := Lib.hid (CS.symbols_any w1 w.heap.size a cap ts 0 hd1)
    have HB1 := Lib.hid hb1
    clear hd1 hb1 HL HRO
    go_wp2_with fail
    refine HSY.out.mono ?_
    rintro e w2 ⟨D, C, F, k2, hok, rfl, hd2, hg2⟩
    unfold codeV
    have hbw2 := below_dice' HB1.out hg2 (Nat.le_refl _) HB1.out.size
    obtain ⟨pc, w3, W3, hpc, hw3, hst, hbx3, hb23, hpl3⟩ := CS.new_code w2 D C F
    have HOK := Lib.hid hok
    have HC3 := Lib.hid (show CBox W3 pc D C F from hbx3)
    have HB3 := Lib.hid (hbw2.trans (hb23.mono hbw2.size))
    obtain ⟨hD1, hD2, hC1, hC2, hF2⟩ := hok
    obtain ⟨Wa, Wb, Wc, e1, e2, e3, e4, f1, f2, f3, f4, f5, f6, f7, f8⟩ := hst
    obtain ⟨q0, q1, q2, q3⟩ := HC3.out.at
    obtain ⟨n, hn⟩ : ∃ n, D + C = n := ⟨_, rfl⟩
    have en : (D : Int) + (C : Int) = (n : Int) := by omega
    have hn40 : n ≤ 40 := by omega
    have hwn : IntKind.i64.wrap (n : Int) = (n : Int) := by rw [IntKind.wrap_i64]; omega
    have HWO := Lib.hid (fun (k : Nat) (hk : k ≤ n) W => (show Calls Tryd.prog 11 #[.agg #[.int .i64 2, .int .i64 (D : Int), .int .i64 (C : Int), .int .i64 (F : Int)], .int .i64 (k : Int)] W fun e W' => NumE (wordsN n C k) e W' ∧ Below W.heap.size W W' from by
      have h := Words_any HOK.out k (by omega) W
      rw [hn] at h
      exact h))
    have HER := Lib.hid (fun (k : Nat) (hk : k ≤ n) W => (show Calls Tryd.prog 12 #[.agg #[.int .i64 2, .int .i64 (D : Int), .int .i64 (C : Int), .int .i64 (F : Int)], .int .i64 (k : Int)] W fun e W' => NumE (errN n k) e W' ∧ Below W.heap.size W W' from by
      have h := errors_any HOK.out k (by omega) W
      rw [hn] at h
      exact h))
    have HWE := Lib.hid (show sm (wordsN n C) (n + 1) = 256 ^ D from by have := words_sum HOK.out; rwa [hn] at this)
    have HEE := Lib.hid (show sm (errN n) (n + 1) = 256 ^ n from errs_sum (by omega))
    have HWL := Lib.hid (show ∀ k, k ≤ n + 1 → (M.dig (sm (wordsN n C) k)).length ≤ 100 from fun k hk => len256 (m := D) (by omega) (Nat.le_trans (sm_mono hk) (Nat.le_of_eq HWE.out)))
    have HEL := Lib.hid (show ∀ k, k ≤ n + 1 → (M.dig (sm (errN n) k)).length ≤ 100 from fun k hk => len256 (m := n) (by omega) (Nat.le_trans (sm_mono hk) (Nat.le_of_eq HEE.out)))
    have HWT := Lib.hid (show ∀ k, k ≤ n → (M.dig (wordsN n C k)).length ≤ 100 from fun k hk => len256 (m := D) (by omega) (Nat.le_trans (term_le_sm (f := wordsN n C) (K := n + 1) (by omega)) (Nat.le_of_eq HWE.out)))
    have HET := Lib.hid (show ∀ k, k ≤ n → (M.dig (errN n k)).length ≤ 100 from fun k hk => len256 (m := n) (by omega) (Nat.le_trans (term_le_sm (f := errN n) (K := n + 1) (by omega)) (Nat.le_of_eq HEE.out)))
    have HPD := Lib.hid (show (M.dig (256 ^ D)).length ≤ 100 from len256 (by omega) (Nat.le_refl _))
    have HPN := Lib.hid (show (M.dig (256 ^ n)).length ≤ 100 from len256 (by omega) (Nat.le_refl _))
    have HO1 := Lib.hid (fun W => (show Calls Tryd.prog 9 #[.int .i64 256] W (fun e W' => NumE 256 e W' ∧ Below W.heap.size W W') from of_num 256 W (by omega)))
    clear hd2 hg2 hbw2 hbx3 hb23 HSY HB1 hn
    go_wp2_with fail
    (with_reducible refine (HO1.out _).mono ?_)
    rintro e wA ⟨⟨sA, cA, rfl, hr⟩, hb⟩
    have hv := Var.new hr
    obtain ⟨pA, hpA⟩ : ∃ p, wA.heap.size = p := ⟨_, rfl⟩
    obtain ⟨wB, hwB⟩ : ∃ wB, wA.alloc (.cells #[.slice sA (M.dig 256).length cA] 31) = wB := ⟨_, rfl⟩
    have hbw : Below wA.heap.size wA wB := by rw [← hwB]; exact (Below.refl _ wA).alloc (Nat.le_refl _) _
    rw [hwB, hpA] at hv
    have hb2 := hb.trans (hbw.mono hb.size)
    have V256 := Lib.hid hv
    have HCB := Lib.hid (HC3.out.below hb2)
    have HBB := Lib.hid (HB3.out.trans (hb2.mono HB3.out.size))
    obtain ⟨r0, r1, r2, r3⟩ := HCB.out.at
    have c256 := V256.out.cell
    obtain ⟨P, hP⟩ : ∃ P, 256 ^ D = P := ⟨_, rfl⟩
    obtain ⟨N', hN'⟩ : ∃ N', 256 ^ n = N' := ⟨_, rfl⟩
    have HPOW := Lib.hid ((rpower_any sA cA 256 D wB (small_len (by decide)) (by omega) V256.out.row).mono (fun e W' h => And.intro (fit_num h.1 (Nat.le_trans HPD.out (by omega))) h.2))
    rw [hP] at HPOW HWE
    rw [hN'] at HEE
    clear hr hv hb hbw hb2 HC3 HB3 HO1 q0 q1 q2 q3 e1 e2 e3 e4 f1 f2 f3 f4 f5 f6 f7 f8
    have HPP := Lib.hid hP
    have HNN := Lib.hid hN'
    clear hP hN'
    go_wp2_with fail
    (with_reducible refine HPOW.out.mono ?_)
    rintro e wC ⟨⟨sC, cC, rfl, hr⟩, hb⟩
    have hv := Var.new hr
    obtain ⟨pC, hpC⟩ : ∃ p, wC.heap.size = p := ⟨_, rfl⟩
    obtain ⟨wD, hwD'⟩ : ∃ wD, wC.alloc (.cells #[.slice sC (M.dig P).length cC] 31) = wD := ⟨_, rfl⟩
    have hbw : Below wC.heap.size wC wD := by rw [← hwD']; exact (Below.refl _ wC).alloc (Nat.le_refl _) _
    rw [hwD', hpC] at hv
    have hb2 := hb.trans (hbw.mono hb.size)
    have VP := Lib.hid hv
    have V256D := Lib.hid (V256.out.below hb2)
    have HCD := Lib.hid (HCB.out.below hb2)
    have HBD := Lib.hid (HBB.out.trans (hb2.mono HBB.out.size))
    have c256' := V256D.out.cell
    have HPOW2 := Lib.hid ((rpower_any sA cA 256 n wD (small_len (by decide)) (by omega) V256D.out.row).mono (fun e W' h => And.intro (fit_num h.1 (Nat.le_trans HPN.out (by omega))) h.2))
    rw [HNN.out] at HPOW2
    clear hr hv hb hbw hb2 HCB HBB V256 c256 HPOW r0 r1 r2 r3
    go_wp2_with fail
    (with_reducible refine HPOW2.out.mono ?_)
    rintro e wE ⟨⟨sE, cE, rfl, hr⟩, hb⟩
    have hv := Var.new hr
    obtain ⟨pE, hpE⟩ : ∃ p, wE.heap.size = p := ⟨_, rfl⟩
    obtain ⟨w6, hw6⟩ : ∃ w6, wE.alloc (.cells #[.slice sE (M.dig N').length cE] 31) = w6 := ⟨_, rfl⟩
    have hbw : Below wE.heap.size wE w6 := by rw [← hw6]; exact (Below.refl _ wE).alloc (Nat.le_refl _) _
    rw [hw6, hpE] at hv
    have hb2 := hb.trans (hbw.mono hb.size)
    have VN := Lib.hid hv
    have VP6 := Lib.hid (VP.out.below hb2)
    have HX6 := Lib.hid (HCD.out.below hb2)
    have HB6 := Lib.hid (HBD.out.trans (hb2.mono HBD.out.size))
    have hz7 := Bx.zero w6
    obtain ⟨w7, hw7⟩ : ∃ w7, w6.alloc (.cells #[.slice none 0 0] 31) = w7 := ⟨_, rfl⟩
    have hb67 : Below w6.heap.size w6 w7 := by rw [← hw7]; exact (Below.refl _ w6).alloc (Nat.le_refl _) _
    have hs7 : w7.heap.size = w6.heap.size + 1 := by rw [← hw7]; exact World.size_alloc _ _
    have hz8 := Bx.zero w7
    obtain ⟨w8, hw8⟩ : ∃ w8, w7.alloc (.cells #[.slice none 0 0] 31) = w8 := ⟨_, rfl⟩
    have hb78 : Below w7.heap.size w7 w8 := by rw [← hw8]; exact (Below.refl _ w7).alloc (Nat.le_refl _) _
    obtain ⟨ps, hps⟩ : ∃ p, w6.heap.size = p := ⟨_, rfl⟩
    obtain ⟨pb, hpb⟩ : ∃ p, w7.heap.size = p := ⟨_, rfl⟩
    rw [hw7, hps] at hz7
    rw [hw8, hpb] at hz8
    have hl1 := VN.out.lt
    have hl2 := VP6.out.lt
    have hl3 := HX6.out.lt
    have hs6 := HB6.out.size
    have hsb : ps ≠ pb := by omega
    have hcs : pc ≠ ps := by omega
    have hcb : pc ≠ pb := by omega
    have n1 : pE ≠ ps := by omega
    have n2 : pE ≠ pb := by omega
    have n3 : pC ≠ ps := by omega
    have n4 : pC ≠ pb := by omega
    have hws : w.heap.size ≤ ps := by omega
    have hwb : w.heap.size ≤ pb := by omega
    have HS8 := Lib.hid (hz7.below hb78)
    have HP8 := Lib.hid hz8
    have HX8 := Lib.hid ((HX6.out.below hb67).below hb78)
    have VN8 := Lib.hid ((VN.out.below hb67).below hb78)
    have VP8 := Lib.hid ((VP6.out.below hb67).below hb78)
    have HB8 := Lib.hid ((HB6.out.trans (hb67.mono (by omega))).trans (hb78.mono (by omega)))
    clear hr hv hb hbw hb2 hz7 hz8 hb67 hb78 hs7 hs6 HX6 HB6 VN VP6 VP HCD HBD HPOW2 V256D c256' hl1 hl2 hl3
    go_wp2_with fail
    go_loopw [13] (fun i wr => ∃ k : Nat, i = .int .i64 (k : Int) ∧ k ≤ n + 1 ∧ Hid (Bx wr ps (sm (wordsN n C) k)) ∧ Hid (Bx wr pb (sm (errN n) k)) ∧ Hid (CBox wr pc D C F) ∧ Hid (Var wr pC sC cC P) ∧ Hid (Var wr pE sE cE N') ∧ Hid (Below w.heap.size w wr)) (fun i _ => n + 1 - (intOf i).toNat)
    case atStart => exact ⟨0, rfl, Nat.zero_le _, HS8, HP8, HX8, VP8, VN8, HB8⟩
    case round => as_aux_lemma =>
      clear HS8 HP8 HX8 VP8 VN8 HB8
      obtain ⟨k, rfl, hk, HS, HP, HX, VP, VN, HB⟩ := hrel
      obtain ⟨q0, q1, q2, q3⟩ := HX.out.at
      by_cases hlt : k ≤ n
      · have hkI : (k : Int) ≤ (n : Int) := by omega
        have HW1 := Lib.hid (HWO.out k hlt wr)
        have HER1 := Lib.hid (HER.out k hlt)
        have hl1 := HWT.out k hlt
        have hl2 := HET.out k hlt
        have hl3 := HWL.out (k + 1) (by omega)
        have hl4 := HWL.out k (by omega)
        have hl5 := HEL.out (k + 1) (by omega)
        have hl6 := HEL.out k (by omega)
        have hst : sm (wordsN n C) (k + 1) = sm (wordsN n C) k + wordsN n C k := rfl
        have hbt : sm (errN n) (k + 1) = sm (errN n) k + errN n k := rfl
        rw [hst] at hl3
        rw [hbt] at hl5
        obtain ⟨x, hx⟩ : ∃ x, wordsN n C k = x := ⟨_, rfl⟩
        obtain ⟨y, hy⟩ : ∃ y, errN n k = y := ⟨_, rfl⟩
        obtain ⟨S, hS⟩ : ∃ S, sm (wordsN n C) k = S := ⟨_, rfl⟩
        obtain ⟨B, hB'⟩ : ∃ B, sm (errN n) k = B := ⟨_, rfl⟩
        rw [hx] at HW1 hl1 hl3 hst
        rw [hy] at HER1 hl2 hl5 hbt
        rw [hS] at HS hl3 hl4 hst
        rw [hB'] at HP hl5 hl6 hbt
        have HLN := Lib.hid (And.intro hl1 (And.intro hl2 (And.intro hl3 (And.intro hl4 hl6))))
        have HL5 := Lib.hid hl5
        have HST := Lib.hid hst
        have HBT := Lib.hid hbt
        clear hx hy hS hB' hl1 hl2 hl3 hl4 hl5 hl6 hst hbt
        go_wp2_with fail
        (with_reducible refine HW1.out.mono ?_)
        rintro e w9 ⟨⟨s9, c9, rfl, hr9⟩, hb9⟩
        have hv9 := Var.new hr9
        obtain ⟨pa, hpa⟩ : ∃ p, w9.heap.size = p := ⟨_, rfl⟩
        obtain ⟨wA, hwA⟩ : ∃ wA, w9.alloc (.cells #[.slice s9 (M.dig x).length c9] 31) = wA := ⟨_, rfl⟩
        have hbw : Below w9.heap.size w9 wA := by rw [← hwA]; exact (Below.refl _ w9).alloc (Nat.le_refl _) _
        rw [hwA, hpa] at hv9
        have hbA := hb9.trans (hbw.mono hb9.size)
        have VX := Lib.hid hv9
        have HSA := Lib.hid (HS.out.below hbA)
        have HPA := Lib.hid (HP.out.below hbA)
        have HXA := Lib.hid (HX.out.below hbA)
        have VPA := Lib.hid (VP.out.below hbA)
        have VNA := Lib.hid (VN.out.below hbA)
        have HBA := Lib.hid (HB.out.trans (hbA.mono HB.out.size))
        obtain ⟨r0, r1, r2, r3⟩ := HXA.out.at
        clear hr9 hv9 hb9 hbw hbA HS HP HX VP VN HB HW1 q0 q1 q2 q3
        go_wp2_with fail
        (with_reducible refine (HER1.out _).mono ?_)
        rintro e wB ⟨⟨sB, cB, rfl, hrB⟩, hbB⟩
        have hvB := Var.new hrB
        obtain ⟨pk, hpk⟩ : ∃ p, wB.heap.size = p := ⟨_, rfl⟩
        obtain ⟨wC, hwC⟩ : ∃ wC, wB.alloc (.cells #[.slice sB (M.dig y).length cB] 31) = wC := ⟨_, rfl⟩
        have hbw : Below wB.heap.size wB wC := by rw [← hwC]; exact (Below.refl _ wB).alloc (Nat.le_refl _) _
        rw [hwC, hpk] at hvB
        have hbC := hbB.trans (hbw.mono hbB.size)
        have VY := Lib.hid hvB
        have VXC := Lib.hid (VX.out.below hbC)
        have HSC := Lib.hid (HSA.out.below hbC)
        have HPC := Lib.hid (HPA.out.below hbC)
        have HXC := Lib.hid (HXA.out.below hbC)
        have VPC := Lib.hid (VPA.out.below hbC)
        have VNC := Lib.hid (VNA.out.below hbC)
        obtain ⟨aB0, dB0, cB0, _⟩ := HPC.out.cell
        have hpsk : ps < pk := by have := HSA.out.lt; have := hbB.size; omega
        have lS : ¬ (100 : Int) < ((M.dig S).length : Int) := by have := HLN.out.2.2.2.1; omega
        have lB : ¬ (100 : Int) < ((M.dig B).length : Int) := by have := HLN.out.2.2.2.2; omega
        have HBC := Lib.hid (HBA.out.trans (hbC.mono HBA.out.size))
        have cx := VXC.out.cell
        have cy := VY.out.cell
        obtain ⟨aS, dS, cS, rS⟩ := HSC.out.cell
        have HAD := Lib.hid ((radd_num (u := .agg #[.slice aS (M.dig S).length dS]) (v := .agg #[.slice s9 (M.dig x).length c9]) (w := wC) (x := S) (y := x) (Nat.le_trans HLN.out.2.2.2.1 (by omega)) (Nat.le_trans HLN.out.1 (by omega)) ⟨aS, dS, rfl, rS⟩ ⟨s9, c9, rfl, VXC.out.row⟩).mono (fun e W' h => And.intro (fit_num h.1 (Nat.le_trans HLN.out.2.2.1 (by omega))) h.2))
        clear hrB hvB hbB hbw hbC VX HSA HPA HXA VPA VNA HBA HER1 r0 r1 r2 r3 rS
        go_wp2_with fail
        (with_reducible refine HAD.out.mono ?_)
        rintro e wD ⟨⟨aD, cD, rfl, hrD⟩, hbD⟩
        have hsD := HSC.out.below hbD
        obtain ⟨_, _, d1, _⟩ := hsD.cell
        have d2 := hsD.free
        obtain ⟨wE, hwE⟩ : ∃ wE, wD.setCell ⟨ps, 0, none⟩ (.slice aD (M.dig (S + x)).length cD) = wE := ⟨_, rfl⟩
        have hsE := hsD.store hrD
        have hpE := (HPC.out.below hbD).other hsD hsb.symm (.slice aD (M.dig (S + x)).length cD)
        have hxE := G.Box.other (HXC.out.below hbD) (q := ⟨ps, 0, none⟩) (by show ps ≠ pc; omega) (.slice aD (M.dig (S + x)).length cD)
        have vpE := var_other (VPC.out.below hbD) d1 n3 (.slice aD (M.dig (S + x)).length cD)
        have vnE := var_other (VNC.out.below hbD) d1 n1 (.slice aD (M.dig (S + x)).length cD)
        have hbE := ((HBC.out.trans (hbD.mono HBC.out.size)).setCell (p := ⟨ps, 0, none⟩) hws (.slice aD (M.dig (S + x)).length cD))
        have hyE : wE.cell? ⟨pk, 0, none⟩ = some (.slice sB (M.dig y).length cB) := by
          rw [← hwE, cell_other _ (Nat.ne_of_gt hpsk)]
          exact (hbD.cell (lt_of_cell cy)).trans cy
        have hryE : Row wE sB (M.dig y) cB := by rw [← hwE]; exact (VY.out.row.below hbD).store d1 _
        rw [hwE] at hsE hpE hxE hbE vpE vnE
        have HSE := Lib.hid hsE
        have HPE := Lib.hid hpE
        have HXE := Lib.hid (show CBox wE pc D C F from hxE)
        have HBE := Lib.hid hbE
        have HRY := Lib.hid hryE
        have VPE := Lib.hid vpE
        have VNE := Lib.hid vnE
        obtain ⟨t0, t1, t2, t3⟩ := HXE.out.at
        clear hrD hbD hsD hsE hpE hxE hbE hryE vpE vnE HSC HPC HXC HBC VXC VY VPC VNC HAD cx cy cS cB0 lS lB
        obtain ⟨aP, dP, cP, rP⟩ := HPE.out.cell
        have hl5 := HL5.out
        have HAE := Lib.hid ((radd_num (u := .agg #[.slice aP (M.dig B).length dP]) (v := .agg #[.slice sB (M.dig y).length cB]) (w := wE) (x := B) (y := y) (Nat.le_trans HLN.out.2.2.2.2 (by omega)) (Nat.le_trans HLN.out.2.1 (by omega)) ⟨aP, dP, rfl, rP⟩ ⟨sB, cB, rfl, HRY.out⟩).mono (fun e W' h => And.intro (fit_num h.1 (Nat.le_trans hl5 (by omega))) h.2))
        clear rP hl5
        go_wp2_with fail
        (with_reducible refine HAE.out.mono ?_)
        rintro e wF ⟨⟨aF, cF, rfl, hrF⟩, hbF⟩
        have hpF := HPE.out.below hbF
        obtain ⟨_, _, v1, _⟩ := hpF.cell
        have v2 := hpF.free
        have HPG := Lib.hid (hpF.store hrF)
        have HSG := Lib.hid ((HSE.out.below hbF).other hpF hsb (.slice aF (M.dig (B + y)).length cF))
        have HXG := Lib.hid (show CBox (wF.setCell ⟨pb, 0, none⟩ (.slice aF (M.dig (B + y)).length cF)) pc D C F from G.Box.other (HXE.out.below hbF) (q := ⟨pb, 0, none⟩) (by show pb ≠ pc; omega) (.slice aF (M.dig (B + y)).length cF))
        have VPG := Lib.hid (var_other (VPE.out.below hbF) v1 n4 (.slice aF (M.dig (B + y)).length cF))
        have VNG := Lib.hid (var_other (VNE.out.below hbF) v1 n2 (.slice aF (M.dig (B + y)).length cF))
        have HBG := Lib.hid ((HBE.out.trans (hbF.mono HBE.out.size)).setCell (p := ⟨pb, 0, none⟩) hwb (.slice aF (M.dig (B + y)).length cF))
        clear hrF hbF hpF HSE HPE HXE VPE VNE HBE HAE hyE t0 t1 t2 t3 cP
        go_wp2_with fail
        go_roundw
        case rel => exact ⟨k + 1, by go_num, by omega, Lib.hid (by rw [HST.out]; exact HSG.out), Lib.hid (by rw [HBT.out]; exact HPG.out), HXG, VPG, VNG, HBG⟩
        case measure => simp [intOf]; omega
      · obtain rfl : k = n + 1 := by omega
        have hkI : ¬ (((n + 1 : Nat) : Int) ≤ (n : Int)) := by omega
        rw [HWE.out] at HS
        rw [HEE.out] at HP
        go_wp2_with fail
        refine (awake_yes _).mono ?_
        rintro e wK ⟨rfl, hbK⟩
        have VPK := Lib.hid (VP.out.below hbK)
        have VNK := Lib.hid (VN.out.below hbK)
        have cP' := VPK.out.cell
        have cN' := VNK.out.cell
        obtain ⟨aS, dS, cS, rS⟩ := (HS.out.below hbK).cell
        obtain ⟨aP, dP, cPb, rP⟩ := (HP.out.below hbK).cell
        have HSA := Lib.hid (same_num (n := P) (w := wK) ⟨aS, dS, rfl, rS⟩ ⟨sC, cC, rfl, VPK.out.row⟩)
        have HPB := Lib.hid (And.intro rP VNK.out.row)
        have HBK := Lib.hid (HB.out.trans (hbK.mono HB.out.size))
        clear hbK HS HP HX VP VN HB rS rP q0 q1 q2 q3
        go_wp2_with fail
        (with_reducible refine HSA.out.mono ?_)
        rintro e wL ⟨rfl, hbL⟩
        have HSB := Lib.hid (same_num (n := N') (w := wL) ⟨aP, dP, rfl, HPB.out.1.below hbL⟩ ⟨sE, cE, rfl, HPB.out.2.below hbL⟩)
        have HBL := Lib.hid (HBK.out.trans (hbL.mono HBK.out.size))
        have cPL := cell_below hbL cPb
        have cNL := cell_below hbL cN'
        clear hbL HBK HPB HSA cS cP' cPb cN'
        go_wp2_with fail
        (with_reducible refine HSB.out.mono ?_)
        rintro e wM ⟨rfl, hbM⟩
        have HBM := Lib.hid (HBL.out.trans (hbM.mono HBL.out.size))
        clear hbM
        go_wp2_with fail
        exact bodyPost_ret (v := .bool true) (by simp [results, Tryd.results3, go_sem]) rfl ⟨rfl, HBM.out⟩
end C
end Go.Proofs.YtbhfhekjcnnfeaaDoor
