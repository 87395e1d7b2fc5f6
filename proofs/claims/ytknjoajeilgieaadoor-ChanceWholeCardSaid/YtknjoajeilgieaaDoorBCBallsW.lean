/- ChanceBalls: the walk. -/
import Derived.Test.YtknjoajeilgieaaDoorBCBall
import Derived.Test.YtknjoajeilgieaaDoorBCFewerW
import Derived.Test.YtknjoajeilgieaaDoorB11
import Derived.Test.YtknjoajeilgieaaDoorBRefSub
import Derived.Test.YtknjoajeilgieaaDoorBRefSum
namespace Go.Proofs.YtknjoajeilgieaaDoor
open Go Go.RowKit Go.Shelf

namespace C
open G (Box IRow Dice)
theorem fit_num {x : Nat} {e : Ending} {W : World} (h : NatRes x e W) (hl : (M.dig x).length ≤ 200) : ∃ a c, e = .returned (.tuple #[.agg #[.slice a (M.dig x).length c], .int .i64 0]) ∧ Row W a (M.dig x) c := by
  obtain ⟨v, rfl, a, c, rfl, hr⟩ := h.ok hl
  exact ⟨a, c, rfl, hr⟩
theorem of_num (N : Nat) (W : World) (hN : N ≤ 9223372036854775807) : Calls Tryd.prog 17 #[.int .i64 (N : Int)] W fun e W' => NumE N e W' ∧ Below W.heap.size W W' :=
  (rof_any N W hN).mono fun e W' ⟨v, h1, ⟨a, c, hv, hr⟩, h3⟩ => ⟨⟨a, c, by rw [h1, hv], hr⟩, h3⟩
set_option maxRecDepth 100000 in
set_option maxHeartbeats 4000000 in
/-- **ChanceBalls** -/
theorem balls_any (a : Option Addr) (cap : Nat) (ts : List Int) (w : World) (hR : IRow w a ts cap) :
    Calls Tryd.prog 7 #[.slice a ts.length cap] w fun e W => e = .returned (.bool true) ∧ Below w.heap.size w W := by
  have hroom := hR.room
  have hmost := hR.most
  by_cases h400 : (ts.length : Int) ≤ 400
  case neg =>
    have hd : decide ((ts.length : Int) ≤ 400) = false := by simpa using h400
    have HL := Lib.hid (G.light_any a ts.length cap w)
    rw [hd] at HL
    clear hd hR
    go_enter Tryd.func7, Tryd.ntmps7
    go_wp2_with fail
    refine HL.out.mono ?_
    rintro e w1 ⟨rfl, rfl⟩
    go_wp2_with fail
    refine (awake_yes _).mono ?_
    rintro e w2 ⟨rfl, hb2⟩
    go_wp2_with fail
    exact bodyPost_ret (v := .bool true) (by simp [results, Tryd.results7, go_sem]) rfl ⟨rfl, hb2⟩
  case pos =>
    have hd : decide ((ts.length : Int) ≤ 400) = true := by simpa using h400
    have HL := Lib.hid (G.light_any a ts.length cap w)
    rw [hd] at HL
    have HRO := Lib.hid (G.roll_any a cap ts w hR (by omega))
    clear hd hR
    go_enter Tryd.func7, Tryd.ntmps7
    go_wp2_with fail
    refine HL.out.mono ?_
    rintro e w1 ⟨rfl, rfl⟩
    go_wp2_with fail
    refine HRO.out.mono ?_
    rintro e w1 ⟨rfl, hd1, hb1⟩
    have HB1 := Lib.hid hb1
    have HN1 := Lib.hid (show Calls Tryd.prog 26 #[.pointer (some ⟨w.heap.size, 0, none⟩), .int .i64 4] w1 (G.NextPost w1 w.heap.size a cap ts 4) from G.next_any w1 w.heap.size a cap ts 0 4 (by omega) (by omega) hd1)
    clear hd1 hb1 HL HRO
    go_wp2_with fail
    (with_reducible refine HN1.out.mono ?_)
    rintro e w2 ⟨r, k2, hr, rfl, hd2, hg2⟩
    have HB2 := Lib.hid (below_dice' HB1.out hg2 (Nat.le_refl _) HB1.out.size)
    have HN2 := Lib.hid (show Calls Tryd.prog 26 #[.pointer (some ⟨w.heap.size, 0, none⟩), .int .i64 5] w2 (G.NextPost w2 w.heap.size a cap ts 5) from G.next_any w2 w.heap.size a cap ts k2 5 (by omega) (by omega) hd2)
    obtain ⟨D, hD⟩ : ∃ D, 1 + r = D := ⟨_, rfl⟩
    have hDI : 1 + (r : Int) = (D : Int) := by omega
    have hD1 : 1 ≤ D := by omega
    have hD2 : D ≤ 4 := by omega
    have hwD : IntKind.i64.wrap (D : Int) = (D : Int) := by rw [IntKind.wrap_i64]; omega
    clear hd2 hg2 HN1 HB1 hD hr
    go_wp2_with fail
    (with_reducible refine HN2.out.mono ?_)
    rintro e w3 ⟨s, k3, hs, rfl, hd3, hg3⟩
    have hbw3 := below_dice' HB2.out hg3 (Nat.le_refl _) HB2.out.size
    obtain ⟨C, hC⟩ : ∃ C, 1 + s = C := ⟨_, rfl⟩
    have hCI : 1 + (s : Int) = (C : Int) := by omega
    have hC1 : 1 ≤ C := by omega
    have hC2 : C ≤ 5 := by omega
    have hwC : IntKind.i64.wrap (C : Int) = (C : Int) := by rw [IntKind.wrap_i64]; omega
    obtain ⟨pc, u4, w4, hpc, hu4, hst, hbx4, hb34, hpl4⟩ := CS.new_code w3 D C 0
    obtain ⟨Wa, Wb, Wc, e1, e2, e3, e4, f1, f2, f3, f4, f5, f6, f7, f8⟩ := hst
    have e4' : Wc.setCell ⟨pc, 3, none⟩ (.int .i64 0) = w4 := e4
    have HX4 := Lib.hid (show CBox w4 pc D C 0 from hbx4)
    have HB4 := Lib.hid (hbw3.trans (hb34.mono hbw3.size))
    obtain ⟨h, hh⟩ : ∃ h, C / 2 = h := ⟨_, rfl⟩
    have hhI : (C : Int) / 2 = (h : Int) := by omega
    have hhT : Int.tdiv (C : Int) 2 = (h : Int) := by rw [Int.tdiv_eq_ediv_of_nonneg (by omega)]; omega
    have hdp : w.heap.size < pc := by have := hd3.lt; omega
    have HN4 := Lib.hid (show Calls Tryd.prog 26 #[.pointer (some ⟨w.heap.size, 0, none⟩), .int .i64 ((h : Int) + 1)] w4 (G.NextPost w4 w.heap.size a cap ts (h + 1)) from G.next_any w4 w.heap.size a cap ts k3 (h + 1) (by omega) (by omega) (hd3.below hb34))
    obtain ⟨q0, q1, q2, q3⟩ := HX4.out.at
    have hwh : IntKind.i64.wrap ((h : Int) + 1) = (h : Int) + 1 := by rw [IntKind.wrap_i64]; omega
    clear hd3 hg3 hbw3 hb34 hbx4 HN2 HB2 hC hs e4
    go_wp2_with fail
    (with_reducible refine HN4.out.mono ?_)
    rintro e w5 ⟨F, k5, hF, rfl, _, hg5⟩
    have hx5 := G.Box.grown HX4.out hg5 (by intro e; cases e; omega)
    have j3 := hx5.cell 3 rfl
    have j3f := hx5.free 3
    have hx6 := hx5.set 3 (.int .i64 (F : Int))
    obtain ⟨w6, hw6⟩ : ∃ w6, w5.setCell ⟨pc, 3, none⟩ (.int .i64 (F : Int)) = w6 := ⟨_, rfl⟩
    have hb6 : Below w.heap.size w w6 := by rw [← hw6]; exact (below_dice' HB4.out hg5 (Nat.le_refl _) HB4.out.size).setCell (p := ⟨pc, 3, none⟩) (by show w.heap.size ≤ pc; omega) _
    rw [hw6] at hx6
    have HX6 := Lib.hid (show CBox w6 pc D C F from hx6)
    have HB6 := Lib.hid hb6
    have hpl6 := hx6.lt
    obtain ⟨s0, s1, s2, s3⟩ := HX6.out.at
    obtain ⟨n, hn⟩ : ∃ n, D + C = n := ⟨_, rfl⟩
    have hnI : (D : Int) + (C : Int) = (n : Int) := by omega
    have hwn : IntKind.i64.wrap (n : Int) = (n : Int) := by rw [IntKind.wrap_i64]; omega
    have hn9 : n ≤ 9 := by omega
    have HBO := Lib.hid (show BOk D C F from ⟨hD1, hD2, hC1, hC2, by omega⟩)
    have HOK := Lib.hid (show Ok D C F from ⟨hD1, by omega, hC1, by omega, by omega⟩)
    have hFn : F ≤ n := by omega
    have hF4 : F ≤ 4 := by omega
    have HEQ := Lib.hid (show wsum n C F (n + 1) = (256 ^ D - 1) * bsum n F (n + 1) ∧ wsum n C F (n + 1) < 2 ^ 200 from by have := balls_eq HBO.out; rwa [hn] at this)
    have HWL := Lib.hid (show ∀ k, k ≤ n + 1 → wsum n C F k < 2 ^ 200 from fun k hk => by have := wsum_lt (k := k) HBO.out (by omega); rwa [hn] at this)
    have HRL := Lib.hid (show ∀ k, k ≤ n → wrongN n C k F < 2 ^ 200 from fun k hk => by have := wrong_lt (k := k) HBO.out (by omega); rwa [hn] at this)
    have HWR := Lib.hid (fun (k : Nat) (hk : k ≤ n) W => (show Calls Tryd.prog 22 #[.agg #[.int .i64 2, .int .i64 (D : Int), .int .i64 (C : Int), .int .i64 (F : Int)], .int .i64 (k : Int)] W fun e W' => NumE (wrongN n C k F) e W' ∧ Below W.heap.size W W' from by
      have h := wrong_any HOK.out k (by omega) W
      rw [hn] at h
      exact h))
    have HER := Lib.hid (fun (k : Nat) (hk : k ≤ n) W => (show Calls Tryd.prog 20 #[.agg #[.int .i64 2, .int .i64 (D : Int), .int .i64 (C : Int), .int .i64 (F : Int)], .int .i64 (k : Int)] W fun e W' => NumE (errN n k) e W' ∧ Below W.heap.size W W' from by
      have h := errors_any HOK.out k (by omega) W
      rw [hn] at h
      exact h))
    have hz7 := Bx.zero w6
    obtain ⟨w7, hw7⟩ : ∃ w7, w6.alloc (.cells #[.slice none 0 0] 24) = w7 := ⟨_, rfl⟩
    have hb67 : Below w6.heap.size w6 w7 := by rw [← hw7]; exact (Below.refl _ w6).alloc (Nat.le_refl _) _
    have hs7 : w7.heap.size = w6.heap.size + 1 := by rw [← hw7]; exact World.size_alloc _ _
    have hz8 := Bx.zero w7
    obtain ⟨w8, hw8⟩ : ∃ w8, w7.alloc (.cells #[.slice none 0 0] 24) = w8 := ⟨_, rfl⟩
    have hb78 : Below w7.heap.size w7 w8 := by rw [← hw8]; exact (Below.refl _ w7).alloc (Nat.le_refl _) _
    obtain ⟨ps, hps⟩ : ∃ p, w6.heap.size = p := ⟨_, rfl⟩
    obtain ⟨pb, hpb⟩ : ∃ p, w7.heap.size = p := ⟨_, rfl⟩
    rw [hw7, hps] at hz7
    rw [hw8, hpb] at hz8
    have hsb : ps ≠ pb := by omega
    have hcs : pc ≠ ps := by omega
    have hcb : pc ≠ pb := by omega
    have hs6 := HB6.out.size
    have hws : w.heap.size ≤ ps := by omega
    have hwb : w.heap.size ≤ pb := by omega
    have HS8 := Lib.hid (hz7.below hb78)
    have HP8 := Lib.hid hz8
    have HX8 := Lib.hid ((HX6.out.below hb67).below hb78)
    have HB8 := Lib.hid ((HB6.out.trans (hb67.mono (by omega))).trans (hb78.mono (by omega)))
    clear hx5 hx6 hb6 hg5 HX4 HB4 HN4 hF hz7 hz8 hb67 hb78 hs7 hs6 HX6 HB6 HBO HOK hn q0 q1 q2 q3
    go_wp2_with fail
    go_loopw [8] (fun i wr => ∃ k : Nat, i = .int .i64 (k : Int) ∧ k ≤ n + 1 ∧ Hid (Bx wr ps (wsum n C F k)) ∧ Hid (Bx wr pb (bsum n F k)) ∧ Hid (CBox wr pc D C F) ∧ Hid (Below w.heap.size w wr)) (fun i _ => n + 1 - (intOf i).toNat)
    case atStart => exact ⟨0, rfl, Nat.zero_le _, HS8, HP8, HX8, HB8⟩
    case round => as_aux_lemma =>
      clear HS8 HP8 HX8 HB8
      obtain ⟨k, rfl, hk, HS, HP, HX, HB⟩ := hrel
      obtain ⟨q0, q1, q2, q3⟩ := HX.out.at
      by_cases hlt : k ≤ n
      · have hkI : (k : Int) ≤ (n : Int) := by omega
        have HW1 := Lib.hid (HWR.out k hlt wr)
        have hl1 := HRL.out k hlt
        have hl2 := errN_lt hn9 hlt
        have hl3 := HWL.out (k + 1) (by omega)
        have hl4 := HWL.out k (by omega)
        have hl5 := bsum_lt (n := n) (F := F) (k := k + 1) hn9 hF4 hFn
        have hl6 := bsum_lt (n := n) (F := F) (k := k) hn9 hF4 hFn
        rw [wsum_succ] at hl3
        have hst : wsum n C F (k + 1) = wsum n C F k + wrongN n C k F := rfl
        have HER1 := Lib.hid (HER.out k hlt)
        have hby : k ≤ F → bsum n F (k + 1) = bsum n F k + errN n k := bsum_yes
        have hbn : ¬ k ≤ F → bsum n F (k + 1) = bsum n F k := bsum_no
        obtain ⟨x, hx⟩ : ∃ x, wrongN n C k F = x := ⟨_, rfl⟩
        obtain ⟨y, hy⟩ : ∃ y, errN n k = y := ⟨_, rfl⟩
        obtain ⟨S, hS⟩ : ∃ S, wsum n C F k = S := ⟨_, rfl⟩
        obtain ⟨B, hB'⟩ : ∃ B, bsum n F k = B := ⟨_, rfl⟩
        rw [hx] at HW1 hl1 hl3 hst
        rw [hy] at HER1 hl2 hby
        rw [hS] at HS hl3 hl4 hst
        rw [hB'] at HP hl6 hby hbn
        have HLN := Lib.hid (And.intro (len100 hl1) (And.intro (len100 hl2) (And.intro (len100 hl3) (And.intro (len100 hl4) (len100 hl6)))))
        have HL5 := Lib.hid (len100 hl5)
        have HST := Lib.hid hst
        have HBY := Lib.hid hby
        have HBN := Lib.hid hbn
        clear hx hy hS hB' hl1 hl2 hl3 hl4 hl5 hl6 hst hby hbn
        go_wp2_with fail
        (with_reducible refine HW1.out.mono ?_)
        rintro e w9 ⟨⟨s9, c9, rfl, hr9⟩, hb9⟩
        have hv9 := Var.new hr9
        obtain ⟨pa, hpa⟩ : ∃ p, w9.heap.size = p := ⟨_, rfl⟩
        obtain ⟨wA, hwA⟩ : ∃ wA, w9.alloc (.cells #[.slice s9 (M.dig x).length c9] 24) = wA := ⟨_, rfl⟩
        have hbw : Below w9.heap.size w9 wA := by rw [← hwA]; exact (Below.refl _ w9).alloc (Nat.le_refl _) _
        rw [hwA, hpa] at hv9
        have hbA := hb9.trans (hbw.mono hb9.size)
        have VX := Lib.hid hv9
        have HSA := Lib.hid (HS.out.below hbA)
        have HPA := Lib.hid (HP.out.below hbA)
        have HXA := Lib.hid (HX.out.below hbA)
        have HBA := Lib.hid (HB.out.trans (hbA.mono HB.out.size))
        obtain ⟨r0, r1, r2, r3⟩ := HXA.out.at
        clear hr9 hv9 hb9 hbw hbA HS HP HX HB HW1 q0 q1 q2 q3
        go_wp2_with fail
        (with_reducible refine (HER1.out _).mono ?_)
        rintro e wB ⟨⟨sB, cB, rfl, hrB⟩, hbB⟩
        have hvB := Var.new hrB
        obtain ⟨pk, hpk⟩ : ∃ p, wB.heap.size = p := ⟨_, rfl⟩
        have hsk : ps < pk := by have h1 := HSA.out.lt; have h2 := hbB.size; omega
        obtain ⟨wC, hwC⟩ : ∃ wC, wB.alloc (.cells #[.slice sB (M.dig y).length cB] 24) = wC := ⟨_, rfl⟩
        have hbw : Below wB.heap.size wB wC := by rw [← hwC]; exact (Below.refl _ wB).alloc (Nat.le_refl _) _
        rw [hwC, hpk] at hvB
        have hbC := hbB.trans (hbw.mono hbB.size)
        have VY := Lib.hid hvB
        have VXC := Lib.hid (VX.out.below hbC)
        have HSC := Lib.hid (HSA.out.below hbC)
        have HPC := Lib.hid (HPA.out.below hbC)
        have HXC := Lib.hid (HXA.out.below hbC)
        have HBC := Lib.hid (HBA.out.trans (hbC.mono HBA.out.size))
        have cx := VXC.out.cell
        have cy := VY.out.cell
        obtain ⟨aS, dS, cS, rS⟩ := HSC.out.cell
        have lx : ¬ (100 : Int) < ((M.dig x).length : Int) := by have := HLN.out.1; omega
        have ly : ¬ (100 : Int) < ((M.dig y).length : Int) := by have := HLN.out.2.1; omega
        have HAD := Lib.hid ((radd_num (u := .agg #[.slice aS (M.dig S).length dS]) (v := .agg #[.slice s9 (M.dig x).length c9]) (w := wC) (x := S) (y := x) (Nat.le_trans HLN.out.2.2.2.1 (by omega)) (Nat.le_trans HLN.out.1 (by omega)) ⟨aS, dS, rfl, rS⟩ ⟨s9, c9, rfl, VXC.out.row⟩).mono (fun e W' h => And.intro (fit_num h.1 (Nat.le_trans HLN.out.2.2.1 (by omega))) h.2))
        clear hrB hvB hbB hbw hbC VX HSA HPA HXA HBA HER1 r0 r1 r2 r3 rS
        go_wp2_with fail
        (with_reducible refine HAD.out.mono ?_)
        rintro e wD ⟨⟨aD, cD, rfl, hrD⟩, hbD⟩
        have hsD := HSC.out.below hbD
        obtain ⟨_, _, d1, _⟩ := hsD.cell
        have d2 := hsD.free
        obtain ⟨wE, hwE⟩ : ∃ wE, wD.setCell ⟨ps, 0, none⟩ (.slice aD (M.dig (S + x)).length cD) = wE := ⟨_, rfl⟩
        have hsE := hsD.store hrD
        have hpE := (HPC.out.below hbD).other hsD hsb.symm (.slice aD (M.dig (S + x)).length cD)
        have hxE := G.Box.other (HXC.out.below hbD) (q := ⟨ps, 0, none⟩) (by show ps ≠ pc; omega) (.slice aD (M.dig (S + x)).length cD)
        have hbE := ((HBC.out.trans (hbD.mono HBC.out.size)).setCell (p := ⟨ps, 0, none⟩) hws (.slice aD (M.dig (S + x)).length cD))
        have hyE : wE.cell? ⟨pk, 0, none⟩ = some (.slice sB (M.dig y).length cB) := by
          rw [← hwE, cell_other _ (show pk ≠ ps by omega)]
          exact (hbD.cell (lt_of_cell cy)).trans cy
        have hryE : Row wE sB (M.dig y) cB := by rw [← hwE]; exact (VY.out.row.below hbD).store d1 _
        rw [hwE] at hsE hpE hxE hbE
        have HSE := Lib.hid hsE
        have HPE := Lib.hid hpE
        have HXE := Lib.hid (show CBox wE pc D C F from hxE)
        have HBE := Lib.hid hbE
        have HRY := Lib.hid hryE
        obtain ⟨t0, t1, t2, t3⟩ := HXE.out.at
        clear hrD hbD hsD hsE hpE hxE hbE hryE HSC HPC HXC HBC VXC VY HAD cx cy cS
        by_cases hkF : k ≤ F
        · have hkFI : (k : Int) ≤ (F : Int) := by omega
          obtain ⟨aP, dP, cP, rP⟩ := HPE.out.cell
          have hl5 := HL5.out
          rw [HBY.out hkF] at hl5
          have HAE := Lib.hid ((radd_num (u := .agg #[.slice aP (M.dig B).length dP]) (v := .agg #[.slice sB (M.dig y).length cB]) (w := wE) (x := B) (y := y) (Nat.le_trans HLN.out.2.2.2.2 (by omega)) (Nat.le_trans HLN.out.2.1 (by omega)) ⟨aP, dP, rfl, rP⟩ ⟨sB, cB, rfl, HRY.out⟩).mono (fun e W' h => And.intro (fit_num h.1 (Nat.le_trans hl5 (by omega))) h.2))
          clear rP hl5
          go_wp2_with fail
          (with_reducible refine HAE.out.mono ?_)
          rintro e wF ⟨⟨aF, cF, rfl, hrF⟩, hbF⟩
          have hpF := HPE.out.below hbF
          obtain ⟨_, _, v1, _⟩ := hpF.cell
          have v2 := hpF.free
          have HPG := Lib.hid (hpF.store hrF)
          have HSG := Lib.hid ((HSE.out.below hbF).other hpF hsb (.slice aF (M.dig (B + y)).length cF))
          have HXG := Lib.hid (show CBox (wF.setCell ⟨pb, 0, none⟩ (.slice aF (M.dig (B + y)).length cF)) pc D C F from G.Box.other (HXE.out.below hbF) (q := ⟨pb, 0, none⟩) (by show pb ≠ pc; omega) (.slice aF (M.dig (B + y)).length cF))
          have HBG := Lib.hid ((HBE.out.trans (hbF.mono HBE.out.size)).setCell (p := ⟨pb, 0, none⟩) hwb (.slice aF (M.dig (B + y)).length cF))
          clear hrF hbF hpF HSE HPE HXE HBE HAE hyE t0 t1 t2 t3 cP
          go_wp2_with fail
          go_roundw
          case rel => exact ⟨k + 1, by go_num, by omega, Lib.hid (by rw [HST.out]; exact HSG.out), Lib.hid (by rw [HBY.out hkF]; exact HPG.out), HXG, HBG⟩
          case measure => simp [intOf]; omega
        · have hkFI : ¬ (k : Int) ≤ (F : Int) := by omega
          go_wp2_with fail
          go_roundw
          case rel => exact ⟨k + 1, by go_num, by omega, Lib.hid (by rw [HST.out]; exact HSE.out), Lib.hid (by rw [HBN.out hkF]; exact HPE.out), HXE, HBE⟩
          case measure => simp [intOf]; omega
      · obtain rfl : k = n + 1 := by omega
        have hkI : ¬ (((n + 1 : Nat) : Int) ≤ (n : Int)) := by omega
        obtain ⟨heq, hlt⟩ := HEQ.out
        obtain ⟨S, hS⟩ : ∃ S, wsum n C F (n + 1) = S := ⟨_, rfl⟩
        obtain ⟨B, hB'⟩ : ∃ B, bsum n F (n + 1) = B := ⟨_, rfl⟩
        have hlB := bsum_lt (n := n) (F := F) (k := n + 1) hn9 hF4 hFn
        rw [hS] at heq hlt HS
        rw [hB'] at heq hlB HP
        have hpD : 256 ^ D < 2 ^ 200 := by rw [pow256]; exact Nat.pow_lt_pow_right (by omega) (by omega)
        have hp1 : 1 ≤ 256 ^ D := Nat.pow_pos (by omega)
        obtain ⟨P, hP⟩ : ∃ P, 256 ^ D = P := ⟨_, rfl⟩
        rw [hP] at heq hpD hp1
        have hlP1 : P - 1 < 2 ^ 200 := by omega
        have HLN := Lib.hid (And.intro (len100 hlt) (And.intro (len100 hlB) (And.intro (len100 hpD) (len100 hlP1))))
        have HE := Lib.hid heq
        have HPD := Lib.hid hP
        have HO1 := Lib.hid (fun W => (show Calls Tryd.prog 17 #[.int .i64 256] W (fun e W' => NumE 256 e W' ∧ Below W.heap.size W W') from of_num 256 W (by omega)))
        have HO2 := Lib.hid (fun W => (show Calls Tryd.prog 17 #[.int .i64 1] W (fun e W' => NumE 1 e W' ∧ Below W.heap.size W W') from of_num 1 W (by omega)))
        clear hS hB' hlB hlt heq hpD hP hlP1 HEQ HWL HRL HWR HER
        go_wp2_with fail
        (with_reducible refine (HO1.out _).mono ?_)
        rintro e wA ⟨⟨sA, cA, rfl, hr⟩, hb⟩
        have hv := Var.new hr
        obtain ⟨pA, hpA⟩ : ∃ p, wA.heap.size = p := ⟨_, rfl⟩
        obtain ⟨wB, hwB⟩ : ∃ wB, wA.alloc (.cells #[.slice sA (M.dig 256).length cA] 24) = wB := ⟨_, rfl⟩
        have hbw : Below wA.heap.size wA wB := by rw [← hwB]; exact (Below.refl _ wA).alloc (Nat.le_refl _) _
        rw [hwB, hpA] at hv
        have hb2 := hb.trans (hbw.mono hb.size)
        have V256 := Lib.hid hv
        have HSB := Lib.hid (HS.out.below hb2)
        have HPB := Lib.hid (HP.out.below hb2)
        have HXB := Lib.hid (HX.out.below hb2)
        have HBB := Lib.hid (HB.out.trans (hb2.mono HB.out.size))
        clear hr hv hb hbw hb2 HS HP HX HB HO1 q0 q1 q2 q3
        go_wp2_with fail
        (with_reducible refine (HO2.out _).mono ?_)
        rintro e wC ⟨⟨sC, cC, rfl, hr⟩, hb⟩
        have hv := Var.new hr
        obtain ⟨pC, hpC⟩ : ∃ p, wC.heap.size = p := ⟨_, rfl⟩
        obtain ⟨wD, hwD'⟩ : ∃ wD, wC.alloc (.cells #[.slice sC (M.dig 1).length cC] 24) = wD := ⟨_, rfl⟩
        have hbw : Below wC.heap.size wC wD := by rw [← hwD']; exact (Below.refl _ wC).alloc (Nat.le_refl _) _
        rw [hwD', hpC] at hv
        have hb2 := hb.trans (hbw.mono hb.size)
        have V1 := Lib.hid hv
        have V256D := Lib.hid (V256.out.below hb2)
        have HSD := Lib.hid (HSB.out.below hb2)
        have HPD' := Lib.hid (HPB.out.below hb2)
        have HXD := Lib.hid (HXB.out.below hb2)
        have HBD := Lib.hid (HBB.out.trans (hb2.mono HBB.out.size))
        obtain ⟨q0, q1, q2, q3⟩ := HXD.out.at
        have c256 := V256D.out.cell
        have HPOW := Lib.hid ((rpower_any sA cA 256 D wD (small_len (by decide)) (by omega) V256D.out.row).mono (fun e W' h => And.intro (fit_num h.1 (by rw [HPD.out]; exact Nat.le_trans HLN.out.2.2.1 (by omega))) h.2))
        rw [HPD.out] at HPOW
        clear hr hv hb hbw hb2 HSB HPB HXB HBB HO2 V256
        go_wp2_with fail
        (with_reducible refine HPOW.out.mono ?_)
        rintro e wE ⟨⟨sE, cE, rfl, hr⟩, hb⟩
        have hv := Bx.new hr
        obtain ⟨pE, hpE⟩ : ∃ p, wE.heap.size = p := ⟨_, rfl⟩
        obtain ⟨wF, hwF⟩ : ∃ wF, wE.alloc (.cells #[.slice sE (M.dig P).length cE] 24) = wF := ⟨_, rfl⟩
        have hbw : Below wE.heap.size wE wF := by rw [← hwF]; exact (Below.refl _ wE).alloc (Nat.le_refl _) _
        have hcE : wF.cell? ⟨pE, 0, none⟩ = some (.slice sE (M.dig P).length cE) := by rw [← hwF, ← hpE]; exact cell_new _ _ _
        rw [hwF, hpE] at hv
        have hb2 := hb.trans (hbw.mono hb.size)
        have HQ := Lib.hid hv
        have V1F := Lib.hid (V1.out.below hb2)
        have c1 := V1F.out.cell
        have HSF := Lib.hid (HSD.out.below hb2)
        have HPF := Lib.hid (HPD'.out.below hb2)
        have HBF := Lib.hid (HBD.out.trans (hb2.mono HBD.out.size))
        have hlS := HSD.out.lt
        have hlP := HPD'.out.lt
        have hlE : wD.heap.size ≤ wE.heap.size := hb.size
        have hpw : w.heap.size ≤ pE := by have := HBD.out.size; omega
        have hne1 : ps ≠ pE := by omega
        have hne2 : pb ≠ pE := by omega
        have HSUB := Lib.hid ((rsub_num (u := .agg #[.slice sE (M.dig P).length cE]) (v := .agg #[.slice sC (M.dig 1).length cC]) (w := wF) (x := P) (y := 1) (Nat.le_trans HLN.out.2.2.1 (by omega)) (small_len (by decide)) hp1 ⟨sE, cE, rfl, hr.below hbw⟩ ⟨sC, cC, rfl, V1F.out.row⟩).mono (fun e W' h => And.intro (fit_num h.1 (Nat.le_trans HLN.out.2.2.2 (by omega))) h.2))
        clear hr hv hb hbw hb2 HSD HPD' HXD HBD HPOW V256D V1 c256 q0 q1 q2 q3 hlS hlP hlE
        go_wp2_with fail
        (with_reducible refine HSUB.out.mono ?_)
        rintro e wG ⟨⟨sG, cG, rfl, hr⟩, hb⟩
        have hq := HQ.out.below hb
        obtain ⟨_, _, d1, _⟩ := hq.cell
        have d2 := hq.free
        obtain ⟨wH, hwH⟩ : ∃ wH, wG.setCell ⟨pE, 0, none⟩ (.slice sG (M.dig (P - 1)).length cG) = wH := ⟨_, rfl⟩
        have hqH := hq.store hr
        have hsH := (HSF.out.below hb).other hq hne1 (.slice sG (M.dig (P - 1)).length cG)
        have hpH := (HPF.out.below hb).other hq hne2 (.slice sG (M.dig (P - 1)).length cG)
        have hbH := (HBF.out.trans (hb.mono HBF.out.size)).setCell (p := ⟨pE, 0, none⟩) hpw (.slice sG (M.dig (P - 1)).length cG)
        rw [hwH] at hqH hsH hpH hbH
        have HSH := Lib.hid hsH
        have HBH := Lib.hid hbH
        obtain ⟨aQ, dQ, cQ, rQ⟩ := hqH.cell
        obtain ⟨aP, dP, cP, rP⟩ := hpH.cell
        have HMU := Lib.hid ((rmul_num (u := .agg #[.slice aQ (M.dig (P - 1)).length dQ]) (v := .agg #[.slice aP (M.dig B).length dP]) (w := wH) (x := P - 1) (y := B) (Nat.le_trans HLN.out.2.2.2 (by omega)) (Nat.le_trans HLN.out.2.1 (by omega)) ⟨aQ, dQ, rfl, rQ⟩ ⟨aP, dP, rfl, rP⟩).mono (fun e W' h => And.intro (fit_num h.1 (by rw [← HE.out]; exact Nat.le_trans HLN.out.1 (by omega))) h.2))
        rw [← HE.out] at HMU
        clear hr hb hq hqH hsH hpH hbH HQ HSF HPF HBF V1F c1 HSUB rQ rP hcE
        go_wp2_with fail
        (with_reducible refine HMU.out.mono ?_)
        rintro e wI ⟨⟨sI, cI, rfl, hr⟩, hb⟩
        have hv := Var.new hr
        obtain ⟨pI, hpI⟩ : ∃ p, wI.heap.size = p := ⟨_, rfl⟩
        obtain ⟨wJ, hwJ⟩ : ∃ wJ, wI.alloc (.cells #[.slice sI (M.dig S).length cI] 24) = wJ := ⟨_, rfl⟩
        have hbw : Below wI.heap.size wI wJ := by rw [← hwJ]; exact (Below.refl _ wI).alloc (Nat.le_refl _) _
        rw [hwJ, hpI] at hv
        have hb2 := hb.trans (hbw.mono hb.size)
        have VI := Lib.hid hv
        have HSJ := Lib.hid (HSH.out.below hb2)
        have HBJ := Lib.hid (HBH.out.trans (hb2.mono HBH.out.size))
        clear hr hv hb hbw hb2 HSH HBH HMU cQ cP d1 d2
        go_wp2_with fail
        refine (awake_yes _).mono ?_
        rintro e wK ⟨rfl, hbK⟩
        have VIK := Lib.hid (VI.out.below hbK)
        have cI' := VIK.out.cell
        obtain ⟨aS, dS, cS, rS⟩ := (HSJ.out.below hbK).cell
        have HSA := Lib.hid (same_num (n := S) (w := wK) ⟨aS, dS, rfl, rS⟩ ⟨sI, cI, rfl, VIK.out.row⟩)
        have HBK := Lib.hid (HBJ.out.trans (hbK.mono HBJ.out.size))
        clear hbK VI HSJ HBJ rS
        go_wp2_with fail
        (with_reducible refine HSA.out.mono ?_)
        rintro e wL ⟨rfl, hbL⟩
        have HBL := Lib.hid (HBK.out.trans (hbL.mono HBK.out.size))
        clear hbL
        go_wp2_with fail
        exact bodyPost_ret (v := .bool true) (by simp [results, Tryd.results7, go_sem]) rfl ⟨rfl, HBL.out⟩
end C
end Go.Proofs.YtknjoajeilgieaaDoor
