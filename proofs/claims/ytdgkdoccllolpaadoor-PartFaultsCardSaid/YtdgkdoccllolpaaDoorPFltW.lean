/- PartFaults: the walk. -/
import Derived.Test.YtdgkdoccllolpaaDoorPFltK
import Derived.Test.YtdgkdoccllolpaaDoorPFltM
import Derived.Test.YtdgkdoccllolpaaDoorQuietW
import Derived.Test.YtdgkdoccllolpaaDoorPEql
import Derived.Deep.RegionHeld3
import Derived.Deep.DeepMust
import Derived.Deep.DeepCutAuto
namespace Go.Proofs.YtdgkdoccllolpaaDoor.P
open Go Go.RowKit Go.Shelf
open G
theorem fc_of {W : World} {p5 p6 p7 : Nat} {y z q : Nat → Int} (h5 : Six W p5 24 y) (h6 : Six W p6 24 q) (h8 : Box W (p7 + 1) 52 (vs8 (fm y z 7))) {b1 b2 b3 b4 : Bool} (e1 : covB 1 y z = b1) (e2 : covB 2 y z = b2) (e3 : covB 3 y z = b3) (e4 : covB 4 y z = b4) : W.cell? ⟨p5, 0, none⟩ = some (.int .i64 (y 0)) ∧ W.cell? ⟨p5, 1, none⟩ = some (.int .i64 (y 1)) ∧ W.cell? ⟨p5, 2, none⟩ = some (.int .i64 (y 2)) ∧ W.cell? ⟨p5, 3, none⟩ = some (.int .i64 (y 3)) ∧ W.cell? ⟨p5, 4, none⟩ = some (.int .i64 (y 4)) ∧ W.cell? ⟨p5, 5, none⟩ = some (.int .i64 (y 5)) ∧ W.cell? ⟨p6, 0, none⟩ = some (.int .i64 (q 0)) ∧ W.cell? ⟨p6, 1, none⟩ = some (.int .i64 (q 1)) ∧ W.cell? ⟨p6, 2, none⟩ = some (.int .i64 (q 2)) ∧ W.cell? ⟨p6, 3, none⟩ = some (.int .i64 (q 3)) ∧ W.cell? ⟨p6, 4, none⟩ = some (.int .i64 (q 4)) ∧ W.cell? ⟨p6, 5, none⟩ = some (.int .i64 (q 5)) ∧ W.cell? ⟨p7 + 1, 1, none⟩ = some (.bool b1) ∧ W.cell? ⟨p7 + 1, 2, none⟩ = some (.bool b2) ∧ W.cell? ⟨p7 + 1, 3, none⟩ = some (.bool b3) ∧ W.cell? ⟨p7 + 1, 4, none⟩ = some (.bool b4) := by
  obtain ⟨y0, y1, y2, y3, y4, y5⟩ := h5.all
  obtain ⟨z0, z1, z2, z3, z4, z5⟩ := h6.all
  refine ⟨y0, y1, y2, y3, y4, y5, z0, z1, z2, z3, z4, z5, ?_, ?_, ?_, ?_⟩
  · rw [← e1, show (1 : Int) = ((1 : Nat) : Int) from rfl, ← fm_all y z (j := 1) (by decide)]; exact Box.cell h8 1 (vs8_at _ 1 (by decide))
  · rw [← e2, show (2 : Int) = ((2 : Nat) : Int) from rfl, ← fm_all y z (j := 2) (by decide)]; exact Box.cell h8 2 (vs8_at _ 2 (by decide))
  · rw [← e3, show (3 : Int) = ((3 : Nat) : Int) from rfl, ← fm_all y z (j := 3) (by decide)]; exact Box.cell h8 3 (vs8_at _ 3 (by decide))
  · rw [← e4, show (4 : Int) = ((4 : Nat) : Int) from rfl, ← fm_all y z (j := 4) (by decide)]; exact Box.cell h8 4 (vs8_at _ 4 (by decide))
set_option maxRecDepth 100000 in
set_option maxHeartbeats 40000000 in
/-- **PartFaults** -/
theorem faults_any (a : Option Addr) (cap : Nat) (ts : List Int) (w : World) (hR : IRow w a ts cap) (hT : Tab w) :
    Calls Tryd.prog 6 #[.slice a ts.length cap] w fun e W => e = .returned (.bool true) ∧ Below w.heap.size w W := by
  have HAW := Lib.hid (fun W hT => awake_any W hT)
  have HT := Lib.hid hT
  by_cases h400 : (ts.length : Int) ≤ 400
  case neg =>
    have hd : decide ((ts.length : Int) ≤ 400) = false := by simpa using h400
    have HL := Lib.hid (G.light_any a ts.length cap w)
    rw [hd] at HL
    clear hd hR hT
    go_enter Tryd.func6, Tryd.ntmps6
    go_wp2_with fail
    refine HL.out.mono ?_
    rintro e w1 ⟨rfl, rfl⟩
    go_wp2_with fail
    refine (HAW.out _ HT.out).mono ?_
    rintro e w2 ⟨rfl, hb2⟩
    go_wp2_with fail
    go_ret
    exact ⟨rfl, hb2⟩
  case pos =>
    have hd : decide ((ts.length : Int) ≤ 400) = true := by simpa using h400
    have HL := Lib.hid (G.light_any a ts.length cap w)
    rw [hd] at HL
    have HRO := Lib.hid (G.roll_any a cap ts w hR (by omega))
    clear hd hR hT
    go_enter Tryd.func6, Tryd.ntmps6
    go_wp2_with fail
    refine HL.out.mono ?_
    rintro e w1 ⟨rfl, rfl⟩
    go_wp2_with fail
    refine HRO.out.mono ?_
    rintro e w1 ⟨rfl, hd1, hb1⟩
    have HSH := Lib.hid (shape_any w1 w.heap.size a cap ts 0 8 (by decide) hd1)
    have HB1 := Lib.hid (And.intro hb1 hd1.lt)
    clear hd1 hb1 HL HRO
    go_wp2_with fail
    refine HSH.out.mono ?_
    rintro e w2 ⟨x, k2, rfl, hok, htm, hd2, hg2⟩
    have hk := LK.start (x := x) HT.out HB1.out.1 HB1.out.2 hd2 hg2
    obtain ⟨w3, hw3⟩ : ∃ w3, w2.alloc (.cells #[.int .i64 (x 0), .int .i64 (x 1), .int .i64 (x 2), .int .i64 (x 3), .int .i64 (x 4), .int .i64 (x 5)] 23) = w3 := ⟨_, rfl⟩
    rw [hw3] at hk
    obtain ⟨p, hp⟩ : ∃ p, w2.heap.size = p := ⟨_, rfl⟩
    rw [hp] at hk
    have HL0 := Lib.hid (LKB.start hk)
    have HOK := Lib.hid hok
    clear hok htm hd2 hg2 hk HSH HB1 HT
    go_upto_region 5 with fail
    go_cut [5, 6] (fun s5 s6 wx => ∃ (p5 p6 : Nat) (y z : Nat → Int), s5 = .pointer (some ⟨p5, 0, none⟩) ∧ s6 = .pointer (some ⟨p6, 0, none⟩) ∧ Six wx p5 24 y ∧ Six wx p6 24 z ∧ LKB w w.heap.size a cap ts p x w3.heap.size wx ∧ Inn x y 6 ∧ Inn x z 6)
    case first =>
      have hmx : Tryd.prog.follows .mixedOrders = true := by kernel_rfl
      refine wp_named (fun a0 ha0 => ?_)
      have HA0 := Lib.hid ha0
      clear ha0
      refine wp_region_inv hmx 10 (fun | 2 => [0, 1] | 5 => [3, 4] | 8 => [2, 5, 6, 7] | 9 => [2, 5, 6, 7] | _ => []) (fun n l act W' => ∃ (y z : Nat → Int) (b0 b1 b2 b3 b4 b5 b6 b7 b8 b9 : Bool) (s21 s22 s23 s24 s25 s26 s5 s6 : Value), l = #[b0, b1, b2, b3, b4, b5, b6, b7, b8, b9] ∧ n = nf b0 + nf b1 + nf b2 + nf b3 + nf b4 + nf b5 + nf b6 + nf b7 + nf b8 + nf b9 ∧ act = ((((((((a0.put (some 21) s21).put (some 22) s22).put (some 23) s23).put (some 24) s24).put (some 25) s25).put (some 26) s26).put (some 5) s5).put (some 6) s6) ∧ (b0 = true → s21 = .pointer (some ⟨w.heap.size, 0, none⟩)) ∧ (b1 = true → s22 = .agg #[.int .i64 (x 0), .int .i64 (x 1), .int .i64 (x 2), .int .i64 (x 3), .int .i64 (x 4), .int .i64 (x 5)]) ∧ (b2 = true → s23 = .agg #[.int .i64 (y 0), .int .i64 (y 1), .int .i64 (y 2), .int .i64 (y 3), .int .i64 (y 4), .int .i64 (y 5)]) ∧ (b2 = true → Inn x y 6) ∧ (b3 = true → s24 = .pointer (some ⟨w.heap.size, 0, none⟩)) ∧ (b4 = true → s25 = .agg #[.int .i64 (x 0), .int .i64 (x 1), .int .i64 (x 2), .int .i64 (x 3), .int .i64 (x 4), .int .i64 (x 5)]) ∧ (b5 = true → s26 = .agg #[.int .i64 (z 0), .int .i64 (z 1), .int .i64 (z 2), .int .i64 (z 3), .int .i64 (z 4), .int .i64 (z 5)]) ∧ (b5 = true → Inn x z 6) ∧ Slot W' w3.heap.size b6 s5 24 (sel b8 y) ∧ Slot W' w3.heap.size b7 s6 24 (sel b9 z) ∧ (b8 = true → b6 = true ∧ b7 = true) ∧ (b9 = true → b6 = true ∧ b7 = true) ∧ (b8 = true → b2 = true) ∧ (b9 = true → b5 = true) ∧ (b6 = true → b7 = true → s5 ≠ s6) ∧ LKB w w.heap.size a cap ts p x w3.heap.size W') (by kernel_rfl) (by kernel_rfl) ?_ ?_ ?_ ?_
      · refine ⟨(fun _ => 0), (fun _ => 0), false, false, false, false, false, false, false, false, false, false, undef, undef, undef, undef, undef, undef, undef, undef, rfl, rfl, ?_, by simp, by simp, by simp, by simp, by simp, by simp, by simp, by simp, Slot.no, Slot.no, by simp, by simp, by simp, by simp, by simp, HL0.out⟩
        rw [HA0.out]; simp only [Act.put, List.setIfInBounds_toArray, List.set_cons_zero, List.set_cons_succ]
      · rintro n l act W' ⟨y, z, b0, b1, b2, b3, b4, b5, b6, b7, b8, b9, s21, s22, s23, s24, s25, s26, s5, s6, rfl, hn, rfl, h0, h1, h2, i2, h3, h4, h5, i5, h6, h7, g0, g1, k0, k1, hne, hb⟩ hr
        have hp := h6.fin (hr 6 (by decide)) (hr 8 (by decide))
        have hq := h7.fin (hr 7 (by decide)) (hr 9 (by decide))
        have HIY := Lib.hid (i2 (hr 2 (by decide)))
        have HIZ := Lib.hid (i5 (hr 5 (by decide)))
        have HB := Lib.hid hb
        clear hn hr h0 h1 h2 i2 h3 h4 h5 i5 h6 h7 g0 g1 k0 k1 hne hb
        cases hp with
        | intro p5 hp =>
        cases hq with
        | intro p6 hq =>
        have e5 := hp.1
        have e6 := hq.1
        have HP := Lib.hid hp.2
        have HQ := Lib.hid hq.2
        clear hp hq
        rw [HA0.out]
        simp only [Act.put, List.setIfInBounds_toArray, List.set_cons_zero, List.set_cons_succ]
        go_wp2_with fail
        go_meet
        exact ⟨p5, p6, y, z, e5, e6, HP.out, HQ.out, HB.out, HIY.out, HIZ.out⟩
      · rintro l act W' ⟨y, z, b0, b1, b2, b3, b4, b5, b6, b7, b8, b9, s21, s22, s23, s24, s25, s26, s5, s6, rfl, hn, rfl, h0, h1, h2, i2, h3, h4, h5, i5, h6, h7, g0, g1, k0, k1, hne, hb⟩ i hi
        exact get10 hn hi
      · intro i hi
        rcases lt_10 hi with rfl | rfl | rfl | rfl | rfl | rfl | rfl | rfl | rfl | rfl
        · rintro n l act W' ⟨y, z, b0, b1, b2, b3, b4, b5, b6, b7, b8, b9, s21, s22, s23, s24, s25, s26, s5, s6, rfl, hn, rfl, h0, h1, h2, i2, h3, h4, h5, i5, h6, h7, g0, g1, k0, k1, hne, hb⟩ hl hp
          have e0 : b0 = false := hl
          have HN := Lib.hid hn
          have H0 := Lib.hid h0
          have H1 := Lib.hid h1
          have H2 := Lib.hid h2
          have I2 := Lib.hid i2
          have H3 := Lib.hid h3
          have H4 := Lib.hid h4
          have H5 := Lib.hid h5
          have I5 := Lib.hid i5
          have H6 := Lib.hid h6
          have H7 := Lib.hid h7
          have G0 := Lib.hid g0
          have G1 := Lib.hid g1
          have K0 := Lib.hid k0
          have K1 := Lib.hid k1
          have HNE := Lib.hid hne
          have HB := Lib.hid hb
          clear hn h0 h1 h2 i2 h3 h4 h5 i5 h6 h7 g0 g1 k0 k1 hne hb hl hp
          refine wpOp_step rfl (fun K hK => ?_)
          have HK := Lib.hid hK
          clear hK
          rw [HA0.out]
          simp only [Act.put, List.setIfInBounds_toArray, List.set_cons_zero, List.set_cons_succ]
          go_simp
          exact HK.out _ _ ⟨y, z, true, b1, b2, b3, b4, b5, b6, b7, b8, b9, .pointer (some ⟨w.heap.size, 0, none⟩), s22, s23, s24, s25, s26, s5, s6, rfl, by have z1 := nf_f e0; have z2 := nf_t; have z3 := HN.out; omega, by rw [HA0.out]; simp only [Act.put, List.setIfInBounds_toArray, List.set_cons_zero, List.set_cons_succ], fun _ => rfl, H1.out, H2.out, I2.out, H3.out, H4.out, H5.out, I5.out, H6.out, H7.out, G0.out, G1.out, K0.out, K1.out, HNE.out, HB.out⟩
        · rintro n l act W' ⟨y, z, b0, b1, b2, b3, b4, b5, b6, b7, b8, b9, s21, s22, s23, s24, s25, s26, s5, s6, rfl, hn, rfl, h0, h1, h2, i2, h3, h4, h5, i5, h6, h7, g0, g1, k0, k1, hne, hb⟩ hl hp
          have e1 : b1 = false := hl
          have hs0 := Lib.hid hb.lk.shape
          have c0 := hs0.out.at 0 (by decide)
          have c1 := hs0.out.at 1 (by decide)
          have c2 := hs0.out.at 2 (by decide)
          have c3 := hs0.out.at 3 (by decide)
          have c4 := hs0.out.at 4 (by decide)
          have c5 := hs0.out.at 5 (by decide)
          have HN := Lib.hid hn
          have H0 := Lib.hid h0
          have H1 := Lib.hid h1
          have H2 := Lib.hid h2
          have I2 := Lib.hid i2
          have H3 := Lib.hid h3
          have H4 := Lib.hid h4
          have H5 := Lib.hid h5
          have I5 := Lib.hid i5
          have H6 := Lib.hid h6
          have H7 := Lib.hid h7
          have G0 := Lib.hid g0
          have G1 := Lib.hid g1
          have K0 := Lib.hid k0
          have K1 := Lib.hid k1
          have HNE := Lib.hid hne
          have HB := Lib.hid hb
          clear hn h0 h1 h2 i2 h3 h4 h5 i5 h6 h7 g0 g1 k0 k1 hne hb hl hp
          refine wpOp_step rfl (fun K hK => ?_)
          have HK := Lib.hid hK
          clear hK
          rw [HA0.out]
          simp only [Act.put, List.setIfInBounds_toArray, List.set_cons_zero, List.set_cons_succ]
          go_simp
          exact HK.out _ _ ⟨y, z, b0, true, b2, b3, b4, b5, b6, b7, b8, b9, s21, .agg #[.int .i64 (x 0), .int .i64 (x 1), .int .i64 (x 2), .int .i64 (x 3), .int .i64 (x 4), .int .i64 (x 5)], s23, s24, s25, s26, s5, s6, rfl, by have z1 := nf_f e1; have z2 := nf_t; have z3 := HN.out; omega, by rw [HA0.out]; simp only [Act.put, List.setIfInBounds_toArray, List.set_cons_zero, List.set_cons_succ], H0.out, fun _ => rfl, H2.out, I2.out, H3.out, H4.out, H5.out, I5.out, H6.out, H7.out, G0.out, G1.out, K0.out, K1.out, HNE.out, HB.out⟩
        · rintro n l act W' ⟨y, z, b0, b1, b2, b3, b4, b5, b6, b7, b8, b9, s21, s22, s23, s24, s25, s26, s5, s6, rfl, hn, rfl, h0, h1, h2, i2, h3, h4, h5, i5, h6, h7, g0, g1, k0, k1, hne, hb⟩ hl hp
          have e2 : b2 = false := hl
          have q0 : b0 = true := hp 0 (by decide)
          have q1 : b1 = true := hp 1 (by decide)
          have HC := Lib.hid (place_lk HOK.out hb)
          have z0 : b8 = false := not_after (k0) e2
          have Z0 := Lib.hid z0
          clear z0
          have HN := Lib.hid hn
          have H0 := Lib.hid h0
          have H1 := Lib.hid h1
          have H2 := Lib.hid h2
          have I2 := Lib.hid i2
          have H3 := Lib.hid h3
          have H4 := Lib.hid h4
          have H5 := Lib.hid h5
          have I5 := Lib.hid i5
          have H6 := Lib.hid h6
          have H7 := Lib.hid h7
          have G0 := Lib.hid g0
          have G1 := Lib.hid g1
          have K0 := Lib.hid k0
          have K1 := Lib.hid k1
          have HNE := Lib.hid hne
          have HB := Lib.hid hb
          have r0 := h0 q0
          have r1 := h1 q1
          clear hn h0 h1 h2 i2 h3 h4 h5 i5 h6 h7 g0 g1 k0 k1 hne hb hl hp
          refine wpOp_step rfl (fun K hK => ?_)
          have HK := Lib.hid hK
          clear hK
          rw [HA0.out, r0, r1]
          simp only [Act.put, List.setIfInBounds_toArray, List.set_cons_zero, List.set_cons_succ]
          clear r0 r1
          go_simp
          refine HC.out.mono (fun e w5 hq => ?_)
          obtain ⟨yn, he, hin, hb5, hsl⟩ := hq
          have HIN := Lib.hid hin
          have HB5 := Lib.hid hb5
          have HSL := Lib.hid hsl
          clear hin hb5 hsl
          rw [he]
          clear he
          go_simp
          exact HK.out _ _ ⟨yn, z, b0, b1, true, b3, b4, b5, b6, b7, b8, b9, .pointer (some ⟨w.heap.size, 0, none⟩), .agg #[.int .i64 (x 0), .int .i64 (x 1), .int .i64 (x 2), .int .i64 (x 3), .int .i64 (x 4), .int .i64 (x 5)], .agg #[.int .i64 (yn 0), .int .i64 (yn 1), .int .i64 (yn 2), .int .i64 (yn 3), .int .i64 (yn 4), .int .i64 (yn 5)], s24, s25, s26, s5, s6, rfl, by have z1 := nf_f e2; have z2 := nf_t; have z3 := HN.out; omega, by rw [HA0.out]; simp only [Act.put, List.setIfInBounds_toArray, List.set_cons_zero, List.set_cons_succ], fun _ => rfl, fun _ => rfl, fun _ => rfl, fun _ => HIN.out, H3.out, H4.out, H5.out, I5.out, (HSL.out _ _ _ _ H6.out).sel_no Z0.out _, (HSL.out _ _ _ _ H7.out), G0.out, G1.out, fun _ => rfl, K1.out, HNE.out, HB5.out⟩
        · rintro n l act W' ⟨y, z, b0, b1, b2, b3, b4, b5, b6, b7, b8, b9, s21, s22, s23, s24, s25, s26, s5, s6, rfl, hn, rfl, h0, h1, h2, i2, h3, h4, h5, i5, h6, h7, g0, g1, k0, k1, hne, hb⟩ hl hp
          have e3 : b3 = false := hl
          have HN := Lib.hid hn
          have H0 := Lib.hid h0
          have H1 := Lib.hid h1
          have H2 := Lib.hid h2
          have I2 := Lib.hid i2
          have H3 := Lib.hid h3
          have H4 := Lib.hid h4
          have H5 := Lib.hid h5
          have I5 := Lib.hid i5
          have H6 := Lib.hid h6
          have H7 := Lib.hid h7
          have G0 := Lib.hid g0
          have G1 := Lib.hid g1
          have K0 := Lib.hid k0
          have K1 := Lib.hid k1
          have HNE := Lib.hid hne
          have HB := Lib.hid hb
          clear hn h0 h1 h2 i2 h3 h4 h5 i5 h6 h7 g0 g1 k0 k1 hne hb hl hp
          refine wpOp_step rfl (fun K hK => ?_)
          have HK := Lib.hid hK
          clear hK
          rw [HA0.out]
          simp only [Act.put, List.setIfInBounds_toArray, List.set_cons_zero, List.set_cons_succ]
          go_simp
          exact HK.out _ _ ⟨y, z, b0, b1, b2, true, b4, b5, b6, b7, b8, b9, s21, s22, s23, .pointer (some ⟨w.heap.size, 0, none⟩), s25, s26, s5, s6, rfl, by have z1 := nf_f e3; have z2 := nf_t; have z3 := HN.out; omega, by rw [HA0.out]; simp only [Act.put, List.setIfInBounds_toArray, List.set_cons_zero, List.set_cons_succ], H0.out, H1.out, H2.out, I2.out, fun _ => rfl, H4.out, H5.out, I5.out, H6.out, H7.out, G0.out, G1.out, K0.out, K1.out, HNE.out, HB.out⟩
        · rintro n l act W' ⟨y, z, b0, b1, b2, b3, b4, b5, b6, b7, b8, b9, s21, s22, s23, s24, s25, s26, s5, s6, rfl, hn, rfl, h0, h1, h2, i2, h3, h4, h5, i5, h6, h7, g0, g1, k0, k1, hne, hb⟩ hl hp
          have e4 : b4 = false := hl
          have hs0 := Lib.hid hb.lk.shape
          have c0 := hs0.out.at 0 (by decide)
          have c1 := hs0.out.at 1 (by decide)
          have c2 := hs0.out.at 2 (by decide)
          have c3 := hs0.out.at 3 (by decide)
          have c4 := hs0.out.at 4 (by decide)
          have c5 := hs0.out.at 5 (by decide)
          have HN := Lib.hid hn
          have H0 := Lib.hid h0
          have H1 := Lib.hid h1
          have H2 := Lib.hid h2
          have I2 := Lib.hid i2
          have H3 := Lib.hid h3
          have H4 := Lib.hid h4
          have H5 := Lib.hid h5
          have I5 := Lib.hid i5
          have H6 := Lib.hid h6
          have H7 := Lib.hid h7
          have G0 := Lib.hid g0
          have G1 := Lib.hid g1
          have K0 := Lib.hid k0
          have K1 := Lib.hid k1
          have HNE := Lib.hid hne
          have HB := Lib.hid hb
          clear hn h0 h1 h2 i2 h3 h4 h5 i5 h6 h7 g0 g1 k0 k1 hne hb hl hp
          refine wpOp_step rfl (fun K hK => ?_)
          have HK := Lib.hid hK
          clear hK
          rw [HA0.out]
          simp only [Act.put, List.setIfInBounds_toArray, List.set_cons_zero, List.set_cons_succ]
          go_simp
          exact HK.out _ _ ⟨y, z, b0, b1, b2, b3, true, b5, b6, b7, b8, b9, s21, s22, s23, s24, .agg #[.int .i64 (x 0), .int .i64 (x 1), .int .i64 (x 2), .int .i64 (x 3), .int .i64 (x 4), .int .i64 (x 5)], s26, s5, s6, rfl, by have z1 := nf_f e4; have z2 := nf_t; have z3 := HN.out; omega, by rw [HA0.out]; simp only [Act.put, List.setIfInBounds_toArray, List.set_cons_zero, List.set_cons_succ], H0.out, H1.out, H2.out, I2.out, H3.out, fun _ => rfl, H5.out, I5.out, H6.out, H7.out, G0.out, G1.out, K0.out, K1.out, HNE.out, HB.out⟩
        · rintro n l act W' ⟨y, z, b0, b1, b2, b3, b4, b5, b6, b7, b8, b9, s21, s22, s23, s24, s25, s26, s5, s6, rfl, hn, rfl, h0, h1, h2, i2, h3, h4, h5, i5, h6, h7, g0, g1, k0, k1, hne, hb⟩ hl hp
          have e5 : b5 = false := hl
          have q3 : b3 = true := hp 3 (by decide)
          have q4 : b4 = true := hp 4 (by decide)
          have HC := Lib.hid (place_lk HOK.out hb)
          have z0 : b9 = false := not_after (k1) e5
          have Z0 := Lib.hid z0
          clear z0
          have HN := Lib.hid hn
          have H0 := Lib.hid h0
          have H1 := Lib.hid h1
          have H2 := Lib.hid h2
          have I2 := Lib.hid i2
          have H3 := Lib.hid h3
          have H4 := Lib.hid h4
          have H5 := Lib.hid h5
          have I5 := Lib.hid i5
          have H6 := Lib.hid h6
          have H7 := Lib.hid h7
          have G0 := Lib.hid g0
          have G1 := Lib.hid g1
          have K0 := Lib.hid k0
          have K1 := Lib.hid k1
          have HNE := Lib.hid hne
          have HB := Lib.hid hb
          have r0 := h3 q3
          have r1 := h4 q4
          clear hn h0 h1 h2 i2 h3 h4 h5 i5 h6 h7 g0 g1 k0 k1 hne hb hl hp
          refine wpOp_step rfl (fun K hK => ?_)
          have HK := Lib.hid hK
          clear hK
          rw [HA0.out, r0, r1]
          simp only [Act.put, List.setIfInBounds_toArray, List.set_cons_zero, List.set_cons_succ]
          clear r0 r1
          go_simp
          refine HC.out.mono (fun e w5 hq => ?_)
          obtain ⟨yn, he, hin, hb5, hsl⟩ := hq
          have HIN := Lib.hid hin
          have HB5 := Lib.hid hb5
          have HSL := Lib.hid hsl
          clear hin hb5 hsl
          rw [he]
          clear he
          go_simp
          exact HK.out _ _ ⟨y, yn, b0, b1, b2, b3, b4, true, b6, b7, b8, b9, s21, s22, s23, .pointer (some ⟨w.heap.size, 0, none⟩), .agg #[.int .i64 (x 0), .int .i64 (x 1), .int .i64 (x 2), .int .i64 (x 3), .int .i64 (x 4), .int .i64 (x 5)], .agg #[.int .i64 (yn 0), .int .i64 (yn 1), .int .i64 (yn 2), .int .i64 (yn 3), .int .i64 (yn 4), .int .i64 (yn 5)], s5, s6, rfl, by have z1 := nf_f e5; have z2 := nf_t; have z3 := HN.out; omega, by rw [HA0.out]; simp only [Act.put, List.setIfInBounds_toArray, List.set_cons_zero, List.set_cons_succ], H0.out, H1.out, H2.out, I2.out, fun _ => rfl, fun _ => rfl, fun _ => rfl, fun _ => HIN.out, (HSL.out _ _ _ _ H6.out), (HSL.out _ _ _ _ H7.out).sel_no Z0.out _, G0.out, G1.out, K0.out, fun _ => rfl, HNE.out, HB5.out⟩
        · rintro n l act W' ⟨y, z, b0, b1, b2, b3, b4, b5, b6, b7, b8, b9, s21, s22, s23, s24, s25, s26, s5, s6, rfl, hn, rfl, h0, h1, h2, i2, h3, h4, h5, i5, h6, h7, g0, g1, k0, k1, hne, hb⟩ hl hp
          have e6 : b6 = false := hl
          have HN := Lib.hid hn
          have H0 := Lib.hid h0
          have H1 := Lib.hid h1
          have H2 := Lib.hid h2
          have I2 := Lib.hid i2
          have H3 := Lib.hid h3
          have H4 := Lib.hid h4
          have H5 := Lib.hid h5
          have I5 := Lib.hid i5
          have H6 := Lib.hid h6
          have H7 := Lib.hid h7
          have G0 := Lib.hid g0
          have G1 := Lib.hid g1
          have K0 := Lib.hid k0
          have K1 := Lib.hid k1
          have HNE := Lib.hid hne
          have HB := Lib.hid hb
          have HNE2 := Lib.hid (fun hb' : b7 = true => h7.ne hb')
          have EB6 := Lib.hid e6
          clear hn h0 h1 h2 i2 h3 h4 h5 i5 h6 h7 g0 g1 k0 k1 hne hb hl hp
          refine wpOp_step rfl (fun K hK => ?_)
          have HK := Lib.hid hK
          clear hK
          rw [HA0.out]
          simp only [Act.put, List.setIfInBounds_toArray, List.set_cons_zero, List.set_cons_succ]
          go_simp
          exact HK.out _ _ ⟨y, z, b0, b1, b2, b3, b4, b5, true, b7, b8, b9, s21, s22, s23, s24, s25, s26, Value.pointer (some ⟨W'.heap.size, 0, none⟩), s6, rfl, by have z1 := nf_f e6; have z2 := nf_t; have z3 := HN.out; omega, by rw [HA0.out]; simp only [Act.put, List.setIfInBounds_toArray, List.set_cons_zero, List.set_cons_succ], H0.out, H1.out, H2.out, I2.out, H3.out, H4.out, H5.out, I5.out, Slot.new (not_after (fun h => (G0.out h).1) EB6.out) HB.out.size, H7.out.alloc _, fun h => absurd ((G0.out h).1) (by rw [EB6.out]; decide), fun h => absurd ((G1.out h).1) (by rw [EB6.out]; decide), K0.out, K1.out, fun _ hb' e => HNE2.out hb' e.symm, HB.out.alloc _⟩
        · rintro n l act W' ⟨y, z, b0, b1, b2, b3, b4, b5, b6, b7, b8, b9, s21, s22, s23, s24, s25, s26, s5, s6, rfl, hn, rfl, h0, h1, h2, i2, h3, h4, h5, i5, h6, h7, g0, g1, k0, k1, hne, hb⟩ hl hp
          have e7 : b7 = false := hl
          have HN := Lib.hid hn
          have H0 := Lib.hid h0
          have H1 := Lib.hid h1
          have H2 := Lib.hid h2
          have I2 := Lib.hid i2
          have H3 := Lib.hid h3
          have H4 := Lib.hid h4
          have H5 := Lib.hid h5
          have I5 := Lib.hid i5
          have H6 := Lib.hid h6
          have H7 := Lib.hid h7
          have G0 := Lib.hid g0
          have G1 := Lib.hid g1
          have K0 := Lib.hid k0
          have K1 := Lib.hid k1
          have HNE := Lib.hid hne
          have HB := Lib.hid hb
          have HNE2 := Lib.hid (fun hb' : b6 = true => h6.ne hb')
          have EB7 := Lib.hid e7
          clear hn h0 h1 h2 i2 h3 h4 h5 i5 h6 h7 g0 g1 k0 k1 hne hb hl hp
          refine wpOp_step rfl (fun K hK => ?_)
          have HK := Lib.hid hK
          clear hK
          rw [HA0.out]
          simp only [Act.put, List.setIfInBounds_toArray, List.set_cons_zero, List.set_cons_succ]
          go_simp
          exact HK.out _ _ ⟨y, z, b0, b1, b2, b3, b4, b5, b6, true, b8, b9, s21, s22, s23, s24, s25, s26, s5, Value.pointer (some ⟨W'.heap.size, 0, none⟩), rfl, by have z1 := nf_f e7; have z2 := nf_t; have z3 := HN.out; omega, by rw [HA0.out]; simp only [Act.put, List.setIfInBounds_toArray, List.set_cons_zero, List.set_cons_succ], H0.out, H1.out, H2.out, I2.out, H3.out, H4.out, H5.out, I5.out, H6.out.alloc _, Slot.new (not_after (fun h => (G1.out h).2) EB7.out) HB.out.size, fun h => absurd ((G0.out h).2) (by rw [EB7.out]; decide), fun h => absurd ((G1.out h).2) (by rw [EB7.out]; decide), K0.out, K1.out, fun hb' _ e => HNE2.out hb' e, HB.out.alloc _⟩
        · rintro n l act W' ⟨y, z, b0, b1, b2, b3, b4, b5, b6, b7, b8, b9, s21, s22, s23, s24, s25, s26, s5, s6, rfl, hn, rfl, h0, h1, h2, i2, h3, h4, h5, i5, h6, h7, g0, g1, k0, k1, hne, hb⟩ hl hp
          have e8 : b8 = false := hl
          have q2 : b2 = true := hp 2 (by decide)
          have q5 : b5 = true := hp 5 (by decide)
          have q6 : b6 = true := hp 6 (by decide)
          have q7 : b7 = true := hp 7 (by decide)
          obtain ⟨q, hs, hB, hsix⟩ : ∃ q, s5 = .pointer (some ⟨q, 0, none⟩) ∧ w3.heap.size ≤ q ∧ Six W' q 24 (sel b8 y) := by have h := h6; unfold Slot at h; exact h q6
          have HSX6 := Lib.hid hsix
          have c0 := HSX6.out.at 0 (by decide)
          have c1 := HSX6.out.at 1 (by decide)
          have c2 := HSX6.out.at 2 (by decide)
          have c3 := HSX6.out.at 3 (by decide)
          have c4 := HSX6.out.at 4 (by decide)
          have c5 := HSX6.out.at 5 (by decide)
          obtain ⟨f0, f1, f2, f3, f4, f5⟩ := HSX6.out.frees
          have hno : s6 ≠ .pointer (some ⟨q, 0, none⟩) := by rw [← hs]; exact fun e => hne q6 q7 e.symm
          have HNO := Lib.hid hno
          clear hsix hno
          have HN := Lib.hid hn
          have H0 := Lib.hid h0
          have H1 := Lib.hid h1
          have H2 := Lib.hid h2
          have I2 := Lib.hid i2
          have H3 := Lib.hid h3
          have H4 := Lib.hid h4
          have H5 := Lib.hid h5
          have I5 := Lib.hid i5
          have H6 := Lib.hid h6
          have H7 := Lib.hid h7
          have G0 := Lib.hid g0
          have G1 := Lib.hid g1
          have K0 := Lib.hid k0
          have K1 := Lib.hid k1
          have HNE := Lib.hid hne
          have HB := Lib.hid hb
          have r0 := h2 q2
          have r1 := hs
          clear hn h0 h1 h2 i2 h3 h4 h5 i5 h6 h7 g0 g1 k0 k1 hne hb hl hp
          refine wpOp_step rfl (fun K hK => ?_)
          have HK := Lib.hid hK
          clear hK
          rw [HA0.out, r0, r1]
          simp only [Act.put, List.setIfInBounds_toArray, List.set_cons_zero, List.set_cons_succ]
          clear r0
          go_simp
          exact HK.out _ _ ⟨y, z, b0, b1, b2, b3, b4, b5, b6, b7, true, b9, s21, s22, .agg #[.int .i64 (y 0), .int .i64 (y 1), .int .i64 (y 2), .int .i64 (y 3), .int .i64 (y 4), .int .i64 (y 5)], s24, s25, s26, Value.pointer (some ⟨q, 0, none⟩), s6, rfl, by have z1 := nf_f e8; have z2 := nf_t; have z3 := HN.out; omega, by rw [HA0.out]; simp only [Act.put, List.setIfInBounds_toArray, List.set_cons_zero, List.set_cons_succ], H0.out, H1.out, fun _ => rfl, I2.out, H3.out, H4.out, H5.out, I5.out, Slot.stored HSX6.out hB y, H7.out.other HNO.out y, fun _ => ⟨q6, q7⟩, G1.out, fun _ => q2, K1.out, fun _ _ e => HNO.out e.symm, HB.out.put hB y⟩
        · rintro n l act W' ⟨y, z, b0, b1, b2, b3, b4, b5, b6, b7, b8, b9, s21, s22, s23, s24, s25, s26, s5, s6, rfl, hn, rfl, h0, h1, h2, i2, h3, h4, h5, i5, h6, h7, g0, g1, k0, k1, hne, hb⟩ hl hp
          have e9 : b9 = false := hl
          have q2 : b2 = true := hp 2 (by decide)
          have q5 : b5 = true := hp 5 (by decide)
          have q6 : b6 = true := hp 6 (by decide)
          have q7 : b7 = true := hp 7 (by decide)
          obtain ⟨q, hs, hB, hsix⟩ : ∃ q, s6 = .pointer (some ⟨q, 0, none⟩) ∧ w3.heap.size ≤ q ∧ Six W' q 24 (sel b9 z) := by have h := h7; unfold Slot at h; exact h q7
          have HSX6 := Lib.hid hsix
          have c0 := HSX6.out.at 0 (by decide)
          have c1 := HSX6.out.at 1 (by decide)
          have c2 := HSX6.out.at 2 (by decide)
          have c3 := HSX6.out.at 3 (by decide)
          have c4 := HSX6.out.at 4 (by decide)
          have c5 := HSX6.out.at 5 (by decide)
          obtain ⟨f0, f1, f2, f3, f4, f5⟩ := HSX6.out.frees
          have hno : s5 ≠ .pointer (some ⟨q, 0, none⟩) := by rw [← hs]; exact hne q6 q7
          have HNO := Lib.hid hno
          clear hsix hno
          have HN := Lib.hid hn
          have H0 := Lib.hid h0
          have H1 := Lib.hid h1
          have H2 := Lib.hid h2
          have I2 := Lib.hid i2
          have H3 := Lib.hid h3
          have H4 := Lib.hid h4
          have H5 := Lib.hid h5
          have I5 := Lib.hid i5
          have H6 := Lib.hid h6
          have H7 := Lib.hid h7
          have G0 := Lib.hid g0
          have G1 := Lib.hid g1
          have K0 := Lib.hid k0
          have K1 := Lib.hid k1
          have HNE := Lib.hid hne
          have HB := Lib.hid hb
          have r0 := h5 q5
          have r1 := hs
          clear hn h0 h1 h2 i2 h3 h4 h5 i5 h6 h7 g0 g1 k0 k1 hne hb hl hp
          refine wpOp_step rfl (fun K hK => ?_)
          have HK := Lib.hid hK
          clear hK
          rw [HA0.out, r0, r1]
          simp only [Act.put, List.setIfInBounds_toArray, List.set_cons_zero, List.set_cons_succ]
          clear r0
          go_simp
          exact HK.out _ _ ⟨y, z, b0, b1, b2, b3, b4, b5, b6, b7, b8, true, s21, s22, s23, s24, s25, .agg #[.int .i64 (z 0), .int .i64 (z 1), .int .i64 (z 2), .int .i64 (z 3), .int .i64 (z 4), .int .i64 (z 5)], s5, Value.pointer (some ⟨q, 0, none⟩), rfl, by have z1 := nf_f e9; have z2 := nf_t; have z3 := HN.out; omega, by rw [HA0.out]; simp only [Act.put, List.setIfInBounds_toArray, List.set_cons_zero, List.set_cons_succ], H0.out, H1.out, H2.out, I2.out, H3.out, H4.out, fun _ => rfl, I5.out, H6.out.other HNO.out z, Slot.stored HSX6.out hB z, G0.out, fun _ => ⟨q6, q7⟩, K0.out, fun _ => q5, fun _ _ e => HNO.out e, HB.out.put hB z⟩
    case rest =>
      obtain ⟨p5, p6, y, z, rfl, rfl, hsy, hsz, hlk, hiy, hiz⟩ := hcut
      have HY := Lib.hid hsy
      have HZ := Lib.hid hsz
      have HT := Lib.hid hlk.lk.tab
      have HB := Lib.hid hlk.lk.bel
      obtain ⟨c0, c1, c2, c3, c4, c5⟩ := hlk.lk.shape.all
      have HSX := Lib.hid hlk.lk.shape
      clear hsy hsz hlk HL0
      obtain ⟨p7, hp7⟩ : ∃ q, wc.heap.size = q := ⟨_, rfl⟩
      have h7 := (Box.new wc 51 (vsz x)).alloc (.cells #[.bool false, .bool false, .bool false, .bool false, .bool false, .bool false, .bool false] 52)
      have h8 := Box.new (wc.alloc (.cells (vsz x).toArray 51)) 52 (vs8 (fm y z 1))
      rw [fm_one] at h8
      have hb0 := ((Below.refl wc.heap.size wc).alloc (Nat.le_refl _) (.cells (vsz x).toArray 51)).alloc (by simp) (.cells #[.bool false, .bool false, .bool false, .bool false, .bool false, .bool false, .bool false] 52)
      rw [World.size_alloc] at h8
      obtain ⟨w5, hw5⟩ : ∃ w5, (wc.alloc (.cells (vsz x).toArray 51)).alloc (.cells #[.bool false, .bool false, .bool false, .bool false, .bool false, .bool false, .bool false] 52) = w5 := ⟨_, rfl⟩
      have h8' : Box w5 (p7 + 1) 52 (vs8 (fm y z 1)) := by rw [fm_one, ← hw5, ← hp7]; exact h8
      rw [hw5] at h7 hb0
      rw [hp7] at h7
      have HW5 := Lib.hid hw5
      have HI0 := Lib.hid (And.intro h7 (And.intro h8' hb0))
      have HCS := Lib.hid (fun k h1 h6 => cv_size (k := k) HOK.out hiy h1 h6 (kn_nat h1 h6))
      clear h7 h8 h8' hb0 hw5 hiy hiz
      have HCV := Lib.hid (fun kd W hT => covered_any x kd y 0 1 0 false W hT)
      have HCO := Lib.hid (fun kd q W hT => covers_any kd y q 0 1 0 false W hT)
      go_wp2_with fail
      go_loopw [9] (fun i wr => ∃ m : Nat, i = .int .i64 (m : Int) ∧ 1 ≤ m ∧ m ≤ 7 ∧ Hid (Box wr p7 51 (vsz x) ∧ Box wr (p7 + 1) 52 (vs8 (fm y z m)) ∧ Below wc.heap.size wc wr)) (fun i _ => 7 - (intOf i).toNat)
      case atStart =>
        refine ⟨1, rfl, Nat.le_refl _, by decide, Lib.hid ?_⟩
        have h := HI0.out
        rw [← HW5.out] at h
        exact h
      case round =>
        obtain ⟨m, rfl, hm1, hm7, HI⟩ := hrel
        by_cases hlt : (m : Int) ≤ 6
        · obtain ⟨c0, c1, c2, c3, c4, c5⟩ := (HSX.out.below HI.out.2.2).all
          obtain ⟨y0, y1, y2, y3, y4, y5⟩ := (HY.out.below HI.out.2.2).all
          have hm6 : m ≤ 6 := by omega
          have hfl := Flt.new wr (m : Int) y 0 1 0 false
          have hb6 := (Below.refl _ wr).alloc (Nat.le_refl _) (.cells #[.int .i64 (m : Int), .int .i64 (y 0), .int .i64 (y 1), .int .i64 (y 2), .int .i64 (y 3), .int .i64 (y 4), .int .i64 (y 5), .int .i64 0, .int .u8 1, .int .u8 0, .bool false] 26)
          obtain ⟨pf, hpf⟩ : ∃ q, wr.heap.size = q := ⟨_, rfl⟩
          rw [hpf] at hfl
          have HI6 := Lib.hid (And.intro (HI.out.1.below hb6) (And.intro (HI.out.2.1.below hb6) (HI.out.2.2.trans (hb6.mono HI.out.2.2.size))))
          have HF6 := Lib.hid hfl
          clear c0 c1 c2 c3 c4 c5
          obtain ⟨c0, c1, c2, c3, c4, c5⟩ := (HSX.out.below HI6.out.2.2).all
          obtain ⟨f0, f1, f2, f3, f4, f5, f6, f7, f8, f9, f10⟩ := hfl.all
          clear hfl hb6 HI f0 f1 f2 f3 f4 f5 f6 f7 f8 f9 f10
          go_wp2_with fail
          refine (HCV.out (m : Int) _ (HT.out.below HI6.out.2.2)).mono ?_
          rintro e w7 ⟨al, cl, rfl, ho7, hb7⟩
          have hlen := HCS.out m hm1 hm6
          obtain ⟨L, hL⟩ : ∃ L, cvF x (m : Int) y (szN x) = L := ⟨_, rfl⟩
          rw [hL] at ho7 hlen
          rw [hL]
          have HI7 := Lib.hid (And.intro (HI6.out.1.below hb7) (And.intro (HI6.out.2.1.below hb7) (HI6.out.2.2.trans (hb7.mono HI6.out.2.2.size))))
          have HF7 := Lib.hid (HF6.out.below hb7)
          obtain ⟨z0, z1, z2, z3, z4, z5⟩ := (HZ.out.below HI7.out.2.2).all
          have hsz7 : w7.cell? ⟨p7, m, none⟩ = some (.int .i64 ((sz7 x m : Nat) : Int)) := Box.cell HI7.out.1 m (vsz_at HOK.out m (by omega))
          have hs12 := sz7_le HOK.out m
          obtain ⟨n, hn⟩ : ∃ n, sz7 x m = n := ⟨_, rfl⟩
          rw [hn] at hsz7 hs12 hlen
          have hsh : IntKind.i64.wrap (2 ^ n) = (pw n : Int) := shl_one hs12
          have hll : ((L.length : Int) != (pw n : Int)) = false := by rw [hlen]; simp
          clear c0 c1 c2 c3 c4 c5 y0 y1 y2 y3 y4 y5 hb7 ho7 hL hn HI6 HF6
          obtain ⟨y0, y1, y2, y3, y4, y5⟩ := (HY.out.below HI7.out.2.2).all
          obtain ⟨f0, f1, f2, f3, f4, f5, f6, f7, f8, f9, f10⟩ := HF7.out.all
          go_wp2_with fail
          refine (HCO.out (m : Int) y _ (HT.out.below HI7.out.2.2)).mono ?_
          rintro e w8 ⟨rfl, hb8⟩
          rw [cov_self (kn_nat hm1 hm6) y]
          have HI8 := Lib.hid (And.intro (HI7.out.1.below hb8) (And.intro (HI7.out.2.1.below hb8) (HI7.out.2.2.trans (hb8.mono HI7.out.2.2.size))))
          have HF8 := Lib.hid (HF7.out.below hb8)
          clear c0 c1 c2 c3 c4 c5 y0 y1 y2 y3 y4 y5 z0 z1 z2 z3 z4 z5 f0 f1 f2 f3 f4 f5 f6 f7 f8 f9 f10 hb8 HI7 HF7 hsz7 hll
          obtain ⟨z0, z1, z2, z3, z4, z5⟩ := (HZ.out.below HI8.out.2.2).all
          obtain ⟨f0, f1, f2, f3, f4, f5, f6, f7, f8, f9, f10⟩ := HF8.out.all
          go_wp2_with fail
          refine (HCO.out (m : Int) z _ (HT.out.below HI8.out.2.2)).mono ?_
          rintro e w9 ⟨rfl, hb9⟩
          have HI9 := Lib.hid (And.intro (HI8.out.1.below hb9) (And.intro (HI8.out.2.1.below hb9) (HI8.out.2.2.trans (hb9.mono HI8.out.2.2.size))))
          have hp8 : p7 < p7 + 1 := Nat.lt_succ_self _
          have hc8 : w9.cell? ⟨p7 + 1, m, none⟩ = some (.bool (fm y z m m)) := Box.cell HI9.out.2.1 m (vs8_at _ m (by omega))
          have hfz : w9.frozen? ⟨p7 + 1, m, none⟩ = false := Box.free HI9.out.2.1 m
          have hnx := Box.set HI9.out.2.1 m (.bool (covB (m : Int) y z))
          rw [fm_set y z (by omega)] at hnx
          have HI10 := Lib.hid (And.intro (HI9.out.1.other (q := ⟨p7 + 1, m, none⟩) (Nat.succ_ne_self p7) (.bool (covB (m : Int) y z))) (And.intro hnx (HI9.out.2.2.setCell (p := ⟨p7 + 1, m, none⟩) (by rw [hp7]; exact Nat.le_succ _) (.bool (covB (m : Int) y z)))))
          clear z0 z1 z2 z3 z4 z5 f0 f1 f2 f3 f4 f5 f6 f7 f8 f9 f10 hb9 HI8 HI9 HF8 hnx
          go_wp2_with fail
          go_roundw
          case rel => exact ⟨m + 1, by go_num, by omega, by omega, HI10⟩
          case measure => simp [intOf]; omega
        · obtain rfl : m = 7 := by omega
          have HI9 := Lib.hid (And.intro HI.out.2.1 HI.out.2.2)
          clear HI
          go_wp2_with fail
          go_loopw [12] (fun i w6 => ∃ k : Nat, i = .int .i64 (k : Int) ∧ 1 ≤ k ∧ k ≤ 6 ∧ w6 = wr) (fun i _ => 6 - (intOf i).toNat)
          case atStart => exact ⟨1, rfl, Nat.le_refl _, by decide, rfl⟩
          case round =>
            obtain ⟨k, rfl, hk1, hk6, rfl⟩ := hrel
            by_cases hkl : (k : Int) < 6
            · have hc8 : wr.cell? ⟨p7 + 1, k, none⟩ = some (.bool (covB (k : Int) y z)) := by
                have h := Box.cell HI9.out.1 k (vs8_at _ k (by omega))
                rwa [fm_all y z (by omega)] at h
              have hc9 : wr.cell? ⟨p7 + 1, k + 1, none⟩ = some (.bool (covB ((k : Int) + 1) y z)) := by
                have h := Box.cell HI9.out.1 (k + 1) (vs8_at _ (k + 1) (by omega))
                rwa [fm_all y z (by omega), show (((k + 1 : Nat)) : Int) = (k : Int) + 1 from rfl] at h
              have hwk : IntKind.i64.wrap ((k : Int) + 1) = (k : Int) + 1 := by rw [IntKind.wrap_i64]; omega
              cases hcv : covB (k : Int) y z with
              | false =>
                rw [hcv] at hc8
                clear hcv
                go_wp2_with fail
                go_round
                case rel => exact ⟨k + 1, by go_num, by omega, by omega, trivial⟩
                case measure => simp [intOf]; omega
              | true =>
                rw [hcv] at hc8
                by_cases h2 : (k : Int) = 2
                · clear hcv
                  have hq : ((k : Int) != 2) = false := by rw [h2]; rfl
                  have hq2 : ((k : Int) == 2) = true := by rw [h2]; rfl
                  clear h2
                  go_wp2_with fail
                  go_round
                  case rel => exact ⟨k + 1, by go_num, by omega, by omega, trivial⟩
                  case measure => simp [intOf]; omega
                · rw [cov_up hk1 (by omega) (by omega) hcv] at hc9
                  have hq2 : ((k : Int) == 2) = false := by rw [beq_eq_false_iff_ne]; exact h2
                  have hq : ((k : Int) != 2) = true := by simp only [bne, hq2]; rfl
                  clear hcv h2
                  go_wp2_with fail
                  go_round
                  case rel => exact ⟨k + 1, by go_num, by omega, by omega, trivial⟩
                  case measure => simp [intOf]; omega
            · obtain rfl : k = 6 := by omega
              go_upto_region 21 with fail
              have HW0 := Lib.hid (show Six wr.drew p5 24 y ∧ Six wr.drew p6 24 z ∧ Box wr.drew (p7 + 1) 52 (vs8 (fm y z 7)) ∧ Tab wr.drew ∧ Below w.heap.size w wr.drew from ⟨(HY.out.below HI9.out.2).drewN 1, (HZ.out.below HI9.out.2).drewN 1, HI9.out.1.below (Below.refl _ wr).drew, (HT.out.below HI9.out.2).drewN 1, (HB.out.trans (HI9.out.2.mono HB.out.size)).drew⟩)
              have HW1 := Lib.hid (show Six wr p5 24 y ∧ Six wr p6 24 z ∧ Box wr (p7 + 1) 52 (vs8 (fm y z 7)) ∧ Tab wr ∧ Below w.heap.size w wr from ⟨HY.out.below HI9.out.2, HZ.out.below HI9.out.2, HI9.out.1, HT.out.below HI9.out.2, HB.out.trans (HI9.out.2.mono HB.out.size)⟩)
              clear HI9 HY HZ HT HB
              cases e2 : covB 2 y z with
              | true =>
                cases e3 : covB 3 y z with
                | true =>
                  have hyz := cov_cell.1 (show covB 1 y z = true by simp only [cov_both, e2, e3]; rfl)
                  have HW2 := Lib.hid (show Six wr.drew p5 24 y ∧ Six wr.drew p6 24 y ∧ Box wr.drew (p7 + 1) 52 (vs8 (fm y z 7)) ∧ Tab wr.drew ∧ Below w.heap.size w wr.drew from ⟨HW0.out.1, HW0.out.2.1.congr (fun j hj => (hyz j hj).symm), HW0.out.2.2⟩)
                  clear HW0 HW1
                  have HW0 := HW2
                  clear HW2 hyz
                  have HFC := Lib.hid (fun W h5 h6 h8 => fc_of (W := W) (p5 := p5) (p6 := p6) (p7 := p7) (y := y) (z := z) (q := y) h5 h6 h8 (by simp only [cov_both, e2, e3]; rfl) e2 e3 (cov_rowbank e2))
                  clear e2 e3
                  go_region_held3 (fun W' => W'.cell? ⟨p5, 0, none⟩ = some (.int .i64 (y 0)) ∧ W'.cell? ⟨p5, 1, none⟩ = some (.int .i64 (y 1)) ∧ W'.cell? ⟨p5, 2, none⟩ = some (.int .i64 (y 2)) ∧ W'.cell? ⟨p5, 3, none⟩ = some (.int .i64 (y 3)) ∧ W'.cell? ⟨p5, 4, none⟩ = some (.int .i64 (y 4)) ∧ W'.cell? ⟨p5, 5, none⟩ = some (.int .i64 (y 5)) ∧ W'.cell? ⟨p6, 0, none⟩ = some (.int .i64 (y 0)) ∧ W'.cell? ⟨p6, 1, none⟩ = some (.int .i64 (y 1)) ∧ W'.cell? ⟨p6, 2, none⟩ = some (.int .i64 (y 2)) ∧ W'.cell? ⟨p6, 3, none⟩ = some (.int .i64 (y 3)) ∧ W'.cell? ⟨p6, 4, none⟩ = some (.int .i64 (y 4)) ∧ W'.cell? ⟨p6, 5, none⟩ = some (.int .i64 (y 5)) ∧ W'.cell? ⟨p7 + 1, 1, none⟩ = some (.bool true) ∧ W'.cell? ⟨p7 + 1, 2, none⟩ = some (.bool true) ∧ W'.cell? ⟨p7 + 1, 3, none⟩ = some (.bool true) ∧ W'.cell? ⟨p7 + 1, 4, none⟩ = some (.bool true)) (first | exact HFC.out _ HW0.out.1 HW0.out.2.1 HW0.out.2.2.1) (first
                    | ((try go_simp); go_at_call 8; (with_reducible refine (HAW.out _ HW0.out.2.2.2.1).mono ?_); go_must (rintro e v1 ⟨rfl, hb⟩; (have HW1 := Lib.hid (And.intro (HW0.out.1.below hb) (And.intro (HW0.out.2.1.below hb) (And.intro (HW0.out.2.2.1.below hb) (And.intro (HW0.out.2.2.2.1.below hb) (HW0.out.2.2.2.2.trans (hb.mono HW0.out.2.2.2.2.size))))))); (clear HW0 hb); (have HW0 := HW1); (clear HW1))))
                  have HBF := Lib.hid HW0.out.2.2.2.2
                  clear HW0
                  go_wp2_with fail
                  go_ret
                  exact ⟨rfl, HBF.out⟩
                | false =>
                  have hql := eql_no (y := y) (z := z) (fun h => absurd (cov_cell.2 h) (by simp only [cov_both, e2, e3]; decide))
                  have HFC := Lib.hid (fun W h5 h6 h8 => fc_of (W := W) (p5 := p5) (p6 := p6) (p7 := p7) (y := y) (z := z) (q := z) h5 h6 h8 (by simp only [cov_both, e2, e3]; rfl) e2 e3 (cov_rowbank e2))
                  clear e2 e3
                  go_region_held3 (fun W' => W'.cell? ⟨p5, 0, none⟩ = some (.int .i64 (y 0)) ∧ W'.cell? ⟨p5, 1, none⟩ = some (.int .i64 (y 1)) ∧ W'.cell? ⟨p5, 2, none⟩ = some (.int .i64 (y 2)) ∧ W'.cell? ⟨p5, 3, none⟩ = some (.int .i64 (y 3)) ∧ W'.cell? ⟨p5, 4, none⟩ = some (.int .i64 (y 4)) ∧ W'.cell? ⟨p5, 5, none⟩ = some (.int .i64 (y 5)) ∧ W'.cell? ⟨p6, 0, none⟩ = some (.int .i64 (z 0)) ∧ W'.cell? ⟨p6, 1, none⟩ = some (.int .i64 (z 1)) ∧ W'.cell? ⟨p6, 2, none⟩ = some (.int .i64 (z 2)) ∧ W'.cell? ⟨p6, 3, none⟩ = some (.int .i64 (z 3)) ∧ W'.cell? ⟨p6, 4, none⟩ = some (.int .i64 (z 4)) ∧ W'.cell? ⟨p6, 5, none⟩ = some (.int .i64 (z 5)) ∧ W'.cell? ⟨p7 + 1, 1, none⟩ = some (.bool false) ∧ W'.cell? ⟨p7 + 1, 2, none⟩ = some (.bool true) ∧ W'.cell? ⟨p7 + 1, 3, none⟩ = some (.bool false) ∧ W'.cell? ⟨p7 + 1, 4, none⟩ = some (.bool true)) (first | exact HFC.out _ HW0.out.1 HW0.out.2.1 HW0.out.2.2.1) (first
                    | ((try go_simp); go_at_call 8; (with_reducible refine (HAW.out _ HW0.out.2.2.2.1).mono ?_); go_must (rintro e v1 ⟨rfl, hb⟩; (have HW1 := Lib.hid (And.intro (HW0.out.1.below hb) (And.intro (HW0.out.2.1.below hb) (And.intro (HW0.out.2.2.1.below hb) (And.intro (HW0.out.2.2.2.1.below hb) (HW0.out.2.2.2.2.trans (hb.mono HW0.out.2.2.2.2.size))))))); (clear HW0 hb); (have HW0 := HW1); (clear HW1))))
                  have HBF := Lib.hid HW0.out.2.2.2.2
                  clear HW0
                  go_wp2_with fail
                  go_ret
                  exact ⟨rfl, HBF.out⟩
              | false =>
                obtain ⟨b3, e3⟩ : ∃ b, covB 3 y z = b := ⟨_, rfl⟩
                obtain ⟨b4, e4⟩ : ∃ b, covB 4 y z = b := ⟨_, rfl⟩
                have hql := eql_no (y := y) (z := z) (fun h => absurd (cov_cell.2 h) (by rw [cov_both, e2, Bool.false_and]; decide))
                have HFC := Lib.hid (fun W h5 h6 h8 => fc_of (W := W) (p5 := p5) (p6 := p6) (p7 := p7) (y := y) (z := z) (q := z) h5 h6 h8 (b1 := false) (by rw [cov_both, e2]; rfl) e2 e3 e4)
                have HFO := Lib.hid (fun n : Over wr => HFC.out n.w (HW1.out.1.below n.h) (HW1.out.2.1.below n.h) (HW1.out.2.2.1.below n.h))
                have HAO := Lib.hid (fun n : Over wr => HAW.out n.w (HW1.out.2.2.2.1.below n.h))
                have HBO := Lib.hid HW1.out.2.2.2.2
                clear e2 e3 e4 HW0 HFC HW1
                have oy0 : ∀ n : Over wr, n.w.cell? ⟨p5, 0, none⟩ = some (.int .i64 (y 0)) := fun n => (HFO.out n).1
                have oy1 : ∀ n : Over wr, n.w.cell? ⟨p5, 1, none⟩ = some (.int .i64 (y 1)) := fun n => (HFO.out n).2.1
                have oy2 : ∀ n : Over wr, n.w.cell? ⟨p5, 2, none⟩ = some (.int .i64 (y 2)) := fun n => (HFO.out n).2.2.1
                have oy3 : ∀ n : Over wr, n.w.cell? ⟨p5, 3, none⟩ = some (.int .i64 (y 3)) := fun n => (HFO.out n).2.2.2.1
                have oy4 : ∀ n : Over wr, n.w.cell? ⟨p5, 4, none⟩ = some (.int .i64 (y 4)) := fun n => (HFO.out n).2.2.2.2.1
                have oy5 : ∀ n : Over wr, n.w.cell? ⟨p5, 5, none⟩ = some (.int .i64 (y 5)) := fun n => (HFO.out n).2.2.2.2.2.1
                have oz0 : ∀ n : Over wr, n.w.cell? ⟨p6, 0, none⟩ = some (.int .i64 (z 0)) := fun n => (HFO.out n).2.2.2.2.2.2.1
                have oz1 : ∀ n : Over wr, n.w.cell? ⟨p6, 1, none⟩ = some (.int .i64 (z 1)) := fun n => (HFO.out n).2.2.2.2.2.2.2.1
                have oz2 : ∀ n : Over wr, n.w.cell? ⟨p6, 2, none⟩ = some (.int .i64 (z 2)) := fun n => (HFO.out n).2.2.2.2.2.2.2.2.1
                have oz3 : ∀ n : Over wr, n.w.cell? ⟨p6, 3, none⟩ = some (.int .i64 (z 3)) := fun n => (HFO.out n).2.2.2.2.2.2.2.2.2.1
                have oz4 : ∀ n : Over wr, n.w.cell? ⟨p6, 4, none⟩ = some (.int .i64 (z 4)) := fun n => (HFO.out n).2.2.2.2.2.2.2.2.2.2.1
                have oz5 : ∀ n : Over wr, n.w.cell? ⟨p6, 5, none⟩ = some (.int .i64 (z 5)) := fun n => (HFO.out n).2.2.2.2.2.2.2.2.2.2.2.1
                have ok1 : ∀ n : Over wr, n.w.cell? ⟨p7 + 1, 1, none⟩ = some (.bool false) := fun n => (HFO.out n).2.2.2.2.2.2.2.2.2.2.2.2.1
                have ok2 : ∀ n : Over wr, n.w.cell? ⟨p7 + 1, 2, none⟩ = some (.bool false) := fun n => (HFO.out n).2.2.2.2.2.2.2.2.2.2.2.2.2.1
                have ok3 : ∀ n : Over wr, n.w.cell? ⟨p7 + 1, 3, none⟩ = some (.bool b3) := fun n => (HFO.out n).2.2.2.2.2.2.2.2.2.2.2.2.2.2.1
                have ok4 : ∀ n : Over wr, n.w.cell? ⟨p7 + 1, 4, none⟩ = some (.bool b4) := fun n => (HFO.out n).2.2.2.2.2.2.2.2.2.2.2.2.2.2.2
                refine wp_region_over (by kernel_rfl) (by kernel_rfl) ?_
                repeat (go_big_quiet_step (first | exact fun _ => rfl | rfl | (with_reducible exact quiet_over (HAO.out _))))
                refine wpQuiet_nil ?_
                intro _ hw'
                obtain ⟨nq, rfl⟩ := hw'
                have HBF := Lib.hid (HBO.out.trans (nq.h.mono HBO.out.size))
                go_wp2_with fail
                go_ret
                exact ⟨rfl, HBF.out⟩
end Go.Proofs.YtdgkdoccllolpaaDoor.P
