/- The reference's Index. -/
import Derived.Test.YtdgkdoccllolpaaDoorPIndex
import Derived.Deep.DeepCutAuto
namespace Go.Proofs.YtdgkdoccllolpaaDoor.P
open Go Go.RowKit Go.Shelf
open G
set_option maxRecDepth 100000 in
set_option maxHeartbeats 1000000 in
theorem rindex_any (x y : Nat → Int) (W : World) :
    Calls Tryd.prog 25 #[.agg #[.int .i64 (x 0), .int .i64 (x 1), .int .i64 (x 2), .int .i64 (x 3), .int .i64 (x 4), .int .i64 (x 5)], .agg #[.int .i64 (y 0), .int .i64 (y 1), .int .i64 (y 2), .int .i64 (y 3), .int .i64 (y 4), .int .i64 (y 5)]] W fun e W' => e = .returned (.tuple #[.int .i64 (idxV x y : Int), .int .i64 (idxE x y)]) ∧ Below W.heap.size W W' := by
  have HV := Lib.hid (fun W => rvalid_any x W)
  have HVP := Lib.hid (fun W => rvplace_any x y W)
  have HX := Lib.hid (fun W => bits_any x W)
  have HY := Lib.hid (fun W => numbers_any y W)
  cases hk : okB x with
  | false =>
    rw [hk] at HV
    have HI := Lib.hid (idx_bad (y := y) hk)
    clear hk
    go_enter Tryd.func25, Tryd.ntmps25
    go_wp2_with fail
    refine (HV.out _).mono ?_
    rintro e w1 ⟨rfl, hb1⟩
    have HB := Lib.hid (below_box2 hb1 (Nat.le_refl _))
    clear hb1
    go_wp2_with fail
    exact bodyPost_ret (v := .tuple #[.int .i64 0, .int .i64 1]) (by simp [results, Tryd.results25, go_sem]) rfl ⟨ret_two (by rw [HI.out.1]; rfl) HI.out.2.symm, HB.out⟩
  | true =>
  rw [hk] at HV
  have HO := Lib.hid (And.intro hk (ok_yes hk))
  clear hk
  go_enter Tryd.func25, Tryd.ntmps25
  go_wp2_with fail
  refine (HV.out _).mono ?_
  rintro e w1 ⟨rfl, hb1⟩
  have hsx := ((Six.new W 23 x).alloc (.cells #[.int .i64 (y 0), .int .i64 (y 1), .int .i64 (y 2), .int .i64 (y 3), .int .i64 (y 4), .int .i64 (y 5)] 24)).below hb1
  have hsy := (Six.new (W.alloc (.cells #[.int .i64 (x 0), .int .i64 (x 1), .int .i64 (x 2), .int .i64 (x 3), .int .i64 (x 4), .int .i64 (x 5)] 23)) 24 y).below hb1
  rw [World.size_alloc] at hsy
  have HB := Lib.hid (below_box2 hb1 (Nat.le_refl _))
  obtain ⟨c0, c1, c2, c3, c4, c5⟩ := hsy.all
  obtain ⟨d0, d1, d2, d3, d4, d5⟩ := hsx.all
  have HSX := Lib.hid hsx
  have HSY := Lib.hid hsy
  clear hb1 hsx hsy HV
  go_wp2_with fail
  refine (HVP.out _).mono ?_
  rintro e w2 ⟨rfl, hb2⟩
  have HB2 := Lib.hid (HB.out.trans (hb2.mono HB.out.size))
  have hsx2 := HSX.out.below hb2
  have hsy2 := HSY.out.below hb2
  clear c0 c1 c2 c3 c4 c5 d0 d1 d2 d3 d4 d5 HSX HSY HB hb2
  cases hv : vpB x y with
  | false =>
    have HI := Lib.hid (idx_no HO.out.1 hv)
    clear hv hsx2 hsy2
    go_wp2_with fail
    exact bodyPost_ret (v := .tuple #[.int .i64 0, .int .i64 2]) (by simp [results, Tryd.results25, go_sem]) rfl ⟨ret_two (by rw [HI.out.1]; rfl) HI.out.2.symm, HB2.out⟩
  | true =>
  have HI := Lib.hid (idx_yes HO.out.1 hv)
  have HN := Lib.hid (vp_in hv).2
  have HSX := Lib.hid hsx2
  have HSY := Lib.hid hsy2
  clear hv hsx2 hsy2
  go_wp2_with fail
  go_cut [6, 7] (fun s5 s6 wx => ∃ p q, s5 = .pointer (some ⟨p, 0, none⟩) ∧ s6 = .pointer (some ⟨q, 0, none⟩) ∧ Six wx p 61 x ∧ Six wx q 61 y ∧ Below W.heap.size W wx)
  case first =>
    have hmx : Tryd.prog.follows .mixedOrders = true := by kernel_rfl
    refine wp_named (fun a0 ha0 => ?_)
    have HA0 := Lib.hid ha0
    clear ha0
    refine wp_region_inv hmx 8 (fun | 1 => [0] | 3 => [2] | 6 => [1, 3, 4, 5] | 7 => [1, 3, 4, 5, 6] | _ => []) (fun n l a W' => ∃ (b0 b1 b2 b3 b4 b5 b6 b7 : Bool) (s17 s18 s19 s20 s6 s7 : Value), l = #[b0, b1, b2, b3, b4, b5, b6, b7] ∧ n = nf b0 + nf b1 + nf b2 + nf b3 + nf b4 + nf b5 + nf b6 + nf b7 ∧ a = ((((((a0.put (some 17) s17).put (some 18) s18).put (some 19) s19).put (some 20) s20).put (some 6) s6).put (some 7) s7) ∧ (b0 = true → s17 = .agg #[.int .i64 (x 0), .int .i64 (x 1), .int .i64 (x 2), .int .i64 (x 3), .int .i64 (x 4), .int .i64 (x 5)]) ∧ (b1 = true → s18 = .agg #[.int .i64 (x 0), .int .i64 (x 1), .int .i64 (x 2), .int .i64 (x 3), .int .i64 (x 4), .int .i64 (x 5)]) ∧ (b2 = true → s19 = .agg #[.int .i64 (y 0), .int .i64 (y 1), .int .i64 (y 2), .int .i64 (y 3), .int .i64 (y 4), .int .i64 (y 5)]) ∧ (b3 = true → s20 = .agg #[.int .i64 (y 0), .int .i64 (y 1), .int .i64 (y 2), .int .i64 (y 3), .int .i64 (y 4), .int .i64 (y 5)]) ∧ Slot W' w2.heap.size b4 s6 61 (sel b6 x) ∧ Slot W' w2.heap.size b5 s7 61 (sel b7 y) ∧ (b6 = true → b4 = true ∧ b5 = true) ∧ (b7 = true → b4 = true ∧ b5 = true) ∧ (b4 = true → b5 = true → s6 ≠ s7) ∧ Below w2.heap.size w2 W') (by kernel_rfl) (by kernel_rfl) ?_ ?_ ?_ ?_
    · refine ⟨false, false, false, false, false, false, false, false, undef, undef, undef, undef, undef, undef, rfl, rfl, ?_, by simp, by simp, by simp, by simp, Slot.no, Slot.no, by simp, by simp, by simp, (Below.refl _ w2).drew⟩
      rw [HA0.out]; rfl
    · rintro n l a W' ⟨b0, b1, b2, b3, b4, b5, b6, b7, s17, s18, s19, s20, s6, s7, rfl, hn, rfl, h0, h1, h2, h3, h4, h5, g0, g1, hne, hb⟩ hr
      have hp := h4.fin (hr 4 (by decide)) (hr 6 (by decide))
      have hq := h5.fin (hr 5 (by decide)) (hr 7 (by decide))
      have HB := Lib.hid hb
      clear hn hr h0 h1 h2 h3 h4 h5 g0 g1 hne hb
      cases hp with
      | intro p hp =>
      cases hq with
      | intro q hq =>
      have e5 := hp.1
      have e6 := hq.1
      have HP := Lib.hid hp.2
      have HQ := Lib.hid hq.2
      clear hp hq
      rw [HA0.out]
      simp only [Act.put, List.setIfInBounds_toArray, List.set_cons_zero, List.set_cons_succ]
      go_wp2_with fail
      go_meet
      exact ⟨p, q, e5, e6, HP.out, HQ.out, HB2.out.trans (HB.out.mono HB2.out.size)⟩
    · rintro l a W' ⟨b0, b1, b2, b3, b4, b5, b6, b7, s17, s18, s19, s20, s6, s7, rfl, hn, rfl, h0, h1, h2, h3, h4, h5, g0, g1, hne, hb⟩ i hi
      exact get8 hn hi
    · intro i hi
      rcases lt_8 hi with rfl | rfl | rfl | rfl | rfl | rfl | rfl | rfl
      · rintro n l a W' ⟨b0, b1, b2, b3, b4, b5, b6, b7, s17, s18, s19, s20, s6, s7, rfl, hn, rfl, h0, h1, h2, h3, h4, h5, g0, g1, hne, hb⟩ hl hp
        have e0 : b0 = false := hl
        have hs0 := Lib.hid (HSX.out.below hb)
        have c0 := hs0.out.at 0 (by decide)
        have c1 := hs0.out.at 1 (by decide)
        have c2 := hs0.out.at 2 (by decide)
        have c3 := hs0.out.at 3 (by decide)
        have c4 := hs0.out.at 4 (by decide)
        have c5 := hs0.out.at 5 (by decide)
        have HN := Lib.hid hn
        have HNE := Lib.hid hne
        have G0 := Lib.hid g0
        have G1 := Lib.hid g1
        have H0 := Lib.hid h0
        have H1 := Lib.hid h1
        have H2 := Lib.hid h2
        have H3 := Lib.hid h3
        have H4 := Lib.hid h4
        have H5 := Lib.hid h5
        have HB := Lib.hid hb
        clear hn h0 h1 h2 h3 h4 h5 g0 g1 hne hb hl hp
        refine wpOp_step rfl (fun K hK => ?_)
        have HK := Lib.hid hK
        clear hK
        rw [HA0.out]
        simp only [Act.put, List.setIfInBounds_toArray, List.set_cons_zero, List.set_cons_succ]
        go_simp
        exact HK.out _ _ ⟨true, b1, b2, b3, b4, b5, b6, b7, .agg #[.int .i64 (x 0), .int .i64 (x 1), .int .i64 (x 2), .int .i64 (x 3), .int .i64 (x 4), .int .i64 (x 5)], s18, s19, s20, s6, s7, rfl, by have z1 := nf_f e0; have z2 := nf_t; have z3 := HN.out; omega, by rw [HA0.out]; rfl, fun _ => rfl, H1.out, H2.out, H3.out, H4.out, H5.out, G0.out, G1.out, HNE.out, HB.out⟩
      · rintro n l a W' ⟨b0, b1, b2, b3, b4, b5, b6, b7, s17, s18, s19, s20, s6, s7, rfl, hn, rfl, h0, h1, h2, h3, h4, h5, g0, g1, hne, hb⟩ hl hp
        have e1 : b1 = false := hl
        have q0 : b0 = true := hp 0 (by decide)
        have HN := Lib.hid hn
        have HNE := Lib.hid hne
        have G0 := Lib.hid g0
        have G1 := Lib.hid g1
        have H0 := Lib.hid h0
        have H1 := Lib.hid h1
        have H2 := Lib.hid h2
        have H3 := Lib.hid h3
        have H4 := Lib.hid h4
        have H5 := Lib.hid h5
        have HB := Lib.hid hb
        have r0 := h0 q0
        clear hn h0 h1 h2 h3 h4 h5 g0 g1 hne hb hl hp
        refine wpOp_step rfl (fun K hK => ?_)
        have HK := Lib.hid hK
        clear hK
        rw [HA0.out, r0]
        simp only [Act.put, List.setIfInBounds_toArray, List.set_cons_zero, List.set_cons_succ]
        clear r0
        go_simp
        refine (HX.out _).mono (fun e w5 hq => ?_)
        have he := hq.1
        have HB5 := Lib.hid hq.2
        clear hq
        rw [he]
        clear he
        go_simp
        exact HK.out _ _ ⟨b0, true, b2, b3, b4, b5, b6, b7, .agg #[.int .i64 (x 0), .int .i64 (x 1), .int .i64 (x 2), .int .i64 (x 3), .int .i64 (x 4), .int .i64 (x 5)], .agg #[.int .i64 (x 0), .int .i64 (x 1), .int .i64 (x 2), .int .i64 (x 3), .int .i64 (x 4), .int .i64 (x 5)], s19, s20, s6, s7, rfl, by have z1 := nf_f e1; have z2 := nf_t; have z3 := HN.out; omega, by rw [HA0.out]; rfl, fun _ => rfl, fun _ => rfl, H2.out, H3.out, H4.out.below HB5.out, H5.out.below HB5.out, G0.out, G1.out, HNE.out, HB.out.trans (HB5.out.mono HB.out.size)⟩
      · rintro n l a W' ⟨b0, b1, b2, b3, b4, b5, b6, b7, s17, s18, s19, s20, s6, s7, rfl, hn, rfl, h0, h1, h2, h3, h4, h5, g0, g1, hne, hb⟩ hl hp
        have e2 : b2 = false := hl
        have hs0 := Lib.hid (HSY.out.below hb)
        have c0 := hs0.out.at 0 (by decide)
        have c1 := hs0.out.at 1 (by decide)
        have c2 := hs0.out.at 2 (by decide)
        have c3 := hs0.out.at 3 (by decide)
        have c4 := hs0.out.at 4 (by decide)
        have c5 := hs0.out.at 5 (by decide)
        have HN := Lib.hid hn
        have HNE := Lib.hid hne
        have G0 := Lib.hid g0
        have G1 := Lib.hid g1
        have H0 := Lib.hid h0
        have H1 := Lib.hid h1
        have H2 := Lib.hid h2
        have H3 := Lib.hid h3
        have H4 := Lib.hid h4
        have H5 := Lib.hid h5
        have HB := Lib.hid hb
        clear hn h0 h1 h2 h3 h4 h5 g0 g1 hne hb hl hp
        refine wpOp_step rfl (fun K hK => ?_)
        have HK := Lib.hid hK
        clear hK
        rw [HA0.out]
        simp only [Act.put, List.setIfInBounds_toArray, List.set_cons_zero, List.set_cons_succ]
        go_simp
        exact HK.out _ _ ⟨b0, b1, true, b3, b4, b5, b6, b7, s17, s18, .agg #[.int .i64 (y 0), .int .i64 (y 1), .int .i64 (y 2), .int .i64 (y 3), .int .i64 (y 4), .int .i64 (y 5)], s20, s6, s7, rfl, by have z1 := nf_f e2; have z2 := nf_t; have z3 := HN.out; omega, by rw [HA0.out]; rfl, H0.out, H1.out, fun _ => rfl, H3.out, H4.out, H5.out, G0.out, G1.out, HNE.out, HB.out⟩
      · rintro n l a W' ⟨b0, b1, b2, b3, b4, b5, b6, b7, s17, s18, s19, s20, s6, s7, rfl, hn, rfl, h0, h1, h2, h3, h4, h5, g0, g1, hne, hb⟩ hl hp
        have e3 : b3 = false := hl
        have q2 : b2 = true := hp 2 (by decide)
        have HN := Lib.hid hn
        have HNE := Lib.hid hne
        have G0 := Lib.hid g0
        have G1 := Lib.hid g1
        have H0 := Lib.hid h0
        have H1 := Lib.hid h1
        have H2 := Lib.hid h2
        have H3 := Lib.hid h3
        have H4 := Lib.hid h4
        have H5 := Lib.hid h5
        have HB := Lib.hid hb
        have r0 := h2 q2
        clear hn h0 h1 h2 h3 h4 h5 g0 g1 hne hb hl hp
        refine wpOp_step rfl (fun K hK => ?_)
        have HK := Lib.hid hK
        clear hK
        rw [HA0.out, r0]
        simp only [Act.put, List.setIfInBounds_toArray, List.set_cons_zero, List.set_cons_succ]
        clear r0
        go_simp
        refine (HY.out _).mono (fun e w5 hq => ?_)
        have he := hq.1
        have HB5 := Lib.hid hq.2
        clear hq
        rw [he]
        clear he
        go_simp
        exact HK.out _ _ ⟨b0, b1, b2, true, b4, b5, b6, b7, s17, s18, .agg #[.int .i64 (y 0), .int .i64 (y 1), .int .i64 (y 2), .int .i64 (y 3), .int .i64 (y 4), .int .i64 (y 5)], .agg #[.int .i64 (y 0), .int .i64 (y 1), .int .i64 (y 2), .int .i64 (y 3), .int .i64 (y 4), .int .i64 (y 5)], s6, s7, rfl, by have z1 := nf_f e3; have z2 := nf_t; have z3 := HN.out; omega, by rw [HA0.out]; rfl, H0.out, H1.out, fun _ => rfl, fun _ => rfl, H4.out.below HB5.out, H5.out.below HB5.out, G0.out, G1.out, HNE.out, HB.out.trans (HB5.out.mono HB.out.size)⟩
      · rintro n l a W' ⟨b0, b1, b2, b3, b4, b5, b6, b7, s17, s18, s19, s20, s6, s7, rfl, hn, rfl, h0, h1, h2, h3, h4, h5, g0, g1, hne, hb⟩ hl hp
        have e4 : b4 = false := hl
        have HN := Lib.hid hn
        have HNE := Lib.hid hne
        have G0 := Lib.hid g0
        have G1 := Lib.hid g1
        have H0 := Lib.hid h0
        have H1 := Lib.hid h1
        have H2 := Lib.hid h2
        have H3 := Lib.hid h3
        have H4 := Lib.hid h4
        have H5 := Lib.hid h5
        have HB := Lib.hid hb
        have HNE2 := Lib.hid (fun hb' : b5 = true => h5.ne hb')
        have EB4 := Lib.hid e4
        clear hn h0 h1 h2 h3 h4 h5 g0 g1 hne hb hl hp
        refine wpOp_step rfl (fun K hK => ?_)
        have HK := Lib.hid hK
        clear hK
        rw [HA0.out]
        simp only [Act.put, List.setIfInBounds_toArray, List.set_cons_zero, List.set_cons_succ]
        go_simp
        exact HK.out _ _ ⟨b0, b1, b2, b3, true, b5, b6, b7, s17, s18, s19, s20, Value.pointer (some ⟨W'.heap.size, 0, none⟩), s7, rfl, by have z1 := nf_f e4; have z2 := nf_t; have z3 := HN.out; omega, by rw [HA0.out]; rfl, H0.out, H1.out, H2.out, H3.out, Slot.new (not_after (fun h => (G0.out h).1) EB4.out) HB.out.size, H5.out.alloc _, fun h => absurd ((G0.out h).1) (by rw [EB4.out]; decide), fun h => absurd ((G1.out h).1) (by rw [EB4.out]; decide), fun _ hb' e => HNE2.out hb' e.symm, HB.out.alloc HB.out.size _⟩
      · rintro n l a W' ⟨b0, b1, b2, b3, b4, b5, b6, b7, s17, s18, s19, s20, s6, s7, rfl, hn, rfl, h0, h1, h2, h3, h4, h5, g0, g1, hne, hb⟩ hl hp
        have e5 : b5 = false := hl
        have HN := Lib.hid hn
        have HNE := Lib.hid hne
        have G0 := Lib.hid g0
        have G1 := Lib.hid g1
        have H0 := Lib.hid h0
        have H1 := Lib.hid h1
        have H2 := Lib.hid h2
        have H3 := Lib.hid h3
        have H4 := Lib.hid h4
        have H5 := Lib.hid h5
        have HB := Lib.hid hb
        have HNE2 := Lib.hid (fun hb' : b4 = true => h4.ne hb')
        have EB5 := Lib.hid e5
        clear hn h0 h1 h2 h3 h4 h5 g0 g1 hne hb hl hp
        refine wpOp_step rfl (fun K hK => ?_)
        have HK := Lib.hid hK
        clear hK
        rw [HA0.out]
        simp only [Act.put, List.setIfInBounds_toArray, List.set_cons_zero, List.set_cons_succ]
        go_simp
        exact HK.out _ _ ⟨b0, b1, b2, b3, b4, true, b6, b7, s17, s18, s19, s20, s6, Value.pointer (some ⟨W'.heap.size, 0, none⟩), rfl, by have z1 := nf_f e5; have z2 := nf_t; have z3 := HN.out; omega, by rw [HA0.out]; rfl, H0.out, H1.out, H2.out, H3.out, H4.out.alloc _, Slot.new (not_after (fun h => (G1.out h).2) EB5.out) HB.out.size, fun h => absurd ((G0.out h).2) (by rw [EB5.out]; decide), fun h => absurd ((G1.out h).2) (by rw [EB5.out]; decide), fun hb' _ e => HNE2.out hb' e, HB.out.alloc HB.out.size _⟩
      · rintro n l a W' ⟨b0, b1, b2, b3, b4, b5, b6, b7, s17, s18, s19, s20, s6, s7, rfl, hn, rfl, h0, h1, h2, h3, h4, h5, g0, g1, hne, hb⟩ hl hp
        have e6 : b6 = false := hl
        have q1 : b1 = true := hp 1 (by decide)
        have q3 : b3 = true := hp 3 (by decide)
        have q4 : b4 = true := hp 4 (by decide)
        have q5 : b5 = true := hp 5 (by decide)
        obtain ⟨p, hs, hB, hsix⟩ : ∃ p, s6 = .pointer (some ⟨p, 0, none⟩) ∧ w2.heap.size ≤ p ∧ Six W' p 61 (sel b6 x) := by have h := h4; unfold Slot at h; exact h q4
        have HSX6 := Lib.hid hsix
        have c0 := HSX6.out.at 0 (by decide)
        have c1 := HSX6.out.at 1 (by decide)
        have c2 := HSX6.out.at 2 (by decide)
        have c3 := HSX6.out.at 3 (by decide)
        have c4 := HSX6.out.at 4 (by decide)
        have c5 := HSX6.out.at 5 (by decide)
        obtain ⟨f0, f1, f2, f3, f4, f5⟩ := HSX6.out.frees
        have hno : s7 ≠ .pointer (some ⟨p, 0, none⟩) := by rw [← hs]; exact fun e => hne q4 q5 e.symm
        have HNO := Lib.hid hno
        clear hsix hno
        have HN := Lib.hid hn
        have HNE := Lib.hid hne
        have G0 := Lib.hid g0
        have G1 := Lib.hid g1
        have H0 := Lib.hid h0
        have H1 := Lib.hid h1
        have H2 := Lib.hid h2
        have H3 := Lib.hid h3
        have H4 := Lib.hid h4
        have H5 := Lib.hid h5
        have HB := Lib.hid hb
        have r0 := h1 q1
        have r1 := hs
        clear hn h0 h1 h2 h3 h4 h5 g0 g1 hne hb hl hp
        refine wpOp_step rfl (fun K hK => ?_)
        have HK := Lib.hid hK
        clear hK
        rw [HA0.out, r0, r1]
        simp only [Act.put, List.setIfInBounds_toArray, List.set_cons_zero, List.set_cons_succ]
        clear r0
        go_simp
        exact HK.out _ _ ⟨b0, b1, b2, b3, b4, b5, true, b7, s17, .agg #[.int .i64 (x 0), .int .i64 (x 1), .int .i64 (x 2), .int .i64 (x 3), .int .i64 (x 4), .int .i64 (x 5)], s19, s20, Value.pointer (some ⟨p, 0, none⟩), s7, rfl, by have z1 := nf_f e6; have z2 := nf_t; have z3 := HN.out; omega, by rw [HA0.out]; rfl, H0.out, fun _ => rfl, H2.out, H3.out, Slot.stored HSX6.out hB x, H5.out.other HNO.out x, fun _ => ⟨q4, q5⟩, G1.out, fun _ _ e => HNO.out e.symm, put6_below HB.out hB x⟩
      · rintro n l a W' ⟨b0, b1, b2, b3, b4, b5, b6, b7, s17, s18, s19, s20, s6, s7, rfl, hn, rfl, h0, h1, h2, h3, h4, h5, g0, g1, hne, hb⟩ hl hp
        have e7 : b7 = false := hl
        have q1 : b1 = true := hp 1 (by decide)
        have q3 : b3 = true := hp 3 (by decide)
        have q4 : b4 = true := hp 4 (by decide)
        have q5 : b5 = true := hp 5 (by decide)
        have q6 : b6 = true := hp 6 (by decide)
        obtain ⟨p, hs, hB, hsix⟩ : ∃ p, s7 = .pointer (some ⟨p, 0, none⟩) ∧ w2.heap.size ≤ p ∧ Six W' p 61 (sel b7 y) := by have h := h5; unfold Slot at h; exact h q5
        have HSX6 := Lib.hid hsix
        have c0 := HSX6.out.at 0 (by decide)
        have c1 := HSX6.out.at 1 (by decide)
        have c2 := HSX6.out.at 2 (by decide)
        have c3 := HSX6.out.at 3 (by decide)
        have c4 := HSX6.out.at 4 (by decide)
        have c5 := HSX6.out.at 5 (by decide)
        obtain ⟨f0, f1, f2, f3, f4, f5⟩ := HSX6.out.frees
        have hno : s6 ≠ .pointer (some ⟨p, 0, none⟩) := by rw [← hs]; exact hne q4 q5
        have HNO := Lib.hid hno
        clear hsix hno
        have HN := Lib.hid hn
        have HNE := Lib.hid hne
        have G0 := Lib.hid g0
        have G1 := Lib.hid g1
        have H0 := Lib.hid h0
        have H1 := Lib.hid h1
        have H2 := Lib.hid h2
        have H3 := Lib.hid h3
        have H4 := Lib.hid h4
        have H5 := Lib.hid h5
        have HB := Lib.hid hb
        have r0 := h3 q3
        have r1 := hs
        clear hn h0 h1 h2 h3 h4 h5 g0 g1 hne hb hl hp
        refine wpOp_step rfl (fun K hK => ?_)
        have HK := Lib.hid hK
        clear hK
        rw [HA0.out, r0, r1]
        simp only [Act.put, List.setIfInBounds_toArray, List.set_cons_zero, List.set_cons_succ]
        clear r0
        go_simp
        exact HK.out _ _ ⟨b0, b1, b2, b3, b4, b5, b6, true, s17, s18, s19, .agg #[.int .i64 (y 0), .int .i64 (y 1), .int .i64 (y 2), .int .i64 (y 3), .int .i64 (y 4), .int .i64 (y 5)], s6, Value.pointer (some ⟨p, 0, none⟩), rfl, by have z1 := nf_f e7; have z2 := nf_t; have z3 := HN.out; omega, by rw [HA0.out]; rfl, H0.out, H1.out, H2.out, fun _ => rfl, H4.out.other HNO.out y, Slot.stored HSX6.out hB y, G0.out, fun _ => ⟨q4, q5⟩, fun _ _ e => HNO.out e, put6_below HB.out hB y⟩
  case rest =>
  obtain ⟨p, q, rfl, rfl, hsp, hsq, hbx⟩ := hcut
  have HP := Lib.hid hsp
  have HS5 := Lib.hid hsq
  have HB5 := Lib.hid hbx
  clear hsp hsq hbx HSX HSY HB2 HX HY HVP
  go_wp2_with fail
  go_loopw [8, 9] (fun s i wr => ∃ k : Nat, i = .int .i64 (k : Int) ∧ k ≤ 6 ∧ s = .int .i64 (ix x y k : Int) ∧ ∃ n, wr = wc.drewN n) (fun _ i _ => 6 - (intOf i).toNat)
  case atStart => exact ⟨0, rfl, by decide, by rw [ix_zero]; rfl, 0, rfl⟩
  case round =>
    obtain ⟨k, rfl, hk, rfl, n, rfl⟩ := hrel
    by_cases hlt : k < 6
    · obtain ⟨hx, hn⟩ := HO.out.2.1 k hlt
      have hc2 := HP.out.at k hlt
      rw [hx] at hc2
      have hwu : IntKind.u64.wrap (wd x k : Int) = (wd x k : Int) := by rw [IntKind.wrap_u64]; omega
      obtain ⟨m, z, hm, hz, hw⟩ := ix_step HO.out.2.2 HN.out hlt
      have hc := HS5.out.at k hlt
      rw [hz] at hc
      obtain ⟨r, hr⟩ : ∃ r, ix x y (k + 1) = r := ⟨_, rfl⟩
      rw [hr] at hw
      have HR := Lib.hid hr
      clear hx hz hr
      go_wp2_with fail
      go_quiet (fail)
      go_wp2_with fail
      go_round
      case rel => exact ⟨k + 1, by go_num, hlt, by rw [HR.out], _, rfl⟩
      case measure => simp [intOf]; omega
    · obtain rfl : k = 6 := by omega
      go_wp2_with fail
      exact bodyPost_ret (v := .tuple #[.int .i64 (ix x y 6 : Int), .int .i64 0]) (by simp [results, Tryd.results25, go_sem]) rfl ⟨ret_two (by rw [HI.out.1]) HI.out.2.symm, belowN HB5.out _⟩
end Go.Proofs.YtdgkdoccllolpaaDoor.P
