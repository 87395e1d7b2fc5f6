/- part.Covers. -/
import Derived.Test.YtdgkdoccllolpaaDoorPCovM
import Derived.Test.YtdgkdoccllolpaaDoorPPlace
import Derived.Test.YtdgkdoccllolpaaDoorPReg
import Derived.Deep.DeepCutAuto
namespace Go.Proofs.YtdgkdoccllolpaaDoor.P
open Go Go.RowKit Go.Shelf
open G
set_option maxRecDepth 100000 in
set_option maxHeartbeats 4000000 in
theorem covers_any (kd : Int) (pl y : Nat → Int) (ch m v : Int) (hd : Bool) (W : World) (hT : Tab W) :
    Calls Tryd.prog 24 #[.agg #[.int .i64 kd, .int .i64 (pl 0), .int .i64 (pl 1), .int .i64 (pl 2), .int .i64 (pl 3), .int .i64 (pl 4), .int .i64 (pl 5), .int .i64 ch, .int .u8 m, .int .u8 v, .bool hd], .agg #[.int .i64 (y 0), .int .i64 (y 1), .int .i64 (y 2), .int .i64 (y 3), .int .i64 (y 4), .int .i64 (y 5)]] W fun e W' => e = .returned (.bool (covB kd pl y)) ∧ Below W.heap.size W W' := by
  have HV := Lib.hid (fun W => known_any kd W)
  rw [kn_eq] at HV
  have HX := Lib.hid (fun W => ofPlace_any pl W)
  have HY := Lib.hid (fun W => ofPlace_any y W)
  have HT := Lib.hid hT
  clear hT
  cases hk : knB kd with
  | false =>
    rw [hk] at HV
    rw [cov_bad hk]
    clear hk
    go_enter Tryd.func24, Tryd.ntmps24
    go_wp2_with fail
    refine (HV.out _).mono ?_
    rintro e w1 ⟨rfl, rfl⟩
    go_wp2_with fail
    go_ret
    exact ⟨rfl, ((Below.refl _ W).alloc (Nat.le_refl _) _).alloc (by simp) _⟩
  | true =>
  obtain ⟨n, rfl, hn1, hn6⟩ := kn_range hk
  rw [hk] at HV
  have HK := Lib.hid hk
  clear hk
  have hsf := (Flt.new W (n : Int) pl ch m v hd).alloc (.cells #[.int .i64 (y 0), .int .i64 (y 1), .int .i64 (y 2), .int .i64 (y 3), .int .i64 (y 4), .int .i64 (y 5)] 24)
  have hsy := Six.new (W.alloc (.cells #[.int .i64 (n : Int), .int .i64 (pl 0), .int .i64 (pl 1), .int .i64 (pl 2), .int .i64 (pl 3), .int .i64 (pl 4), .int .i64 (pl 5), .int .i64 ch, .int .u8 m, .int .u8 v, .bool hd] 26)) 24 y
  have hb1 := ((Below.refl _ W).alloc (Nat.le_refl _) (.cells #[.int .i64 (n : Int), .int .i64 (pl 0), .int .i64 (pl 1), .int .i64 (pl 2), .int .i64 (pl 3), .int .i64 (pl 4), .int .i64 (pl 5), .int .i64 ch, .int .u8 m, .int .u8 v, .bool hd] 26)).alloc (by simp) (.cells #[.int .i64 (y 0), .int .i64 (y 1), .int .i64 (y 2), .int .i64 (y 3), .int .i64 (y 4), .int .i64 (y 5)] 24)
  have ht := HT.out.below hb1
  rw [World.size_alloc] at hsy
  obtain ⟨w1, hw1⟩ : ∃ w1, (W.alloc (.cells #[.int .i64 (n : Int), .int .i64 (pl 0), .int .i64 (pl 1), .int .i64 (pl 2), .int .i64 (pl 3), .int .i64 (pl 4), .int .i64 (pl 5), .int .i64 ch, .int .u8 m, .int .u8 v, .bool hd] 26)).alloc (.cells #[.int .i64 (y 0), .int .i64 (y 1), .int .i64 (y 2), .int .i64 (y 3), .int .i64 (y 4), .int .i64 (y 5)] 24) = w1 := ⟨_, rfl⟩
  rw [hw1] at hsf hsy hb1 ht
  have HSF := Lib.hid hsf
  have HSY := Lib.hid hsy
  have HB1 := Lib.hid hb1
  have HT1 := Lib.hid ht
  have hki := hsf.kind
  clear hsf hsy hb1 ht HT
  go_enter Tryd.func24, Tryd.ntmps24
  go_wp2_with fail
  refine (HV.out _).mono ?_
  rintro e w1' ⟨rfl, rfl⟩
  go_wp2_with fail
  go_cut [5, 6] (fun s5 s6 wx => ∃ p q, s5 = .pointer (some ⟨p, 0, none⟩) ∧ s6 = .pointer (some ⟨q, 0, none⟩) ∧ Six wx p 62 pl ∧ Six wx q 62 y ∧ Below w1.heap.size w1 wx)
  case first =>
    have hmx : Tryd.prog.follows .mixedOrders = true := by kernel_rfl
    refine wp_named (fun a0 ha0 => ?_)
    have HA0 := Lib.hid ha0
    clear ha0
    refine wp_region_inv hmx 9 (fun | 1 => [0] | 2 => [1] | 4 => [3] | 7 => [2, 4, 5, 6] | 8 => [2, 4, 5, 6, 7] | _ => []) (fun n l a W' => ∃ (b0 b1 b2 b3 b4 b5 b6 b7 b8 : Bool) (s13 s14 s15 s16 s17 s5 s6 : Value), l = #[b0, b1, b2, b3, b4, b5, b6, b7, b8] ∧ n = nf b0 + nf b1 + nf b2 + nf b3 + nf b4 + nf b5 + nf b6 + nf b7 + nf b8 ∧ a = (((((((a0.put (some 13) s13).put (some 14) s14).put (some 15) s15).put (some 16) s16).put (some 17) s17).put (some 5) s5).put (some 6) s6) ∧ (b0 = true → s13 = Value.pointer (some ⟨W.heap.size, 1, none⟩)) ∧ (b1 = true → s14 = .agg #[.int .i64 (pl 0), .int .i64 (pl 1), .int .i64 (pl 2), .int .i64 (pl 3), .int .i64 (pl 4), .int .i64 (pl 5)]) ∧ (b2 = true → s15 = .agg #[.int .i64 (pl 0), .int .i64 (pl 1), .int .i64 (pl 2), .int .i64 (pl 3), .int .i64 (pl 4), .int .i64 (pl 5)]) ∧ (b3 = true → s16 = .agg #[.int .i64 (y 0), .int .i64 (y 1), .int .i64 (y 2), .int .i64 (y 3), .int .i64 (y 4), .int .i64 (y 5)]) ∧ (b4 = true → s17 = .agg #[.int .i64 (y 0), .int .i64 (y 1), .int .i64 (y 2), .int .i64 (y 3), .int .i64 (y 4), .int .i64 (y 5)]) ∧ Slot W' w1.heap.size b5 s5 62 (sel b7 pl) ∧ Slot W' w1.heap.size b6 s6 62 (sel b8 y) ∧ (b7 = true → b5 = true ∧ b6 = true) ∧ (b8 = true → b5 = true ∧ b6 = true) ∧ (b5 = true → b6 = true → s5 ≠ s6) ∧ Below w1.heap.size w1 W') (by kernel_rfl) (by kernel_rfl) ?_ ?_ ?_ ?_
    · refine ⟨false, false, false, false, false, false, false, false, false, undef, undef, undef, undef, undef, undef, undef, rfl, rfl, ?_, by simp, by simp, by simp, by simp, by simp, Slot.no, Slot.no, by simp, by simp, by simp, (Below.refl _ w1).drew⟩
      rw [HA0.out]; simp only [Act.put, List.setIfInBounds_toArray, List.set_cons_zero, List.set_cons_succ]
    · rintro n l a W' ⟨b0, b1, b2, b3, b4, b5, b6, b7, b8, s13, s14, s15, s16, s17, s5, s6, rfl, hn, rfl, h0, h1, h2, h3, h4, h5, h6, g0, g1, hne, hb⟩ hr
      have hp := h5.fin (hr 5 (by decide)) (hr 7 (by decide))
      have hq := h6.fin (hr 6 (by decide)) (hr 8 (by decide))
      have HB := Lib.hid hb
      clear hn hr h0 h1 h2 h3 h4 h5 h6 g0 g1 hne hb
      cases hp with
      | intro p hp =>
      cases hq with
      | intro q hq =>
      have e5 := hp.1
      have e6 := hq.1
      have HP := Lib.hid hp.2
      have HQ := Lib.hid hq.2
      clear hp hq
      rw [HA0.out]
      simp only [Act.put, List.setIfInBounds_toArray, List.set_cons_zero, List.set_cons_succ]
      go_wp2_with fail
      go_meet
      exact ⟨p, q, e5, e6, HP.out, HQ.out, HB.out⟩
    · rintro l a W' ⟨b0, b1, b2, b3, b4, b5, b6, b7, b8, s13, s14, s15, s16, s17, s5, s6, rfl, hn, rfl, h0, h1, h2, h3, h4, h5, h6, g0, g1, hne, hb⟩ i hi
      exact get9 hn hi
    · intro i hi
      rcases lt_9 hi with rfl | rfl | rfl | rfl | rfl | rfl | rfl | rfl | rfl
      · rintro n l a W' ⟨b0, b1, b2, b3, b4, b5, b6, b7, b8, s13, s14, s15, s16, s17, s5, s6, rfl, hn, rfl, h0, h1, h2, h3, h4, h5, h6, g0, g1, hne, hb⟩ hl hp
        have e0 : b0 = false := hl
        have HN := Lib.hid hn
        have HNE := Lib.hid hne
        have G0 := Lib.hid g0
        have G1 := Lib.hid g1
        have H0 := Lib.hid h0
        have H1 := Lib.hid h1
        have H2 := Lib.hid h2
        have H3 := Lib.hid h3
        have H4 := Lib.hid h4
        have H5 := Lib.hid h5
        have H6 := Lib.hid h6
        have HB := Lib.hid hb
        clear hn h0 h1 h2 h3 h4 h5 h6 g0 g1 hne hb hl hp
        refine wpOp_step rfl (fun K hK => ?_)
        have HK := Lib.hid hK
        clear hK
        rw [HA0.out]
        simp only [Act.put, List.setIfInBounds_toArray, List.set_cons_zero, List.set_cons_succ]
        go_simp
        exact HK.out _ _ ⟨true, b1, b2, b3, b4, b5, b6, b7, b8, Value.pointer (some ⟨W.heap.size, 1, none⟩), s14, s15, s16, s17, s5, s6, rfl, by have z1 := nf_f e0; have z2 := nf_t; have z3 := HN.out; omega, by rw [HA0.out]; simp only [Act.put, List.setIfInBounds_toArray, List.set_cons_zero, List.set_cons_succ], fun _ => rfl, H1.out, H2.out, H3.out, H4.out, H5.out, H6.out, G0.out, G1.out, HNE.out, HB.out⟩
      · rintro n l a W' ⟨b0, b1, b2, b3, b4, b5, b6, b7, b8, s13, s14, s15, s16, s17, s5, s6, rfl, hn, rfl, h0, h1, h2, h3, h4, h5, h6, g0, g1, hne, hb⟩ hl hp
        have e1 : b1 = false := hl
        have q0 : b0 = true := hp 0 (by decide)
        have hs0 := Lib.hid (HSF.out.below hb)
        have c0 : W'.cell? ⟨W.heap.size, 1, none⟩ = _ := hs0.out.place 0 (by decide)
        have c1 : W'.cell? ⟨W.heap.size, 2, none⟩ = _ := hs0.out.place 1 (by decide)
        have c2 : W'.cell? ⟨W.heap.size, 3, none⟩ = _ := hs0.out.place 2 (by decide)
        have c3 : W'.cell? ⟨W.heap.size, 4, none⟩ = _ := hs0.out.place 3 (by decide)
        have c4 : W'.cell? ⟨W.heap.size, 5, none⟩ = _ := hs0.out.place 4 (by decide)
        have c5 : W'.cell? ⟨W.heap.size, 6, none⟩ = _ := hs0.out.place 5 (by decide)
        have HN := Lib.hid hn
        have HNE := Lib.hid hne
        have G0 := Lib.hid g0
        have G1 := Lib.hid g1
        have H0 := Lib.hid h0
        have H1 := Lib.hid h1
        have H2 := Lib.hid h2
        have H3 := Lib.hid h3
        have H4 := Lib.hid h4
        have H5 := Lib.hid h5
        have H6 := Lib.hid h6
        have HB := Lib.hid hb
        have r0 := h0 q0
        clear hn h0 h1 h2 h3 h4 h5 h6 g0 g1 hne hb hl hp
        refine wpOp_step rfl (fun K hK => ?_)
        have HK := Lib.hid hK
        clear hK
        rw [HA0.out, r0]
        simp only [Act.put, List.setIfInBounds_toArray, List.set_cons_zero, List.set_cons_succ]
        clear r0
        go_simp
        exact HK.out _ _ ⟨b0, true, b2, b3, b4, b5, b6, b7, b8, Value.pointer (some ⟨W.heap.size, 1, none⟩), .agg #[.int .i64 (pl 0), .int .i64 (pl 1), .int .i64 (pl 2), .int .i64 (pl 3), .int .i64 (pl 4), .int .i64 (pl 5)], s15, s16, s17, s5, s6, rfl, by have z1 := nf_f e1; have z2 := nf_t; have z3 := HN.out; omega, by rw [HA0.out]; simp only [Act.put, List.setIfInBounds_toArray, List.set_cons_zero, List.set_cons_succ], fun _ => rfl, fun _ => rfl, H2.out, H3.out, H4.out, H5.out, H6.out, G0.out, G1.out, HNE.out, HB.out⟩
      · rintro n l a W' ⟨b0, b1, b2, b3, b4, b5, b6, b7, b8, s13, s14, s15, s16, s17, s5, s6, rfl, hn, rfl, h0, h1, h2, h3, h4, h5, h6, g0, g1, hne, hb⟩ hl hp
        have e2 : b2 = false := hl
        have q1 : b1 = true := hp 1 (by decide)
        have HN := Lib.hid hn
        have HNE := Lib.hid hne
        have G0 := Lib.hid g0
        have G1 := Lib.hid g1
        have H0 := Lib.hid h0
        have H1 := Lib.hid h1
        have H2 := Lib.hid h2
        have H3 := Lib.hid h3
        have H4 := Lib.hid h4
        have H5 := Lib.hid h5
        have H6 := Lib.hid h6
        have HB := Lib.hid hb
        have r0 := h1 q1
        clear hn h0 h1 h2 h3 h4 h5 h6 g0 g1 hne hb hl hp
        refine wpOp_step rfl (fun K hK => ?_)
        have HK := Lib.hid hK
        clear hK
        rw [HA0.out, r0]
        simp only [Act.put, List.setIfInBounds_toArray, List.set_cons_zero, List.set_cons_succ]
        clear r0
        go_simp
        refine (HX.out _).mono (fun e w5 hq => ?_)
        have he := hq.1
        have HB5 := Lib.hid hq.2
        clear hq
        rw [he]
        clear he
        go_simp
        exact HK.out _ _ ⟨b0, b1, true, b3, b4, b5, b6, b7, b8, s13, .agg #[.int .i64 (pl 0), .int .i64 (pl 1), .int .i64 (pl 2), .int .i64 (pl 3), .int .i64 (pl 4), .int .i64 (pl 5)], .agg #[.int .i64 (pl 0), .int .i64 (pl 1), .int .i64 (pl 2), .int .i64 (pl 3), .int .i64 (pl 4), .int .i64 (pl 5)], s16, s17, s5, s6, rfl, by have z1 := nf_f e2; have z2 := nf_t; have z3 := HN.out; omega, by rw [HA0.out]; simp only [Act.put, List.setIfInBounds_toArray, List.set_cons_zero, List.set_cons_succ], H0.out, fun _ => rfl, fun _ => rfl, H3.out, H4.out, H5.out.below HB5.out, H6.out.below HB5.out, G0.out, G1.out, HNE.out, HB.out.trans (HB5.out.mono HB.out.size)⟩
      · rintro n l a W' ⟨b0, b1, b2, b3, b4, b5, b6, b7, b8, s13, s14, s15, s16, s17, s5, s6, rfl, hn, rfl, h0, h1, h2, h3, h4, h5, h6, g0, g1, hne, hb⟩ hl hp
        have e3 : b3 = false := hl
        have hs0 := Lib.hid (HSY.out.below hb)
        have c0 := hs0.out.at 0 (by decide)
        have c1 := hs0.out.at 1 (by decide)
        have c2 := hs0.out.at 2 (by decide)
        have c3 := hs0.out.at 3 (by decide)
        have c4 := hs0.out.at 4 (by decide)
        have c5 := hs0.out.at 5 (by decide)
        have HN := Lib.hid hn
        have HNE := Lib.hid hne
        have G0 := Lib.hid g0
        have G1 := Lib.hid g1
        have H0 := Lib.hid h0
        have H1 := Lib.hid h1
        have H2 := Lib.hid h2
        have H3 := Lib.hid h3
        have H4 := Lib.hid h4
        have H5 := Lib.hid h5
        have H6 := Lib.hid h6
        have HB := Lib.hid hb
        clear hn h0 h1 h2 h3 h4 h5 h6 g0 g1 hne hb hl hp
        refine wpOp_step rfl (fun K hK => ?_)
        have HK := Lib.hid hK
        clear hK
        rw [HA0.out]
        simp only [Act.put, List.setIfInBounds_toArray, List.set_cons_zero, List.set_cons_succ]
        go_simp
        exact HK.out _ _ ⟨b0, b1, b2, true, b4, b5, b6, b7, b8, s13, s14, s15, .agg #[.int .i64 (y 0), .int .i64 (y 1), .int .i64 (y 2), .int .i64 (y 3), .int .i64 (y 4), .int .i64 (y 5)], s17, s5, s6, rfl, by have z1 := nf_f e3; have z2 := nf_t; have z3 := HN.out; omega, by rw [HA0.out]; simp only [Act.put, List.setIfInBounds_toArray, List.set_cons_zero, List.set_cons_succ], H0.out, H1.out, H2.out, fun _ => rfl, H4.out, H5.out, H6.out, G0.out, G1.out, HNE.out, HB.out⟩
      · rintro n l a W' ⟨b0, b1, b2, b3, b4, b5, b6, b7, b8, s13, s14, s15, s16, s17, s5, s6, rfl, hn, rfl, h0, h1, h2, h3, h4, h5, h6, g0, g1, hne, hb⟩ hl hp
        have e4 : b4 = false := hl
        have q3 : b3 = true := hp 3 (by decide)
        have HN := Lib.hid hn
        have HNE := Lib.hid hne
        have G0 := Lib.hid g0
        have G1 := Lib.hid g1
        have H0 := Lib.hid h0
        have H1 := Lib.hid h1
        have H2 := Lib.hid h2
        have H3 := Lib.hid h3
        have H4 := Lib.hid h4
        have H5 := Lib.hid h5
        have H6 := Lib.hid h6
        have HB := Lib.hid hb
        have r0 := h3 q3
        clear hn h0 h1 h2 h3 h4 h5 h6 g0 g1 hne hb hl hp
        refine wpOp_step rfl (fun K hK => ?_)
        have HK := Lib.hid hK
        clear hK
        rw [HA0.out, r0]
        simp only [Act.put, List.setIfInBounds_toArray, List.set_cons_zero, List.set_cons_succ]
        clear r0
        go_simp
        refine (HY.out _).mono (fun e w5 hq => ?_)
        have he := hq.1
        have HB5 := Lib.hid hq.2
        clear hq
        rw [he]
        clear he
        go_simp
        exact HK.out _ _ ⟨b0, b1, b2, b3, true, b5, b6, b7, b8, s13, s14, s15, .agg #[.int .i64 (y 0), .int .i64 (y 1), .int .i64 (y 2), .int .i64 (y 3), .int .i64 (y 4), .int .i64 (y 5)], .agg #[.int .i64 (y 0), .int .i64 (y 1), .int .i64 (y 2), .int .i64 (y 3), .int .i64 (y 4), .int .i64 (y 5)], s5, s6, rfl, by have z1 := nf_f e4; have z2 := nf_t; have z3 := HN.out; omega, by rw [HA0.out]; simp only [Act.put, List.setIfInBounds_toArray, List.set_cons_zero, List.set_cons_succ], H0.out, H1.out, H2.out, fun _ => rfl, fun _ => rfl, H5.out.below HB5.out, H6.out.below HB5.out, G0.out, G1.out, HNE.out, HB.out.trans (HB5.out.mono HB.out.size)⟩
      · rintro n l a W' ⟨b0, b1, b2, b3, b4, b5, b6, b7, b8, s13, s14, s15, s16, s17, s5, s6, rfl, hn, rfl, h0, h1, h2, h3, h4, h5, h6, g0, g1, hne, hb⟩ hl hp
        have e5 : b5 = false := hl
        have HN := Lib.hid hn
        have HNE := Lib.hid hne
        have G0 := Lib.hid g0
        have G1 := Lib.hid g1
        have H0 := Lib.hid h0
        have H1 := Lib.hid h1
        have H2 := Lib.hid h2
        have H3 := Lib.hid h3
        have H4 := Lib.hid h4
        have H5 := Lib.hid h5
        have H6 := Lib.hid h6
        have HB := Lib.hid hb
        have HNE2 := Lib.hid (fun hb' : b6 = true => h6.ne hb')
        have EB5 := Lib.hid e5
        clear hn h0 h1 h2 h3 h4 h5 h6 g0 g1 hne hb hl hp
        refine wpOp_step rfl (fun K hK => ?_)
        have HK := Lib.hid hK
        clear hK
        rw [HA0.out]
        simp only [Act.put, List.setIfInBounds_toArray, List.set_cons_zero, List.set_cons_succ]
        go_simp
        exact HK.out _ _ ⟨b0, b1, b2, b3, b4, true, b6, b7, b8, s13, s14, s15, s16, s17, Value.pointer (some ⟨W'.heap.size, 0, none⟩), s6, rfl, by have z1 := nf_f e5; have z2 := nf_t; have z3 := HN.out; omega, by rw [HA0.out]; simp only [Act.put, List.setIfInBounds_toArray, List.set_cons_zero, List.set_cons_succ], H0.out, H1.out, H2.out, H3.out, H4.out, Slot.new (not_after (fun h => (G0.out h).1) EB5.out) HB.out.size, H6.out.alloc _, fun h => absurd ((G0.out h).1) (by rw [EB5.out]; decide), fun h => absurd ((G1.out h).1) (by rw [EB5.out]; decide), fun _ hb' e => HNE2.out hb' e.symm, HB.out.alloc HB.out.size _⟩
      · rintro n l a W' ⟨b0, b1, b2, b3, b4, b5, b6, b7, b8, s13, s14, s15, s16, s17, s5, s6, rfl, hn, rfl, h0, h1, h2, h3, h4, h5, h6, g0, g1, hne, hb⟩ hl hp
        have e6 : b6 = false := hl
        have HN := Lib.hid hn
        have HNE := Lib.hid hne
        have G0 := Lib.hid g0
        have G1 := Lib.hid g1
        have H0 := Lib.hid h0
        have H1 := Lib.hid h1
        have H2 := Lib.hid h2
        have H3 := Lib.hid h3
        have H4 := Lib.hid h4
        have H5 := Lib.hid h5
        have H6 := Lib.hid h6
        have HB := Lib.hid hb
        have HNE2 := Lib.hid (fun hb' : b5 = true => h5.ne hb')
        have EB6 := Lib.hid e6
        clear hn h0 h1 h2 h3 h4 h5 h6 g0 g1 hne hb hl hp
        refine wpOp_step rfl (fun K hK => ?_)
        have HK := Lib.hid hK
        clear hK
        rw [HA0.out]
        simp only [Act.put, List.setIfInBounds_toArray, List.set_cons_zero, List.set_cons_succ]
        go_simp
        exact HK.out _ _ ⟨b0, b1, b2, b3, b4, b5, true, b7, b8, s13, s14, s15, s16, s17, s5, Value.pointer (some ⟨W'.heap.size, 0, none⟩), rfl, by have z1 := nf_f e6; have z2 := nf_t; have z3 := HN.out; omega, by rw [HA0.out]; simp only [Act.put, List.setIfInBounds_toArray, List.set_cons_zero, List.set_cons_succ], H0.out, H1.out, H2.out, H3.out, H4.out, H5.out.alloc _, Slot.new (not_after (fun h => (G1.out h).2) EB6.out) HB.out.size, fun h => absurd ((G0.out h).2) (by rw [EB6.out]; decide), fun h => absurd ((G1.out h).2) (by rw [EB6.out]; decide), fun hb' _ e => HNE2.out hb' e, HB.out.alloc HB.out.size _⟩
      · rintro n l a W' ⟨b0, b1, b2, b3, b4, b5, b6, b7, b8, s13, s14, s15, s16, s17, s5, s6, rfl, hn, rfl, h0, h1, h2, h3, h4, h5, h6, g0, g1, hne, hb⟩ hl hp
        have e7 : b7 = false := hl
        have q2 : b2 = true := hp 2 (by decide)
        have q4 : b4 = true := hp 4 (by decide)
        have q5 : b5 = true := hp 5 (by decide)
        have q6 : b6 = true := hp 6 (by decide)
        obtain ⟨p, hs, hB, hsix⟩ : ∃ p, s5 = .pointer (some ⟨p, 0, none⟩) ∧ w1.heap.size ≤ p ∧ Six W' p 62 (sel b7 pl) := by have h := h5; unfold Slot at h; exact h q5
        have HSX6 := Lib.hid hsix
        have c0 := HSX6.out.at 0 (by decide)
        have c1 := HSX6.out.at 1 (by decide)
        have c2 := HSX6.out.at 2 (by decide)
        have c3 := HSX6.out.at 3 (by decide)
        have c4 := HSX6.out.at 4 (by decide)
        have c5 := HSX6.out.at 5 (by decide)
        obtain ⟨f0, f1, f2, f3, f4, f5⟩ := HSX6.out.frees
        have hno : s6 ≠ .pointer (some ⟨p, 0, none⟩) := by rw [← hs]; exact fun e => hne q5 q6 e.symm
        have HNO := Lib.hid hno
        clear hsix hno
        have HN := Lib.hid hn
        have HNE := Lib.hid hne
        have G0 := Lib.hid g0
        have G1 := Lib.hid g1
        have H0 := Lib.hid h0
        have H1 := Lib.hid h1
        have H2 := Lib.hid h2
        have H3 := Lib.hid h3
        have H4 := Lib.hid h4
        have H5 := Lib.hid h5
        have H6 := Lib.hid h6
        have HB := Lib.hid hb
        have r0 := h2 q2
        have r1 := hs
        clear hn h0 h1 h2 h3 h4 h5 h6 g0 g1 hne hb hl hp
        refine wpOp_step rfl (fun K hK => ?_)
        have HK := Lib.hid hK
        clear hK
        rw [HA0.out, r0, r1]
        simp only [Act.put, List.setIfInBounds_toArray, List.set_cons_zero, List.set_cons_succ]
        clear r0
        go_simp
        exact HK.out _ _ ⟨b0, b1, b2, b3, b4, b5, b6, true, b8, s13, s14, .agg #[.int .i64 (pl 0), .int .i64 (pl 1), .int .i64 (pl 2), .int .i64 (pl 3), .int .i64 (pl 4), .int .i64 (pl 5)], s16, s17, Value.pointer (some ⟨p, 0, none⟩), s6, rfl, by have z1 := nf_f e7; have z2 := nf_t; have z3 := HN.out; omega, by rw [HA0.out]; simp only [Act.put, List.setIfInBounds_toArray, List.set_cons_zero, List.set_cons_succ], H0.out, H1.out, fun _ => rfl, H3.out, H4.out, Slot.stored HSX6.out hB pl, H6.out.other HNO.out pl, fun _ => ⟨q5, q6⟩, G1.out, fun _ _ e => HNO.out e.symm, put6_below HB.out hB pl⟩
      · rintro n l a W' ⟨b0, b1, b2, b3, b4, b5, b6, b7, b8, s13, s14, s15, s16, s17, s5, s6, rfl, hn, rfl, h0, h1, h2, h3, h4, h5, h6, g0, g1, hne, hb⟩ hl hp
        have e8 : b8 = false := hl
        have q2 : b2 = true := hp 2 (by decide)
        have q4 : b4 = true := hp 4 (by decide)
        have q5 : b5 = true := hp 5 (by decide)
        have q6 : b6 = true := hp 6 (by decide)
        have q7 : b7 = true := hp 7 (by decide)
        obtain ⟨p, hs, hB, hsix⟩ : ∃ p, s6 = .pointer (some ⟨p, 0, none⟩) ∧ w1.heap.size ≤ p ∧ Six W' p 62 (sel b8 y) := by have h := h6; unfold Slot at h; exact h q6
        have HSX6 := Lib.hid hsix
        have c0 := HSX6.out.at 0 (by decide)
        have c1 := HSX6.out.at 1 (by decide)
        have c2 := HSX6.out.at 2 (by decide)
        have c3 := HSX6.out.at 3 (by decide)
        have c4 := HSX6.out.at 4 (by decide)
        have c5 := HSX6.out.at 5 (by decide)
        obtain ⟨f0, f1, f2, f3, f4, f5⟩ := HSX6.out.frees
        have hno : s5 ≠ .pointer (some ⟨p, 0, none⟩) := by rw [← hs]; exact hne q5 q6
        have HNO := Lib.hid hno
        clear hsix hno
        have HN := Lib.hid hn
        have HNE := Lib.hid hne
        have G0 := Lib.hid g0
        have G1 := Lib.hid g1
        have H0 := Lib.hid h0
        have H1 := Lib.hid h1
        have H2 := Lib.hid h2
        have H3 := Lib.hid h3
        have H4 := Lib.hid h4
        have H5 := Lib.hid h5
        have H6 := Lib.hid h6
        have HB := Lib.hid hb
        have r0 := h4 q4
        have r1 := hs
        clear hn h0 h1 h2 h3 h4 h5 h6 g0 g1 hne hb hl hp
        refine wpOp_step rfl (fun K hK => ?_)
        have HK := Lib.hid hK
        clear hK
        rw [HA0.out, r0, r1]
        simp only [Act.put, List.setIfInBounds_toArray, List.set_cons_zero, List.set_cons_succ]
        clear r0
        go_simp
        exact HK.out _ _ ⟨b0, b1, b2, b3, b4, b5, b6, b7, true, s13, s14, s15, s16, .agg #[.int .i64 (y 0), .int .i64 (y 1), .int .i64 (y 2), .int .i64 (y 3), .int .i64 (y 4), .int .i64 (y 5)], s5, Value.pointer (some ⟨p, 0, none⟩), rfl, by have z1 := nf_f e8; have z2 := nf_t; have z3 := HN.out; omega, by rw [HA0.out]; simp only [Act.put, List.setIfInBounds_toArray, List.set_cons_zero, List.set_cons_succ], H0.out, H1.out, H2.out, H3.out, fun _ => rfl, H5.out.other HNO.out y, Slot.stored HSX6.out hB y, G0.out, fun _ => ⟨q5, q6⟩, fun _ _ e => HNO.out e, put6_below HB.out hB y⟩
  case rest =>
    obtain ⟨p, q, rfl, rfl, hsp, hsq, hbx⟩ := hcut
    have HP := Lib.hid hsp
    have HQ := Lib.hid hsq
    have HB := Lib.hid (HB1.out.trans (hbx.mono HB1.out.size))
    have HTX := Lib.hid (HT1.out.below hbx)
    have hki := (HSF.out.below hbx).kind
    clear hsp hsq hbx HSF HSY HB1 HX HY HV HT1
    have hn7 : n < 7 := by omega
    have t0 : wc.cell? ⟨0, n * 6, none⟩ = some (.bool (nmB (n : Int) 0)) := HTX.out.at n 0 hn7 (by decide)
    have t1 := HTX.out.at n 1 hn7 (by decide)
    have t2 := HTX.out.at n 2 hn7 (by decide)
    have t3 := HTX.out.at n 3 hn7 (by decide)
    have t4 := HTX.out.at n 4 hn7 (by decide)
    have t5 := HTX.out.at n 5 hn7 (by decide)
    go_wp2_with fail
    go_loopw [22] (fun i wr => ∃ k : Nat, i = .int .i64 (k : Int) ∧ k ≤ 6 ∧ Hid (Cov (n : Int) pl y k) ∧ ∃ z, wr = wc.drewN z) (fun i _ => 6 - (intOf i).toNat)
    case atStart => exact ⟨0, rfl, by decide, Lib.hid (Cov.zero _ _ _), 0, rfl⟩
    case round =>
      obtain ⟨k, rfl, hk, HI, z, rfl⟩ := hrel
      by_cases hlt : k < 6
      · have hidx := index_bools (nmB (n : Int)) k hlt
        have hc := HP.out.at k hlt
        have hc2 := HQ.out.at k hlt
        cases hnm : nmB (n : Int) k with
        | false =>
          rw [hnm] at hidx
          have HI2 := Lib.hid (HI.out.succ (.inl hnm))
          clear HI hnm
          go_wp2_with fail
          go_quiet (fail)
          go_wp2_with fail
          go_round
          case rel => exact ⟨k + 1, by go_num, hlt, HI2, _, rfl⟩
          case measure => simp [intOf]; omega
        | true =>
          rw [hnm] at hidx
          by_cases he : pl k = y k
          · have HI2 := Lib.hid (HI.out.succ (.inr he))
            have hd1 : (pl k != y k) = false := by rw [he]; simp
            have hd2 : (pl k == y k) = true := by rw [he]; simp
            clear HI hnm he
            go_wp2_with fail
            go_quiet (fail)
            go_wp2_with fail
            go_round
            case rel => exact ⟨k + 1, by go_num, hlt, HI2, _, rfl⟩
            case measure => simp [intOf]; omega
          · have HN := Lib.hid (cov_no (a := pl) (b := y) hlt hnm he)
            have hd1 : (pl k != y k) = true := by simpa using he
            have hd2 : (pl k == y k) = false := by simpa using he
            clear HI hnm he
            go_wp2_with fail
            go_quiet (fail)
            go_wp2_with fail
            go_ret
            exact ⟨ret_bool HN.out.symm, belowN (belowN HB.out _) _⟩
      · obtain rfl : k = 6 := by omega
        have HN := Lib.hid (cov_yes HK.out HI.out)
        clear HI
        go_wp2_with fail
        go_ret
        exact ⟨ret_bool HN.out.symm, belowN HB.out _⟩
end Go.Proofs.YtdgkdoccllolpaaDoor.P
