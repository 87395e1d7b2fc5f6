/- SymbolFixes: the walk. -/
import Derived.Test.YtcpjekggagcinaaK4
import Derived.Test.YtcpjekggagcinaaQuietW
namespace Go.Proofs.Ytcpjekggagcinaa.P
open Go Go.RowKit Go.Shelf
open G.S (codeV Cd code_box box4_at)
open G (Box IRow Dice grown_then)

set_option maxRecDepth 100000 in
set_option maxHeartbeats 4000000 in
theorem symbolFixes_any (a : Option Addr) (cap : Nat) (ts : List Int) (w : World) (hR : IRow w a ts cap) :
    Calls Try.prog 4 #[.slice a ts.length cap] w fun e W => e = .returned (.bool true) ∧ Below w.heap.size w W := by
  have hroom := hR.room
  have hmost := hR.most
  by_cases h400 : (ts.length : Int) ≤ 400
  case neg =>
    have hd : decide ((ts.length : Int) ≤ 400) = false := by simpa using h400
    have HL := Lib.hid (G.light_any a ts.length cap w)
    rw [hd] at HL
    clear hd hR
    go_enter Try.func4, Try.ntmps4
    go_wp2_with fail
    refine HL.out.mono ?_
    rintro e w1 ⟨rfl, rfl⟩
    go_wp2_with fail
    refine (awake_yes _).mono ?_
    rintro e w2 ⟨rfl, hb2⟩
    go_wp2_with fail
    exact bodyPost_ret (v := .bool true) (by simp [results, Try.results4, go_sem]) rfl ⟨rfl, hb2⟩
  case pos =>
    have hd : decide ((ts.length : Int) ≤ 400) = true := by simpa using h400
    have HL := Lib.hid (G.light_any a ts.length cap w)
    rw [hd] at HL
    have HRO := Lib.hid (G.roll_any a cap ts w hR (by omega))
    clear hd hR
    go_enter Try.func4, Try.ntmps4
    go_wp2_with fail
    refine HL.out.mono ?_
    rintro e w1 ⟨rfl, rfl⟩
    go_wp2_with fail
    refine HRO.out.mono ?_
    rintro e w1 ⟨rfl, hd1, hb1⟩
    have HSY := Lib.hid (symbols_any w1 w.heap.size a cap ts 0 hd1)
    have HFAR := Lib.hid hd1.far
    have hdp1 := hd1.lt
    have HB1 := Lib.hid hb1
    clear hd1 hb1 HL HRO
    go_wp2_with fail
    refine HSY.out.mono ?_
    rintro e w2 ⟨D, C, F, k2, hcd, hF, rfl, hd2, hg2⟩
    unfold codeV
    have hs12 := hg2.size
    have hbw2 := below_dice HB1.out hg2 (Nat.le_refl _)
    obtain ⟨pc, w3, W3, hpc, hw3, hst, hbx3, hb23, hpl3⟩ := new_code w2 D C F
    have HCD := Lib.hid hcd
    have HF := Lib.hid hF
    have HC3 := Lib.hid hbx3
    have HD3 := Lib.hid (hd2.below hb23)
    have HB3 := Lib.hid (hbw2.trans (hb23.mono hbw2.size))
    obtain ⟨hD1, hD2, hC1, hC2, _⟩ := hcd
    have hdpc : w.heap.size < pc := by omega
    have hdp3 := HD3.out.lt
    obtain ⟨Wa, Wb, Wc, e1, e2, e3, e4, f1, f2, f3, f4, f5, f6, f7, f8⟩ := hst
    have hdp : w.heap.size ≤ w.heap.size := Nat.le_refl _
    clear hd2 hg2 hbw2 hbx3 hb23 HSY HB1 hF
    obtain ⟨x0, x1, x2, x3⟩ := box4_at HC3.out
    have HBY := Lib.hid (bytesG_any W3 w.heap.size a cap ts k2 D (by omega) HD3.out)
    go_wp2_with fail
    refine HBY.out.mono ?_
    rintro e w4 ⟨data, ad, cd, k4, hdl, rfl, ho4, hd4, hg4⟩
    have HC4 := Lib.hid (HC3.out.grown hg4 (by intro e; cases e; omega))
    have hs34 := hg4.size
    have HB4 := Lib.hid (below_dice HB3.out hg4 (Nat.le_refl _) HB3.out.size)
    have HD4 := Lib.hid hd4
    have hen := encode_yes HCD.out HF.out ad data cd w4 (ho4.rowAtN hdl) hdl
    unfold codeV at hen
    have HEN := Lib.hid hen
    obtain ⟨y0, y1, y2, y3⟩ := box4_at HC4.out
    obtain ⟨n, hn⟩ : ∃ n, D + C = n := ⟨_, rfl⟩
    have en : (D : Int) + (C : Int) = (n : Int) := by omega
    have hn40 : n ≤ 40 := by omega
    have hn1 : 1 ≤ n := by omega
    have HN := Lib.hid hn
    unfold EncR at HEN
    rw [hn] at HEN
    clear hdl ho4 hd4 hg4 hen HBY HD3 HC3 HB3 hn e1 e2 e3 e4 f1 f2 f3 f4 f5 f6 f7 f8 hw3
    go_wp2_with fail
    (with_reducible refine HEN.out.mono ?_)
    rintro e w5 ⟨xs, ax, cx, rfl, hox, hex, hb5⟩
    have HC5 := Lib.hid (HC4.out.below hb5)
    have HD5 := Lib.hid (HD4.out.below hb5)
    have HB5 := Lib.hid (HB4.out.trans (hb5.mono HB4.out.size))
    have HOX := Lib.hid (hox.mono HB4.out.size)
    have hxl : xs.length = n := by rw [hex.cw.len]; exact HN.out
    have HXL := Lib.hid hxl
    have HXC := Lib.hid hex.cw
    have hdx : (Value.slice ax n cx).ownBlock ≠ some w.heap.size := by intro e; have := (World.ownsRow.lt hox _ e).1; omega
    have HDX := Lib.hid hdx
    clear hox hex hb5 hxl HC4 HD4 HB4 HEN hdx y0 y1 y2 y3
    go_wp2_with fail
    refine (awake_yes _).mono ?_
    rintro e w6 ⟨rfl, hb6⟩
    have HC6 := Lib.hid (HC5.out.below hb6)
    have HD6 := Lib.hid (HD5.out.below hb6)
    have HB6 := Lib.hid (HB5.out.trans (hb6.mono HB5.out.size))
    have HOX6 := Lib.hid (HOX.out.below hb6)
    obtain ⟨y0, y1, y2, y3⟩ := box4_at HC6.out
    have hnn : ((n : Int) != (n : Int)) = false := by simp
    have eC : (C : Int) + 1 = ((C + 1 : Nat) : Int) := rfl
    have hnx := G.next_any w6 w.heap.size a cap ts k4 (C + 1) (by omega) (by omega) HD6.out
    rw [← eC] at hnx
    have HNX := Lib.hid hnx
    clear hb6 HC5 HD5 HB5 HOX hnx eC
    go_wp2_with fail
    (with_reducible refine HNX.out.mono ?_)
    rintro e w7 ⟨r, k7, hr, rfl, hd7, hg7⟩
    have HC7 := Lib.hid (HC6.out.grown hg7 (by intro e; cases e; omega))
    have HB7 := Lib.hid (below_dice HB6.out hg7 (Nat.le_refl _) HB6.out.size)
    have HOX7 := Lib.hid (HOX6.out.grown hg7 (.inr HDX.out))
    have HSM := Lib.hid (some_any w7 w.heap.size a cap ts k7 n r (by omega) (by omega) hd7)
    clear hd7 hg7 HC6 HD6 HB6 HOX6 HNX y0 y1 y2 y3
    go_wp2_with fail
    (with_reducible refine HSM.out.mono ?_)
    rintro e w8 ⟨E, aE, cE, k8, hasc, hEr, hEn, rfl, hoE, hd8, hg8⟩
    have HC8 := Lib.hid (HC7.out.grown hg8 (by intro e; cases e; omega))
    have HB8 := Lib.hid (below_dice HB7.out hg8 (Nat.le_refl _) HB7.out.size)
    have HOX8 := Lib.hid (HOX7.out.grown hg8 (.inr HDX.out))
    have HD8 := Lib.hid hd8
    have hdE : (Value.slice aE E.length cE).ownBlock ≠ some w.heap.size := by intro e; have := (World.ownsRow.lt hoE _ e).1; have := HB7.out.size; have := HC7.out.lt; omega
    have HDE := Lib.hid hdE
    have HOE := Lib.hid hoE
    have HAS := Lib.hid hasc
    have hEC : E.length ≤ C := by omega
    have hdp8 : w.heap.size < w8.heap.size := HD8.out.lt
    have HFA8 := Lib.hid HD8.out.far
    clear hasc hEr hoE hd8 hg8 HC7 HB7 HOX7 HSM hdE
    go_wp2_with (at_builtin; refine wpList_appAny (zs := []) (ys := xs) (B := w8.heap.size) (cap := cx) (ad := ax) rfl _ _ rfl rfl (Own.nil _ _) (by rw [HXL.out]; rfl) (HOX8.out.rowAtN HXL.out) (by rw [HXL.out]; simp; omega) (Nat.le_refl _) ?_; intro a9 c9 w9 ho9 hb9; rw [show ([] : List PM.G).length + xs.length = n by rw [HXL.out]; simp])
    have ho9' : Own w9 w8.heap.size (.slice a9 n c9) xs := by
      have := ho9
      rw [show ([] ++ xs : List PM.G) = xs from rfl, HXL.out] at this
      exact this
    obtain ⟨gw, rfl, hgw, _⟩ := ho9'.fresh (by rw [HXL.out]; omega)
    have hcn : n ≤ c9 := by have := (ho9'.rowAtN HXL.out).room; rwa [HXL.out] at this
    have hcm : c9 ≤ 9223372036854775807 := (ho9'.rowAtN HXL.out).most
    have HO9 := Lib.hid ho9'
    have HG9 := Lib.hid (G.grown_then (World.grownBy.refl w8 (some w.heap.size)) hb9)
    have HD9 := Lib.hid (HD8.out.below hb9)
    obtain ⟨t, ht⟩ : ∃ t, tOf C F E.length = t := ⟨_, rfl⟩
    have HT := Lib.hid ht
    have hmin : min (F : Int) (((C : Int) - (E.length : Int)) / 2) = (t : Int) := by rw [← ht]; unfold tOf; omega
    have ht4 : t ≤ 8 := by rw [← ht]; unfold tOf; omega
    have hkE : E.length ≤ cE := HOE.out.room.1
    have hkm : cE ≤ 9223372036854775807 := HOE.out.room.2
    clear ho9 ho9' hb9 ht
    go_loopw [11] (fun i wr => ∃ (j k' : Nat) (zs : List PM.G), i = .int .i64 (j : Int) ∧ j ≤ E.length ∧ Hid (Dif n xs zs E []) ∧ Own wr w8.heap.size (.slice (some ⟨gw, 0, none⟩) n c9) zs ∧ Dice wr w.heap.size a cap ts k' ∧ w8.grownBy wr (some w.heap.size)) (fun i _ => E.length - (intOf i).toNat)
    case atStart => exact ⟨0, k8, xs, rfl, by omega, Lib.hid (Dif.start HXL.out E), HO9.out, HD9.out, HG9.out⟩
    case round => as_aux_lemma =>
      clear HO9 HG9 HD9
      obtain ⟨j, k', zs, rfl, hj, HDF, ho, hd, hg⟩ := hrel
      have HO := Lib.hid ho
      have HD := Lib.hid hd
      have HG := Lib.hid hg
      clear ho hd hg
      by_cases hlt : j < E.length
      · obtain ⟨b, off, eb, hc⟩ := ((HOE.out.grown HG.out (.inr HDE.out)).rowAt).elN j hlt
        subst eb
        have hbd : b ≠ w.heap.size := fun e => HDE.out (by rw [e]; rfl)
        obtain ⟨p, hp⟩ : ∃ p, G.el E j = p := ⟨_, rfl⟩
        have hpE : p ∈ E := by rw [← hp]; exact G.el_mem hlt
        have hpn : p < n := by have := HAS.out.lt p hpE; exact this
        rw [hp] at hc
        have HPE := Lib.hid hpE
        have HNX := Lib.hid (show Calls Try.prog 15 #[.pointer (some ⟨w.heap.size, 0, none⟩), .int .i64 256] wr.drew (G.NextPost wr.drew w.heap.size a cap ts 256) from G.next_any wr.drew w.heap.size a cap ts k' 256 (by omega) (by omega) (HD.out.drewN 1))
        have HOD := Lib.hid (show Own wr.drew w8.heap.size (.slice (some ⟨gw, 0, none⟩) n c9) zs from HO.out.drewN 1)
        have HGD := Lib.hid (show w8.grownBy wr.drew (some w.heap.size) from grown_drewN HG.out 1)
        have q1 : wr.drew.cell? ⟨b, off + j, none⟩ = some (.int .i64 (p : Int)) := hc
        have hzl := HDF.out.len
        have HZL := Lib.hid hzl
        clear hp hpE hc HO HD HG hzl
        go_upto_block 1 with fail
        go_cut [] (fun wx => ∃ (k2 : Nat) (x : PM.G), Own wx w8.heap.size (.slice (some ⟨gw, 0, none⟩) n c9) (zs.set p x) ∧ Dice wx w.heap.size a cap ts k2 ∧ w8.grownBy wx (some w.heap.size))
        case first =>
          go_wp2_with fail
          go_region_law (go_simp; go_at_call 15; (with_reducible refine HNX.out.mono ?_); rintro e w10 ⟨r, k10, hr, rfl, hd10, hg10⟩; obtain ⟨x, rfl⟩ := asG hr; have hcv := conv_u8 hr; have q2 := G.cell_grown hg10 (show b ≠ w.heap.size from hbd) q1; have ho10 := HOD.out.grown hg10 (.inr (show some gw ≠ some w.heap.size by intro e; cases e; omega)); have hat := (ho10.at p (by rw [HZL.out]; exact hpn)).2.2.2.2; have ha1 := hat.1; have ha2 := hat.2; have hst : Own (w10.setCell ⟨gw, p, none⟩ (.int .u8 (x.v : Int))) w8.heap.size (.slice (some ⟨gw, 0, none⟩) n c9) (zs.set p x) := (by have := Own.set (zs := zs) (cap := c9) (g := gw) (by rw [HZL.out]; exact ho10) p x; rwa [HZL.out] at this); have HST := Lib.hid hst; have HDT := Lib.hid (hd10.belowAt (W' := w10.setCell ⟨gw, p, none⟩ (.int .u8 (x.v : Int))) ((Below.refl w8.heap.size w10).setCell (p := ⟨gw, p, none⟩) hgw _) hdp8 HFA8.out); have HGT := Lib.hid (G.grown_setCell (G.grown_trans HGD.out hg10) (a := ⟨gw, p, none⟩) (.int .u8 (x.v : Int)) (.inl hgw)); clear hd10 hg10 ho10 hat hst; go_simp)
          all_goals (
            go_wp2_with fail
            go_meet
            exact ⟨k10, x, HST.out, HDT.out, HGT.out⟩)
        case rest =>
          obtain ⟨k2, x, ho2, hd2, hg2⟩ := hcut
          have HO2 := Lib.hid ho2
          have HD2 := Lib.hid hd2
          have HG2 := Lib.hid hg2
          clear ho2 hd2 hg2 HNX HOD HGD q1
          go_wp2_with fail
          go_roundw
          case rel => exact ⟨j + 1, k2, zs.set p x, by go_num, hlt, Lib.hid (HDF.out.inE HPE.out x), HO2.out, HD2.out, HG2.out⟩
          case measure => simp [intOf]; omega
      · obtain rfl : j = E.length := by omega
        have hcx := HC8.out.grown HG.out (by intro e; cases e; omega)
        obtain ⟨y0, y1, y2, y3⟩ := box4_at hcx
        clear hcx
        go_wp2_with fail
        go_loopw [12] (fun s wz => ∃ (kk k2 : Nat) (zs : List PM.G) (O : List Nat), s = .int .i64 (kk : Int) ∧ kk ≤ t ∧ Hid (Dif n xs zs E O ∧ O.length + kk ≤ t) ∧ Own wz w8.heap.size (.slice (some ⟨gw, 0, none⟩) n c9) zs ∧ Dice wz w.heap.size a cap ts k2 ∧ w8.grownBy wz (some w.heap.size)) (fun s _ => (intOf s).toNat)
        case atStart => exact ⟨t, k', zs, [], rfl, Nat.le_refl _, Lib.hid ⟨HDF.out, by simp⟩, HO.out, HD.out, HG.out⟩
        case round => as_aux_lemma =>
          clear HO HD HG HDF y0 y1 y2 y3
          obtain ⟨kk, k2, zs, O, rfl, hkk, HDF, ho, hd, hg⟩ := hrel
          have HO := Lib.hid ho
          have HD := Lib.hid hd
          have HG := Lib.hid hg
          clear ho hd hg
          cases kk with
          | succ kk =>
            have e1 : ((kk + 1 : Nat) : Int) = (kk : Int) + 1 := rfl
            have HNX := Lib.hid (G.next_any wr.drew w.heap.size a cap ts k2 n (by omega) (by omega) (HD.out.drewN 1))
            have HOD := Lib.hid (show Own wr.drew w8.heap.size (.slice (some ⟨gw, 0, none⟩) n c9) zs from HO.out.drewN 1)
            have HGD := Lib.hid (show w8.grownBy wr.drew (some w.heap.size) from grown_drewN HG.out 1)
            have hzl := HDF.out.1.len
            have HZL := Lib.hid hzl
            clear HO HD HG hzl
            go_upto_block 3 with fail
            go_cut [] (fun wx => ∃ (k3 p : Nat) (x : PM.G), Own wx w8.heap.size (.slice (some ⟨gw, 0, none⟩) n c9) (zs.set p x) ∧ Dice wx w.heap.size a cap ts k3 ∧ w8.grownBy wx (some w.heap.size))
            case first =>
              go_wp2_with fail
              go_region_law (first
                | (go_simp; go_at_call 15; (with_reducible refine HNX.out.mono ?_); rintro e w10 ⟨p, k10, hp, rfl, hd10, hg10⟩; have ho10 := HOD.out.grown hg10 (.inr (show some gw ≠ some w.heap.size by intro e; cases e; omega)); have hat := (ho10.at p (by rw [HZL.out]; exact hp)).2.2.2.2; obtain ⟨v0, hv0⟩ : ∃ v0, PM.el zs p = v0 := ⟨_, rfl⟩; rw [hv0] at hat; have ha1 := hat.1; have HO10 := Lib.hid ho10; have HG10 := Lib.hid (G.grown_trans HGD.out hg10); have HNY := Lib.hid (show Calls Try.prog 15 #[.pointer (some ⟨w.heap.size, 0, none⟩), .int .i64 256] w10 (G.NextPost w10 w.heap.size a cap ts 256) from G.next_any w10 w.heap.size a cap ts k10 256 (by omega) (by omega) hd10); have HV0 := Lib.hid hv0; clear hd10 hg10 ho10 hat hv0; go_simp)
                | (go_simp; go_at_call 15; (with_reducible refine HNY.out.mono ?_); rintro e w11 ⟨r, k11, hr, rfl, hd11, hg11⟩; obtain ⟨x, rfl⟩ := asG hr; have hcv := conv_u8 hr; have ho11 := HO10.out.grown hg11 (.inr (show some gw ≠ some w.heap.size by intro e; cases e; omega)); have hat := (ho11.at p (by rw [HZL.out]; exact hp)).2.2.2.2; rw [HV0.out] at hat; have hb1 := hat.1; have hb2 := hat.2; have hxor := xor_G v0 x; obtain ⟨y, hy⟩ : ∃ y, v0 + x = y := ⟨_, rfl⟩; rw [hy] at hxor; have hst : Own (w11.setCell ⟨gw, p, none⟩ (.int .u8 (y.v : Int))) w8.heap.size (.slice (some ⟨gw, 0, none⟩) n c9) (zs.set p y) := (by have := Own.set (zs := zs) (cap := c9) (g := gw) (by rw [HZL.out]; exact ho11) p y; rwa [HZL.out] at this); have HST := Lib.hid hst; have HDT := Lib.hid (hd11.belowAt (W' := w11.setCell ⟨gw, p, none⟩ (.int .u8 (y.v : Int))) ((Below.refl w8.heap.size w11).setCell (p := ⟨gw, p, none⟩) hgw _) hdp8 HFA8.out); have HGT := Lib.hid (G.grown_setCell (G.grown_trans HG10.out hg11) (a := ⟨gw, p, none⟩) (.int .u8 (y.v : Int)) (.inl hgw)); clear hd11 hg11 ho11 hat hst hy; go_simp))
              all_goals (
                go_wp2_with fail
                go_meet
                exact ⟨k11, p, y, HST.out, HDT.out, HGT.out⟩)
            case rest =>
              obtain ⟨k3, p, x, ho2, hd2, hg2⟩ := hcut
              have HO2 := Lib.hid ho2
              have HD2 := Lib.hid hd2
              have HG2 := Lib.hid hg2
              clear ho2 hd2 hg2 HNX HOD HGD
              go_wp2_with fail
              go_roundw
              case rel => exact ⟨kk, k3, zs.set p x, p :: O, by go_num, by omega, Lib.hid ⟨HDF.out.1.inO p x, by have := HDF.out.2; simp; omega⟩, HO2.out, HD2.out, HG2.out⟩
              case measure => simp [intOf]
          | zero =>
            have hx := HC8.out.grown HG.out (by intro e; cases e; omega)
            obtain ⟨y0, y1, y2, y3⟩ := box4_at hx
            have hbw := below_dice HB8.out HG.out (Nat.le_refl _) HB8.out.size
            have hde := decode_yes HCD.out HF.out (some ⟨gw, 0, none⟩) zs c9 aE E cE wr (HO.out.rowAtN HDF.out.1.len) (by rw [HN.out]; exact HDF.out.1.len) ((HOE.out.grown HG.out (.inr HDE.out)).rowAt) hEC (by rw [HN.out]; exact HAS.out.lt) HAS.out.nodup (by rw [HN.out]; exact plErr_asc HAS.out hEC)
            unfold codeV at hde
            rw [HN.out, HT.out] at hde
            have HDE' := Lib.hid hde
            have HBW := Lib.hid hbw
            have HOX9 := Lib.hid (HOX8.out.grown HG.out (.inr HDX.out))
            clear hx hbw hde
            go_wp2_with fail
            (with_reducible refine HDE'.out.mono ?_)
            rintro e w12 ⟨o, ws, ch, a12, c12, a13, c13, rfl, ho12, ho13, hdec, hb12⟩
            obtain ⟨d1, d2, d3⟩ := Dif.dec (D := D) (C := C) (t := t) (by rw [HN.out]; omega) (by rw [← HT.out]; exact tOf_le hEC) HXC.out (by rw [HN.out]; exact HDF.out.1) (by have := HDF.out.2; omega) (by rw [HN.out]; exact hdec)
            rw [HN.out] at d2
            subst d1
            obtain ⟨dl, hdl⟩ : ∃ dl, diff zs ws n = dl := ⟨_, rfl⟩
            rw [hdl] at d2
            have d2' := d2.symm
            subst d2'
            have hxl := HXL.out
            have hzl := HDF.out.1.len
            have ho2 : (o == (2 : Int)) = false := by rcases d3 with ⟨e, _⟩ | ⟨e, _⟩ <;> rw [e] <;> rfl
            obtain ⟨t0, ht0⟩ : ∃ t0, decide (zs = ws) = t0 := ⟨_, rfl⟩
            have ho0 : (o == (0 : Int)) = t0 := by
              rcases d3 with ⟨e, e'⟩ | ⟨e, e'⟩
              · rw [e, ← ht0, decide_eq_true e'.symm]; rfl
              · rw [e, ← ht0, decide_eq_false (fun h => e' h.symm)]; rfl
            have htt : (t0 != t0) = false := by cases t0 <;> rfl
            rw [hxl] at ho12
            obtain ⟨pd, W13a, W13, hpd, hw13, hst13, hbx13, hb13, hpd13⟩ := new_dec w12 (.int .i64 o) (.slice a12 n c12) (.slice a13 dl.length c13)
            obtain ⟨Da, Db, r1, r2, r3, s1, s2, s3, s4, s5, s6⟩ := hst13
            have hb12' := hb12.trans (hb13.mono hb12.size)
            have HBX := Lib.hid hbx13
            have HRW := Lib.hid ((HO.out.below hb12').rowAtN hzl)
            have HRX := Lib.hid ((HOX9.out.below hb12').rowAtN hxl)
            have HRD := Lib.hid ((ho12.below hb13).rowAtN hxl)
            have HRC := Lib.hid ((ho13.below hb13).rowAt)
            have HBD := Lib.hid (HBW.out.trans (hb12'.mono HBW.out.size))
            have HSA := Lib.hid (fun u : Over W13 => (by have h := same_any a12 ax c12 cx ws ws u.w (HRD.out.below u.h) (HRX.out.below u.h); rw [show eqB ws ws = true from decide_eq_true rfl, hxl] at h; exact h : Calls Try.prog 20 #[.slice a12 n c12, .slice ax n cx] u.w fun e W => e = .returned (.bool true) ∧ Below u.w.heap.size u.w W))
            have HSB := Lib.hid (fun u : Over W13 => (by have h := same_any (some ⟨gw, 0, none⟩) ax c9 cx zs ws u.w (HRW.out.below u.h) (HRX.out.below u.h); rw [show eqB zs ws = t0 from ht0, hxl, hzl] at h; exact h : Calls Try.prog 20 #[.slice (some ⟨gw, 0, none⟩) n c9, .slice ax n cx] u.w fun e W => e = .returned (.bool t0) ∧ Below u.w.heap.size u.w W))
            have hC0 : ∀ u : Over W13, u.w.cell? ⟨pd, 0, none⟩ = some (.int .i64 o) := fun u => G.cell_below u.h (box3_at hbx13).1
            have hC1' : ∀ u : Over W13, u.w.cell? ⟨pd, 1, none⟩ = some (.slice a12 n c12) := fun u => G.cell_below u.h (box3_at hbx13).2.1
            have HTT := Lib.hid ht0
            obtain ⟨z0, z1, z2⟩ := box3_at hbx13
            have HXL' := Lib.hid hxl
            have HZL' := Lib.hid hzl
            have HDL := Lib.hid hdl
            have HDIF := Lib.hid (show ∀ j, j < n → PM.el zs j ≠ PM.el ws j → (diff zs ws j).length < dl.length ∧ G.el dl (diff zs ws j).length = j from fun j hj hne => by rw [← hdl]; exact diff_at hj hne)
            have hdn : dl.length ≤ 40 := by rw [← hdl]; have := diff_le zs ws n; omega
            have hc13 : dl.length ≤ c13 := HRC.out.room
            have hc13m : c13 ≤ 9223372036854775807 := HRC.out.most
            have hcx1 : n ≤ cx := by have := HRX.out.room; rwa [hxl] at this
            have hcx2 : cx ≤ 9223372036854775807 := HRX.out.most
            clear hdec d3 ht0 ho12 ho13 hb12 hb13 hb12' hbx13 HO HD HG HDE' HBW HOX9 HXC hdl y0 y1 y2 y3 hzl
            go_upto_region 21 with fail
            clear hxl
            go_cut [131] (fun v wx => v = .bool false ∧ Below W13.heap.size W13 wx)
            case first =>
              clear z0 z1 z2 HDIF
              refine wp_region_over (by kernel_rfl) (by kernel_rfl) ?_
              repeat (go_big_quiet_step (first | exact fun _ => rfl | rfl | (with_reducible exact quiet_over (HSA.out _)) | (with_reducible exact quiet_over (HSB.out _))))
              refine wpQuiet_nil ?_
              intro _ hw'
              obtain ⟨nq, rfl⟩ := hw'
              go_wp2_with fail
              go_meet
              exact ⟨by first | rfl | trivial, nq.h⟩
            case rest =>
              obtain ⟨rfl, hbc⟩ := hcut
              have HBC := Lib.hid hbc
              clear hbc HSA HSB hC0 hC1' z0 z1 z2 HRD
              go_wp2_with fail
              go_loopw [15, 16] (fun c i wz => ∃ j : Nat, i = .int .i64 (j : Int) ∧ j ≤ n ∧ c = .int .i64 ((diff zs ws j).length : Int) ∧ Below W13.heap.size W13 wz) (fun _ i _ => n - (intOf i).toNat)
              case atStart => exact ⟨0, rfl, by omega, by rw [diff_0]; rfl, HBC.out⟩
              case round => as_aux_lemma =>
                clear HBC
                obtain ⟨j, rfl, hj, rfl, hbz⟩ := hrel
                have HBZ := Lib.hid hbz
                have HBZD := Lib.hid (show Below W13.heap.size W13 wr.drew from hbz.drew)
                by_cases hlt : j < n
                · obtain ⟨b1, o1, eb1, hc1⟩ := (HRW.out.below hbz).el j (by rw [HZL'.out]; exact hlt)
                  cases eb1
                  obtain ⟨b2, o2, eb2, hc2⟩ := (HRX.out.below hbz).el j (by rw [HXL'.out]; exact hlt)
                  subst eb2
                  obtain ⟨u0, u1, u2⟩ := box3_at (HBX.out.below HBZD.out)
                  obtain ⟨x, hx⟩ : ∃ x, PM.el zs j = x := ⟨_, rfl⟩
                  obtain ⟨y, hy⟩ : ∃ y, PM.el ws j = y := ⟨_, rfl⟩
                  rw [hx, Nat.zero_add] at hc1
                  rw [hy] at hc2
                  have q1 : wr.drew.cell? ⟨gw, j, none⟩ = some (.int .u8 (x.v : Int)) := hc1
                  have q2 : wr.drew.cell? ⟨b2, o2 + j, none⟩ = some (.int .u8 (y.v : Int)) := hc2
                  have hne := @beq_G x y
                  have HXY := Lib.hid (And.intro hx hy)
                  obtain ⟨k, hk⟩ : ∃ k, (diff zs ws j).length = k := ⟨_, rfl⟩
                  have HK := Lib.hid hk
                  rw [hk]
                  clear hx hy hc1 hc2 hbz hk
                  by_cases h : x = y
                  · rw [decide_eq_false (fun h2 => h2 h)] at hne
                    have HEQ := Lib.hid h
                    clear h
                    go_wp2_with fail
                    go_region
                    go_wp2_with fail
                    go_roundw
                    case rel => exact ⟨j + 1, by go_num, hlt, by rw [diff_no (by rw [HXY.out.1, HXY.out.2, HEQ.out]), HK.out], HBZD.out⟩
                    case measure => simp [intOf]; omega
                  · rw [decide_eq_true h] at hne
                    have hd := HDIF.out j hlt (by rw [HXY.out.1, HXY.out.2]; exact h)
                    rw [HK.out] at hd
                    obtain ⟨hk1, hk2⟩ := hd
                    obtain ⟨b3, o3, eb3, hc3⟩ := (HRC.out.below HBZD.out).elN k hk1
                    subst eb3
                    rw [hk2] at hc3
                    have hkl : ((k : Int) == (dl.length : Int)) = false := by rw [beq_eq_false_iff_ne]; omega
                    have hjj : ((j : Int) != (j : Int)) = false := by simp
                    have HNE := Lib.hid h
                    clear h hk2
                    go_wp2_with fail
                    go_region
                    go_wp2_with fail
                    go_roundw
                    case rel => exact ⟨j + 1, by go_num, hlt, by rw [diff_yes (by rw [HXY.out.1, HXY.out.2]; exact HNE.out), List.length_append, HK.out]; go_num, HBZD.out⟩
                    case measure => simp [intOf]; omega
                · obtain rfl : j = n := by omega
                  rw [HDL.out]
                  obtain ⟨u0, u1, u2⟩ := box3_at (HBX.out.below hbz)
                  have hkl : ((dl.length : Int) == (dl.length : Int)) = true := by simp
                  clear hbz
                  go_wp2_with fail
                  exact bodyPost_ret (v := .bool true) (by simp [results, Try.results4, go_sem]) rfl ⟨rfl, HBD.out.trans (HBZ.out.mono HBD.out.size)⟩
end Go.Proofs.Ytcpjekggagcinaa.P
