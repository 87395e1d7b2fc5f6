/- SymbolWords: the walk. -/
import Derived.Test.YtijkgplglfmfnaaKSWrdM
import Derived.Test.YtijkgplglfmfnaaKQuietW
namespace Go.Proofs.Ytijkgplglfmfnaa.P
open Go Go.RowKit Go.Shelf
open G.S (codeV Cd code_box box4_at)
open G (Box IRow Dice grown_then)

set_option maxRecDepth 100000 in
set_option maxHeartbeats 4000000 in
theorem symbolWords_any (a : Option Addr) (cap : Nat) (ts : List Int) (w : World) (hR : IRow w a ts cap) :
    Calls Try.prog 7 #[.slice a ts.length cap] w fun e W => e = .returned (.bool true) ∧ Below w.heap.size w W := by
  have hroom := hR.room
  have hmost := hR.most
  by_cases h400 : (ts.length : Int) ≤ 400
  case neg =>
    have hd : decide ((ts.length : Int) ≤ 400) = false := by simpa using h400
    have HL := Lib.hid (G.light_any a ts.length cap w)
    rw [hd] at HL
    clear hd hR
    go_enter Try.func7, Try.ntmps7
    go_wp2_with fail
    refine HL.out.mono ?_
    rintro e w1 ⟨rfl, rfl⟩
    go_wp2_with fail
    refine (awake_yes _).mono ?_
    rintro e w2 ⟨rfl, hb2⟩
    go_wp2_with fail
    exact bodyPost_ret (v := .bool true) (by simp [results, Try.results7, go_sem]) rfl ⟨rfl, hb2⟩
  case pos =>
    have hd : decide ((ts.length : Int) ≤ 400) = true := by simpa using h400
    have HL := Lib.hid (G.light_any a ts.length cap w)
    rw [hd] at HL
    have HRO := Lib.hid (G.roll_any a cap ts w hR (by omega))
    clear hd hR
    go_enter Try.func7, Try.ntmps7
    go_wp2_with fail
    refine HL.out.mono ?_
    rintro e w1 ⟨rfl, rfl⟩
    go_wp2_with fail
    refine HRO.out.mono ?_
    rintro e w1 ⟨rfl, hd1, hb1⟩
    have HSY := Lib.hid (symbols_any w1 w.heap.size a cap ts 0 hd1)
    have HFAR := Lib.hid hd1.far
    have hdp1 := hd1.lt
    have HB1 := Lib.hid hb1
    clear hd1 hb1 HL HRO
    go_wp2_with fail
    refine HSY.out.mono ?_
    rintro e w2 ⟨D, C, F, k2, hcd, hF, rfl, hd2, hg2⟩
    unfold codeV
    have hs12 := hg2.size
    have hbw2 := below_dice HB1.out hg2 (Nat.le_refl _)
    obtain ⟨pc, w3, W3, hpc, hw3, hst, hbx3, hb23, hpl3⟩ := new_code w2 D C F
    have HCD := Lib.hid hcd
    have HF := Lib.hid hF
    have HC3 := Lib.hid hbx3
    have HD3 := Lib.hid (hd2.below hb23)
    have HB3 := Lib.hid (hbw2.trans (hb23.mono hbw2.size))
    obtain ⟨hD1, hD2, hC1, hC2, _⟩ := hcd
    have hdpc : w.heap.size < pc := by omega
    have hdp3 := HD3.out.lt
    obtain ⟨Wa, Wb, Wc, e1, e2, e3, e4, f1, f2, f3, f4, f5, f6, f7, f8⟩ := hst
    have hdp : w.heap.size ≤ w.heap.size := Nat.le_refl _
    clear hd2 hg2 hbw2 hbx3 hb23 HSY HB1 hF
    obtain ⟨x0, x1, x2, x3⟩ := box4_at HC3.out
    have HBY := Lib.hid (bytesG_any W3.drew w.heap.size a cap ts k2 D (by omega) (HD3.out.drewN 1))
    obtain ⟨n, hn⟩ : ∃ n, D + C = n := ⟨_, rfl⟩
    have en : (D : Int) + (C : Int) = (n : Int) := by omega
    have hn40 : n ≤ 40 := by omega
    have hn1 : 1 ≤ n := by omega
    have HN := Lib.hid hn
    have HENC := Lib.hid (fun (ad : Option Addr) (data : List PM.G) (cd : Nat) (W : World) (hr : Row W ad data cd) (hl : data.length = D) => (show Calls Try.prog 14 #[.agg #[.int .i64 2, .int .i64 (D : Int), .int .i64 (C : Int), .int .i64 (F : Int)], .slice ad D cd] W (fun e W' => ∃ ws a c, e = .returned (.tuple #[.slice a n c, .int .i64 0]) ∧ Own W' W.heap.size (.slice a n c) ws ∧ CW D C ws ∧ Below W.heap.size W W') from by
      have h := rencode_yes HCD.out HF.out ad data cd W hr hl
      unfold codeV EncR at h
      rw [hn] at h
      exact h.mono fun e W' ⟨ws, a, c, h1, h2, h3, h4⟩ => ⟨ws, a, c, h1, h2, h3.cw, h4⟩))
    clear hn
    go_upto_region 5 with fail
    obtain ⟨q0, q1, q2, q3⟩ := box4_at (HC3.out.drewN 1)
    have r0 : W3.drew.cell? ⟨pc, 0, none⟩ = _ := q0
    have r1 : W3.drew.cell? ⟨pc, 1, none⟩ = _ := q1
    have r2 : W3.drew.cell? ⟨pc, 2, none⟩ = _ := q2
    have r3 : W3.drew.cell? ⟨pc, 3, none⟩ = _ := q3
    clear q0 q1 q2 q3 x0 x1 x2 x3 e1 e2 e3 e4 f1 f2 f3 f4 f5 f6 f7 f8 hw3
    go_cut [5, 6] (fun x e wx => ∃ (xs : List PM.G) (gw cx k4 : Nat), x = .slice (some ⟨gw, 0, none⟩) n cx ∧ e = .int .i64 0 ∧ CW D C xs ∧ pc < gw ∧ gw < wx.heap.size ∧ Own wx W3.heap.size (.slice (some ⟨gw, 0, none⟩) n cx) xs ∧ Dice wx w.heap.size a cap ts k4 ∧ W3.grownBy wx (some w.heap.size))
    case first =>
      go_region_law (first
        | (go_simp; go_at_call 13; (with_reducible refine HBY.out.mono ?_); rintro e w4 ⟨data, ad, cd, k4, hdl, rfl, ho4, hd4, hg4⟩; have hne : pc ≠ w.heap.size := (by omega); have s0 := G.cell_grown hg4 hne r0; have s1 := G.cell_grown hg4 hne r1; have s2 := G.cell_grown hg4 hne r2; have s3 := G.cell_grown hg4 hne r3; have HG4 := Lib.hid (G.grown_trans (grown_drewN (World.grownBy.refl W3 (some w.heap.size)) 1) hg4); have HD4 := Lib.hid hd4; have HEN := Lib.hid (HENC.out ad data cd w4 (ho4.rowAtN hdl) hdl); clear hdl ho4 hd4 hg4; go_simp)
        | (go_simp; go_at_call 14; (with_reducible refine HEN.out.mono ?_); rintro e w5 ⟨xs, ax, cx, rfl, hox, hcw, hb5⟩; have HOX := Lib.hid hox; have HCW := Lib.hid hcw; have HB5 := Lib.hid hb5; clear hox hcw hb5; go_simp))
      all_goals (
        go_wp2_with fail
        go_meet
        obtain ⟨gw, ea, hgw, _⟩ := HOX.out.fresh (by rw [HCW.out.len]; omega)
        subst ea
        have h1 := (World.ownsRow.lt HOX.out gw rfl).2
        have h2 := HG4.out.size
        exact ⟨xs, gw, cx, k4, rfl, rfl, HCW.out, by omega, h1, HOX.out.mono h2, HD4.out.below HB5.out, grown_then HG4.out (HB5.out.mono h2)⟩)
    case rest =>
      obtain ⟨xs, gw, cx, k4, rfl, rfl, hcw, hpg, hgw5, hox, hd, hg⟩ := hcut
      have hxl : xs.length = n := by rw [hcw.len]; exact HN.out
      have hcn : n ≤ cx := by have := (hox.rowAtN hxl).room; rwa [hxl] at this
      have hcm : cx ≤ 9223372036854775807 := (hox.rowAtN hxl).most
      have hsz := HB3.out.size
      have HFB := Lib.hid (show ∀ b off, a = some ⟨b, off, none⟩ → 0 < ts.length → b < gw from fun b off e h0 => by have := HFAR.out b off e h0; omega)
      have HS5 := Lib.hid (show WSt w w.heap.size a cap ts pc D C F n gw cx k4 xs wc from ⟨hox.mono hsz, HC3.out.grown hg (by intro e; cases e; omega), hd, below_dice HB3.out hg (Nat.le_refl _) hsz, hxl⟩)
      have eC : (C : Int) + 3 = ((C + 3 : Nat) : Int) := rfl
      have hnx := G.next_any wc w.heap.size a cap ts k4 (C + 3) (by omega) (by omega) hd
      rw [← eC] at hnx
      have HNX := Lib.hid hnx
      clear hcw hox hd hg hxl r0 r1 r2 r3 HBY HENC HC3 HB3 HD3 hnx eC
      obtain ⟨x0, x1, x2, x3⟩ := box4_at HS5.out.code
      go_wp2_with fail
      (with_reducible refine HNX.out.mono ?_)
      rintro e w7 ⟨r, k7, hr, rfl, hd7, hg7⟩
      have HS7 := Lib.hid (HS5.out.throw rfl hdpc hpg hd7 hg7)
      clear hd7 hg7 HS5 HNX x0 x1 x2 x3
      go_wp2_with fail
      go_loopw [8] (fun s wz => ∃ (kk k2 : Nat) (zs : List PM.G), s = .int .i64 (kk : Int) ∧ kk ≤ C + 3 ∧ Hid (WSt w w.heap.size a cap ts pc D C F n gw cx k2 zs wz)) (fun s _ => (intOf s).toNat)
      case atStart => exact ⟨r, k7, xs, rfl, by omega, HS7⟩
      case round => as_aux_lemma =>
        clear HS7
        obtain ⟨kk, k2, zs, rfl, hkk, HS⟩ := hrel
        cases kk with
        | succ kk =>
          have e1 : ((kk + 1 : Nat) : Int) = (kk : Int) + 1 := rfl
          have HNX := Lib.hid (G.next_any wr w.heap.size a cap ts k2 n (by omega) (by omega) HS.out.dice)
          go_wp2_with fail
          (with_reducible refine HNX.out.mono ?_)
          rintro e w10 ⟨p, k10, hp, rfl, hd10, hg10⟩
          have HS10 := Lib.hid (HS.out.throw rfl hdpc hpg hd10 hg10)
          have HNY := Lib.hid (show Calls Try.prog 15 #[.pointer (some ⟨w.heap.size, 0, none⟩), .int .i64 256] w10 (G.NextPost w10 w.heap.size a cap ts 256) from G.next_any w10 w.heap.size a cap ts k10 256 (by omega) (by omega) hd10)
          clear hd10 hg10 HS HNX
          go_wp2_with fail
          (with_reducible refine HNY.out.mono ?_)
          rintro e w11 ⟨v, k11, hv, rfl, hd11, hg11⟩
          obtain ⟨x, rfl⟩ := asG hv
          have hcv := conv_u8 hv
          have hS := HS10.out.throw rfl hdpc hpg hd11 hg11
          have hat := (hS.word.at p (by rw [hS.len]; exact hp)).2.2.2.2
          have ha1 := hat.1
          have ha2 := hat.2
          have HST := Lib.hid (hS.setWord rfl hdpc hpg HFB.out p x)
          clear hd11 hg11 hS hat HS10 HNY
          go_wp2_with fail
          go_roundw
          case rel => exact ⟨kk, k11, _, by go_num, by omega, HST⟩
          case measure => simp [intOf]
        | zero =>
          obtain ⟨x0, x1, x2, x3⟩ := box4_at HS.out.code
          have eC : (C : Int) + 1 = ((C + 1 : Nat) : Int) := rfl
          have hnx := G.next_any wr w.heap.size a cap ts k2 (C + 1) (by omega) (by omega) HS.out.dice
          rw [← eC] at hnx
          have HNX := Lib.hid hnx
          clear hnx eC
          go_wp2_with fail
          (with_reducible refine HNX.out.mono ?_)
          rintro e w7 ⟨r7, k8, hr7, rfl, hd7, hg7⟩
          have HS7 := Lib.hid (HS.out.throw rfl hdpc hpg hd7 hg7)
          have HSM := Lib.hid (some_any w7 w.heap.size a cap ts k8 n r7 (by omega) (by omega) hd7)
          clear hd7 hg7 HS HNX x0 x1 x2 x3
          go_wp2_with fail
          (with_reducible refine HSM.out.mono ?_)
          rintro e w8 ⟨E, aE, cE, k9, hasc, hEr, hEn, rfl, hoE, hd8, hg8⟩
          have hdE : (Value.slice aE E.length cE).ownBlock ≠ some w.heap.size := by intro e; have := (World.ownsRow.lt hoE _ e).1; have := HS7.out.dice.lt; omega
          have HS8 := Lib.hid (HS7.out.throw rfl hdpc hpg hd8 hg8)
          have HOE := Lib.hid hoE
          have HAS := Lib.hid hasc
          have hEC : E.length ≤ C := by omega
          obtain ⟨t, ht⟩ : ∃ t, tOf C F E.length = t := ⟨_, rfl⟩
          have HT := Lib.hid ht
          have hmin : min (F : Int) (((C : Int) - (E.length : Int)) / 2) = (t : Int) := by rw [← ht]; unfold tOf; omega
          have hkE : E.length ≤ cE := HOE.out.room.1
          have hkm : cE ≤ 9223372036854775807 := HOE.out.room.2
          have hde := decode_yes HCD.out HF.out (some ⟨gw, 0, none⟩) zs cx aE E cE w8 (HS8.out.word.rowAtN HS8.out.len) (by rw [HN.out]; exact HS8.out.len) (HOE.out.rowAt) hEC (by rw [HN.out]; exact hasc.lt) hasc.nodup (by rw [HN.out]; exact plErr_asc hasc hEC)
          unfold codeV at hde
          rw [HN.out, HT.out] at hde
          have HDE := Lib.hid hde
          obtain ⟨x0, x1, x2, x3⟩ := box4_at HS8.out.code
          clear hasc hEr hoE hd8 hg8 HS7 HSM ht hde hdE
          go_wp2_with fail
          (with_reducible refine HDE.out.mono ?_)
          rintro e w12 ⟨o, ws, ch, a12, c12, a13, c13, rfl, ho12, ho13, hdec, hb12⟩
          rcases hdec with ⟨rfl, rfl, rfl, _⟩ | ⟨hwl, hnear, rfl, hoo⟩
          · obtain ⟨pd, W13a, W13, hpd, hw13, hst13, hbx13, hb13, hpd13⟩ := new_dec w12 (.int .i64 2) (.slice a12 0 c12) (.slice a13 0 c13)
            obtain ⟨Da, Db, r1, r2, r3, s1, s2, s3, s4, s5, s6⟩ := hst13
            have hb := hb12.trans (hb13.mono hb12.size)
            have HBD := Lib.hid (HS8.out.bel.trans (hb.mono HS8.out.bel.size))
            have HBX := Lib.hid hbx13
            clear hb hb12 hb13 hbx13 ho12 ho13 HDE HS8 HOE x0 x1 x2 x3
            go_wp2_with fail
            refine (awake_yes _).mono ?_
            rintro e w14 ⟨rfl, hb14⟩
            obtain ⟨z0, z1, z2⟩ := box3_at (HBX.out.below hb14)
            have HBD2 := Lib.hid (HBD.out.trans (hb14.mono HBD.out.size))
            clear hb14 HBX HBD r1 r2 r3 s1 s2 s3 s4 s5 s6 hw13
            go_wp2_with fail
            exact bodyPost_ret (v := .bool true) (by simp [results, Try.results7, go_sem]) rfl ⟨rfl, HBD2.out⟩
          · have hws : ws.length = n := by rw [hwl]
            obtain ⟨dl, hdl⟩ : ∃ dl, diff zs ws n = dl := ⟨_, rfl⟩
            rw [hdl, hws]
            rw [hws] at ho12
            rw [hdl] at ho13
            have hcl := clean_iff HS8.out.len hws hoo
            rw [hdl] at hcl
            have ho2 : (o == (2 : Int)) = false := by rcases hoo with ⟨e, _⟩ | ⟨e, _⟩ <;> rw [e] <;> rfl
            obtain ⟨pd, W13a, W13, hpd, hw13, hst13, hbx13, hb13, hpd13⟩ := new_dec w12 (.int .i64 o) (.slice a12 n c12) (.slice a13 dl.length c13)
            obtain ⟨Da, Db, r1, r2, r3, s1, s2, s3, s4, s5, s6⟩ := hst13
            have hb := hb12.trans (hb13.mono hb12.size)
            have HS13 := Lib.hid (HS8.out.below hb)
            have HBX := Lib.hid hbx13
            have HOE13 := Lib.hid (HOE.out.below hb)
            have HOW := Lib.hid (ho12.below hb13)
            have HOC := Lib.hid (ho13.below hb13)
            have HNE := Lib.hid hnear
            have HCL := Lib.hid hcl
            have HDL := Lib.hid hdl
            have HWS := Lib.hid hws
            clear hb hb12 hb13 hbx13 ho12 ho13 HDE HS8 HOE x0 x1 x2 x3 hcl hnear hdl hws hwl hoo
            go_wp2_with fail
            refine (awake_yes _).mono ?_
            rintro e w14 ⟨rfl, hb14⟩
            obtain ⟨z0, z1, z2⟩ := box3_at (HBX.out.below hb14)
            have HS14 := Lib.hid (HS13.out.below hb14)
            have HOE14 := Lib.hid (HOE13.out.below hb14)
            have HOW14 := Lib.hid (HOW.out.below hb14)
            have HOC14 := Lib.hid (HOC.out.below hb14)
            have HBX14 := Lib.hid (HBX.out.below hb14)
            obtain ⟨x0, x1, x2, x3⟩ := box4_at HS14.out.code
            have hsy := syndromes_yes HCD.out HF.out a12 ws c12 w14 (HOW14.out.rowAtN HWS.out) (by rw [HN.out]; exact HWS.out)
            unfold codeV SynR at hsy
            rw [HN.out] at hsy
            have HSY := Lib.hid hsy
            clear hb14 HBX HS13 HOE13 HOW HOC r1 r2 r3 s1 s2 s3 s4 s5 s6 hw13 hsy
            go_wp2_with fail
            (with_reducible refine HSY.out.mono ?_)
            rintro e w15 ⟨asy, csy, rfl, hos, hb15⟩
            obtain ⟨y0, y1, y2⟩ := box3_at (HBX14.out.below hb15)
            have HS15 := Lib.hid (HS14.out.below hb15)
            have HOE15 := Lib.hid (HOE14.out.below hb15)
            have HOW15 := Lib.hid (HOW14.out.below hb15)
            have HOC15 := Lib.hid (HOC14.out.below hb15)
            have HBX15 := Lib.hid (HBX14.out.below hb15)
            obtain ⟨v0, v1, v2, v3⟩ := box4_at HS15.out.code
            have HSL := Lib.hid hos
            have hnn : ((n : Int) != (n : Int)) = false := by simp
            have hCC : ((C : Int) != (C : Int)) = false := by simp
            have hsyl : (synL D C ws).length = C := synL_len D C ws
            have hcs : C ≤ csy := by have := (hos.rowAtN hsyl).room; rwa [hsyl] at this
            have hcsm : csy ≤ 9223372036854775807 := (hos.rowAtN hsyl).most
            have HSYL := Lib.hid hsyl
            clear hb15 HS14 HOE14 HOW14 HOC14 HBX14 hos x0 x1 x2 x3 z0 z1 z2 HSY hsyl
            go_wp2_with fail
            go_loopw [14] (fun i wz => ∃ j : Nat, i = .int .i64 (j : Int) ∧ j ≤ C ∧ w15 = wz) (fun i _ => C - (intOf i).toNat)
            case atStart => exact ⟨0, rfl, by omega, rfl⟩
            case round => as_aux_lemma =>
              obtain ⟨j, rfl, hj, rfl⟩ := hrel
              by_cases hlt : j < C
              · obtain ⟨b1, o1, eb1, hc1⟩ := (HSL.out.rowAtN HSYL.out).el j (by rw [HSYL.out]; exact hlt)
                subst eb1
                have hz : PM.el (synL D C ws) j = 0 := by
                  unfold synL
                  rw [el_tab _ _ _ hlt, HN.out]
                  exact HNE.out.1 j hlt
                rw [hz] at hc1
                have q1 : w15.cell? ⟨b1, o1 + j, none⟩ = some (.int .u8 0) := hc1
                clear hz hc1 y0 y1 y2 v0 v1 v2 v3
                go_wp2_with fail
                go_roundw
                case rel => exact ⟨j + 1, by go_num, hlt, trivial⟩
                case measure => simp [intOf]; omega
              · obtain rfl : j = C := by omega
                clear HSL HSYL y0 y1 y2 v0 v1 v2 v3
                go_wp2_with fail
                go_loopw [15, 16, 17] (fun o1 c i wz => ∃ j : Nat, i = .int .i64 (j : Int) ∧ j ≤ n ∧ c = .int .i64 ((diff zs ws j).length : Int) ∧ o1 = .int .i64 ((SM.wrong j E (PM.el zs) (PM.el ws)).length : Int) ∧ Below w15.heap.size w15 wz) (fun _ _ i _ => n - (intOf i).toNat)
                case atStart => exact ⟨0, rfl, by omega, by rw [diff_0]; rfl, by rw [wrong_0]; rfl, Below.refl _ _⟩
                case round => as_aux_lemma =>
                  obtain ⟨j, rfl, hj, rfl, rfl, hbz⟩ := hrel
                  have HBZ := Lib.hid hbz
                  have HBZD := Lib.hid (show Below w15.heap.size w15 wr.drew from hbz.drew)
                  by_cases hlt : j < n
                  · obtain ⟨b1, o1, eb1, hc1⟩ := ((HS15.out.word.below hbz).rowAtN HS15.out.len).el j (by rw [HS15.out.len]; exact hlt)
                    cases eb1
                    obtain ⟨b2, o2, eb2, hc2⟩ := ((HOW15.out.below hbz).rowAtN HWS.out).el j (by rw [HWS.out]; exact hlt)
                    subst eb2
                    obtain ⟨u0, u1, u2⟩ := box3_at (HBX15.out.below HBZD.out)
                    obtain ⟨x, hx⟩ : ∃ x, PM.el zs j = x := ⟨_, rfl⟩
                    obtain ⟨y, hy⟩ : ∃ y, PM.el ws j = y := ⟨_, rfl⟩
                    rw [hx, Nat.zero_add] at hc1
                    rw [hy] at hc2
                    have q1 : wr.drew.cell? ⟨gw, j, none⟩ = some (.int .u8 (x.v : Int)) := hc1
                    have q2 : wr.drew.cell? ⟨b2, o2 + j, none⟩ = some (.int .u8 (y.v : Int)) := hc2
                    have hne := @beq_G' y x
                    have HXY := Lib.hid (And.intro hx hy)
                    obtain ⟨k, hk⟩ : ∃ k, (diff zs ws j).length = k := ⟨_, rfl⟩
                    have HK := Lib.hid hk
                    obtain ⟨m, hm⟩ : ∃ m, (SM.wrong j E (PM.el zs) (PM.el ws)).length = m := ⟨_, rfl⟩
                    have HM := Lib.hid hm
                    have hmj : m ≤ 40 := by rw [← hm]; have := wrong_le j E (PM.el zs) (PM.el ws); omega
                    have hk40 : k ≤ 40 := by rw [← hk]; have := diff_le zs ws j; omega
                    rw [hk, hm]
                    have hcw12 : n ≤ c12 := by have := (HOW15.out.rowAtN HWS.out).room; rwa [HWS.out] at this
                    have hcw12m : c12 ≤ 9223372036854775807 := (HOW15.out.rowAtN HWS.out).most
                    clear hx hy hc1 hc2 hbz hk hm
                    by_cases h : y = x
                    · rw [decide_eq_true h] at hne
                      have HEQ := Lib.hid h
                      clear h
                      go_wp2_with fail
                      go_region
                      go_wp2_with fail
                      go_roundw
                      case rel => exact ⟨j + 1, by go_num, hlt, by rw [diff_no (by rw [HXY.out.1, HXY.out.2, HEQ.out]), HK.out], by rw [wrong_same (by rw [HXY.out.1, HXY.out.2, HEQ.out]), HM.out], HBZD.out⟩
                      case measure => simp [intOf]; omega
                    · rw [decide_eq_false h] at hne
                      have hd := diff_at (xs := zs) (ys := ws) hlt (by rw [HXY.out.1, HXY.out.2]; exact fun e => h e.symm)
                      rw [HDL.out, HK.out] at hd
                      obtain ⟨hk1, hk2⟩ := hd
                      have hc13 : dl.length ≤ c13 := HOC15.out.room.1
                      have hc13m : c13 ≤ 9223372036854775807 := HOC15.out.room.2
                      obtain ⟨b3, o3, eb3, hc3⟩ := (HOC15.out.below HBZD.out).rowAt.elN k hk1
                      subst eb3
                      rw [hk2] at hc3
                      have hkl : ((k : Int) == (dl.length : Int)) = false := by rw [beq_eq_false_iff_ne]; omega
                      have hjj : ((j : Int) != (j : Int)) = false := by simp
                      have HNEQ := Lib.hid h
                      clear h hk2
                      go_wp2_with fail
                      go_region
                      go_wp2_with fail
                      go_loopw [18, 19] (fun e q wz => ∃ p : Nat, e = .bool (er E j p) ∧ q = .int .i64 (p : Int) ∧ p ≤ E.length ∧ wr.drew = wz) (fun _ q _ => E.length - (intOf q).toNat)
                      case atStart => exact ⟨0, by rw [er_0], rfl, by omega, rfl⟩
                      case round => as_aux_lemma =>
                        obtain ⟨p, rfl, rfl, hp, rfl⟩ := hrel
                        by_cases hlt2 : p < E.length
                        · obtain ⟨b4, o4, eb4, hc4⟩ := (HOE15.out.below HBZD.out).rowAt.elN p hlt2
                          subst eb4
                          obtain ⟨eb, heb⟩ : ∃ b, er E j p = b := ⟨_, rfl⟩
                          have hes := er_succ hlt2 j
                          rw [heb] at hes ⊢
                          obtain ⟨v, hv⟩ : ∃ v, G.el E p = v := ⟨_, rfl⟩
                          rw [hv] at hc4 hes
                          have hvv : ((v : Int) == (j : Int)) = decide (v = j) := by
                            rw [Bool.eq_iff_iff, beq_iff_eq, decide_eq_true_iff]; omega
                          obtain ⟨b5, hb5⟩ : ∃ b, decide (v = j) = b := ⟨_, rfl⟩
                          rw [hb5] at hvv hes
                          have HES := Lib.hid hes
                          clear heb hv hb5 hes
                          cases eb with
                          | true =>
                            go_wp2_with fail
                            go_roundw
                            case rel => exact ⟨p + 1, by rw [HES.out]; rfl, by go_num, hlt2, trivial⟩
                            case measure => simp [intOf]; omega
                          | false =>
                            go_wp2_with fail
                            go_roundw
                            case rel => exact ⟨p + 1, by rw [HES.out]; rfl, by go_num, hlt2, trivial⟩
                            case measure => simp [intOf]; omega
                        · obtain rfl : E.length = p := by omega
                          rw [er_all]
                          obtain ⟨eb, heb⟩ : ∃ b, E.contains j = b := ⟨_, rfl⟩
                          rw [heb]
                          cases eb with
                          | true =>
                            have HIN := Lib.hid heb
                            clear heb
                            go_wp2_with fail
                            go_roundw
                            case rel => exact ⟨j + 1, by go_num, hlt, by rw [diff_yes (by rw [HXY.out.1, HXY.out.2]; exact fun e => HNEQ.out e.symm), List.length_append, HK.out]; go_num, by rw [wrong_in HIN.out, HM.out], HBZD.out⟩
                            case measure => simp [intOf]; omega
                          | false =>
                            have HIN := Lib.hid heb
                            clear heb
                            go_wp2_with fail
                            go_roundw
                            case rel => exact ⟨j + 1, by go_num, hlt, by rw [diff_yes (by rw [HXY.out.1, HXY.out.2]; exact fun e => HNEQ.out e.symm), List.length_append, HK.out]; go_num, by rw [wrong_out (by rw [HXY.out.1, HXY.out.2]; exact HNEQ.out) HIN.out, List.length_append, HM.out]; go_num, HBZD.out⟩
                            case measure => simp [intOf]; omega
                  · obtain rfl : j = n := by omega
                    rw [HDL.out]
                    obtain ⟨u0, u1, u2⟩ := box3_at (HBX15.out.below hbz)
                    obtain ⟨t0, t1, t2, t3⟩ := box4_at (HS15.out.code.below hbz)
                    have hkl : ((dl.length : Int) == (dl.length : Int)) = true := by simp
                    obtain ⟨m, hm⟩ : ∃ m, (SM.wrong j E (PM.el zs) (PM.el ws)).length = m := ⟨_, rfl⟩
                    have hmt : m ≤ t := by
                      rw [← hm]
                      exact near_wrong HNE.out
                    have hcl := HCL.out
                    rw [hm]
                    have HBD := Lib.hid (HS15.out.bel.trans (hbz.mono HS15.out.bel.size))
                    clear hbz hm
                    go_wp2_with fail
                    exact bodyPost_ret (v := .bool true) (by simp [results, Try.results7, go_sem]) rfl ⟨rfl, HBD.out⟩
end Go.Proofs.Ytijkgplglfmfnaa.P
