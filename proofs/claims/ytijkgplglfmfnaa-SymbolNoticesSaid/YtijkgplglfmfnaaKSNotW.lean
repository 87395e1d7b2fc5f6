/- SymbolNotices: the walk. -/
import Derived.Test.YtijkgplglfmfnaaKSNotS
import Derived.Test.YtijkgplglfmfnaaKQuietW
namespace Go.Proofs.Ytijkgplglfmfnaa.P
open Go Go.RowKit Go.Shelf
open G.S (codeV Cd code_box box4_at)
open G (Box IRow Dice grown_then)

set_option maxRecDepth 100000 in
set_option maxHeartbeats 4000000 in
theorem symbolNotices_any (a : Option Addr) (cap : Nat) (ts : List Int) (w : World) (hR : IRow w a ts cap) :
    Calls Try.prog 5 #[.slice a ts.length cap] w fun e W => e = .returned (.bool true) ∧ Below w.heap.size w W := by
  have hroom := hR.room
  have hmost := hR.most
  by_cases h400 : (ts.length : Int) ≤ 400
  case neg =>
    have hd : decide ((ts.length : Int) ≤ 400) = false := by simpa using h400
    have HL := Lib.hid (G.light_any a ts.length cap w)
    rw [hd] at HL
    clear hd hR
    go_enter Try.func5, Try.ntmps5
    go_wp2_with fail
    refine HL.out.mono ?_
    rintro e w1 ⟨rfl, rfl⟩
    go_wp2_with fail
    refine (awake_yes _).mono ?_
    rintro e w2 ⟨rfl, hb2⟩
    go_wp2_with fail
    exact bodyPost_ret (v := .bool true) (by simp [results, Try.results5, go_sem]) rfl ⟨rfl, hb2⟩
  case pos =>
    have hd : decide ((ts.length : Int) ≤ 400) = true := by simpa using h400
    have HL := Lib.hid (G.light_any a ts.length cap w)
    rw [hd] at HL
    have HRO := Lib.hid (G.roll_any a cap ts w hR (by omega))
    clear hd hR
    go_enter Try.func5, Try.ntmps5
    go_wp2_with fail
    refine HL.out.mono ?_
    rintro e w1 ⟨rfl, rfl⟩
    go_wp2_with fail
    refine HRO.out.mono ?_
    rintro e w1 ⟨rfl, hd1, hb1⟩
    have HSY := Lib.hid (symbols_any w1 w.heap.size a cap ts 0 hd1)
    have HFAR := Lib.hid hd1.far
    have hdp1 := hd1.lt
    have HB1 := Lib.hid hb1
    clear hd1 hb1 HL HRO
    go_wp2_with fail
    refine HSY.out.mono ?_
    rintro e w2 ⟨D, C, F, k2, hcd, hF, rfl, hd2, hg2⟩
    unfold codeV
    have hs12 := hg2.size
    have hbw2 := below_dice HB1.out hg2 (Nat.le_refl _)
    obtain ⟨pc, w3, W3, hpc, hw3, hst, hbx3, hb23, hpl3⟩ := new_code w2 D C F
    have HCD := Lib.hid hcd
    have HF := Lib.hid hF
    have HC3 := Lib.hid hbx3
    have HD3 := Lib.hid (hd2.below hb23)
    have HB3 := Lib.hid (hbw2.trans (hb23.mono hbw2.size))
    obtain ⟨hD1, hD2, hC1, hC2, _⟩ := hcd
    have hdpc : w.heap.size < pc := by omega
    have hdp3 := HD3.out.lt
    obtain ⟨Wa, Wb, Wc, e1, e2, e3, e4, f1, f2, f3, f4, f5, f6, f7, f8⟩ := hst
    have hdp : w.heap.size ≤ w.heap.size := Nat.le_refl _
    clear hd2 hg2 hbw2 hbx3 hb23 HSY HB1 hF
    obtain ⟨x0, x1, x2, x3⟩ := box4_at HC3.out
    have HBY := Lib.hid (bytesG_any W3.drew w.heap.size a cap ts k2 D (by omega) (HD3.out.drewN 1))
    obtain ⟨n, hn⟩ : ∃ n, D + C = n := ⟨_, rfl⟩
    have en : (D : Int) + (C : Int) = (n : Int) := by omega
    have hn40 : n ≤ 40 := by omega
    have hn1 : 1 ≤ n := by omega
    have HN := Lib.hid hn
    have HENC := Lib.hid (fun (ad : Option Addr) (data : List PM.G) (cd : Nat) (W : World) (hr : Row W ad data cd) (hl : data.length = D) => (show Calls Try.prog 18 #[.agg #[.int .i64 2, .int .i64 (D : Int), .int .i64 (C : Int), .int .i64 (F : Int)], .slice ad D cd] W (fun e W' => ∃ ws a c, e = .returned (.tuple #[.slice a n c, .int .i64 0]) ∧ Own W' W.heap.size (.slice a n c) ws ∧ CW D C ws ∧ Below W.heap.size W W') from by
      have h := encode_yes HCD.out HF.out ad data cd W hr hl
      unfold codeV EncR at h
      rw [hn] at h
      exact h.mono fun e W' ⟨ws, a, c, h1, h2, h3, h4⟩ => ⟨ws, a, c, h1, h2, h3.cw, h4⟩))
    clear hn
    go_upto_region 5 with fail
    obtain ⟨q0, q1, q2, q3⟩ := box4_at (HC3.out.drewN 1)
    have r0 : W3.drew.cell? ⟨pc, 0, none⟩ = _ := q0
    have r1 : W3.drew.cell? ⟨pc, 1, none⟩ = _ := q1
    have r2 : W3.drew.cell? ⟨pc, 2, none⟩ = _ := q2
    have r3 : W3.drew.cell? ⟨pc, 3, none⟩ = _ := q3
    clear q0 q1 q2 q3 x0 x1 x2 x3 e1 e2 e3 e4 f1 f2 f3 f4 f5 f6 f7 f8 hw3
    go_cut [5, 6] (fun x e wx => ∃ (xs : List PM.G) (gw cx k4 : Nat), x = .slice (some ⟨gw, 0, none⟩) n cx ∧ e = .int .i64 0 ∧ CW D C xs ∧ pc < gw ∧ gw < wx.heap.size ∧ Own wx W3.heap.size (.slice (some ⟨gw, 0, none⟩) n cx) xs ∧ Dice wx w.heap.size a cap ts k4 ∧ W3.grownBy wx (some w.heap.size))
    case first =>
      go_region_law (first
        | (go_simp; go_at_call 13; (with_reducible refine HBY.out.mono ?_); rintro e w4 ⟨data, ad, cd, k4, hdl, rfl, ho4, hd4, hg4⟩; have hne : pc ≠ w.heap.size := (by omega); have s0 := G.cell_grown hg4 hne r0; have s1 := G.cell_grown hg4 hne r1; have s2 := G.cell_grown hg4 hne r2; have s3 := G.cell_grown hg4 hne r3; have HG4 := Lib.hid (G.grown_trans (grown_drewN (World.grownBy.refl W3 (some w.heap.size)) 1) hg4); have HD4 := Lib.hid hd4; have HEN := Lib.hid (HENC.out ad data cd w4 (ho4.rowAtN hdl) hdl); clear hdl ho4 hd4 hg4; go_simp)
        | (go_simp; go_at_call 18; (with_reducible refine HEN.out.mono ?_); rintro e w5 ⟨xs, ax, cx, rfl, hox, hcw, hb5⟩; have HOX := Lib.hid hox; have HCW := Lib.hid hcw; have HB5 := Lib.hid hb5; clear hox hcw hb5; go_simp))
      all_goals (
        go_wp2_with fail
        go_meet
        obtain ⟨gw, ea, hgw, _⟩ := HOX.out.fresh (by rw [HCW.out.len]; omega)
        subst ea
        have h1 := (World.ownsRow.lt HOX.out gw rfl).2
        have h2 := HG4.out.size
        exact ⟨xs, gw, cx, k4, rfl, rfl, HCW.out, by omega, h1, HOX.out.mono h2, HD4.out.below HB5.out, grown_then HG4.out (HB5.out.mono h2)⟩)
    case rest =>
      obtain ⟨xs, gw, cx, k4, rfl, rfl, hcw, hpg, hgw5, hox, hd, hg⟩ := hcut
      have hxl : xs.length = n := by rw [hcw.len]; exact HN.out
      have HXL := Lib.hid hxl
      have HXC := Lib.hid hcw
      have hcn : n ≤ cx := by have := (hox.rowAtN hxl).room; rwa [hxl] at this
      have hcm : cx ≤ 9223372036854775807 := (hox.rowAtN hxl).most
      have HDX := Lib.hid (show (Value.slice (some ⟨gw, 0, none⟩) n cx).ownBlock ≠ some w.heap.size by intro e; have : gw = w.heap.size := Option.some.inj e; omega)
      have HC5 := Lib.hid (HC3.out.grown hg (by intro e; cases e; omega))
      have HB5 := Lib.hid (below_dice HB3.out hg (Nat.le_refl _) HB3.out.size)
      have HOX := Lib.hid hox
      have HD5 := Lib.hid hd
      clear hcw hox hd hg hxl r0 r1 r2 r3 HBY HENC HC3 HB3 HD3
      obtain ⟨x0, x1, x2, x3⟩ := box4_at HC5.out
      go_wp2_with fail
      refine (awake_yes _).mono ?_
      rintro e w6 ⟨rfl, hb6⟩
      have HC6 := Lib.hid (HC5.out.below hb6)
      have HD6 := Lib.hid (HD5.out.below hb6)
      have HB6 := Lib.hid (HB5.out.trans (hb6.mono HB5.out.size))
      have HOX6 := Lib.hid (HOX.out.below hb6)
      obtain ⟨y0, y1, y2, y3⟩ := box4_at HC6.out
      have hnn : ((n : Int) != (n : Int)) = false := by simp
      have eC : (C : Int) + 1 = ((C + 1 : Nat) : Int) := rfl
      have hnx := G.next_any w6 w.heap.size a cap ts k4 (C + 1) (by omega) (by omega) HD6.out
      rw [← eC] at hnx
      have HNX := Lib.hid hnx
      have hs6 := hb6.size
      clear hb6 HC5 HD5 HB5 HOX hnx eC x0 x1 x2 x3
      go_wp2_with fail
      (with_reducible refine HNX.out.mono ?_)
      rintro e w7 ⟨r, k7, hr, rfl, hd7, hg7⟩
      have HC7 := Lib.hid (HC6.out.grown hg7 (by intro e; cases e; omega))
      have HB7 := Lib.hid (below_dice HB6.out hg7 (Nat.le_refl _) HB6.out.size)
      have HOX7 := Lib.hid (HOX6.out.grown hg7 (.inr HDX.out))
      have HSM := Lib.hid (some_any w7 w.heap.size a cap ts k7 n r (by omega) (by omega) hd7)
      have hs7 := hg7.size
      clear hd7 hg7 HC6 HD6 HB6 HOX6 HNX y0 y1 y2 y3
      go_wp2_with fail
      (with_reducible refine HSM.out.mono ?_)
      rintro e w8 ⟨E, aE, cE, k8, hasc, hEr, hEn, rfl, hoE, hd8, hg8⟩
      have HC8 := Lib.hid (HC7.out.grown hg8 (by intro e; cases e; omega))
      have HB8 := Lib.hid (below_dice HB7.out hg8 (Nat.le_refl _) HB7.out.size)
      have HOX8 := Lib.hid (HOX7.out.grown hg8 (.inr HDX.out))
      have HD8 := Lib.hid hd8
      have hdE : (Value.slice aE E.length cE).ownBlock ≠ some w.heap.size := by intro e; have := (World.ownsRow.lt hoE _ e).1; have := HB7.out.size; have := HC7.out.lt; omega
      have HDE := Lib.hid hdE
      have HOE := Lib.hid hoE
      have HAS := Lib.hid hasc
      have hEC : E.length ≤ C := by omega
      have hdp8 : w.heap.size < w8.heap.size := HD8.out.lt
      have HFA8 := Lib.hid HD8.out.far
      have hdE1 : (Value.slice aE E.length cE).ownBlock ≠ some gw := by intro e; have := (World.ownsRow.lt hoE _ e).1; omega
      have hdE2 : (Value.slice aE E.length cE).ownBlock ≠ some w8.heap.size := by intro e; have := (World.ownsRow.lt hoE _ e).2; omega
      have hs8 := hg8.size
      have HFB := Lib.hid (show ∀ b off, a = some ⟨b, off, none⟩ → 0 < ts.length → b < gw from fun b off e h0 => by have := HFAR.out b off e h0; omega)
      obtain ⟨t, ht⟩ : ∃ t, tOf C F E.length = t := ⟨_, rfl⟩
      have HT := Lib.hid ht
      have hmin : min (F : Int) (((C : Int) - (E.length : Int)) / 2) = (t : Int) := by rw [← ht]; unfold tOf; omega
      have ht4 : t ≤ 8 := by rw [← ht]; unfold tOf; omega
      have hkE : E.length ≤ cE := HOE.out.room.1
      have hkm : cE ≤ 9223372036854775807 := HOE.out.room.2
      obtain ⟨y0, y1, y2, y3⟩ := box4_at HC8.out
      clear hasc hEr hoE hd8 hg8 HC7 HB7 HOX7 HSM ht
      go_wp2_with (at_make; refine G.wpList_make1 (α := Bool) rfl _ _ rfl n rfl rfl rfl (by omega) (B := w8.heap.size) (Nat.le_refl _) ?_; intro w9 ho9 hb9)
      obtain ⟨gt, hgt⟩ : ∃ gt, w8.heap.size = gt := ⟨_, rfl⟩
      rw [hgt] at ho9 hdE2 ⊢
      have hgt2 : gw < gt := by omega
      have HNA := Lib.hid (show NAt w a ts w.heap.size pc gw gt (.slice aE E.length cE) from ⟨HFB.out, rfl, hdpc, hpg, hgt2, HDE.out, hdE1, hdE2⟩)
      have hwE : w.heap.size ≤ w7.heap.size := by omega
      have HS := Lib.hid (show NSt w w.heap.size a cap ts pc D C F n gw cx aE cE E gt k8 xs (List.replicate n false) w9 from
        ⟨(HOX8.out.below hb9).mono (by omega), (HOE.out.below hb9).mono hwE, ho9.mono (by omega), HC8.out.below hb9, HD8.out.below hb9, HB8.out.trans (hb9.mono HB8.out.size)⟩)
      clear ho9 hb9 hdE hdE1 hdE2 HC8 HB8 HOX8 HD8 HOE HDX HDE y0 y1 y2 y3 hgt HFB HFA8
      go_wp2_with fail
      go_loopw [11] (fun i wr => ∃ (j k' : Nat) (zs : List PM.G) (th : List Bool), i = .int .i64 (j : Int) ∧ j ≤ E.length ∧ Hid (Dif n xs zs E []) ∧ Hid (Flags n th (fun p => ∃ m, m < j ∧ G.el E m = p)) ∧ Hid (NSt w w.heap.size a cap ts pc D C F n gw cx aE cE E gt k' zs th wr)) (fun i _ => E.length - (intOf i).toNat)
      case atStart => exact ⟨0, k8, xs, _, rfl, by omega, Lib.hid (Dif.start HXL.out E), Lib.hid ((Flags.start n).iff (fun i => ⟨fun h => h.elim, fun ⟨m, h, _⟩ => absurd h (Nat.not_lt_zero _)⟩)), HS⟩
      case round => as_aux_lemma =>
        clear HS
        obtain ⟨j, k', zs, th, rfl, hj, HDF, HFL, HS⟩ := hrel
        by_cases hlt : j < E.length
        · obtain ⟨b, off, eb, hc⟩ := HS.out.err.rowAt.elN j hlt
          subst eb
          obtain ⟨p, hp⟩ : ∃ p, G.el E j = p := ⟨_, rfl⟩
          have hpE : p ∈ E := by rw [← hp]; exact G.el_mem hlt
          have hpn : p < n := HAS.out.lt p hpE
          rw [hp] at hc
          have hat := (HS.out.there.at p (by rw [HFL.out.1]; exact hpn)).2.2.2.2
          have hb1 := hat.1
          have hb2 := hat.2
          have hS1 := HS.out.setThere HNA.out p true
          obtain ⟨W1, hW1⟩ : ∃ W1, wr.setCell ⟨gt, p, none⟩ (.bool true) = W1 := ⟨_, rfl⟩
          rw [hW1] at hS1
          have HS2 := Lib.hid (show NSt w w.heap.size a cap ts pc D C F n gw cx (some ⟨b, off, none⟩) cE E gt k' zs (th.set p true) W1.drew from hS1.drewN)
          obtain ⟨b', off', e', q1⟩ := HS2.out.err.rowAt.elN j hlt
          cases e'
          rw [hp] at q1
          have HP := Lib.hid hp
          have HPE := Lib.hid hpE
          have HNX := Lib.hid (show Calls Try.prog 15 #[.pointer (some ⟨w.heap.size, 0, none⟩), .int .i64 256] W1.drew (G.NextPost W1.drew w.heap.size a cap ts 256) from G.next_any W1.drew w.heap.size a cap ts k' 256 (by omega) (by omega) HS2.out.dice)
          have hzl := HDF.out.len
          have HZL := Lib.hid hzl
          clear hp hpE hat hS1 HS hzl
          go_upto_block 1 with fail
          go_cut [] (fun wx => ∃ (k2 : Nat) (x : PM.G), NSt w w.heap.size a cap ts pc D C F n gw cx (some ⟨b, off, none⟩) cE E gt k2 (zs.set p x) (th.set p true) wx)
          case first =>
            go_wp2_with fail
            go_region_law (go_simp; go_at_call 15; (with_reducible refine HNX.out.mono ?_); rintro e w10 ⟨r, k10, hr, rfl, hd10, hg10⟩; obtain ⟨x, rfl⟩ := asG hr; have hcv := conv_u8 hr; have hS := HS2.out.throw HNA.out hd10 hg10; have hq := hS.err.rowAt.elN j hlt; obtain ⟨b', off', e', q2⟩ := hq; cases e'; rw [HP.out] at q2; have hat := (hS.word.at p (by rw [HZL.out]; exact hpn)).2.2.2.2; have ha1 := hat.1; have ha2 := hat.2; have HST := Lib.hid (hS.setWord HNA.out HZL.out p x); clear hd10 hg10 hS hat; go_simp)
            all_goals (
              go_wp2_with fail
              go_meet
              exact ⟨k10, x, HST.out⟩)
          case rest =>
            obtain ⟨k2, x, hs2⟩ := hcut
            have HS3 := Lib.hid hs2
            clear hs2 HNX HS2 q1 hb1 hb2 hc hW1
            go_wp2_with fail
            go_roundw
            case rel => exact ⟨j + 1, k2, zs.set p x, th.set p true, by go_num, hlt, Lib.hid (HDF.out.inE HPE.out x), Lib.hid ((HFL.out.set hpn).iff (fun i => ⟨fun h => h.elim (fun e => ⟨j, Nat.lt_succ_self j, by rw [HP.out, e]⟩) (fun ⟨m, h1, h2⟩ => ⟨m, Nat.lt_succ_of_lt h1, h2⟩), fun ⟨m, h1, h2⟩ => by
                rcases Nat.lt_succ_iff_lt_or_eq.1 h1 with h | h
                · exact .inr ⟨m, h, h2⟩
                · rw [h, HP.out] at h2; exact .inl h2.symm⟩)), HS3⟩
            case measure => simp [intOf]; omega
        · obtain rfl : E.length = j := by omega
          have hzl := HDF.out.len
          have HZL := Lib.hid hzl
          have HNX := Lib.hid (G.next_any wr w.heap.size a cap ts k' n (by omega) (by omega) HS.out.dice)
          have HFE := Lib.hid (HFL.out.iff (Q := fun p => p ∈ E ∨ p ∈ ([] : List Nat)) (fun i => ⟨fun ⟨m, h1, h2⟩ => .inl (by rw [← h2]; exact G.el_mem h1), fun h => by
            rcases h with h | h
            · obtain ⟨m, h1, h2⟩ := List.getElem_of_mem h
              exact ⟨m, h1, by rw [G.el_lt h1]; exact h2⟩
            · exact absurd h List.not_mem_nil⟩))
          clear hzl HFL
          go_wp2_with fail
          (with_reducible refine HNX.out.mono ?_)
          rintro e w10 ⟨fr, k10, hfr, rfl, hd10, hg10⟩
          have HS4 := Lib.hid (HS.out.throw HNA.out hd10 hg10)
          have htE : t + E.length ≤ C := by have := tOf_le (C := C) (F := F) hEC; rw [HT.out] at this; omega
          clear hd10 hg10 HS HNX
          go_wp2_with fail
          go_loopw [12, 14] (fun kv i wr => ∃ (j k' : Nat) (zs : List PM.G) (th : List Bool) (O : List Nat), kv = .int .i64 (O.length : Int) ∧ i = .int .i64 (j : Int) ∧ j ≤ n ∧ Hid (Bad n xs zs E O) ∧ Hid (Flags n th (fun p => p ∈ E ∨ p ∈ O)) ∧ Hid (O.length + t + E.length ≤ C) ∧ Hid (NSt w w.heap.size a cap ts pc D C F n gw cx aE cE E gt k' zs th wr)) (fun _ i _ => n - (intOf i).toNat)
          case atStart => exact ⟨0, k10, zs, th, [], rfl, rfl, by omega, Lib.hid (Bad.start HDF.out), HFE, Lib.hid (by simpa using htE), HS4⟩
          case round => as_aux_lemma =>
            clear HS4 HDF HFE HZL
            obtain ⟨j, k', zs, th, O, rfl, rfl, hj, HBA, HFL, HOC, HS⟩ := hrel
            obtain ⟨x0, x1, x2, x3⟩ := box4_at HS.out.code
            have hOC := HOC.out
            obtain ⟨lo, hlo⟩ : ∃ lo, O.length = lo := ⟨_, rfl⟩
            have HLO := Lib.hid hlo
            rw [hlo] at hOC ⊢
            clear hlo
            by_cases hgo : j < n ∧ lo + t + E.length < C
            · obtain ⟨hlt, hmo⟩ := hgo
              have hlo8 : lo < C - t - E.length := by omega
              have hA : (((fr : Int) + 3 * (j : Int)) % (n : Int)) = (((fr + 3 * j) % n : Nat) : Int) := by simp
              have hB : (((fr : Int) + (j : Int)) % (n : Int)) = (((fr + j) % n : Nat) : Int) := by simp
              obtain ⟨p1, hp1⟩ : ∃ p, (fr + 3 * j) % n = p := ⟨_, rfl⟩
              obtain ⟨p2, hp2⟩ : ∃ p, (fr + j) % n = p := ⟨_, rfl⟩
              have hp1n : p1 < n := by rw [← hp1]; exact Nat.mod_lt _ (by omega)
              have hp2n : p2 < n := by rw [← hp2]; exact Nat.mod_lt _ (by omega)
              rw [hp1] at hA
              rw [hp2] at hB
              clear hp1 hp2
              go_upto_if 120 with fail
              go_cut [15] (fun v wx => ∃ p : Nat, v = .int .i64 (p : Int) ∧ p < n ∧ wr = wx)
              case first =>
                go_wp2_with fail
                all_goals (
                  go_meet
                  first | exact ⟨p1, by rw [hA], hp1n, rfl⟩ | exact ⟨p2, by rw [hB], hp2n, rfl⟩)
              case rest =>
                obtain ⟨p, rfl, hpn, hww⟩ := hcut
                subst hww
                clear hA hB hp1n hp2n
                have hat := (HS.out.there.at p (by rw [HFL.out.1]; exact hpn)).2.2.2.2
                obtain ⟨fl, hfl⟩ : ∃ b, G.el th p = b := ⟨_, rfl⟩
                rw [show G.Elt.gv (G.el th p) = .bool (G.el th p) from rfl, hfl] at hat
                have hb1 := hat.1
                have hb2 := hat.2
                have HFP := Lib.hid hfl
                have HON := Lib.hid (show Calls Try.prog 21 #[.pointer (some ⟨w.heap.size, 0, none⟩), .int .i64 4] wr _ from G.one_any wr w.heap.size a cap ts k' 4 (by omega) (by omega) HS.out.dice)
                clear hat hfl
                go_upto_region 25 with fail
                go_cut [138] (fun v wx => ∃ (b : Bool) (k2 : Nat), v = .bool b ∧ Hid (NSt w w.heap.size a cap ts pc D C F n gw cx aE cE E gt k2 zs th wx) ∧ Hid (b = false → G.el th p = false))
                case first =>
                  cases fl with
                  | true =>
                    go_wp2_with fail
                    go_meet
                    exact ⟨true, k', by first | rfl | trivial, HS, Lib.hid (fun e => by cases e)⟩
                  | false =>
                    by_cases hlt2 : t < lo
                    · go_wp2_with fail
                      (with_reducible refine HON.out.mono ?_)
                      rintro e w11 ⟨b, k11, rfl, hd11, hg11⟩
                      have HS5 := Lib.hid (HS.out.throw HNA.out hd11 hg11)
                      clear hd11 hg11
                      go_wp2_with fail
                      go_meet
                      exact ⟨b, k11, by first | rfl | trivial, HS5, Lib.hid (fun _ => HFP.out)⟩
                    · go_wp2_with fail
                      go_meet
                      exact ⟨false, k', by first | rfl | trivial, HS, Lib.hid (fun _ => HFP.out)⟩
                case rest =>
                  obtain ⟨b, k2, rfl, HS5, HBF⟩ := hcut
                  clear HS HON HFP hb1 hb2
                  cases b with
                  | true =>
                    go_wp2_with fail
                    go_roundw
                    case rel => exact ⟨j + 1, k2, zs, th, O, by rw [HLO.out], by go_num, hlt, HBA, HFL, HOC, HS5⟩
                    case measure => simp [intOf]; omega
                  | false =>
                    have HPF := Lib.hid (HBF.out rfl)
                    have hat := (HS5.out.there.at p (by rw [HFL.out.1]; exact hpn)).2.2.2.2
                    have hb1 := hat.1
                    have hb2 := hat.2
                    have hS1 := HS5.out.setThere HNA.out p true
                    obtain ⟨W1, hW1⟩ : ∃ W1, wc.setCell ⟨gt, p, none⟩ (.bool true) = W1 := ⟨_, rfl⟩
                    rw [hW1] at hS1
                    have HS2 := Lib.hid (show NSt w w.heap.size a cap ts pc D C F n gw cx aE cE E gt k2 zs (th.set p true) W1.drew from hS1.drewN)
                    have hzl := HBA.out.dif.len
                    have HZL := Lib.hid hzl
                    obtain ⟨v0, hv0⟩ : ∃ v, PM.el zs p = v := ⟨_, rfl⟩
                    have hat2 := (HS2.out.word.at p (by rw [hzl]; exact hpn)).2.2.2.2
                    rw [hv0] at hat2
                    have q1 : W1.drew.cell? ⟨gw, p, none⟩ = some (.int .u8 (v0.v : Int)) := hat2.1
                    have HV0 := Lib.hid hv0
                    have HNX := Lib.hid (show Calls Try.prog 15 #[.pointer (some ⟨w.heap.size, 0, none⟩), .int .i64 255] W1.drew (G.NextPost W1.drew w.heap.size a cap ts 255) from G.next_any W1.drew w.heap.size a cap ts k2 255 (by omega) (by omega) HS2.out.dice)
                    clear hat hS1 hzl hat2 hv0 HBF
                    go_upto_region 27 with fail
                    go_cut [] (fun wx => ∃ (k3 : Nat) (x : PM.G), x ≠ 0 ∧ NSt w w.heap.size a cap ts pc D C F n gw cx aE cE E gt k3 (zs.set p (PM.el zs p + x)) (th.set p true) wx)
                    case first =>
                      have hmx : Try.prog.follows .mixedOrders = true := by kernel_rfl
                      refine wp_region_held (S := fun _ => True) hmx ?_
                      have hHeld : (fun _ : World => True) W1.drew := trivial
                      refine wpAnyH_at 0 (some 142) (v := ?_) rfl rfl (by kernel_rfl) (by kernel_rfl) (by kernel_rfl) (fun _ _ _ h => h) (Or.inl ⟨by rfl, ?_⟩) hHeld ?_
                      rotate_left
                      · (intro W2 hSw; go_simp; try with_reducible rfl)
                      simp only [Act.put, List.setIfInBounds_toArray, List.set_cons_zero, List.set_cons_succ]
                      refine wpAnyH_at 1 (some 143) (v := ?_) rfl rfl (by kernel_rfl) (by kernel_rfl) (by kernel_rfl) (fun _ _ _ h => h) (Or.inl ⟨by rfl, ?_⟩) hHeld ?_
                      rotate_left
                      · (intro W2 hSw; go_simp; try with_reducible rfl)
                      simp only [Act.put, List.setIfInBounds_toArray, List.set_cons_zero, List.set_cons_succ]
                      refine wpAnyH_at 2 (some 144) (v := ?_) rfl rfl (by kernel_rfl) (by kernel_rfl) (by kernel_rfl) (fun _ _ _ h => h) (Or.inl ⟨by rfl, ?_⟩) hHeld ?_
                      rotate_left
                      · (intro W2 hSw; go_simp; try with_reducible rfl)
                      simp only [Act.put, List.setIfInBounds_toArray, List.set_cons_zero, List.set_cons_succ]
                      refine wpAnyH_at 4 (some 146) (v := ?_) rfl rfl (by kernel_rfl) (by kernel_rfl) (by kernel_rfl) (fun _ _ _ h => h) (Or.inl ⟨by rfl, ?_⟩) hHeld ?_
                      rotate_left
                      · (intro W2 hSw; go_simp; try with_reducible rfl)
                      simp only [Act.put, List.setIfInBounds_toArray, List.set_cons_zero, List.set_cons_succ]
                      refine wpAnyH_ready (rs := [3, 5]) (by kernel_rfl) (by simp) ?_
                      refine AllReadyH.cons rfl (fun K hK => ?_) (AllReadyH.cons rfl (fun K hK => ?_) AllReadyH.nil)
                      · go_simp
                        refine hK.out _ _ trivial (fun hHeld => ?_)
                        clear hK K
                        refine wpAnyH_ready (rs := [5]) (by kernel_rfl) (by simp) ?_
                        refine AllReadyH.cons rfl (fun K hK => ?_) AllReadyH.nil
                        go_simp
                        (with_reducible refine HNX.out.mono ?_)
                        rintro e w10 ⟨r, k11, hr, rfl, hd10, hg10⟩
                        obtain ⟨x, hx⟩ := asG (show 1 + r < 256 by omega)
                        have hw1 : IntKind.i64.wrap (1 + (r : Int)) = (x.v : Int) := (by rw [IntKind.wrap_i64]; omega)
                        have hcv := conv_u8 x.lt
                        have HX0 := Lib.hid (show x ≠ 0 by intro e; rw [e] at hx; have : (0 : PM.G).v = 0 := rfl; omega)
                        have hS := HS2.out.throw HNA.out hd10 hg10
                        have hat := (hS.word.at p (by rw [HZL.out]; exact hpn)).2.2.2.2
                        rw [HV0.out] at hat
                        have ha1 := hat.1
                        have ha2 := hat.2
                        have hxor := G.S.xor_G v0 x
                        have HST := Lib.hid (hS.setWord HNA.out HZL.out p (v0 + x))
                        obtain ⟨y, hy⟩ : ∃ y, v0 + x = y := ⟨_, rfl⟩
                        rw [hy] at hxor HST
                        have HY := Lib.hid hy
                        clear hd10 hg10 hS hat hx hy
                        refine hK.out _ _ trivial (fun hHeld => ?_)
                        clear hK K
                        refine wpAnyH_at 6 (some 148) (v := ?_) rfl rfl (by kernel_rfl) (by kernel_rfl) (by kernel_rfl) (fun _ _ _ h => h) (Or.inl ⟨by rfl, ?_⟩) hHeld ?_
                        rotate_left
                        · (intro W2 hSw; go_simp; try with_reducible rfl)
                        simp only [Act.put, List.setIfInBounds_toArray, List.set_cons_zero, List.set_cons_succ]
                        refine wpAnyH_at 7 (some 149) (v := ?_) rfl rfl (by kernel_rfl) (by kernel_rfl) (by kernel_rfl) (fun _ _ _ h => h) (Or.inl ⟨by rfl, ?_⟩) hHeld ?_
                        rotate_left
                        · (intro W2 hSw; go_simp; try with_reducible rfl)
                        simp only [Act.put, List.setIfInBounds_toArray, List.set_cons_zero, List.set_cons_succ]
                        refine wpAnyH_at 8 (some 150) (v := ?_) rfl rfl (by kernel_rfl) (by kernel_rfl) (by kernel_rfl) (fun _ _ _ h => h) (Or.inl ⟨by rfl, ?_⟩) hHeld ?_
                        rotate_left
                        · (intro W2 hSw; go_simp; try with_reducible rfl)
                        simp only [Act.put, List.setIfInBounds_toArray, List.set_cons_zero, List.set_cons_succ]
                        refine wpAnyH_at 9 (some 151) (v := ?_) rfl rfl (by kernel_rfl) (by kernel_rfl) (by kernel_rfl) (fun _ _ _ h => h) (Or.inl ⟨by rfl, ?_⟩) hHeld ?_
                        rotate_left
                        · (intro W2 hSw; go_simp; try with_reducible rfl)
                        simp only [Act.put, List.setIfInBounds_toArray, List.set_cons_zero, List.set_cons_succ]
                        refine wpAnyH_ready (rs := [10]) (by kernel_rfl) (by simp) ?_
                        refine AllReadyH.cons rfl (fun K hK => ?_) AllReadyH.nil
                        go_simp
                        refine hK.out _ _ trivial (fun _ => wpAnyH_done (by kernel_rfl) ?_ _)
                        clear hK K
                        go_wp2_with fail
                        go_meet
                        exact ⟨k11, x, HX0.out, by rw [HV0.out, HY.out]; exact HST.out⟩
                      · go_simp
                        (with_reducible refine HNX.out.mono ?_)
                        rintro e w10 ⟨r, k11, hr, rfl, hd10, hg10⟩
                        obtain ⟨x, hx⟩ := asG (show 1 + r < 256 by omega)
                        have hw1 : IntKind.i64.wrap (1 + (r : Int)) = (x.v : Int) := (by rw [IntKind.wrap_i64]; omega)
                        have hcv := conv_u8 x.lt
                        have HX0 := Lib.hid (show x ≠ 0 by intro e; rw [e] at hx; have : (0 : PM.G).v = 0 := rfl; omega)
                        have hS := HS2.out.throw HNA.out hd10 hg10
                        have hat := (hS.word.at p (by rw [HZL.out]; exact hpn)).2.2.2.2
                        rw [HV0.out] at hat
                        have ha1 := hat.1
                        have ha2 := hat.2
                        have hxor := G.S.xor_G v0 x
                        have HST := Lib.hid (hS.setWord HNA.out HZL.out p (v0 + x))
                        obtain ⟨y, hy⟩ : ∃ y, v0 + x = y := ⟨_, rfl⟩
                        rw [hy] at hxor HST
                        have HY := Lib.hid hy
                        clear hd10 hg10 hS hat hx hy
                        refine hK.out _ _ trivial (fun hHeld => ?_)
                        clear hK K
                        refine wpAnyH_at 6 (some 148) (v := ?_) rfl rfl (by kernel_rfl) (by kernel_rfl) (by kernel_rfl) (fun _ _ _ h => h) (Or.inl ⟨by rfl, ?_⟩) hHeld ?_
                        rotate_left
                        · (intro W2 hSw; go_simp; try with_reducible rfl)
                        simp only [Act.put, List.setIfInBounds_toArray, List.set_cons_zero, List.set_cons_succ]
                        refine wpAnyH_at 7 (some 149) (v := ?_) rfl rfl (by kernel_rfl) (by kernel_rfl) (by kernel_rfl) (fun _ _ _ h => h) (Or.inl ⟨by rfl, ?_⟩) hHeld ?_
                        rotate_left
                        · (intro W2 hSw; go_simp; try with_reducible rfl)
                        simp only [Act.put, List.setIfInBounds_toArray, List.set_cons_zero, List.set_cons_succ]
                        refine wpAnyH_ready (rs := [3]) (by kernel_rfl) (by simp) ?_
                        refine AllReadyH.cons rfl (fun K hK => ?_) AllReadyH.nil
                        go_simp
                        refine hK.out _ _ trivial (fun hHeld => ?_)
                        clear hK K
                        refine wpAnyH_at 8 (some 150) (v := ?_) rfl rfl (by kernel_rfl) (by kernel_rfl) (by kernel_rfl) (fun _ _ _ h => h) (Or.inl ⟨by rfl, ?_⟩) hHeld ?_
                        rotate_left
                        · (intro W2 hSw; go_simp; try with_reducible rfl)
                        simp only [Act.put, List.setIfInBounds_toArray, List.set_cons_zero, List.set_cons_succ]
                        refine wpAnyH_at 9 (some 151) (v := ?_) rfl rfl (by kernel_rfl) (by kernel_rfl) (by kernel_rfl) (fun _ _ _ h => h) (Or.inl ⟨by rfl, ?_⟩) hHeld ?_
                        rotate_left
                        · (intro W2 hSw; go_simp; try with_reducible rfl)
                        simp only [Act.put, List.setIfInBounds_toArray, List.set_cons_zero, List.set_cons_succ]
                        refine wpAnyH_ready (rs := [10]) (by kernel_rfl) (by simp) ?_
                        refine AllReadyH.cons rfl (fun K hK => ?_) AllReadyH.nil
                        go_simp
                        refine hK.out _ _ trivial (fun _ => wpAnyH_done (by kernel_rfl) ?_ _)
                        clear hK K
                        go_wp2_with fail
                        go_meet
                        exact ⟨k11, x, HX0.out, by rw [HV0.out, HY.out]; exact HST.out⟩
                    case rest =>
                      obtain ⟨k3, x, hx0, hs2⟩ := hcut
                      have HS3 := Lib.hid hs2
                      have HX0 := Lib.hid hx0
                      clear hs2 hx0 HNX HS2 HS5 q1 hb1 hb2 hW1
                      have hnE : p ∉ E := fun h => by have := (HFL.out.2 p hpn).2 (.inl h); rw [HPF.out] at this; cases this
                      have hnO : p ∉ O := fun h => by have := (HFL.out.2 p hpn).2 (.inr h); rw [HPF.out] at this; cases this
                      have HBB := Lib.hid (HBA.out.add hpn hnE hnO HX0.out)
                      clear hnE hnO
                      go_wp2_with fail
                      go_roundw
                      case rel => exact ⟨j + 1, k3, _, _, p :: O, by rw [List.length_cons, HLO.out]; go_num, by go_num, hlt, HBB, Lib.hid ((HFL.out.set hpn).iff (fun i => by rw [List.mem_cons]; constructor <;> intro h <;> (rcases h with h | h | h <;> simp [h]))), Lib.hid (by rw [List.length_cons, HLO.out]; omega), HS3⟩
                      case measure => simp [intOf]; omega
            · have hde := decode_yes HCD.out HF.out (some ⟨gw, 0, none⟩) zs cx aE E cE wr (HS.out.word.rowAtN HBA.out.dif.len) (by rw [HN.out]; exact HBA.out.dif.len) (HS.out.err.rowAt) hEC (by rw [HN.out]; exact HAS.out.lt) HAS.out.nodup (by rw [HN.out]; exact plErr_asc HAS.out hEC)
              unfold codeV at hde
              rw [HN.out, HT.out] at hde
              have HDE' := Lib.hid hde
              have HBW := Lib.hid HS.out.bel
              clear hde HFL
              rcases Nat.lt_or_ge j n with hj2 | hj2
              · have hnm : ¬ lo + t + E.length < C := fun h => hgo ⟨hj2, h⟩
                clear hgo
                go_wp2_with fail
                (with_reducible refine HDE'.out.mono ?_)
                rintro e w12 ⟨o, ws, ch, a12, c12, a13, c13, rfl, ho12, ho13, hdec, hb12⟩
                rcases Nat.lt_or_ge t lo with htl | htl
                · obtain ⟨rfl, rfl⟩ := Bad.lost (D := D) (C := C) (t := t) (by rw [HN.out]; omega) HXC.out (by rw [HN.out]; exact HBA.out) (by rw [HLO.out]; exact htl) HOC.out (by rw [HN.out]; exact hdec)
                  have htl2 : ¬ lo ≤ t := by omega
                  obtain ⟨pd, W13a, W13, hpd, hw13, hst13, hbx13, hb13, hpd13⟩ := new_dec w12 (.int .i64 2) (.slice a12 0 c12) (.slice a13 ch.length c13)
                  obtain ⟨Da, Db, r1, r2, r3, s1, s2, s3, s4, s5, s6⟩ := hst13
                  have HBD := Lib.hid (HBW.out.trans ((hb12.trans (hb13.mono hb12.size)).mono HBW.out.size))
                  obtain ⟨z0, z1, z2⟩ := box3_at hbx13
                  clear hdec ho12 ho13 hb12 hb13 HBW HDE' HS
                  go_wp2_with fail
                  exact bodyPost_ret (v := .bool true) (by simp [results, Try.results5, go_sem]) rfl ⟨rfl, HBD.out⟩
                · obtain ⟨mw, hmw⟩ : ∃ m, ws.length = m := ⟨_, rfl⟩
                  rw [hmw]
                  obtain ⟨pd, W13a, W13, hpd, hw13, hst13, hbx13, hb13, hpd13⟩ := new_dec w12 (.int .i64 o) (.slice a12 mw c12) (.slice a13 ch.length c13)
                  obtain ⟨Da, Db, r1, r2, r3, s1, s2, s3, s4, s5, s6⟩ := hst13
                  have HBD := Lib.hid (HBW.out.trans ((hb12.trans (hb13.mono hb12.size)).mono HBW.out.size))
                  obtain ⟨z0, z1, z2⟩ := box3_at hbx13
                  clear hdec ho12 ho13 hb12 hb13 HBW HDE' HS hmw
                  go_wp2_with fail
                  exact bodyPost_ret (v := .bool true) (by simp [results, Try.results5, go_sem]) rfl ⟨rfl, HBD.out⟩
              · clear hgo
                go_wp2_with fail
                (with_reducible refine HDE'.out.mono ?_)
                rintro e w12 ⟨o, ws, ch, a12, c12, a13, c13, rfl, ho12, ho13, hdec, hb12⟩
                rcases Nat.lt_or_ge t lo with htl | htl
                · obtain ⟨rfl, rfl⟩ := Bad.lost (D := D) (C := C) (t := t) (by rw [HN.out]; omega) HXC.out (by rw [HN.out]; exact HBA.out) (by rw [HLO.out]; exact htl) HOC.out (by rw [HN.out]; exact hdec)
                  have htl2 : ¬ lo ≤ t := by omega
                  obtain ⟨pd, W13a, W13, hpd, hw13, hst13, hbx13, hb13, hpd13⟩ := new_dec w12 (.int .i64 2) (.slice a12 0 c12) (.slice a13 ch.length c13)
                  obtain ⟨Da, Db, r1, r2, r3, s1, s2, s3, s4, s5, s6⟩ := hst13
                  have HBD := Lib.hid (HBW.out.trans ((hb12.trans (hb13.mono hb12.size)).mono HBW.out.size))
                  obtain ⟨z0, z1, z2⟩ := box3_at hbx13
                  clear hdec ho12 ho13 hb12 hb13 HBW HDE' HS
                  go_wp2_with fail
                  exact bodyPost_ret (v := .bool true) (by simp [results, Try.results5, go_sem]) rfl ⟨rfl, HBD.out⟩
                · obtain ⟨mw, hmw⟩ : ∃ m, ws.length = m := ⟨_, rfl⟩
                  rw [hmw]
                  obtain ⟨pd, W13a, W13, hpd, hw13, hst13, hbx13, hb13, hpd13⟩ := new_dec w12 (.int .i64 o) (.slice a12 mw c12) (.slice a13 ch.length c13)
                  obtain ⟨Da, Db, r1, r2, r3, s1, s2, s3, s4, s5, s6⟩ := hst13
                  have HBD := Lib.hid (HBW.out.trans ((hb12.trans (hb13.mono hb12.size)).mono HBW.out.size))
                  obtain ⟨z0, z1, z2⟩ := box3_at hbx13
                  clear hdec ho12 ho13 hb12 hb13 HBW HDE' HS hmw
                  go_wp2_with fail
                  exact bodyPost_ret (v := .bool true) (by simp [results, Try.results5, go_sem]) rfl ⟨rfl, HBD.out⟩
end Go.Proofs.Ytijkgplglfmfnaa.P
