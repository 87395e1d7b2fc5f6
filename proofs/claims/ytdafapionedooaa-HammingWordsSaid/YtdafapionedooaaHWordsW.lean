/- HammingWords: the walk. -/
import Derived.Test.YtdafapionedooaaHFixesW
import Derived.Test.YtdafapionedooaaGBool
import Derived.Test.YtdafapionedooaaGStep
namespace Go.Proofs.Ytdafapionedooaa.G.H
open Go Go.RowKit Go.Shelf

theorem Dice.set {W : World} {dp g o : Nat} {a : Option Addr} {cap : Nat} {ts : List Int} {k : Nat} (h : Dice W dp a cap ts k) (hg : dp < g) (hf : ∀ b off, a = some ⟨b, off, none⟩ → 0 < ts.length → b < g) (u : Value) : Dice (W.setCell ⟨g, o, none⟩ u) dp a cap ts k :=
  h.belowAt ((Below.refl g W).setCell (p := ⟨g, o, none⟩) (Nat.le_refl _) u) hg hf
set_option maxRecDepth 100000 in
set_option maxHeartbeats 4000000 in
theorem hammingWords_any (a : Option Addr) (cap : Nat) (ts : List Int) (w : World) (hR : IRow w a ts cap) :
    Calls Try.prog 6 #[.slice a ts.length cap] w fun e W => e = .returned (.bool true) ∧ Below w.heap.size w W := by
  have hroom := hR.room
  have hmost := hR.most
  by_cases h400 : (ts.length : Int) ≤ 400
  case neg =>
    have hd : decide ((ts.length : Int) ≤ 400) = false := by simpa using h400
    have HL := Lib.hid (light_any a ts.length cap w)
    rw [hd] at HL
    clear hd hR
    go_enter Try.func6, Try.ntmps6
    go_wp2_with fail
    refine HL.out.mono ?_
    rintro e w1 ⟨rfl, rfl⟩
    go_wp2_with fail
    refine (awake_yes _).mono ?_
    rintro e w2 ⟨rfl, hb2⟩
    go_wp2_with fail
    go_ret
    exact ⟨rfl, hb2⟩
  case pos =>
    have hd : decide ((ts.length : Int) ≤ 400) = true := by simpa using h400
    have HL := Lib.hid (light_any a ts.length cap w)
    rw [hd] at HL
    have HRO := Lib.hid (roll_any a cap ts w hR (by omega))
    have HFAR := Lib.hid (show ∀ b off, a = some ⟨b, off, none⟩ → 0 < ts.length → b < w.heap.size from fun b off e h0 => by
      obtain ⟨b', off', e', hc⟩ := hR.el 0 h0
      rw [e] at e'; cases e'
      exact lt_of_cell hc)
    clear hd hR
    go_enter Try.func6, Try.ntmps6
    go_wp2_with fail
    refine HL.out.mono ?_
    rintro e w1 ⟨rfl, rfl⟩
    go_wp2_with fail
    refine HRO.out.mono ?_
    rintro e w1 ⟨rfl, hd1, hb1⟩
    have HB1 := Lib.hid hb1
    have HBY := Lib.hid (show Calls Try.prog 10 #[.pointer (some ⟨w.heap.size, 0, none⟩), .int .i64 8] w1 (BytesPost w1 w.heap.size a cap ts 8) from bytes_any w1 w.heap.size a cap ts 0 8 (by decide) hd1)
    clear hd1 hb1 HL HRO
    go_wp2_with fail
    refine HBY.out.mono ?_
    rintro e w2 ⟨bs, ab, cb, k2, hbl, rfl, ho2, hd2, hg2⟩
    have HB2 := Lib.hid (grown_below HB1.out hg2 (Nat.le_refl _))
    have HD2 := Lib.hid ho2
    have HBL := Lib.hid hbl
    have HCH := Lib.hid (check_yes ab bs cb w2 ho2.rowAt hbl)
    have HDI2 := Lib.hid hd2
    have hdl2 : w.heap.size < w2.heap.size := hd2.lt
    clear hbl ho2 hd2 hg2 HB1 HBY
    go_wp2_with fail
    refine HCH.out.mono ?_
    rintro e w3 ⟨rfl, hb3⟩
    have HB3 := Lib.hid (HB2.out.trans (hb3.mono HB2.out.size))
    have HD3 := Lib.hid (HD2.out.below hb3)
    have HDI3 := Lib.hid (HDI2.out.below hb3)
    have hdl3 : w.heap.size < w3.heap.size := HDI3.out.lt
    obtain ⟨c, hc⟩ : ∃ c, syn bs 64 = c := ⟨_, rfl⟩
    have HWD := Lib.hid (show syn (bs ++ [c]) 72 = 0 by rw [← hc]; exact syn_word HBL.out)
    rw [hc]
    clear hb3 hc HB2 HD2 HCH HDI2
    have HD3R := Lib.hid HD3.out.rowAt
    go_wp2_with (first | (at_builtin; refine wpList_appAny (α := Y) (zs := []) (ys := bs) (B := w3.heap.size) rfl _ _ rfl rfl (Own.nil _ _) (cap := cb) (ad := ab) (by rw [HBL.out]; rfl) HD3R.out (by rw [HBL.out]; decide) (Nat.le_refl _) ?_; intro a4 cap4 w4 ho4 hb4; rw [show ([] : List Y).length + bs.length = 8 by rw [HBL.out]; rfl] at ho4 ⊢; rw [List.nil_append] at ho4; have HO4 := Lib.hid ho4; have HB4 := Lib.hid hb4; clear ho4 hb4) | (at_builtin; refine wpList_app1 (α := Y) (B := w3.heap.size) (zs := bs) rfl _ _ rfl c rfl (v := .slice a4 8 cap4) (HO4.out.alloc _) rfl (cell_new _ _ _) (by rw [HBL.out]; decide) (by rw [World.size_alloc]; exact Nat.le_succ_of_le HB4.out.size) ?_; intro a5 cap5 w5 ho5 _ hb5 _; rw [show bs.length + 1 = 9 by rw [HBL.out]] at ho5 ⊢; have HO5 := Lib.hid ho5; have HB5 := Lib.hid ((HB4.out.alloc HB4.out.size _).trans hb5); clear ho5 hb5))
    obtain ⟨zs, hzs⟩ : ∃ zs, bs ++ [c] = zs := ⟨_, rfl⟩
    have hzl : zs.length = 9 := by rw [← hzs, List.length_append, HBL.out]; rfl
    rw [hzs] at HO5 HWD
    have HZL := Lib.hid hzl
    have hw5 := HB3.out.trans (HB5.out.mono HB3.out.size)
    have HW5 := Lib.hid hw5
    have hg5 := HO5.out.fresh (by rw [hzl]; decide)
    obtain ⟨gw, rfl, hgw1, hgw2⟩ := hg5
    have hgw : w.heap.size ≤ gw := Nat.le_trans HB3.out.size hgw1
    have HDI5 := Lib.hid ((HDI3.out.below HB5.out))
    have hO5 : Own w5 (w.heap.size + 1) (.slice (some ⟨gw, 0, none⟩) 9 cap5) zs := HO5.out.mono (by omega)
    have HO6 := Lib.hid hO5
    have hgd : w.heap.size < gw := by omega
    have HNX := Lib.hid (show Calls Try.prog 21 #[.pointer (some ⟨w.heap.size, 0, none⟩), .int .i64 7] w5 (NextPost w5 w.heap.size a cap ts 7) from next_any w5 w.heap.size a cap ts k2 7 (by decide) (by decide) HDI5.out)
    clear hzs hzl hw5 HB5 HB4 HO4 HD3R HD3 HB3 hgw1 HBL HO5 hO5 HDI3
    go_wp2_with fail
    refine HNX.out.mono ?_
    rintro e w6 ⟨n, k6, hn, rfl, hd6, hg6⟩
    have HW6 := Lib.hid (grown_below HW5.out hg6 (Nat.le_refl _))
    have HO7 := Lib.hid (HO6.out.grown hg6 (.inr (own_ne HO6.out (Nat.lt_succ_self _))))
    have HD6 := Lib.hid hd6
    have hgw6 : gw < w6.heap.size := Nat.lt_of_lt_of_le hgw2 hg6.size
    clear hd6 hg6 HNX HO6 HW5 HDI5
    go_wp2_with (refine wpList_make1 (α := Bool) rfl _ _ rfl 72 rfl rfl rfl (by decide) (Nat.le_refl _) ?_; intro w7 ho7 hb7; have HT7 := Lib.hid ho7; have HB7 := Lib.hid hb7; clear ho7 hb7)
    obtain ⟨dp, hdp⟩ : ∃ p, w.heap.size = p := ⟨_, rfl⟩
    obtain ⟨gt, hgt⟩ : ∃ p, w6.heap.size = p := ⟨_, rfl⟩
    rw [hgt] at hgw6
    have hdg : dp < gw := by omega
    have hdt : dp < gt := by omega
    have HO8 : Hid (Own w7 (dp + 1) (.slice (some ⟨gw, 0, none⟩) 9 cap5) zs) := Lib.hid (by rw [← hdp]; exact HO7.out.below (by have := HB7.out; exact this))
    have HT8 : Hid (Own w7 (dp + 1) (.slice (some ⟨gt, 0, none⟩) 72 72) (List.replicate 72 false)) := Lib.hid (by have := HT7.out; rw [hgt] at this; exact this.mono (by omega))
    have HD8 : Hid (Dice w7 dp a cap ts k6) := Lib.hid (by rw [← hdp]; exact HD6.out.below HB7.out)
    have HW8 : Hid (Below dp w w7) := Lib.hid (by rw [← hdp]; exact HW6.out.trans (HB7.out.mono HW6.out.size))
    have HDP := Lib.hid hdp
    have HF8 : Hid (∀ b off, a = some ⟨b, off, none⟩ → 0 < ts.length → b < dp) := Lib.hid (by rw [← hdp]; exact HFAR.out)
    have hws : dp ≤ w7.heap.size := by rw [← hdp]; exact (HW6.out.trans (HB7.out.mono HW6.out.size)).size
    rw [hdp, hgt]
    clear hgt hdp HO7 HT7 HD6 HW6 HB7 HFAR hgd hgw hgw2 hdl2 hdl3
    go_wp2_with fail
    go_loopw [8, 10] (fun nv ov wr => ∃ (m k : Nat) (od : Bool) (zs : List Y) (tb : List Bool), nv = .int .i64 (m : Int) ∧ m ≤ 6 ∧ ov = .bool od ∧ zs.length = 9 ∧ tb.length = 72 ∧ Hid (par (syn zs 72) = od) ∧ Own wr (dp + 1) (.slice (some ⟨gw, 0, none⟩) 9 cap5) zs ∧ Own wr (dp + 1) (.slice (some ⟨gt, 0, none⟩) 72 72) tb ∧ Dice wr dp a cap ts k ∧ Below dp w wr) (fun nv _ _ => (intOf nv).toNat)
    case atStart => exact ⟨n, k6, false, zs, List.replicate 72 false, rfl, by omega, rfl, HZL.out, List.length_replicate, Lib.hid (by rw [HWD.out]; exact par_zero), HO8.out, HT8.out, HD8.out, HW8.out⟩
    case round =>
      clear HO8 HT8 HD8 HW8 HWD HZL
      obtain ⟨m, k, od, zs, tb, rfl, hm, rfl, hzl, htl, HPAR, ho, ht, hd, hb⟩ := hrel
      have HZL := Lib.hid hzl
      have HTL := Lib.hid htl
      have HO := Lib.hid ho
      have HT := Lib.hid ht
      have HD := Lib.hid hd
      have HB := Lib.hid hb
      clear hzl htl ho ht hd hb
      by_cases h0 : 0 < m
      · have HNX := Lib.hid (show Calls Try.prog 21 #[.pointer (some ⟨dp, 0, none⟩), .int .i64 72] wr (NextPost wr dp a cap ts 72) from next_any wr dp a cap ts k 72 (by decide) (by decide) HD.out)
        go_wp2_with fail
        refine HNX.out.mono ?_
        rintro e v1 ⟨b, k1, hb72, rfl, hd1, hg1⟩
        have ht1 := HT.out.grown hg1 (.inr (own_ne HT.out (Nat.lt_succ_self _)))
        have ho1 := HO.out.grown hg1 (.inr (own_ne HO.out (Nat.lt_succ_self _)))
        have hb1 := HB.out.grown hg1 (Nat.le_of_lt HD.out.lt) (fun k e => by cases e; exact Nat.le_refl _)
        have hct := ht1.cellB b (by rw [HTL.out]; exact hb72)
        have hft := ht1.free b (by rw [HTL.out]; exact hb72)
        obtain ⟨tv, htv⟩ : ∃ v, el tb b = v := ⟨_, rfl⟩
        rw [htv] at hct
        have ht2 := ht1.setB b (!tv)
        have hgwt : gw ≠ gt := by omega
        have ho2 := ho1.other (p := ⟨gt, b, none⟩) (.bool (!tv)) (by show some gw ≠ some gt; intro e; cases e; exact hgwt rfl)
        have hd2 := Dice.set (o := b) hd1 hdt (fun b' off e h => Nat.lt_trans (HF8.out b' off e h) hdt) (.bool (!tv))
        have hb2 := hb1.setCell (p := ⟨gt, b, none⟩) (by show dp ≤ gt; omega) (.bool (!tv))
        obtain ⟨v2, hv2⟩ : ∃ v2, v1.setCell ⟨gt, b, none⟩ (.bool (!tv)) = v2 := ⟨_, rfl⟩
        rw [hv2] at ht2 ho2 hd2 hb2
        obtain ⟨q, hq⟩ : ∃ q, b / 8 = q := ⟨_, rfl⟩
        obtain ⟨r, hr⟩ : ∃ r, b % 8 = r := ⟨_, rfl⟩
        have hq9 : q < 9 := by omega
        have hqi : (b : Int) / 8 = (q : Int) := by omega
        have hri : (b : Int) % 8 = (r : Int) := by omega
        have hr8 : r < 8 := by omega
        have hcq := ho2.cellY q (by rw [HZL.out]; exact hq9)
        have hfq := ho2.free q (by rw [HZL.out]; exact hq9)
        have hrm := ho2.room
        have hsh := shl_Y hr8
        have hxy := xor_Y (el zs q) ((1 : Y) <<< r)
        have ho3 := ho2.setY q (el zs q ^^^ ((1 : Y) <<< r))
        have hfl : zs.set q (el zs q ^^^ ((1 : Y) <<< r)) = flipAt zs b := by rw [← hq, ← hr]; rfl
        rw [hfl] at ho3
        have HP2 : Hid (par (syn (flipAt zs b) 72) = !od) := Lib.hid (by
          rw [syn_flip (by rw [HZL.out]; omega), if_pos hb72, par_xor, HPAR.out, par_col b hb72]
          cases od <;> rfl)
        have HL2 : Hid ((flipAt zs b).length = 9) := Lib.hid (by rw [flip_len]; exact HZL.out)
        obtain ⟨y1, hy1⟩ : ∃ y, el zs q = y := ⟨_, rfl⟩
        obtain ⟨y2, hy2⟩ : ∃ y, (1 : Y) <<< r = y := ⟨_, rfl⟩
        obtain ⟨y3, hy3⟩ : ∃ y, y1 ^^^ y2 = y := ⟨_, rfl⟩
        rw [hy1] at hcq hxy ho3
        rw [hy2] at hsh hxy ho3
        rw [hy3] at hxy ho3
        have hgtw : gt ≠ gw := fun e => hgwt e.symm
        have ht3 := ht2.other (p := ⟨gw, q, none⟩) (.int .u8 (y3.toNat : Int)) (by show some gt ≠ some gw; intro e; cases e; exact hgtw rfl)
        have hd3 := Dice.set (o := q) hd2 hdg (fun b' off e h => Nat.lt_trans (HF8.out b' off e h) hdg) (.int .u8 (y3.toNat : Int))
        have hb3 := hb2.setCell (p := ⟨gw, q, none⟩) (by show dp ≤ gw; omega) (.int .u8 (y3.toNat : Int))
        obtain ⟨v3, hv3⟩ : ∃ v3, v2.setCell ⟨gw, q, none⟩ (.int .u8 (y3.toNat : Int)) = v3 := ⟨_, rfl⟩
        rw [hv3] at ho3 ht3 hd3 hb3
        obtain ⟨zf, hzf⟩ : ∃ z, flipAt zs b = z := ⟨_, rfl⟩
        rw [hzf] at ho3 HP2 HL2
        have htl3 : (tb.set b (!tv)).length = 72 := by rw [List.length_set]; exact HTL.out
        have HO3 := Lib.hid ho3
        have HT3 := Lib.hid ht3
        have HD3 := Lib.hid hd3
        have HB3 := Lib.hid hb3
        have HTL3 := Lib.hid htl3
        clear ho3 ht3 hd3 hb3 htl3 hzf hfl hy1 hy2 hy3 hq hr ht2 ho2 hd2 hb2 ht1 ho1 hb1 hd1 hg1 htv HNX HO HT HD HB HZL HTL
        go_wp2_with fail
        obtain ⟨m', rfl⟩ : ∃ m', m = m' + 1 := ⟨m - 1, by omega⟩
        go_roundw
        case rel => exact ⟨m', k1, !od, zf, tb.set b (!tv), (by first | rfl | go_num), by omega, rfl, HL2.out, HTL3.out, HP2, HO3.out, HT3.out, HD3.out, HB3.out⟩
        case measure => first | (simp [intOf]; done) | (simp [intOf]; omega)
      · obtain rfl : m = 0 := by omega
        rw [show ((0 : Nat) : Int) = 0 from rfl]
        have hgl : gw < wr.heap.size := by
          have := (HO.out.at 0 (by rw [HZL.out]; decide)).2.1
          exact this
        have HDC0 := decode_yes (some ⟨gw, 0, none⟩) zs cap5 wr (by have := HO.out; rw [← HZL.out] at this; exact this.rowAt) HZL.out
        obtain ⟨sy, hsy⟩ : ∃ s, syn zs 72 = s := ⟨_, rfl⟩
        rw [hsy] at HDC0 HPAR
        have HDC := Lib.hid HDC0
        have HSY := Lib.hid hsy
        clear HDC0 hsy HT HD HTL h0 hm hws
        by_cases hs0 : sy = 0
        · have hod : od = false := by rw [← HPAR.out, hs0]; exact par_zero
          subst hod
          have HS0 := Lib.hid hs0
          clear hs0
          go_wp2_with fail
          refine HDC.out.mono ?_
          intro e v1 hdec
          obtain ⟨a6, c6, a7, c7, rfl, hw6, hb6⟩ := hdec.is0 HS0.out HZL.out
          have hO6 := HO.out.below hb6
          have hW6 := HB.out.trans (hb6.mono (Nat.le_of_lt (Nat.lt_trans hdg hgl)))
          have hx6 := box3_new v1
          have hO7 := hO6.alloc (.cells #[.int .i64 0, .slice none 0 0, .slice none 0 0] 34)
          have hW7 := hW6.alloc (Nat.le_trans (Nat.le_of_lt (Nat.lt_trans hdg hgl)) hb6.size) (.cells #[.int .i64 0, .slice none 0 0, .slice none 0 0] 34)
          have hwn : ∀ k, (Value.slice a6 9 c6).ownBlock = some k → k < v1.heap.size := fun k e => (World.ownsRow.lt hw6 k e).2
          have hw7 := hw6.alloc (.cells #[.int .i64 0, .slice none 0 0, .slice none 0 0] 34)
          obtain ⟨p, hp⟩ : ∃ p, v1.heap.size = p := ⟨_, rfl⟩
          have hgp : gw < p := by rw [← hp]; exact Nat.lt_of_lt_of_le hgl hb6.size
          have hdpp : dp ≤ p := by omega
          obtain ⟨v2, hn7⟩ : ∃ v2, v1.alloc (.cells #[.int .i64 0, .slice none 0 0, .slice none 0 0] 34) = v2 := ⟨_, rfl⟩
          rw [hn7, hp] at hx6
          rw [hn7] at hO7 hW7 hw7
          rw [hp] at hwn
          obtain ⟨w8a, w8b, w8c, n8a, n8b, n8c, s80, t80, s81, t81, s82, t82, hx8, tb8, ty8, tn8, hz8⟩ := name3 hx6 (.int .i64 0) (.slice a6 9 c6) (.slice a7 0 c7)
          have hO8 := ty8 _ _ _ (by show some gw ≠ some p; intro e; cases e; omega) hO7
          have hW8 := tb8 _ _ hW7 hdpp
          have HO8 := Lib.hid hO8
          have HW8 := Lib.hid hW8
          have HX8 := Lib.hid hx8
          have HU8 := Lib.hid (ty8 _ _ _ (fun e => absurd (hwn _ e) (Nat.lt_irrefl _)) hw7)
          clear hx8 tb8 ty8 tn8 hz8 hO7 hW7 hx6 hdec hb6 hO6 hW6 HDC HO HB hO8 hW8 hw7 hw6 hwn
          go_wp2_with fail
          refine (awake_yes _).mono ?_
          rintro e v9 ⟨rfl, hb9⟩
          have hX9 := HX8.out.below hb9
          have k0 := hX9.cell 0 rfl
          have k1 := hX9.cell 1 rfl
          have HX9 := Lib.hid hX9
          have HO9 := Lib.hid (HO8.out.below hb9)
          have HW9 := Lib.hid (HW8.out.trans (hb9.mono (Nat.le_trans hdpp (Nat.le_of_lt HX8.out.lt))))
          have HU9 := Lib.hid (HU8.out.below hb9)
          clear hb9 hX9 HX8 HO8 HW8 HU8 n8a n8b n8c s80 t80 s81 t81 s82 t82 hn7 hp
          have HSD := Lib.hid (syndrome_yes a6 zs c6 v9 (by have := HU9.out; rw [← HZL.out] at this; exact this.rowAt) HZL.out)
          rw [HSY.out, HS0.out] at HSD
          go_wp2_with fail
          refine HSD.out.mono ?_
          rintro e v10 ⟨rfl, hb10⟩
          have hX10 := HX9.out.below hb10
          have j0 := hX10.cell 0 rfl
          have j1 := hX10.cell 1 rfl
          have hu10 := HU9.out.below hb10
          have ho10 := HO9.out.below hb10
          have z1 := conv_str (some ⟨gw, 0, none⟩) zs cap5 v10 (by rw [← HZL.out] at ho10; exact ho10.rowAt)
          have z2 := conv_str a6 zs c6 v10 (by rw [← HZL.out] at hu10; exact hu10.rowAt)
          obtain ⟨S, hS⟩ : ∃ S, strY zs = S := ⟨_, rfl⟩
          rw [hS, HZL.out] at z1 z2
          have HW10 := Lib.hid (HW9.out.trans (hb10.mono (Nat.le_trans hdpp (Nat.le_of_lt HX9.out.lt))))
          have y00 : ((0 : Y).toNat : Int) = 0 := rfl
          rw [y00]
          clear hS hu10 ho10 hX10 hb10 k0 k1 HSD HX9 HU9 HO9 HW9 y00
          go_wp2_with fail
          go_ret
          exact ⟨rfl, by rw [HDP.out]; exact HW10.out⟩
        · by_cases hi72 : idx sy < 72
          · have hcol := idx_col hi72
            have hod : od = true := by rw [← HPAR.out, ← hcol]; exact par_col _ hi72
            subst hod
            obtain ⟨i, hi⟩ : ∃ i, idx sy = i := ⟨_, rfl⟩
            rw [hi] at hi72 hcol
            have HS0 := Lib.hid hs0
            have HI := Lib.hid hi
            have HCO := Lib.hid hcol
            clear hs0 hi hcol
            obtain ⟨wf, hwf⟩ : ∃ l, flipAt zs i = l := ⟨_, rfl⟩
            have hfl9 : wf.length = 9 := by rw [← hwf, flip_len]; exact HZL.out
            have hfs : syn wf 72 = 0 := by
              rw [← hwf, syn_flip (by rw [HZL.out]; omega), HSY.out, if_pos hi72, HCO.out, BitVec.xor_self]
              rfl
            have HFL := Lib.hid hfl9
            have HFS := Lib.hid hfs
            have HWF := Lib.hid hwf
            clear hwf hfl9 hfs
            go_wp2_with fail
            refine HDC.out.mono ?_
            intro e v1 hdec
            obtain ⟨a6, c6, a7, c7, rfl, hw6, _, hb6⟩ := hdec.is1 HS0.out HI.out hi72 HZL.out
            have hO6 := HO.out.below hb6
            have hW6 := HB.out.trans (hb6.mono (Nat.le_of_lt (Nat.lt_trans hdg hgl)))
            have hx6 := box3_new v1
            have hO7 := hO6.alloc (.cells #[.int .i64 0, .slice none 0 0, .slice none 0 0] 34)
            have hW7 := hW6.alloc (Nat.le_trans (Nat.le_of_lt (Nat.lt_trans hdg hgl)) hb6.size) (.cells #[.int .i64 0, .slice none 0 0, .slice none 0 0] 34)
            have hwn : ∀ k, (Value.slice a6 9 c6).ownBlock = some k → k < v1.heap.size := fun k e => (World.ownsRow.lt hw6 k e).2
            have hw7 := hw6.alloc (.cells #[.int .i64 0, .slice none 0 0, .slice none 0 0] 34)
            obtain ⟨p, hp⟩ : ∃ p, v1.heap.size = p := ⟨_, rfl⟩
            have hgp : gw < p := by rw [← hp]; exact Nat.lt_of_lt_of_le hgl hb6.size
            have hdpp : dp ≤ p := by omega
            obtain ⟨v2, hn7⟩ : ∃ v2, v1.alloc (.cells #[.int .i64 0, .slice none 0 0, .slice none 0 0] 34) = v2 := ⟨_, rfl⟩
            rw [hn7, hp] at hx6
            rw [hn7] at hO7 hW7 hw7
            rw [hp] at hwn
            obtain ⟨w8a, w8b, w8c, n8a, n8b, n8c, s80, t80, s81, t81, s82, t82, hx8, tb8, ty8, tn8, hz8⟩ := name3 hx6 (.int .i64 1) (.slice a6 9 c6) (.slice a7 1 c7)
            have hO8 := ty8 _ _ _ (by show some gw ≠ some p; intro e; cases e; omega) hO7
            have hW8 := tb8 _ _ hW7 hdpp
            have HO8 := Lib.hid hO8
            have HW8 := Lib.hid hW8
            have HX8 := Lib.hid hx8
            have HU8 := Lib.hid (ty8 _ _ _ (fun e => absurd (hwn _ e) (Nat.lt_irrefl _)) hw7)
            clear hx8 tb8 ty8 tn8 hz8 hO7 hW7 hx6 hdec hb6 hO6 hW6 HDC HO HB hO8 hW8 hw7 hw6 hwn
            go_wp2_with fail
            refine (awake_yes _).mono ?_
            rintro e v9 ⟨rfl, hb9⟩
            have hX9 := HX8.out.below hb9
            have k0 := hX9.cell 0 rfl
            have k1 := hX9.cell 1 rfl
            have HX9 := Lib.hid hX9
            have HO9 := Lib.hid (HO8.out.below hb9)
            have HW9 := Lib.hid (HW8.out.trans (hb9.mono (Nat.le_trans hdpp (Nat.le_of_lt HX8.out.lt))))
            have HU9 := Lib.hid (HU8.out.below hb9)
            clear hb9 hX9 HX8 HO8 HW8 HU8 n8a n8b n8c s80 t80 s81 t81 s82 t82 hn7 hp
            rw [HWF.out] at HU9
            have HSD := Lib.hid (syndrome_yes a6 wf c6 v9 (by have := HU9.out; rw [← HFL.out] at this; exact this.rowAt) HFL.out)
            rw [HFS.out] at HSD
            go_wp2_with fail
            refine HSD.out.mono ?_
            rintro e v10 ⟨rfl, hb10⟩
            have hX10 := HX9.out.below hb10
            have j0 := hX10.cell 0 rfl
            have j1 := hX10.cell 1 rfl
            have hu10 := HU9.out.below hb10
            have ho10 := HO9.out.below hb10
            have hw10 := HW9.out.trans (hb10.mono (Nat.le_trans hdpp (Nat.le_of_lt HX9.out.lt)))
            obtain ⟨q, hq⟩ : ∃ q, i / 8 = q := ⟨_, rfl⟩
            obtain ⟨r, hr⟩ : ∃ r, i % 8 = r := ⟨_, rfl⟩
            have hq9 : q < 9 := by omega
            have hqi : (i : Int) / 8 = (q : Int) := by omega
            have hri : (i : Int) % 8 = (r : Int) := by omega
            have hr8 : r < 8 := by omega
            have hcq := ho10.cellY q (by rw [HZL.out]; exact hq9)
            have hfq := ho10.free q (by rw [HZL.out]; exact hq9)
            have hrm := ho10.room
            have hsh := shl_Y hr8
            have hxy := xor_Y (el zs q) ((1 : Y) <<< r)
            have ho11 := ho10.setY q (el zs q ^^^ ((1 : Y) <<< r))
            have hfl : zs.set q (el zs q ^^^ ((1 : Y) <<< r)) = wf := by rw [← HWF.out, ← hq, ← hr]; rfl
            rw [hfl] at ho11
            obtain ⟨y1, hy1⟩ : ∃ y, el zs q = y := ⟨_, rfl⟩
            obtain ⟨y2, hy2⟩ : ∃ y, (1 : Y) <<< r = y := ⟨_, rfl⟩
            obtain ⟨y3, hy3⟩ : ∃ y, y1 ^^^ y2 = y := ⟨_, rfl⟩
            rw [hy1] at hcq hxy ho11
            rw [hy2] at hsh hxy ho11
            rw [hy3] at hxy ho11
            have hpg : gw ≠ p := by omega
            have hx11 := hX10.other (q := ⟨gw, q, none⟩) hpg (.int .u8 (y3.toNat : Int))
            have hu11 := hu10.setBelow (p := ⟨gw, q, none⟩) hgl (.int .u8 (y3.toNat : Int))
            have hw11 := hw10.setCell (p := ⟨gw, q, none⟩) (by show dp ≤ gw; omega) (.int .u8 (y3.toNat : Int))
            obtain ⟨v11, hv11⟩ : ∃ v11, v10.setCell ⟨gw, q, none⟩ (.int .u8 (y3.toNat : Int)) = v11 := ⟨_, rfl⟩
            rw [hv11] at ho11 hx11 hu11 hw11
            have l1 := hx11.cell 1 rfl
            have z1 := conv_str (some ⟨gw, 0, none⟩) wf cap5 v11 (by rw [← HFL.out] at ho11; exact ho11.rowAt)
            have z2 := conv_str a6 wf c6 v11 (by rw [← HFL.out] at hu11; exact hu11.rowAt)
            obtain ⟨S, hS⟩ : ∃ S, strY wf = S := ⟨_, rfl⟩
            rw [hS, HFL.out] at z1 z2
            have HW11 := Lib.hid hw11
            have y00 : ((0 : Y).toNat : Int) = 0 := rfl
            rw [y00]
            clear hS hu10 ho10 hX10 hb10 k0 k1 HSD HX9 HU9 HO9 HW9 y00 ho11 hx11 hu11 hw11 hfl hy1 hy2 hy3 hw10 hq hr
            go_wp2_with fail
            go_ret
            exact ⟨rfl, by rw [HDP.out]; exact HW11.out⟩
          · have hi : idx sy = 72 := by have := idx_le sy; omega
            have HS0 := Lib.hid hs0
            have HI := Lib.hid hi
            clear hs0 hi hi72
            go_wp2_with fail
            refine HDC.out.mono ?_
            intro e v1 hdec
            obtain ⟨a6, c6, a7, c7, rfl, hb6⟩ := hdec.is2 HS0.out HI.out
            have hO6 := HO.out.below hb6
            have hW6 := HB.out.trans (hb6.mono (Nat.le_of_lt (Nat.lt_trans hdg hgl)))
            have hx6 := box3_new v1
            have hO7 := hO6.alloc (.cells #[.int .i64 0, .slice none 0 0, .slice none 0 0] 34)
            have hW7 := hW6.alloc (Nat.le_trans (Nat.le_of_lt (Nat.lt_trans hdg hgl)) hb6.size) (.cells #[.int .i64 0, .slice none 0 0, .slice none 0 0] 34)
            obtain ⟨p, hp⟩ : ∃ p, v1.heap.size = p := ⟨_, rfl⟩
            have hgp : gw < p := by rw [← hp]; exact Nat.lt_of_lt_of_le hgl hb6.size
            have hdpp : dp ≤ p := by omega
            obtain ⟨v2, hn7⟩ : ∃ v2, v1.alloc (.cells #[.int .i64 0, .slice none 0 0, .slice none 0 0] 34) = v2 := ⟨_, rfl⟩
            rw [hn7, hp] at hx6
            rw [hn7] at hO7 hW7
            obtain ⟨w8a, w8b, w8c, n8a, n8b, n8c, s80, t80, s81, t81, s82, t82, hx8, tb8, ty8, tn8, hz8⟩ := name3 hx6 (.int .i64 2) (.slice a6 0 c6) (.slice a7 0 c7)
            have hO8 := ty8 _ _ _ (by show some gw ≠ some p; intro e; cases e; omega) hO7
            have hW8 := tb8 _ _ hW7 hdpp
            have HO8 := Lib.hid hO8
            have HW8 := Lib.hid hW8
            have HX8 := Lib.hid hx8
            clear hx8 tb8 ty8 tn8 hz8 hO7 hW7 hx6 hdec hb6 hO6 hW6 HDC HO HB hO8 hW8
            go_wp2_with fail
            refine (awake_yes _).mono ?_
            rintro e v9 ⟨rfl, hb9⟩
            have hX9 := HX8.out.below hb9
            have k0 := hX9.cell 0 rfl
            have k1 := hX9.cell 1 rfl
            have HX9 := Lib.hid hX9
            have HO9 := Lib.hid (HO8.out.below hb9)
            have HW9 := Lib.hid (HW8.out.trans (hb9.mono (Nat.le_trans hdpp (Nat.le_of_lt HX8.out.lt))))
            clear hb9 hX9 HX8 HO8 HW8 n8a n8b n8c s80 t80 s81 t81 s82 t82 hn7 hp
            cases od with
            | false =>
              go_wp2_with fail
              go_ret
              exact ⟨rfl, by rw [HDP.out]; exact HW9.out⟩
            | true =>
              go_wp2_with fail
              go_ret
              exact ⟨rfl, by rw [HDP.out]; exact HW9.out⟩
end Go.Proofs.Ytdafapionedooaa.G.H
