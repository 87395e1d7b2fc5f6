/- RegisterReturns: the walk. -/
import Derived.Test.YtjemijjhplajaaaRgMap
import Derived.Test.YtjemijjhplajaaaRgAw
import Derived.Test.YtjemijjhplajaaaRgSame
import Derived.Test.YtjemijjhplajaaaPShape
import Derived.Test.YtjemijjhplajaaaPLawB
import Derived.Test.YtjemijjhplajaaaRgKit
import Derived.Test.YtjemijjhplajaaaRgRK
import Derived.Deep.RegionHeld3
import Derived.Deep.DeepMust
import Derived.Deep.DeepCutAuto
import Derived.Test.YtjemijjhplajaaaQuietW
namespace Go.Proofs.Ytjemijjhplajaaa.RG
open Go Go.RowKit Go.Shelf
open G P
set_option maxRecDepth 100000 in
set_option maxHeartbeats 4000000 in
/-- **RegisterReturns** -/
theorem registerReturns_any (a : Option Addr) (cap : Nat) (ts : List Int) (m : Int) (w : World) (hR : IRow w a ts cap) :
    Calls Try.prog 3 #[.slice a ts.length cap, .int .i64 m] w fun e W => e = .returned (.bool true) ∧ Below w.heap.size w W := by
  have HAW := Lib.hid (fun W => awake_yes W)
  by_cases h400 : (ts.length : Int) ≤ 400
  case neg =>
    have hd : decide ((ts.length : Int) ≤ 400) = false := by simpa using h400
    have HL := Lib.hid (G.light_any a ts.length cap w)
    rw [hd] at HL
    clear hd hR
    go_enter Try.func3, Try.ntmps3
    go_wp2_with fail
    refine HL.out.mono ?_
    rintro e w1 ⟨rfl, rfl⟩
    go_wp2_with fail
    refine (HAW.out _).mono ?_
    rintro e w2 ⟨rfl, hb⟩
    go_wp2_with fail
    go_ret
    exact ⟨rfl, hb⟩
  case pos =>
    have hd : decide ((ts.length : Int) ≤ 400) = true := by simpa using h400
    have HL := Lib.hid (G.light_any a ts.length cap w)
    rw [hd] at HL
    have HRO := Lib.hid (G.roll_any a cap ts w hR (by omega))
    clear hd hR h400
    go_enter Try.func3, Try.ntmps3
    go_wp2_with fail
    refine HL.out.mono ?_
    rintro e w1 ⟨rfl, rfl⟩
    go_wp2_with fail
    refine HRO.out.mono ?_
    rintro e w1 ⟨rfl, hd1, hb1⟩
    have HSH := Lib.hid (shape_any w1 w.heap.size a cap ts 0 12 (by decide) hd1)
    have HB1 := Lib.hid hb1
    clear hd1 hb1 HL HRO
    go_wp2_with fail
    refine HSH.out.mono ?_
    rintro e w2 ⟨x, k2, rfl, hok, htm, hd2, hg2⟩
    have HMP := Lib.hid (map_any w2 w.heap.size a cap ts k2 x hok hd2)
    have HW2 := Lib.hid hd2.lt
    have HG2 := Lib.hid (below_dice HB1.out hg2 (Nat.le_refl _) (Nat.le_refl _))
    have HOK := Lib.hid hok
    have HTM := Lib.hid htm
    clear hd2 hg2 HSH HB1 hok htm
    go_wp2_with fail
    refine HMP.out.mono ?_
    rintro e w3 ⟨ys, a', c', k3, lo, hi, rfl, hyl, ho3, hl1, hl2, hl3, hd3, hg3⟩
    have HLT := Lib.hid hyl
    obtain ⟨t, hT⟩ : ∃ t, tm x 6 = t := ⟨_, rfl⟩
    rw [hT] at ho3 hl1 hl3 HLT
    have ht12 : t ≤ 12 := by rw [← hT]; exact HTM.out
    have hp12 := pw_12 ht12
    have henc : encE x t (lo : Int) (hi : Int) = 0 := by
      unfold encE
      rw [if_neg (by rw [HOK.out]; simp), if_neg (by omega), if_neg (by omega)]
    have HENC := Lib.hid henc
    have HR3 := Lib.hid ho3.rowAt
    have HO3 := Lib.hid ho3
    have HG3 := Lib.hid (below_dice HG2.out hg3 (Nat.le_refl _) (Nat.le_refl _))
    have HD3 := Lib.hid hd3
    have hlo : lo ≤ 1048576 := by omega
    have hhi : hi ≤ 1048576 := by omega
    rw [hT]
    clear hyl ho3 hl1 hl2 hl3 hd3 hg3 HMP HG2 henc hp12 hT HTM
    have hm4 := Mp.new w3 x (.slice a' t c') (lo : Int) (hi : Int)
    have HO4 := Lib.hid (HO3.out.alloc (.cells #[.int .i64 (x 0), .int .i64 (x 1), .int .i64 (x 2), .int .i64 (x 3), .int .i64 (x 4), .int .i64 (x 5), .slice a' t c', .int .i64 (lo : Int), .int .i64 (hi : Int)] 31))
    have HG4 := Lib.hid (HG3.out.alloc HG3.out.size (.cells #[.int .i64 (x 0), .int .i64 (x 1), .int .i64 (x 2), .int .i64 (x 3), .int .i64 (x 4), .int .i64 (x 5), .slice a' t c', .int .i64 (lo : Int), .int .i64 (hi : Int)] 31))
    have HD4 := Lib.hid (HD3.out.alloc (.cells #[.int .i64 (x 0), .int .i64 (x 1), .int .i64 (x 2), .int .i64 (x 3), .int .i64 (x 4), .int .i64 (x 5), .slice a' t c', .int .i64 (lo : Int), .int .i64 (hi : Int)] 31))
    have hs34 : w3.heap.size < (w3.alloc (.cells #[.int .i64 (x 0), .int .i64 (x 1), .int .i64 (x 2), .int .i64 (x 3), .int .i64 (x 4), .int .i64 (x 5), .slice a' t c', .int .i64 (lo : Int), .int .i64 (hi : Int)] 31)).heap.size := by simp
    obtain ⟨w4, hw4⟩ : ∃ w4, w3.alloc (.cells #[.int .i64 (x 0), .int .i64 (x 1), .int .i64 (x 2), .int .i64 (x 3), .int .i64 (x 4), .int .i64 (x 5), .slice a' t c', .int .i64 (lo : Int), .int .i64 (hi : Int)] 31) = w4 := ⟨_, rfl⟩
    rw [hw4] at hm4 HO4 HG4 HD4 hs34
    obtain ⟨p, hp⟩ : ∃ p, w3.heap.size = p := ⟨_, rfl⟩
    rw [hp] at hm4 hs34
    obtain ⟨c0, c1, c2, c3, c4, c5, c6, c7, c8⟩ := hm4.all
    have HM4 := Lib.hid hm4
    have HEN := Lib.hid (encode_n x a' ys t c' (lo : Int) (hi : Int) w4 HO4.out.rowAt HLT)
    have HLP := Lib.hid (show ∀ k, (Value.slice a' t c').ownBlock = some k → k < p from fun k e => by have := (World.ownsRow.lt HO3.out k e).2; omega)
    have hdp : w.heap.size < p := by have := HD3.out.lt; omega
    have HFR := Lib.hid (show ∀ b off, a = some ⟨b, off, none⟩ → 0 < ts.length → b < p from fun b off e h0 => by have := HD3.out.far b off e h0; omega)
    clear hm4 HR3 HO3 HG3 HD3
    go_wp2_with fail
    refine HEN.out.mono ?_
    rintro e w5 hen
    obtain ⟨g, cc, F, S, rfl, ho5, hb5, hg5, hFS, hreg⟩ := encR_yes hen HLT.out HENC.out
    have hgp : p < g := by omega
    have hg5l : g < w5.heap.size := (World.ownsRow.lt ho5 g rfl).2
    have HFS := Lib.hid hFS
    have HG5 := Lib.hid (HG4.out.trans (hb5.mono HG4.out.size))
    have HOM5 := Lib.hid (HO4.out.below hb5)
    have HO5 := Lib.hid ho5
    have HM5 := Lib.hid (HM4.out.below hb5)
    have HD5 := Lib.hid (HD4.out.below hb5)
    have hlen : (F :: S :: ys).length = t + 2 := by rw [← HLT.out]; rfl
    have HDE := Lib.hid (show Calls Try.prog 10 #[.slice (some ⟨g, 0, none⟩) (t + 2) cc] w5 (DecR w5 (F :: S :: ys)) from by
      have := decode_any (some ⟨g, 0, none⟩) (F :: S :: ys) cc w5 ho5.rowAt (by rw [hlen]; omega)
      rw [hlen] at this
      exact this)
    have HLL := Lib.hid hlen
    have hs5 := hb5.size
    clear c0 c1 c2 c3 c4 c5 c6 c7 c8 hen ho5 hb5 hreg HM4 HG4 HO4 HEN HD4 hw4 hFS hlen
    go_wp2_with fail
    refine HDE.out.mono ?_
    rintro e w6 hde
    rw [HFS.out] at hde
    obtain ⟨a6, c6', rfl, ho6, hb6⟩ := decR_enc hde HLT.out HENC.out
    have hm6' := Mp.new w6 x (.slice a6 t c6') (lo : Int) (hi : Int)
    have hbb := hb6.alloc hb6.size (.cells #[.int .i64 (x 0), .int .i64 (x 1), .int .i64 (x 2), .int .i64 (x 3), .int .i64 (x 4), .int .i64 (x 5), .slice a6 t c6', .int .i64 (lo : Int), .int .i64 (hi : Int)] 31)
    have ho6' := ho6.alloc (.cells #[.int .i64 (x 0), .int .i64 (x 1), .int .i64 (x 2), .int .i64 (x 3), .int .i64 (x 4), .int .i64 (x 5), .slice a6 t c6', .int .i64 (lo : Int), .int .i64 (hi : Int)] 31)
    obtain ⟨q, hq⟩ : ∃ q, w6.heap.size = q := ⟨_, rfl⟩
    obtain ⟨w7, hw7⟩ : ∃ w7, w6.alloc (.cells #[.int .i64 (x 0), .int .i64 (x 1), .int .i64 (x 2), .int .i64 (x 3), .int .i64 (x 4), .int .i64 (x 5), .slice a6 t c6', .int .i64 (lo : Int), .int .i64 (hi : Int)] 31) = w7 := ⟨_, rfl⟩
    rw [hw7] at hm6' hbb ho6'
    rw [hq] at hm6'
    have HN7 := Lib.hid hm6'
    have HON7 := Lib.hid ho6'
    have HG7 := Lib.hid (HG5.out.trans (hbb.mono HG5.out.size))
    have HOM7 := Lib.hid (HOM5.out.below hbb)
    have HO7 := Lib.hid (HO5.out.below hbb)
    have HM7 := Lib.hid (HM5.out.below hbb)
    have HD7 := Lib.hid (HD5.out.below hbb)
    have hs6 := hb6.size
    clear hde ho6 hb6 hbb ho6' hm6' HG5 HOM5 HO5 HM5 HD5 HDE
    go_wp2_with fail
    refine (HAW.out _).mono ?_
    rintro e w8 ⟨rfl, hb8⟩
    have HN8 := Lib.hid (HN7.out.below hb8)
    have HON8 := Lib.hid (HON7.out.below hb8)
    have HG8 := Lib.hid (HG7.out.trans (hb8.mono HG7.out.size))
    have HOM8 := Lib.hid (HOM7.out.below hb8)
    have HO8 := Lib.hid (HO7.out.below hb8)
    have HM8 := Lib.hid (HM7.out.below hb8)
    have HD8 := Lib.hid (HD7.out.below hb8)
    clear hb8 HN7 HON7 HG7 HOM7 HO7 HM7 HD7 hw7
    obtain ⟨c0, c1, c2, c3, c4, c5, c6, c7, c8⟩ := HM8.out.all
    obtain ⟨d0, d1, d2, d3, d4, d5, d6, d7, d8⟩ := HN8.out.all
    have HRS := Lib.hid (show Calls Try.prog 11 #[.agg #[.int .i64 (x 0), .int .i64 (x 1), .int .i64 (x 2), .int .i64 (x 3), .int .i64 (x 4), .int .i64 (x 5), .slice a' t c', .int .i64 (lo : Int), .int .i64 (hi : Int)], .agg #[.int .i64 (x 0), .int .i64 (x 1), .int .i64 (x 2), .int .i64 (x 3), .int .i64 (x 4), .int .i64 (x 5), .slice a6 t c6', .int .i64 (lo : Int), .int .i64 (hi : Int)]] w8 fun e W => e = .returned (.bool true) ∧ Below w8.heap.size w8 W from by
      have := rsame_any x x a' a6 ys ys c' c6' (lo : Int) (hi : Int) (lo : Int) (hi : Int) w8 HOM8.out.rowAt HON8.out.rowAt
      rw [HLT.out, same_refl ys (lo : Int) (hi : Int) (fun _ _ => rfl)] at this
      exact this)
    have HSS := Lib.hid (fun W (hb : Below w8.heap.size w8 W) => (show Calls Try.prog 12 #[.agg #[.int .i64 (x 0), .int .i64 (x 1), .int .i64 (x 2), .int .i64 (x 3), .int .i64 (x 4), .int .i64 (x 5), .slice a' t c', .int .i64 (lo : Int), .int .i64 (hi : Int)], .agg #[.int .i64 (x 0), .int .i64 (x 1), .int .i64 (x 2), .int .i64 (x 3), .int .i64 (x 4), .int .i64 (x 5), .slice a6 t c6', .int .i64 (lo : Int), .int .i64 (hi : Int)]] W fun e W' => e = .returned (.bool true) ∧ Below W.heap.size W W' from by
      have := same_any x x a' a6 ys ys c' c6' (lo : Int) (hi : Int) (lo : Int) (hi : Int) W (HOM8.out.below hb).rowAt (HON8.out.below hb).rowAt
      rw [HLT.out, same_refl ys (lo : Int) (hi : Int) (fun _ _ => rfl)] at this
      exact this))
    have HK8 := Lib.hid (show RK w a cap ts p q g x a' t c' ys (lo : Int) (hi : Int) (t + 2) cc (F :: S :: ys) w8 from ⟨HM8.out, ⟨_, _, _, _, HN8.out⟩, HOM8.out.mono (by have := HW2.out; omega), HO8.out.mono (by omega), ⟨_, HD8.out⟩, HG8.out, hdp, by omega, hgp, by omega, fun e => absurd (HLP.out g e) (by omega), HFR.out⟩)
    go_wp2_with fail
    refine HRS.out.mono ?_
    rintro e w9 ⟨rfl, hb9⟩
    have HSS9 := Lib.hid (HSS.out w9 hb9)
    have HK9 := Lib.hid (HK8.out.below hb9)
    have HN9 := Lib.hid (HN8.out.below hb9)
    clear c0 c1 c2 c3 c4 c5 c6 c7 c8 d0 d1 d2 d3 d4 d5 d6 d7 d8 HM8 HON8 HG8 HOM8 HO8 HD8 HK8 HRS HSS
    obtain ⟨c0, c1, c2, c3, c4, c5, c6, c7, c8⟩ := HK9.out.mm.all
    obtain ⟨d0, d1, d2, d3, d4, d5, d6, d7, d8⟩ := HN9.out.all
    clear hb9
    go_wp2_with fail
    refine HSS9.out.mono ?_
    rintro e wA ⟨rfl, hbA⟩
    have HKA := Lib.hid (HK9.out.below hbA)
    clear c0 c1 c2 c3 c4 c5 c6 c7 c8 d0 d1 d2 d3 d4 d5 d6 d7 d8 HK9 HSS9 HN9 HN8 hbA
    obtain ⟨s, hs⟩ : ∃ s : Nat, m % 64 = (s : Int) := ⟨(m % 64).toNat, by omega⟩
    have hs64 : s < 64 := by omega
    have HMD := Lib.hid (fun W => (show Calls Try.prog 14 #[.int .i64 m, .int .i64 64] W fun e W' => e = .returned (.int .i64 (s : Int)) ∧ W = W' from by rw [← hs]; exact mod_any m 64 (by decide) (by decide) W))
    have hwu : IntKind.u64.wrap (s : Int) = (s : Int) := by rw [IntKind.wrap_u64]; omega
    have hsh := shl_one s
    obtain ⟨b1, hb1⟩ : ∃ b1, 1#64 <<< s = b1 := ⟨_, rfl⟩
    rw [hb1] at hsh
    have HB1 := Lib.hid hb1
    have hl0 : 0 < t + 2 := by omega
    have hroomL := HKA.out.ol.room
    clear hs hb1
    have hKd := HKA.out.drewN 1
    have HK0 := Lib.hid (show RK w a cap ts p q g x a' t c' ys (lo : Int) (hi : Int) (t + 2) cc (F :: S :: ys) wA.drew from hKd)
    have hcst : ((t + 2 : Nat) : Int) = (t : Int) + 2 := by omega
    clear hKd
    go_upto_region 9 with fail
    go_cut [] (fun wx => ∃ (i : Nat) (y : V), i < t + 2 ∧ el (F :: S :: ys) i ^^^ (1#64 <<< s) = y ∧ RK w a cap ts p q g x a' t c' ys (lo : Int) (hi : Int) (t + 2) cc ((F :: S :: ys).set i y) wx)
    case first =>
      go_region_with (first
        | ((try go_simp); go_at_call 13; (first | (with_reducible refine (next_rk (t + 2) ((t + 2 : Nat) : Int) rfl hl0 (by omega) HK0.out).mono ?_) | (with_reducible refine (next_rk (t + 2) ((t : Int) + 2) (by omega) hl0 (by omega) HK0.out).mono ?_)); go_must (rintro e u1 ⟨i, hi1, rfl, hk1⟩; have q1 := hk1.ol.cellV i (by rw [HLL.out]; exact hi1); have q2 := hk1.ol.free i (by rw [HLL.out]; exact hi1); have hx := xor_V (el (F :: S :: ys) i) b1; (obtain ⟨y, hy⟩ : ∃ y, el (F :: S :: ys) i ^^^ b1 = y := ⟨_, rfl⟩); rw [hy] at hx; have HY := Lib.hid hy; have HK1 := Lib.hid hk1; have hii : (i : Int) < ((t + 2 : Nat) : Int) := (by omega); have hii2 : (i : Int) < (t : Int) + 2 := (by omega); clear hy hk1))
        | ((try go_simp); go_at_call 14; (with_reducible refine (HMD.out _).mono ?_); go_must (rintro e u2 ⟨rfl, hw⟩; obtain rfl := hw)))
      all_goals (
        go_wp2_with fail
        go_meet
        first
          | exact ⟨i, y, hi1, by rw [HB1.out]; exact HY.out, HK1.out.setL i y⟩)
    case rest =>
      obtain ⟨i, y, hi1, hy, hkB⟩ := hcut
      have HIY := Lib.hid (And.intro hi1 hy)
      clear HK0 HKA hy HMD hsh HB1 hwu
      obtain ⟨L1, hL1⟩ : ∃ L1, (F :: S :: ys).set i y = L1 := ⟨_, rfl⟩
      rw [hL1] at hkB
      have hlen1 : L1.length = t + 2 := by rw [← hL1, List.length_set]; exact HLL.out
      have HOT := Lib.hid (show decE L1 = 0 → sameB x (decX L1) ys (L1.drop 2) (lo : Int) (hi : Int) (decLo L1 : Int) (decHi L1 : Int) = false from by
        rw [← hL1, ← HIY.out.2]
        exact other_map HFS.out (by rw [HLL.out]; exact HIY.out.1) hs64)
      have HDE := Lib.hid (show Calls Try.prog 10 #[.slice (some ⟨g, 0, none⟩) (t + 2) cc] wc (DecR wc L1) from by
        have := decode_any (some ⟨g, 0, none⟩) L1 cc wc (by have := hkB.ol; rw [show t + 2 = L1.length from hlen1.symm] at this; exact this.rowAt) (by rw [hlen1]; omega)
        rw [hlen1] at this
        exact this)
      have HKB := Lib.hid hkB
      have HL1 := Lib.hid hlen1
      clear hL1 hlen1 hkB HIY HFS hi1
      go_wp2_with fail
      refine HDE.out.mono ?_
      rintro e wd hde
      by_cases hz : decE L1 = 0
      · obtain ⟨a9, c9, rfl, ho9, hb9⟩ := decR_yes hde hz
        have HOT0 := Lib.hid (HOT.out hz)
        obtain ⟨n9, hL9⟩ : ∃ n9, (L1.drop 2).length = n9 := ⟨_, rfl⟩
        rw [hL9] at ho9 ⊢
        have HL9 := Lib.hid hL9
        have hkd := HKB.out.below hb9
        obtain ⟨y9, s9, l9, h9, hn9⟩ := hkd.nn
        obtain ⟨d0, d1, d2, d3, d4, d5, d6, d7, d8⟩ := hn9.all
        obtain ⟨f0, f1, f2, f3, f4, f5, f6, f7, f8⟩ := hn9.frees
        have hqc : q < wc.heap.size := by obtain ⟨_, _, _, _, hn⟩ := HKB.out.nn; exact hn.lt
        obtain ⟨wE, hwE⟩ : ∃ wE, put9 wd q (decX L1) (.slice a9 n9 c9) (decLo L1 : Int) (decHi L1 : Int) = wE := ⟨_, rfl⟩
        have hkE := hkd.put9 HLP.out (decX L1) (.slice a9 n9 c9) (decLo L1 : Int) (decHi L1 : Int)
        have hnE := put9_map hn9 (decX L1) (.slice a9 n9 c9) (decLo L1 : Int) (decHi L1 : Int)
        have hoE := put9_own ho9 (G.own_ne ho9 hqc) (decX L1) (.slice a9 n9 c9) (decLo L1 : Int) (decHi L1 : Int)
        rw [hwE] at hkE hnE hoE
        obtain ⟨he1, he2⟩ := enc_dec hz
        have HEN2 := Lib.hid (encode_n (decX L1) a9 (L1.drop 2) n9 c9 (decLo L1 : Int) (decHi L1 : Int) wE hoE.rowAt HL9)
        have hO : encO (decX L1) (L1.drop 2) (decLo L1 : Int) (decHi L1 : Int) = L1 := by unfold encO; rw [if_pos he1, he2]
        rw [hL9] at he1
        have HOO := Lib.hid (And.intro hO he1)
        unfold put9 at hwE
        obtain ⟨e0, e1, e2, e3, e4, e5, e6, e7, e8⟩ := hnE.all
        have HKE := Lib.hid hkE
        have HNE := Lib.hid hnE
        have HOE := Lib.hid hoE
        clear hL9 hde ho9 hb9 hkd hn9 hkE hnE hoE HKB HDE HOT he1 he2 hO
        go_wp2_with fail
        refine HEN2.out.mono ?_
        rintro e wF ⟨aF, cF, rfl, hoF, hbF⟩
        rw [HOO.out.1] at hoF
        rw [HOO.out.1, HL9.out, HOO.out.2]
        have hkF := HKE.out.below hbF
        have hnF := HNE.out.below hbF
        have hmF := hoF.rowAt
        have HSL := Lib.hid (show Calls Try.prog 15 #[.slice aF L1.length cF, .slice (some ⟨g, 0, none⟩) (t + 2) cc] wF fun e W => e = .returned (.bool true) ∧ Dr wF W from by
          have := sameList_any aF (some ⟨g, 0, none⟩) cF cc L1 L1 wF hoF.rowAt (by have := hkF.ol; rw [show t + 2 = L1.length from HL1.out.symm] at this; exact this.rowAt)
          rw [decide_eq_true rfl] at this
          rw [← HL1.out]
          exact this)
        have HSM := Lib.hid (fun W (hb : Below wF.heap.size wF W) => (show Calls Try.prog 12 #[.agg #[.int .i64 (x 0), .int .i64 (x 1), .int .i64 (x 2), .int .i64 (x 3), .int .i64 (x 4), .int .i64 (x 5), .slice a' t c', .int .i64 (lo : Int), .int .i64 (hi : Int)], .agg #[.int .i64 (decX L1 0), .int .i64 (decX L1 1), .int .i64 (decX L1 2), .int .i64 (decX L1 3), .int .i64 (decX L1 4), .int .i64 (decX L1 5), .slice a9 n9 c9, .int .i64 (decLo L1 : Int), .int .i64 (decHi L1 : Int)]] W fun e W' => e = .returned (.bool false) ∧ Below W.heap.size W W' from by
          have := same_any x (decX L1) a' a9 ys (L1.drop 2) c' c9 (lo : Int) (hi : Int) (decLo L1 : Int) (decHi L1 : Int) W (hkF.om.below hb).rowAt ((HOE.out.below hbF).below hb).rowAt
          rw [HLT.out, HOT0.out, HL9.out] at this
          exact this))
        have HKF := Lib.hid hkF
        have HNF := Lib.hid hnF
        clear hoF hbF hkF hnF hmF HEN2 HKE HNE HOE hwE e0 e1 e2 e3 e4 e5 e6 e7 e8 d0 d1 d2 d3 d4 d5 d6 d7 d8 f0 f1 f2 f3 f4 f5 f6 f7 f8
        go_wp2_with fail
        refine HSL.out.mono ?_
        rintro e wG ⟨rfl, hdG⟩
        have hKG := HKF.out.below hdG.below
        have hNG := HNF.out.below hdG.below
        obtain ⟨c0, c1, c2, c3, c4, c5, c6, c7, c8⟩ := hKG.mm.all
        obtain ⟨d0, d1, d2, d3, d4, d5, d6, d7, d8⟩ := hNG.all
        have HSM2 := Lib.hid (HSM.out wG hdG.below)
        have HBG := Lib.hid hKG.bel
        clear hKG hNG hdG HSM HKF HNF HSL
        go_wp2_with fail
        refine HSM2.out.mono ?_
        rintro e wH ⟨rfl, hbH⟩
        go_wp2_with fail
        go_ret
        exact ⟨rfl, HBG.out.trans (hbH.mono HBG.out.size)⟩
      · obtain ⟨a9, c9, rfl, hr9, hb9⟩ := decR_no hde hz
        have hkd := HKB.out.below hb9
        obtain ⟨y9, s9, l9, h9, hn9⟩ := hkd.nn
        obtain ⟨d0, d1, d2, d3, d4, d5, d6, d7, d8⟩ := hn9.all
        obtain ⟨f0, f1, f2, f3, f4, f5, f6, f7, f8⟩ := hn9.frees
        have hne : (decE L1 != 0) = true := bne_iff_ne.2 hz
        obtain ⟨E, hE⟩ : ∃ E, decE L1 = E := ⟨_, rfl⟩
        rw [hE] at hne ⊢
        obtain ⟨wE, hwE⟩ : ∃ wE, put9 wd q (fun _ => 0) (.slice a9 0 c9) 0 0 = wE := ⟨_, rfl⟩
        have hkE : Below w.heap.size w wE := by rw [← hwE]; exact put9_below hkd.bel (Nat.le_of_lt hkd.hq) _ _ _ _
        have hnE : Mp wE q (fun _ => 0) (.slice a9 0 c9) 0 0 := by rw [← hwE]; exact put9_map hn9 (fun _ => 0) (.slice a9 0 c9) 0 0
        have hcap := hr9.most
        have HRS2 := Lib.hid (show Calls Try.prog 11 #[.agg #[.int .i64 0, .int .i64 0, .int .i64 0, .int .i64 0, .int .i64 0, .int .i64 0, .slice a9 0 c9, .int .i64 0, .int .i64 0], .agg #[.int .i64 0, .int .i64 0, .int .i64 0, .int .i64 0, .int .i64 0, .int .i64 0, .slice none 0 0, .int .i64 0, .int .i64 0]] wE fun e W => e = .returned (.bool true) ∧ Below wE.heap.size wE W from by
          have := rsame_any (fun _ => 0) (fun _ => 0) a9 none [] [] c9 0 0 0 0 0 wE (Row.nil _ _ _ hcap) (Row.nil _ _ _ (by omega))
          rw [same_refl [] 0 0 (fun _ _ => rfl)] at this
          exact this)
        unfold put9 at hwE
        obtain ⟨e0, e1, e2, e3, e4, e5, e6, e7, e8⟩ := hnE.all
        have HKE := Lib.hid hkE
        clear hde hr9 hb9 hkd hn9 hz hE hnE hkE HKB HDE HOT
        go_wp2_with fail
        refine HRS2.out.mono ?_
        rintro e wF ⟨rfl, hbF⟩
        go_wp2_with fail
        go_ret
        exact ⟨rfl, HKE.out.trans (hbF.mono HKE.out.size)⟩
end Go.Proofs.Ytjemijjhplajaaa.RG
