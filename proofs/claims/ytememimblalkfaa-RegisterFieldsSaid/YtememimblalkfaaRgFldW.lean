/- RegisterFields: the walk. -/
import Derived.Test.YtememimblalkfaaRgMap
import Derived.Test.YtememimblalkfaaRgAw
import Derived.Test.YtememimblalkfaaRgSame
import Derived.Test.YtememimblalkfaaPShape
import Derived.Test.YtememimblalkfaaPLawB
import Derived.Test.YtememimblalkfaaRgKit
import Derived.Test.YtememimblalkfaaQuietW
namespace Go.Proofs.Ytememimblalkfaa.RG
open Go Go.RowKit Go.Shelf
open G P
set_option maxRecDepth 100000 in
set_option maxHeartbeats 4000000 in
/-- **RegisterFields** -/
theorem registerFields_any (a : Option Addr) (cap : Nat) (ts : List Int) (w : World) (hR : IRow w a ts cap) :
    Calls Try.prog 3 #[.slice a ts.length cap] w fun e W => e = .returned (.bool true) ∧ Below w.heap.size w W := by
  have HAW := Lib.hid (fun W => awake_yes W)
  by_cases h400 : (ts.length : Int) ≤ 400
  case neg =>
    have hd : decide ((ts.length : Int) ≤ 400) = false := by simpa using h400
    have HL := Lib.hid (G.light_any a ts.length cap w)
    rw [hd] at HL
    clear hd hR
    go_enter Try.func3, Try.ntmps3
    go_wp2_with fail
    refine HL.out.mono ?_
    rintro e w1 ⟨rfl, rfl⟩
    go_wp2_with fail
    refine (HAW.out _).mono ?_
    rintro e w2 ⟨rfl, hb⟩
    go_wp2_with fail
    go_ret
    exact ⟨rfl, hb⟩
  case pos =>
    have hd : decide ((ts.length : Int) ≤ 400) = true := by simpa using h400
    have HL := Lib.hid (G.light_any a ts.length cap w)
    rw [hd] at HL
    have HRO := Lib.hid (G.roll_any a cap ts w hR (by omega))
    clear hd hR h400
    go_enter Try.func3, Try.ntmps3
    go_wp2_with fail
    refine HL.out.mono ?_
    rintro e w1 ⟨rfl, rfl⟩
    go_wp2_with fail
    refine HRO.out.mono ?_
    rintro e w1 ⟨rfl, hd1, hb1⟩
    have HSH := Lib.hid (shape_any w1 w.heap.size a cap ts 0 12 (by decide) hd1)
    have HB1 := Lib.hid hb1
    clear hd1 hb1 HL HRO
    go_wp2_with fail
    refine HSH.out.mono ?_
    rintro e w2 ⟨x, k2, rfl, hok, htm, hd2, hg2⟩
    have HMP := Lib.hid (map_any w2 w.heap.size a cap ts k2 x hok hd2)
    have HG2 := Lib.hid (below_dice HB1.out hg2 (Nat.le_refl _) (Nat.le_refl _))
    have HOK := Lib.hid hok
    have HTM := Lib.hid htm
    clear hd2 hg2 HSH HB1 hok htm
    go_wp2_with fail
    refine HMP.out.mono ?_
    rintro e w3 ⟨ys, a', c', k3, lo, hi, rfl, hyl, ho3, hl1, hl2, hl3, hd3, hg3⟩
    have HLT := Lib.hid hyl
    obtain ⟨t, hT⟩ : ∃ t, tm x 6 = t := ⟨_, rfl⟩
    rw [hT] at ho3 hl1 hl3 HLT
    have ht12 : t ≤ 12 := by rw [← hT]; exact HTM.out
    have hp12 := pw_12 ht12
    have henc : encE x t (lo : Int) (hi : Int) = 0 := by
      unfold encE
      rw [if_neg (by rw [HOK.out]; simp), if_neg (by omega), if_neg (by omega)]
    have HENC := Lib.hid henc
    have HR3 := Lib.hid ho3.rowAt
    have HO3 := Lib.hid ho3
    have HW2 := Lib.hid HG2.out.size
    have HG3 := Lib.hid (below_dice HG2.out hg3 (Nat.le_refl _) (Nat.le_refl _))
    have HD3 := Lib.hid hd3
    have hlo : lo ≤ 1048576 := by omega
    have hhi : hi ≤ 1048576 := by omega
    rw [hT]
    clear hyl ho3 hl1 hl2 hl3 hd3 hg3 HMP HG2 henc hp12 hT HTM
    have hm4 := Mp.new w3 x (.slice a' t c') (lo : Int) (hi : Int)
    have HR4 := Lib.hid (HR3.out.alloc (.cells #[.int .i64 (x 0), .int .i64 (x 1), .int .i64 (x 2), .int .i64 (x 3), .int .i64 (x 4), .int .i64 (x 5), .slice a' t c', .int .i64 (lo : Int), .int .i64 (hi : Int)] 31))
    have HG4 := Lib.hid (HG3.out.alloc HG3.out.size (.cells #[.int .i64 (x 0), .int .i64 (x 1), .int .i64 (x 2), .int .i64 (x 3), .int .i64 (x 4), .int .i64 (x 5), .slice a' t c', .int .i64 (lo : Int), .int .i64 (hi : Int)] 31))
    obtain ⟨w4, hw4⟩ : ∃ w4, w3.alloc (.cells #[.int .i64 (x 0), .int .i64 (x 1), .int .i64 (x 2), .int .i64 (x 3), .int .i64 (x 4), .int .i64 (x 5), .slice a' t c', .int .i64 (lo : Int), .int .i64 (hi : Int)] 31) = w4 := ⟨_, rfl⟩
    rw [hw4] at hm4 HR4 HG4
    obtain ⟨p, hp⟩ : ∃ p, w3.heap.size = p := ⟨_, rfl⟩
    rw [hp] at hm4
    obtain ⟨c0, c1, c2, c3, c4, c5, c6, c7, c8⟩ := hm4.all
    have HM4 := Lib.hid hm4
    have HEN := Lib.hid (encode_n x a' ys t c' (lo : Int) (hi : Int) w4 HR4.out HLT)
    clear hm4 HR3 HO3 HG3 HD3
    go_wp2_with fail
    refine HEN.out.mono ?_
    rintro e w5 hen
    obtain ⟨g, cc, F, S, rfl, ho5, hb5, hg5, hFS, hreg⟩ := encR_yes hen HLT.out HENC.out
    have HREG := Lib.hid hreg
    have hm5 := HM4.out.below hb5
    have HG5 := Lib.hid (HG4.out.trans (hb5.mono HG4.out.size))
    have HR5 := Lib.hid (HR4.out.below hb5)
    have HO5 := Lib.hid ho5
    have HM5 := Lib.hid hm5
    clear c0 c1 c2 c3 c4 c5 c6 c7 c8 hen ho5 hb5 hm5 hreg HM4 HG4 HR4 HEN hw4 hFS
    go_wp2_with fail
    refine (HAW.out _).mono ?_
    rintro e w6 ⟨rfl, hb6⟩
    have hm6 := HM5.out.below hb6
    have HM6 := Lib.hid hm6
    have HO6 := Lib.hid (HO5.out.below hb6)
    have HR6 := Lib.hid (HR5.out.below hb6)
    have HG6 := Lib.hid (HG5.out.trans (hb6.mono HG5.out.size))
    obtain ⟨c0, c1, c2, c3, c4, c5, c6, c7, c8⟩ := hm6.all
    have hwt : wrap64 (2 + (t : Int)) = 2 + (t : Int) := by unfold wrap64; omega
    have hne : (((t : Int) + 2) != 2 + (t : Int)) = false := by rw [bne_eq_false_iff_eq]; omega
    have hne2 : (((t + 2 : Nat) : Int) != 2 + (t : Int)) = false := by rw [bne_eq_false_iff_eq]; omega
    have hs7 := Six.new w6 37 x
    obtain ⟨q, hq⟩ : ∃ q, w6.heap.size = q := ⟨_, rfl⟩
    obtain ⟨w7, hw7⟩ : ∃ w7, w6.alloc (.cells #[.int .i64 (x 0), .int .i64 (x 1), .int .i64 (x 2), .int .i64 (x 3), .int .i64 (x 4), .int .i64 (x 5)] 37) = w7 := ⟨_, rfl⟩
    rw [hw7, hq] at hs7
    have HS7 := Lib.hid hs7
    have HM7 := Lib.hid (show Mp w7 p x (.slice a' t c') (lo : Int) (hi : Int) by rw [← hw7]; exact HM6.out.alloc _)
    have HO7 := Lib.hid (show G.Own w7 w4.heap.size (.slice (some ⟨g, 0, none⟩) (t + 2) cc) (F :: S :: ys) by rw [← hw7]; exact HO6.out.alloc _)
    have HR7 := Lib.hid (show Row w7 a' ys c' by rw [← hw7]; exact HR6.out.alloc _)
    have HG7 := Lib.hid (show Below w.heap.size w w7 by rw [← hw7]; exact HG6.out.alloc HG6.out.size _)
    clear hb6 hm6 hs7 HM5 HO5 HR5 HG5 HM6 HO6 HR6 HG6
    go_wp2_with fail
    go_loopw [8] (fun i wr => ∃ k : Nat, i = .int .i64 (k : Int) ∧ k ≤ 6 ∧ Hid (Dr w7 wr)) (fun i _ => 6 - (intOf i).toNat)
    case atStart => exact ⟨0, rfl, by decide, Lib.hid (Dr.refl _)⟩
    case round =>
      clear c0 c1 c2 c3 c4 c5 c6 c7 c8
      obtain ⟨k, rfl, hk, HDR⟩ := hrel
      obtain ⟨n0, hn0⟩ := HDR.out
      have q0 := (HO7.out.drewN n0).cellV 0 (by simp)
      have hroom := HO7.out.room
      rw [← hn0] at q0
      rw [el0] at q0
      clear hn0
      have hl2 : (0 : Int) < ((t + 2 : Nat) : Int) := by omega
      have hl3 : (1 : Int) < ((t + 2 : Nat) : Int) := by omega
      have hl4 : 2 ≤ t + 2 := Nat.le_add_left 2 t
      by_cases hlt : k < 6
      · have hc := (HS7.out.below HDR.out.below).at k hlt
        have hpk := HREG.out.part k hlt
        obtain ⟨hx0, hx1⟩ := HREG.out.few k hlt
        have hwx : wrap64 (x k) = x k := by unfold wrap64; omega
        have hwk : wrap64 (4 * (k : Int)) = 4 * (k : Int) := by unfold wrap64; omega
        have hwk2 : IntKind.u64.wrap (4 * (k : Int)) = 4 * (k : Int) := by rw [IntKind.wrap_u64]; omega
        have hmin : min (4 * k) 64 = 4 * k := by omega
        go_wp2_with fail
        go_quiet (fail)
        go_wp2_with fail
        go_roundw
        case rel => exact ⟨k + 1, by go_num, hlt, Lib.hid (HDR.out.drewN _)⟩
        case measure => simp [intOf]; omega
      · obtain rfl : k = 6 := by omega
        have q1 := (HO7.out.below HDR.out.below).cellV 1 (by simp)
        rw [el1] at q1
        obtain ⟨c0, c1, c2, c3, c4, c5, c6, c7, c8⟩ := (HM7.out.below HDR.out.below).all
        obtain ⟨ad, had⟩ : ∃ ad, (if cc = 2 then some (⟨g, 0, none⟩ : Addr) else some ⟨g, 2, none⟩) = ad := ⟨_, rfl⟩
        have hro := (HO7.out.below HDR.out.below).rowAt
        have hr1 : Row wr ad ys (cc - 2) := by
          rw [← had]
          have hle : (F :: S :: ys).length = t + 2 := by rw [← HLT.out]; rfl
          split
          · have h0 : ys = [] := List.eq_nil_of_length_eq_zero (by have := hro.room; have := HLT.out; omega)
            rw [h0]
            exact Row.nil _ _ _ (by omega)
          · have := Row.dropV hro 2 (by omega)
            rwa [Nat.zero_add] at this
        have HSL := Lib.hid (fun n => (show Calls Try.prog 10 #[.slice ad t (cc - 2), .slice a' t c'] (wr.drewN n) fun e W => e = .returned (.bool true) ∧ ∃ m, W = (wr.drewN n).drewN m from by
          have := sameList_any ad a' (cc - 2) c' ys ys (wr.drewN n) (hr1.drewN n) (((HR7.out.below HDR.out.below)).drewN n)
          rw [HLT.out, decide_eq_true rfl] at this
          exact this))
        have e24 := HREG.out.count
        have e32 := HREG.out.sign
        have elo := HREG.out.low
        have ehi := HREG.out.high
        clear hro hr1
        go_wp2_with fail
        go_quiet ((go_at_call 10; exact Calls.quiet_of (HSL.out _)))
        go_wp2_with fail
        go_ret
        exact ⟨rfl, (HG7.out.trans (HDR.out.below.mono HG7.out.size)).trans ((belowN (Below.refl _ _) _).mono (Nat.le_trans HG7.out.size HDR.out.below.size))⟩
end Go.Proofs.Ytememimblalkfaa.RG
