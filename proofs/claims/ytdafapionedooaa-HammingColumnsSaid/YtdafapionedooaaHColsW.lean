/- HammingColumns: the walk. -/
import Derived.Test.YtdafapionedooaaHAwake
import Derived.Test.YtdafapionedooaaGDiceB
import Derived.Test.YtdafapionedooaaGStep
import Derived.Deep.RegionLaw
import Derived.Test.YtdafapionedooaaHRef1
namespace Go.Proofs.Ytdafapionedooaa.G.H
open Go Go.RowKit Go.Shelf

theorem grown_below' {w W W' : World} {dp : Nat} (hb : Below w.heap.size w W) (hg : W.grownBy W' (some dp)) (hd : w.heap.size ≤ dp) : Below w.heap.size w W' :=
  hb.grown hg hb.size (fun k e => by cases e; exact hd)
def xorL (xs ys : List Y) (j : Nat) : List Y := tab j (fun m => el xs m ^^^ el ys m)
theorem xorL_len (xs ys : List Y) (j : Nat) : (xorL xs ys j).length = j := tab_len _ _
theorem xorL_0 (xs ys : List Y) : xorL xs ys 0 = [] := rfl
theorem xorL_snoc (xs ys : List Y) (j : Nat) : xorL xs ys j ++ [el xs j ^^^ el ys j] = xorL xs ys (j + 1) := tab_snoc _ _
theorem xorL_syn {xs ys : List Y} (hx : xs.length = 9) (hy : ys.length = 9) : syn (xorL xs ys 9) 72 = syn xs 72 ^^^ syn ys 72 := by
  refine syn_xor (fun k => ?_) 72
  unfold bitAt
  by_cases h : k / 8 < 9
  · rw [show el (xorL xs ys 9) (k / 8) = el xs (k / 8) ^^^ el ys (k / 8) from el_tab _ _ _ h, BitVec.getLsbD_xor]
  · rw [el_ge (by rw [xorL_len]; omega), el_ge (by omega), el_ge (by omega)]
    show (0 : Y).getLsbD _ = ((0 : Y).getLsbD _ ^^ (0 : Y).getLsbD _)
    rw [Y.bit_zero]; rfl
attribute [irreducible] xorL
theorem and_u8n (a b : Nat) (ha : a < 256) (hb : b < 256) : bits BinOp.and IntKind.u8 (a : Int) (b : Int) = ((a &&& b : Nat) : Int) := by
  have h := and_Y (BitVec.ofNat 8 a) (BitVec.ofNat 8 b)
  rw [BitVec.toNat_and, BitVec.toNat_ofNat, BitVec.toNat_ofNat, Nat.mod_eq_of_lt ha, Nat.mod_eq_of_lt hb] at h
  exact h

set_option maxRecDepth 100000 in
set_option maxHeartbeats 4000000 in
theorem hammingColumns_any (x y : Int) (a : Option Addr) (cap : Nat) (ts : List Int) (w : World) (hR : IRow w a ts cap) :
    Calls Try.prog 5 #[.int .i64 x, .int .i64 y, .slice a ts.length cap] w fun e W => e = .returned (.bool true) ∧ Below w.heap.size w W := by
  have hroom := hR.room
  have hmost := hR.most
  by_cases h400 : (ts.length : Int) ≤ 400
  case neg =>
    have hd : decide ((ts.length : Int) ≤ 400) = false := by simpa using h400
    have HL := Lib.hid (light_any a ts.length cap w)
    rw [hd] at HL
    clear hd hR
    go_enter Try.func5, Try.ntmps5
    go_wp2_with fail
    refine HL.out.mono ?_
    rintro e w1 ⟨rfl, rfl⟩
    go_wp2_with fail
    refine (awake_yes _).mono ?_
    rintro e w2 ⟨rfl, hb2⟩
    go_wp2_with fail
    go_ret
    exact ⟨rfl, hb2⟩
  case pos =>
    have hd : decide ((ts.length : Int) ≤ 400) = true := by simpa using h400
    have HL := Lib.hid (light_any a ts.length cap w)
    rw [hd] at HL
    have HR := Lib.hid hR
    have HMX := Lib.hid (fun W => mod_any x 72 (by decide) (by decide) W)
    have HMY := Lib.hid (fun W => mod_any y 72 (by decide) (by decide) W)
    obtain ⟨i, hi, hi72⟩ := mod_nat x 72 (by decide)
    obtain ⟨k, hk, hk72⟩ := mod_nat y 72 (by decide)
    rw [show ((72 : Nat) : Int) = 72 from rfl] at hi hk
    rw [hi] at HMX
    rw [hk] at HMY
    have hlen : (ts.length : Int) ≤ 400 := h400
    obtain ⟨ci, hci⟩ : ∃ c, col i = c := ⟨_, rfl⟩
    obtain ⟨ck, hck⟩ : ∃ c, col k = c := ⟨_, rfl⟩
    have HCI := Lib.hid (fun W => column_yes i hi72 W)
    have HCK := Lib.hid (fun W => column_yes k hk72 W)
    rw [hci] at HCI
    rw [hck] at HCK
    have HI := Lib.hid hci
    have HK := Lib.hid hck
    clear hd hR hi hk hci hck
    go_enter Try.func5, Try.ntmps5
    go_wp2_with fail
    refine HL.out.mono ?_
    rintro e w1 ⟨rfl, rfl⟩
    go_wp2_with fail
    refine (HMX.out _).mono ?_
    rintro e w' ⟨rfl, rfl⟩
    go_wp2_with fail
    refine (HMY.out _).mono ?_
    rintro e w' ⟨rfl, rfl⟩
    go_wp2_with fail
    refine (HCI.out _).mono ?_
    rintro e w1 ⟨rfl, hb1⟩
    have HB1 := Lib.hid hb1
    clear hb1
    go_wp2_with fail
    refine (HCK.out _).mono ?_
    rintro e w2 ⟨rfl, hb2⟩
    have HB2 := Lib.hid (HB1.out.trans (hb2.mono HB1.out.size))
    clear hb2 HB1 HMX HMY HCI HCK HL
    have hcl := ci.isLt
    obtain ⟨q, hq⟩ : ∃ q, pc ci.toNat = q := ⟨_, rfl⟩
    have hq8 : q ≤ 8 := by rw [← hq]; exact pc_le _ ci.isLt
    have HQ := Lib.hid hq
    clear hq
    go_wp2_with fail
    go_loop [11, 12] (fun n v => ∃ m c : Nat, v = .int .u8 (m : Int) ∧ n = .int .i64 (c : Int) ∧ m < 256 ∧ c ≤ 8 ∧ Hid (c + pc m = q)) (fun _ v => (intOf v).toNat)
    case atStart => exact ⟨ci.toNat, 0, rfl, rfl, hcl, by decide, Lib.hid (by rw [HQ.out]; exact Nat.zero_add q)⟩
    case round =>
      obtain ⟨m, c, rfl, rfl, hm, hc, HC⟩ := hrel
      by_cases h0 : m = 0
      · subst h0
        have hcq : c = q := by have := HC.out; rw [pc_zero] at this; omega
        subst hcq
        rw [show ((0 : Nat) : Int) = 0 from rfl]
        have hodd : (c : Int) % 2 = 1 := by
          have h1 := pc_par ci.toNat ci.isLt
          rw [BitVec.ofNat_toNat, BitVec.setWidth_eq, ← HI.out, par_col i hi72, HI.out, HQ.out] at h1
          have := eq_of_beq h1
          omega
        have HOD := Lib.hid hodd
        clear hodd hcl HC hm
        have HRO := Lib.hid (roll_any a cap ts w2 (HR.out.below HB2.out) (by omega))
        go_wp2_with fail
        refine HRO.out.mono ?_
        rintro e w3 ⟨rfl, hd3, hb3⟩
        have HB3 := Lib.hid (HB2.out.trans (hb3.mono HB2.out.size))
        have HBY := Lib.hid (show Calls Try.prog 10 #[.pointer (some ⟨w2.heap.size, 0, none⟩), .int .i64 9] w3 (BytesPost w3 w2.heap.size a cap ts 9) from bytes_any w3 w2.heap.size a cap ts 0 9 (by decide) hd3)
        have hdl3 : w2.heap.size < w3.heap.size := hd3.lt
        clear hb3 hd3 HRO
        go_wp2_with fail
        refine HBY.out.mono ?_
        rintro e w4 ⟨xs, ax, cx, k4, hxl, rfl, ho4, hd4, hg4⟩
        have HB4 := Lib.hid (grown_below' HB3.out hg4 HB2.out.size)
        have HX4 := Lib.hid ho4
        have HXL := Lib.hid hxl
        have HBY2 := Lib.hid (show Calls Try.prog 10 #[.pointer (some ⟨w2.heap.size, 0, none⟩), .int .i64 9] w4 (BytesPost w4 w2.heap.size a cap ts 9) from bytes_any w4 w2.heap.size a cap ts k4 9 (by decide) hd4)
        clear hg4 hd4 ho4 hxl HBY HB3
        go_wp2_with fail
        refine HBY2.out.mono ?_
        rintro e w5 ⟨ys, ay, cy, k5, hyl, rfl, ho5, hd5, hg5⟩
        have HB5 := Lib.hid (grown_below' HB4.out hg5 HB2.out.size)
        have HX5 := Lib.hid (HX4.out.grown hg5 (.inr (own_ne HX4.out hdl3)))
        have HY5 := Lib.hid ho5
        have HYL := Lib.hid hyl
        clear hg5 hd5 ho5 hyl HBY2 HB4 HX4
        go_wp2_with fail
        go_loopw [16, 17] (fun z jv wr => ∃ (j : Nat) (az : Option Addr) (cz : Nat), jv = .int .i64 (j : Int) ∧ j ≤ 9 ∧ z = .slice az j cz ∧ Own wr w5.heap.size (.slice az j cz) (xorL xs ys j) ∧ Below w5.heap.size w5 wr) (fun _ jv _ => 9 - (intOf jv).toNat)
        case atStart => exact ⟨0, none, 0, rfl, by decide, rfl, by rw [xorL_0]; exact Own.nil _ _, Below.refl _ _⟩
        case round =>
          obtain ⟨j, az, cz, rfl, hj, rfl, ho, hb⟩ := hrel
          have HZ := Lib.hid ho
          have HB := Lib.hid hb
          have hzr := ho.room
          by_cases hlt : j < 9
          · have hx := HX5.out.below hb
            have hy := HY5.out.below hb
            obtain ⟨gx, rfl, _, _⟩ := hx.fresh (by rw [HXL.out]; decide)
            obtain ⟨gy, rfl, _, _⟩ := hy.fresh (by rw [HYL.out]; decide)
            have cxj := hx.cellY j (by rw [HXL.out]; exact hlt)
            have cyj := hy.cellY j (by rw [HYL.out]; exact hlt)
            have hxr := hx.room
            have hyr := hy.room
            have hxy := xor_Y (el xs j) (el ys j)
            have hsn := xorL_snoc xs ys j
            obtain ⟨y1, hy1⟩ : ∃ y, el xs j = y := ⟨_, rfl⟩
            obtain ⟨y2, hy2⟩ : ∃ y, el ys j = y := ⟨_, rfl⟩
            obtain ⟨y3, hy3⟩ : ∃ y, y1 ^^^ y2 = y := ⟨_, rfl⟩
            rw [hy1] at cxj hxy hsn
            rw [hy2] at cyj hxy hsn
            rw [hy3] at hxy hsn
            have HSN := Lib.hid hsn
            have HJL := Lib.hid (xorL_len xs ys j)
            have hws : w5.heap.size ≤ wr.heap.size := hb.size
            clear hx hy hy1 hy2 hy3 hsn ho hb
            go_wp2_with fail
            go_region_law (refine step_app1 (α := Y) (v := .slice az j cz) rfl (.tmp 61) (.tmp 71) rfl y3 (B := w5.heap.size) (zs := xorL xs ys j) (by rfl) (HZ.out.alloc _) (by rfl) (cell_new _ _ _) (by rw [HJL.out]; omega) (by simp; omega) ?_; intro a' cap' w6 ho6 _ hb6 _; rw [HJL.out] at ho6 ⊢; have HO6 := Lib.hid ho6; have HB6 := Lib.hid hb6; clear ho6 hb6; go_simp)
            all_goals (
              have HB7 := Lib.hid (HB.out.trans ((((Below.refl w5.heap.size wr).alloc hws _).drew).trans HB6.out))
              go_wp2_with fail
              go_roundw
              case rel => exact ⟨j + 1, a', cap', by go_num, hlt, rfl, by rw [← HSN.out]; exact HO6.out, HB7.out⟩
              case measure => simp [intOf]; omega)
          · obtain rfl : j = 9 := by omega
            rw [show ((9 : Nat) : Int) = 9 from rfl]
            have HX6 := Lib.hid (HX5.out.below hb)
            have HY6 := Lib.hid (HY5.out.below hb)
            have HB6 := Lib.hid (HB5.out.trans (hb.mono HB5.out.size))
            have HZL := Lib.hid (xorL_len xs ys 9)
            have HZS := Lib.hid (xorL_syn HXL.out HYL.out)
            obtain ⟨zs, hzs⟩ : ∃ zs, xorL xs ys 9 = zs := ⟨_, rfl⟩
            rw [hzs] at HZ HZL HZS
            have HSX := Lib.hid (syndrome_yes ax xs cx wr (by have := HX6.out; rw [← HXL.out] at this; exact this.rowAt) HXL.out)
            obtain ⟨sx, hsx⟩ : ∃ s, syn xs 72 = s := ⟨_, rfl⟩
            obtain ⟨sy, hsy⟩ : ∃ s, syn ys 72 = s := ⟨_, rfl⟩
            obtain ⟨sz, hsz⟩ : ∃ s, syn zs 72 = s := ⟨_, rfl⟩
            rw [hsx] at HSX
            clear ho hb hlt hj hzs
            go_wp2_with fail
            refine HSX.out.mono ?_
            rintro e w6 ⟨rfl, hb6⟩
            have HY7 := Lib.hid (HY6.out.below hb6)
            have HZ7 := Lib.hid (HZ.out.below hb6)
            have HB7 := Lib.hid (HB6.out.trans (hb6.mono HB6.out.size))
            have HSY := Lib.hid (syndrome_yes ay ys cy w6 (by have := HY7.out; rw [← HYL.out] at this; exact this.rowAt) HYL.out)
            rw [hsy] at HSY
            clear hb6 HSX HB6 HY6 HZ HX6
            go_wp2_with fail
            refine HSY.out.mono ?_
            rintro e w7 ⟨rfl, hb7⟩
            have HZ8 := Lib.hid (HZ7.out.below hb7)
            have HB8 := Lib.hid (HB7.out.trans (hb7.mono HB7.out.size))
            have HSZ := Lib.hid (syndrome_yes az zs cz w7 (by have := HZ8.out; rw [← HZL.out] at this; exact this.rowAt) HZL.out)
            rw [hsz] at HSZ
            have HXS : Hid (sx ^^^ sy = sz) := Lib.hid (by rw [← hsx, ← hsy, ← hsz]; exact HZS.out.symm)
            clear hb7 HSY HB7 HY7 HZ7 hsx hsy hsz
            go_wp2_with fail
            refine HSZ.out.mono ?_
            rintro e w8 ⟨rfl, hb8⟩
            have HB9 := Lib.hid (HB8.out.trans (hb8.mono HB8.out.size))
            clear hb8 HSZ HB8 HZ8
            go_wp2_with fail
            refine (awake_yes _).mono ?_
            rintro e w9 ⟨rfl, hb9⟩
            have HB10 := Lib.hid (HB9.out.trans (hb9.mono HB9.out.size))
            clear hb9
            have hxx := xor_Y sx sy
            rw [HXS.out] at hxx
            have hodd := HOD.out
            have qz : ((sz.toNat : Int) == (sz.toNat : Int)) = true := by simp
            by_cases hik : i = k
            · subst hik
              have hcc : ck = ci := by rw [← HK.out, HI.out]
              subst hcc
              have q1 : ((ck.toNat : Int) == (ck.toNat : Int)) = true := by simp
              have q2 : ((i : Int) == (i : Int)) = true := by simp
              go_wp2_with fail
              go_ret
              exact ⟨rfl, HB10.out⟩
            · have hne : ci ≠ ck := fun e => hik (col_inj hi72 hk72 (by rw [HI.out, HK.out]; exact e))
              have q1 : ((ci.toNat : Int) == (ck.toNat : Int)) = false := by rw [beq_Y, decide_eq_false hne]
              have q2 : ((i : Int) == (k : Int)) = false := by rw [beq_eq_false_iff_ne]; omega
              clear hne
              go_wp2_with fail
              go_ret
              exact ⟨rfl, HB10.out⟩
      · obtain ⟨h1, h2⟩ := low_clear m hm h0
        have ha := and_u8n m (m - 1) (by omega) (by omega)
        obtain ⟨x1, hx1⟩ : ∃ x, m &&& (m - 1) = x := ⟨_, rfl⟩
        rw [hx1] at h1 h2 ha
        rw [show ((m - 1 : Nat) : Int) = (m : Int) - 1 by omega] at ha
        have hb : ((m : Int) != 0) = true := by simp; exact h0
        have hcq := HC.out
        have HC2 : Hid (c + 1 + pc x1 = q) := Lib.hid (by omega)
        have hc8 : c + 1 ≤ 8 := by omega
        clear h1 hx1 hcq HC
        go_wp2_with fail
        go_round
        case rel => exact ⟨x1, c + 1, rfl, by go_num, by omega, hc8, HC2⟩
        case measure => simp [intOf]; omega
end Go.Proofs.Ytdafapionedooaa.G.H
