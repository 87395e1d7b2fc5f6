/- RegisterDecodes: the walk. -/
import Derived.Test.YtfleehlajngkbaaRgMap
import Derived.Test.YtfleehlajngkbaaRgAw
import Derived.Test.YtfleehlajngkbaaRgSame
import Derived.Test.YtfleehlajngkbaaPShape
import Derived.Test.YtfleehlajngkbaaPLawB
import Derived.Test.YtfleehlajngkbaaRgKit
import Derived.Test.YtfleehlajngkbaaRgRDec
import Derived.Test.YtfleehlajngkbaaRgREnc
import Derived.Test.YtfleehlajngkbaaQuietW
import Derived.Deep.RegionHeld3
import Derived.Deep.DeepMust
import Derived.Deep.DeepCutAuto
import Derived.Deep.CutBlock
namespace Go.Proofs.Ytfleehlajngkbaa.RG
open Go Go.RowKit Go.Shelf
open G P
/-- The registers that are left, and what else stays. -/
def DcCut (w : World) (l : Value) (W : World) : Prop := ∃ (L : List V) (aL : Option Addr) (cL : Nat), l = .slice aL L.length cL ∧ L.length ≤ 100 ∧ Row W aL L cL ∧ Below w.heap.size w W
/-- What the loop over both lists keeps. -/
structure DL (w : World) (b : Nat) (a0 : Option Addr) (R0 : List V) (c0 : Nat) (aL : Option Addr) (L : List V) (cL : Nat) (W : World) : Prop where
  box : Box W b 41 [.slice a0 R0.length c0, .slice aL L.length cL]
  r0 : Row W a0 R0 c0
  r1 : Row W aL L cL
  bel : Below w.heap.size w W
theorem DL.below {w W W' : World} {b : Nat} {a0 : Option Addr} {R0 : List V} {c0 : Nat} {aL : Option Addr} {L : List V} {cL : Nat} (h : DL w b a0 R0 c0 aL L cL W) (hb : Below W.heap.size W W') : DL w b a0 R0 c0 aL L cL W' :=
  ⟨h.box.below hb, h.r0.below hb, h.r1.below hb, h.bel.trans (hb.mono h.bel.size)⟩
theorem DL.at {w W : World} {b : Nat} {a0 : Option Addr} {R0 : List V} {c0 : Nat} {aL : Option Addr} {L : List V} {cL : Nat} (h : DL w b a0 R0 c0 aL L cL W) (h0 : R0.length ≤ 100) (h1 : L.length ≤ 100) {k : Nat} (hk : k < 2) :
    ∃ (ak : Option Addr) (K : List V) (ck : Nat), W.cell? ⟨b, k, none⟩ = some (.slice ak K.length ck) ∧ K.length ≤ 1000 ∧ Row W ak K ck := by
  obtain rfl | rfl : k = 0 ∨ k = 1 := by omega
  · exact ⟨a0, R0, c0, h.box.cell 0 rfl, by omega, h.r0⟩
  · exact ⟨aL, L, cL, h.box.cell 1 rfl, by omega, h.r1⟩
set_option maxRecDepth 100000 in
set_option maxHeartbeats 4000000 in
/-- **RegisterDecodes** -/
theorem registerDecodes_any (a0 : Option Addr) (c0 : Nat) (R0 : List V) (a : Option Addr) (cap : Nat) (ts : List Int) (m : Int) (w : World) (hR0 : Row w a0 R0 c0) (hR : IRow w a ts cap) :
    Calls Try.prog 3 #[.slice a0 R0.length c0, .slice a ts.length cap, .int .i64 m] w fun e W => e = .returned (.bool true) ∧ Below w.heap.size w W := by
  have HAW := Lib.hid (fun W => awake_yes W)
  by_cases h400 : (ts.length : Int) ≤ 400
  case neg =>
    have hd : decide ((ts.length : Int) ≤ 400) = false := by simpa using h400
    have HL := Lib.hid (G.light_any a ts.length cap w)
    rw [hd] at HL
    clear hd hR hR0
    go_enter Try.func3, Try.ntmps3
    go_wp2_with fail
    refine HL.out.mono ?_
    rintro e w1 ⟨rfl, rfl⟩
    go_wp2_with fail
    refine (HAW.out _).mono ?_
    rintro e w2 ⟨rfl, hb⟩
    go_wp2_with fail
    go_ret
    exact ⟨rfl, hb⟩
  case pos =>
    have hd : decide ((ts.length : Int) ≤ 400) = true := by simpa using h400
    have HL := Lib.hid (G.light_any a ts.length cap w)
    rw [hd] at HL
    by_cases h100 : (100 : Int) < (R0.length : Int)
    · clear hd hR hR0 h400
      go_enter Try.func3, Try.ntmps3
      go_wp2_with fail
      refine HL.out.mono ?_
      rintro e w1 ⟨rfl, rfl⟩
      go_wp2_with fail
      refine (HAW.out _).mono ?_
      rintro e w2 ⟨rfl, hb⟩
      go_wp2_with fail
      go_ret
      exact ⟨rfl, hb⟩
    have HRO := Lib.hid (G.roll_any a cap ts w hR (by omega))
    have HR0 := Lib.hid hR0
    clear hd hR h400 hR0
    go_enter Try.func3, Try.ntmps3
    go_wp2_with fail
    refine HL.out.mono ?_
    rintro e w1 ⟨rfl, rfl⟩
    go_wp2_with fail
    refine HRO.out.mono ?_
    rintro e w1 ⟨rfl, hd1, hb1⟩
    have HSH := Lib.hid (shape_any w1 w.heap.size a cap ts 0 12 (by decide) hd1)
    have HB1 := Lib.hid hb1
    clear hd1 hb1 HL HRO
    go_wp2_with fail
    refine HSH.out.mono ?_
    rintro e w2 ⟨x, k2, rfl, hok, htm, hd2, hg2⟩
    have HMP := Lib.hid (map_any w2 w.heap.size a cap ts k2 x hok hd2)
    have HW2 := Lib.hid hd2.lt
    have HG2 := Lib.hid (below_dice HB1.out hg2 (Nat.le_refl _) (Nat.le_refl _))
    have HOK := Lib.hid hok
    have HTM := Lib.hid htm
    clear hd2 hg2 HSH HB1 hok htm
    go_wp2_with fail
    refine HMP.out.mono ?_
    rintro e w3 ⟨ys, a', c', k3, lo, hi, rfl, hyl, ho3, hl1, hl2, hl3, hd3, hg3⟩
    have HLT := Lib.hid hyl
    obtain ⟨t, hT⟩ : ∃ t, tm x 6 = t := ⟨_, rfl⟩
    rw [hT] at ho3 hl1 hl3 HLT
    have ht12 : t ≤ 12 := by rw [← hT]; exact HTM.out
    have hp12 := pw_12 ht12
    have henc : encE x t (lo : Int) (hi : Int) = 0 := by
      unfold encE
      rw [if_neg (by rw [HOK.out]; simp), if_neg (by omega), if_neg (by omega)]
    have HENC := Lib.hid henc
    have HR3 := Lib.hid ho3.rowAt
    have HO3 := Lib.hid ho3
    have HG3 := Lib.hid (below_dice HG2.out hg3 (Nat.le_refl _) (Nat.le_refl _))
    have HD3 := Lib.hid hd3
    have hlo : lo ≤ 1048576 := by omega
    have hhi : hi ≤ 1048576 := by omega
    rw [hT]
    clear hyl ho3 hl1 hl2 hl3 hd3 hg3 HMP HG2 henc hp12 hT HTM
    have HEN := Lib.hid (rencode_n x a' ys t c' (lo : Int) (hi : Int) w3 HR3.out HLT)
    go_wp2_with fail
    refine HEN.out.mono ?_
    rintro e w5 hen
    obtain ⟨g, cc, F, S, rfl, ho5, hb5, hg5, hFS, hreg⟩ := encR_yes hen HLT.out HENC.out
    have hlen : (F :: S :: ys).length = t + 2 := by rw [← HLT.out]; rfl
    have hdw : w.heap.size < w3.heap.size := HD3.out.lt
    have HD5 := Lib.hid (HD3.out.below hb5)
    have HB5 := Lib.hid (HG3.out.trans (hb5.mono HG3.out.size))
    have HO5 := Lib.hid (show G.Own w5 (w.heap.size + 1) (.slice (some ⟨g, 0, none⟩) (t + 2) cc) (F :: S :: ys) from ho5.mono (by omega))
    have HN5 := Lib.hid (show Calls Try.prog 10 #[.pointer (some ⟨w.heap.size, 0, none⟩), .int .i64 4] w5 (NextPost w5 w.heap.size a cap ts 4) from next_any w5 w.heap.size a cap ts k3 4 (by decide) (by decide) HD5.out)
    have hgw : w.heap.size < g := by omega
    obtain ⟨L, hL⟩ : ∃ L, F :: S :: ys = L := ⟨_, rfl⟩
    rw [hL] at HO5 hlen
    have HLL := Lib.hid hlen
    clear hen ho5 hb5 hreg hFS hL hlen HEN HR3 HO3 HG3 HD3
    go_wp2_with fail
    refine HN5.out.mono ?_
    rintro e w6 ⟨v, k6, hv, rfl, hd6, hg6⟩
    have HO6 := Lib.hid (HO5.out.far hg6 (Nat.lt_succ_self _))
    have HB6 := Lib.hid (below_dice HB5.out hg6 (Nat.le_refl _) (Nat.le_refl _))
    have hs6 := hd6.lt
    have HD6 := Lib.hid hd6
    have hl0 : 0 < t + 2 := by omega
    have hroomL := HO6.out.room
    clear hd6 hg6 HO5 HB5 HD5 HN5
    obtain ⟨s, hs⟩ : ∃ s : Nat, m % 64 = (s : Int) := ⟨(m % 64).toNat, by omega⟩
    have hs64 : s < 64 := by omega
    have HMD := Lib.hid (fun W => (show Calls Try.prog 11 #[.int .i64 m, .int .i64 64] W fun e W' => e = .returned (.int .i64 (s : Int)) ∧ W = W' from by rw [← hs]; exact mod_any m 64 (by decide) (by decide) W))
    clear hs
    go_upto_block 0 with fail
    go_cut [8] (fun l wx => DcCut w l wx)
    case first =>
      rcases (show v = 0 ∨ v = 1 ∨ 2 ≤ v by omega) with rfl | rfl | hv2
      · have hwu : IntKind.u64.wrap (s : Int) = (s : Int) := by rw [IntKind.wrap_u64]; omega
        have hsh := shl_one s
        obtain ⟨b1, hb1⟩ : ∃ b1, 1#64 <<< s = b1 := ⟨_, rfl⟩
        rw [hb1] at hsh
        clear hb1
        have HD0 := Lib.hid (HD6.out.drewN 1)
        have HO0 := Lib.hid (HO6.out.drewN 1)
        have HB0 := Lib.hid (belowN HB6.out 1)
        have hcst : ((t + 2 : Nat) : Int) = (t : Int) + 2 := by omega
        go_upto_region 7 with fail
        go_region_with (first
          | ((try go_simp); go_at_call 10; (first | (with_reducible refine (show Calls _ _ _ w6.drew (NextPost w6.drew w.heap.size a cap ts (t + 2)) from next_any w6.drew w.heap.size a cap ts k6 (t + 2) hl0 (by omega) HD0.out).mono ?_) | (rw [← hcst]; refine (next_any w6.drew w.heap.size a cap ts k6 (t + 2) hl0 (by omega) HD0.out).mono ?_)); go_must (rintro e u1 ⟨i, k7, hi1, rfl, hd7, hg7⟩; have ho7 := HO0.out.far hg7 (Nat.lt_succ_self _); have HBu := Lib.hid (below_dice HB0.out hg7 (Nat.le_refl _) (Nat.le_refl _)); have q1 := ho7.cellV i (by rw [HLL.out]; exact hi1); have q2 := ho7.free i (by rw [HLL.out]; exact hi1); have hx := xor_V (el L i) b1; (obtain ⟨y, hy⟩ : ∃ y, el L i ^^^ b1 = y := ⟨_, rfl⟩); rw [hy] at hx; have HOu := Lib.hid ho7; have hii : (i : Int) < ((t + 2 : Nat) : Int) := (by omega); have hii2 : (i : Int) < (t : Int) + 2 := (by omega); clear hy ho7 hd7 hg7))
          | ((try go_simp); go_at_call 11; (with_reducible refine (HMD.out _).mono ?_); go_must (rintro e u2 ⟨rfl, hw⟩; obtain rfl := hw)))
        all_goals (
          go_wp2_with fail
          go_meet
          first
            | exact ⟨L.set i y, _, cc, by rw [List.length_set, HLL.out], by rw [List.length_set, HLL.out]; omega, by have := (HOu.out.setV i y).rowAt; exact this, HBu.out.setCell (p := ⟨g, i, none⟩) (Nat.le_of_lt hgw) _⟩)
      · have HN := Lib.hid (show Calls Try.prog 10 #[.pointer (some ⟨w.heap.size, 0, none⟩), .int .i64 ((t + 2 : Nat) : Int)] w6 (NextPost w6 w.heap.size a cap ts (t + 2)) from next_any w6 w.heap.size a cap ts k6 (t + 2) hl0 (by omega) HD6.out)
        go_wp2_with fail
        refine HN.out.mono ?_
        rintro e u1 ⟨i, k7, hi1, rfl, hd7, hg7⟩
        have HBu := Lib.hid (below_dice HB6.out hg7 (Nat.le_refl _) (Nat.le_refl _))
        have HOu := Lib.hid (HO6.out.far hg7 (Nat.lt_succ_self _))
        have hii : (i : Int) ≤ (cc : Int) := by omega
        have hii2 : i ≤ cc := by omega
        have hit := HLL.out
        clear hd7 hg7 HN
        go_wp2_with fail
        go_meet
        have htk : (L.take i).length = i := by rw [List.length_take, hit]; omega
        exact ⟨L.take i, _, cc, by rw [htk], by rw [htk]; omega, HOu.out.rowAt.take i, HBu.out⟩
      · have hne0 : ((v : Int) == 0) = false := beq_eq_false_iff_ne.2 (by omega)
        have hne1 : ((v : Int) == 1) = false := beq_eq_false_iff_ne.2 (by omega)
        go_wp2_with fail
        go_meet
        exact ⟨L, _, cc, by rw [HLL.out], by rw [HLL.out]; omega, HO6.out.rowAt, HB6.out⟩
    case rest =>
      clear HO6 HB6 HD6 HMD HLL hs6 hroomL
      obtain ⟨L, aL, cL, rfl, hlL, hrL, hbL⟩ := hcut
      have hbx := Box.new wc 41 [.slice a0 R0.length c0, .slice aL L.length cL]
      obtain ⟨b, hb⟩ : ∃ b, wc.heap.size = b := ⟨_, rfl⟩
      obtain ⟨wD, hwD⟩ : ∃ wD, wc.alloc (.cells #[.slice a0 R0.length c0, .slice aL L.length cL] 41) = wD := ⟨_, rfl⟩
      have hbx' : Box wD b 41 [.slice a0 R0.length c0, .slice aL L.length cL] := by rw [← hwD, ← hb]; exact hbx
      have HDL := Lib.hid (show DL w b a0 R0 c0 aL L cL wD from ⟨hbx', by rw [← hwD]; exact (HR0.out.below hbL).alloc _, by rw [← hwD]; exact hrL.alloc _, by rw [← hwD]; exact hbL.alloc hbL.size _⟩)
      have hR100 : R0.length ≤ 100 := by omega
      clear hbx hbx' hbL hrL
      go_wp2_with fail
      go_loopw [11] (fun i wr => ∃ k : Nat, i = .int .i64 (k : Int) ∧ k ≤ 2 ∧ Hid (DL w b a0 R0 c0 aL L cL wr)) (fun i _ => 2 - (intOf i).toNat)
      case atStart => exact ⟨0, rfl, by decide, HDL⟩
      case round =>
        clear HDL
        obtain ⟨k, rfl, hk, HDL⟩ := hrel
        by_cases hlt : k < 2
        · obtain ⟨ak, K, ck, hck, hlK, hrK⟩ := HDL.out.at hR100 hlL hlt
          have HD1 := Lib.hid (decode_any ak K ck wr hrK hlK)
          have HLK := Lib.hid hlK
          have HRK := Lib.hid hrK
          clear hrK hlK
          go_wp2_with fail
          refine HD1.out.mono ?_
          rintro e v1 ⟨a1, c1, rfl, ho1, hb1⟩
          have hd1 := HDL.out.below hb1
          have hm1 := Mp.new v1 (doX K) (.slice a1 (doR K).length c1) (doLo K) (doHi K)
          have hba := (Below.refl _ v1).alloc (Nat.le_refl _) (.cells #[.int .i64 (doX K 0), .int .i64 (doX K 1), .int .i64 (doX K 2), .int .i64 (doX K 3), .int .i64 (doX K 4), .int .i64 (doX K 5), .slice a1 (doR K).length c1, .int .i64 (doLo K), .int .i64 (doHi K)] 34)
          have ho1' := ho1.alloc (.cells #[.int .i64 (doX K 0), .int .i64 (doX K 1), .int .i64 (doX K 2), .int .i64 (doX K 3), .int .i64 (doX K 4), .int .i64 (doX K 5), .slice a1 (doR K).length c1, .int .i64 (doLo K), .int .i64 (doHi K)] 34)
          obtain ⟨p1, hp1⟩ : ∃ p1, v1.heap.size = p1 := ⟨_, rfl⟩
          obtain ⟨v2, hv2⟩ : ∃ v2, v1.alloc (.cells #[.int .i64 (doX K 0), .int .i64 (doX K 1), .int .i64 (doX K 2), .int .i64 (doX K 3), .int .i64 (doX K 4), .int .i64 (doX K 5), .slice a1 (doR K).length c1, .int .i64 (doLo K), .int .i64 (doHi K)] 34) = v2 := ⟨_, rfl⟩
          rw [hv2] at hm1 hba ho1'
          have hd2 := hd1.below hba
          rw [hp1] at hm1
          have hck2 : v2.cell? ⟨b, k, none⟩ = some (.slice ak K.length ck) := cell_below hba (cell_below hb1 hck)
          have hrK2 : Row v2 ak K ck := (HRK.out.below hb1).below hba
          have HD2 := Lib.hid (rdecode_any ak K ck v2 hrK2 HLK.out)
          have HM2 := Lib.hid hm1
          have HO2 := Lib.hid ho1'
          have HDL2 := Lib.hid hd2
          clear hck hb1 hd1 hm1 hba ho1 ho1' hd2 hrK2 HDL HD1
          go_wp2_with fail
          refine HD2.out.mono ?_
          rintro e v3 ⟨a2, c2, rfl, ho3, hb3⟩
          have hm3 := Mp.new v3 (doX K) (.slice a2 (doR K).length c2) (doLo K) (doHi K)
          have hba := (Below.refl _ v3).alloc (Nat.le_refl _) (.cells #[.int .i64 (doX K 0), .int .i64 (doX K 1), .int .i64 (doX K 2), .int .i64 (doX K 3), .int .i64 (doX K 4), .int .i64 (doX K 5), .slice a2 (doR K).length c2, .int .i64 (doLo K), .int .i64 (doHi K)] 34)
          have ho3' := ho3.alloc (.cells #[.int .i64 (doX K 0), .int .i64 (doX K 1), .int .i64 (doX K 2), .int .i64 (doX K 3), .int .i64 (doX K 4), .int .i64 (doX K 5), .slice a2 (doR K).length c2, .int .i64 (doLo K), .int .i64 (doHi K)] 34)
          have hm1 := HM2.out.below hb3
          have ho1 := HO2.out.below hb3
          have hd3 := HDL2.out.below hb3
          obtain ⟨p3, hp3⟩ : ∃ p3, v3.heap.size = p3 := ⟨_, rfl⟩
          obtain ⟨v4, hv4⟩ : ∃ v4, v3.alloc (.cells #[.int .i64 (doX K 0), .int .i64 (doX K 1), .int .i64 (doX K 2), .int .i64 (doX K 3), .int .i64 (doX K 4), .int .i64 (doX K 5), .slice a2 (doR K).length c2, .int .i64 (doLo K), .int .i64 (doHi K)] 34) = v4 := ⟨_, rfl⟩
          rw [hv4] at hm3 hba ho3'
          have hm1' := hm1.below hba
          have HDL4 := Lib.hid (hd3.below hba)
          have hs := rsame_any (doX K) (doX K) a1 a2 (doR K) (doR K) c1 c2 (doLo K) (doHi K) (doLo K) (doHi K) v4 (ho1.below hba).rowAt ho3'.rowAt
          rw [same_refl (doR K) (doLo K) (doHi K) (fun _ _ => rfl)] at hs
          have HS := Lib.hid hs
          rw [hp3] at hm3
          obtain ⟨d0, d1, d2, d3, d4, d5, d6, d7, d8⟩ := hm1'.all
          obtain ⟨e0, e1, e2, e3, e4, e5, e6, e7, e8⟩ := hm3.all
          have hne : (decE K != decE K) = false := by simp
          clear ho3 hb3 hba ho3' hm1 ho1 hd3 hm1' hm3 hs HM2 HO2 HDL2 HD2 hck2
          go_wp2_with fail
          refine HS.out.mono ?_
          rintro e v5 ⟨rfl, hb5⟩
          have HDL5 := Lib.hid (HDL4.out.below hb5)
          clear hb5 HDL4 HS d0 d1 d2 d3 d4 d5 d6 d7 d8 e0 e1 e2 e3 e4 e5 e6 e7 e8
          go_wp2_with fail
          go_roundw
          case rel => exact ⟨k + 1, by go_num, hlt, HDL5⟩
          case measure => simp [intOf]; omega
        · obtain rfl : k = 2 := by omega
          go_wp2_with fail
          refine (HAW.out _).mono ?_
          rintro e wZ ⟨rfl, hbZ⟩
          go_wp2_with fail
          go_ret
          exact ⟨rfl, HDL.out.bel.trans (hbZ.mono HDL.out.bel.size)⟩
end Go.Proofs.Ytfleehlajngkbaa.RG
