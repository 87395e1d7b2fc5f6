/- BitmatKernels: the walk. -/
import Derived.Test.YtgihafjebmbdiaaBSolvesW
import Derived.Test.YtgihafjebmbdiaaBSame
import Derived.Test.YtgihafjebmbdiaaQuietW
namespace Go.Proofs.Ytgihafjebmbdiaa.B
open Go Go.RowKit Go.Shelf
open BM (bt pe)

theorem Row.atV {w : World} {b off : Nat} {zs : List V} {cap : Nat} (h : Row w (some ⟨b, off, none⟩) zs cap) (j : Nat) (hj : j < zs.length) : w.cell? ⟨b, off + j, none⟩ = some (.int .u64 ((B.el zs j).toNat : Int)) := by
  obtain ⟨b', off', e, hc⟩ := h.elV j hj
  cases e
  exact hc
def pw (t : Nat) : Nat := 2 ^ t
theorem pw_lt {t : Nat} (h : t < 64) : pw t < 18446744073709551616 := Nat.pow_lt_pow_right (a := 2) (by decide) h
theorem pw_pos (t : Nat) : 0 < pw t := Nat.pow_pos (by decide)
theorem pw_le {s t : Nat} (h : s ≤ t) : pw s ≤ pw t := Nat.pow_le_pow_right (by decide) h
theorem pw_shl {t : Nat} (h : t + 1 < 64) : IntKind.u64.wrap ((pw t : Int) * 2) = (pw (t + 1) : Int) := by
  have h1 := pw_lt h
  have e : pw (t + 1) = pw t * 2 := Nat.pow_succ 2 t
  rw [show ((pw t : Int) * 2) = ((pw (t + 1) : Nat) : Int) by rw [e]; omega, u64_wrap _ h1]
theorem top_ge {x : V} {c : Nat} (h : bt x c = true) : pw c ≤ x.toNat := by
  rw [← BM.bt_nat] at h
  exact Nat.ge_two_pow_of_testBit h
theorem top_lt {x : V} {c : Nat} (h : ∀ b, c < b → bt x b = false) : x.toNat < pw (c + 1) :=
  Nat.lt_pow_two_of_testBit _ (fun i hi => by rw [BM.bt_nat]; exact h i (by omega))
theorem and_pw {x : V} {c : Nat} (hc : c < 64) (h : bt x c = false) : bits BinOp.and IntKind.u64 (x.toNat : Int) (pw c : Int) = 0 := by
  rw [and_u64 _ _ x.lt (pw_lt hc)]
  have : x.toNat &&& pw c = 0 := by
    apply Nat.eq_of_testBit_eq
    intro i
    rw [Nat.testBit_and, Nat.zero_testBit]
    unfold pw
    rw [Nat.testBit_two_pow]
    by_cases e : c = i
    · subst e; rw [BM.bt_nat, h]; rfl
    · rw [decide_eq_false e, Bool.and_false]
  rw [this]; rfl

set_option maxRecDepth 100000 in
set_option maxHeartbeats 1000000 in
theorem bitmatKernels_any (a : Option Addr) (cap : Nat) (ts : List Int) (w : World) (hR : IRow w a ts cap) :
    Calls Try.prog 8 #[.slice a ts.length cap] w fun e W => e = .returned (.bool true) ∧ Below w.heap.size w W := by
  have hroom := hR.room
  have hmost := hR.most
  by_cases hl : ts.length ≤ 400
  · have hlt := light_any a ts.length cap w
    rw [decide_eq_true (show (ts.length : Int) ≤ 400 by omega)] at hlt
    have HL := Lib.hid hlt
    have HRO := Lib.hid (roll_any a cap ts w hR hl)
    clear hlt hR
    go_enter Try.func8, Try.ntmps8
    go_wp2_with fail
    refine HL.out.mono ?_
    rintro e w1 ⟨rfl, hw⟩
    obtain rfl := hw.symm
    go_wp2_with fail
    refine HRO.out.mono ?_
    rintro e w2 ⟨rfl, hd2, hb2⟩
    have HB2 := Lib.hid hb2
    have hs2 := hd2.lt
    have HN := Lib.hid (next_any w2 w.heap.size a cap ts 0 9 (by decide) (by decide) hd2)
    clear hd2 hb2 HL HRO
    go_wp2_with fail
    refine HN.out.mono ?_
    rintro e w3 ⟨r1, k3, hr1, rfl, hd3, hg3⟩
    have HB3 := Lib.hid (HB2.out.trans (below_dice hg3 (Nat.le_refl _) (Nat.le_of_lt hs2)))
    have hs3 := hd3.lt
    have HN3 := Lib.hid (next_any w3 w.heap.size a cap ts k3 12 (by decide) (by decide) hd3)
    obtain ⟨r, hr⟩ : ∃ r : Nat, r = r1 + 1 := ⟨_, rfl⟩
    have hri : (1 : Int) + (r1 : Int) = (r : Int) := by omega
    have hrb : 1 ≤ r ∧ r ≤ 9 := by omega
    obtain ⟨hrb1, hrb2⟩ := hrb
    clear hr
    clear hd3 hg3 HN
    go_wp2_with fail
    refine HN3.out.mono ?_
    rintro e w4 ⟨c1, k4, hc1, rfl, hd4, hg4⟩
    have HB4 := Lib.hid (HB3.out.trans (below_dice hg4 (Nat.le_refl _) (Nat.le_of_lt hs3)))
    have hs4 := hd4.lt
    obtain ⟨c, hc⟩ : ∃ c : Nat, c = c1 + 1 := ⟨_, rfl⟩
    have hci : (1 : Int) + (c1 : Int) = (c : Int) := by omega
    have hcb : 1 ≤ c ∧ c ≤ 12 := by omega
    obtain ⟨hcb1, hcb2⟩ := hcb
    clear hc
    have HM := Lib.hid (matrix_any w4 w.heap.size a cap ts k4 r c (by omega) (by omega) hd4)
    clear hd4 hg4 HN3
    go_wp2_with fail
    refine HM.out.mono ?_
    rintro e w5 ⟨vv, R, k5, rfl, hRl, hRf, ⟨a', cap', rfl, hrow, _⟩, hd5, hg5⟩
    have hMV : MV c R := ⟨by omega, by omega, by omega, by omega, fun j hj => hRf j (by omega)⟩
    have HB5 := Lib.hid (HB4.out.trans (below_dice hg5 (Nat.le_refl _) (Nat.le_of_lt hs4)))
    have HMV := Lib.hid hMV
    have hbx := MBox.new w5 (c : Int) a' R.length cap' 24
    have hr6 := hrow.alloc (.cells #[.int .i64 (c : Int), .slice a' R.length cap'] 24)
    have hb6 := HB5.out.alloc HB5.out.size (.cells #[.int .i64 (c : Int), .slice a' R.length cap'] 24)
    obtain ⟨w6, hw6⟩ : ∃ w6, w5.alloc (.cells #[.int .i64 (c : Int), .slice a' R.length cap'] 24) = w6 := ⟨_, rfl⟩
    rw [hw6] at hbx hr6 hb6
    have z0 := MBox.new w5 0 none 0 0 24
    have y0 := z0.c0
    have y1 := z0.c1
    have y2 := z0.f0
    have y3 := z0.f1
    have HBX := Lib.hid hbx
    have HR6 := Lib.hid hr6
    have HB6 := Lib.hid hb6
    have a0 := hbx.c0
    have a1 := hbx.c1
    have hkk := kernel_any c a' cap' R w6 hr6
    rw [kernE_is hMV] at hkk
    have HKK := Lib.hid hkk
    clear hRf hrow hd5 hg5 hMV hRl hbx hr6 hb6 z0 HM HB2 HB3 HB4 HB5 hkk
    go_wp2_with fail
    refine HKK.out.mono ?_
    rintro e w8 ⟨⟨kv, rfl, ka, kc, rfl, hkr, _⟩, hb8⟩
    obtain ⟨L, hL⟩ : ∃ L, kernL c R = L := ⟨_, rfl⟩
    rw [hL] at hkr ⊢
    have HLL := Lib.hid hL
    have HR8 := Lib.hid (HR6.out.below hb8)
    have HB8 := Lib.hid (HB6.out.trans (hb8.mono HB6.out.size))
    have HBX8 := Lib.hid (HBX.out.below hb8)
    have HK8 := Lib.hid hkr
    have HAW := Lib.hid (awake_yes w8)
    clear a0 a1 hb8 HBX HR6 HB6 HKK hkr hL y0 y1 y2 y3
    go_wp2_with fail
    refine HAW.out.mono ?_
    rintro e w9 ⟨rfl, hb9⟩
    have HBX9 := Lib.hid (HBX8.out.below hb9)
    have HR9 := Lib.hid (HR8.out.below hb9)
    have HB9 := Lib.hid (HB8.out.trans (hb9.mono HB8.out.size))
    have HK9 := Lib.hid (HK8.out.below hb9)
    have hkroom := HK8.out.room
    have hkmost := HK8.out.most
    clear hb9 HBX8 HR8 HB8 HAW HK8
    go_wp2_with fail
    go_loopw [7, 8, 9, 10, 11] (fun i _ _ _ _ wr => ∃ k : Nat, i = .int .i64 (k : Int) ∧ k ≤ L.length ∧ MBox wr w5.heap.size c a' R.length cap' ∧ Row wr a' R cap' ∧ Row wr ka L kc ∧ Below w.heap.size w wr) (fun i _ _ _ _ _ => L.length - (intOf i).toNat)
    case atStart => exact ⟨0, rfl, Nat.zero_le _, HBX9.out, HR9.out, HK9.out, HB9.out⟩
    case round =>
      clear HBX9 HR9 HK9 HB9
      obtain ⟨k, rfl, hk, hbx, hrw, hkw, hB⟩ := hrel
      have a0 := hbx.c0
      have a1 := hbx.c1
      have HBX := Lib.hid hbx
      have HRW := Lib.hid hrw
      have HKW := Lib.hid hkw
      have HB := Lib.hid hB
      by_cases hlt : k < L.length
      · obtain ⟨t, hte, htc, hker, ht1, ht2, ht3⟩ := ker_at HMV.out (show k < (kernL c R).length by rw [HLL.out]; exact hlt)
        rw [HLL.out] at hker ht1 ht2 ht3
        obtain ⟨kb, ko, rfl, hcell⟩ := hkw.elV k hlt
        have hfx : fitB (el L k) c = true := (fitB_iff _ _).2 hker.fit
        have hz : BM.app (el R) R.length (el L k) = 0 := (app_iff HMV.out (fit_zero _)).2 (fun j hj => by rw [hker.zero j hj, BM.bt_zero])
        have hap := apply_any c a' cap' R (el L k) wr.drew (hrw.drewN 1)
        rw [applyE_is HMV.out hfx, applyV_is HMV.out hfx, hz] at hap
        have HAP := Lib.hid (show Calls Try.prog 21 #[.agg #[.int .i64 (c : Int), .slice a' R.length cap'], .int .u64 ((el L k).toNat : Int)] wr.drew (fun e W => e = .returned (.tuple #[.int .u64 0, .int .i64 0]) ∧ Below wr.drew.heap.size wr.drew W) from hap)
        have hge := top_ge ht1
        have hlt2 := top_lt ht2
        have hnz : ¬ (el L k).toNat = 0 := by have := pw_pos t; omega
        have HGE := Lib.hid hge
        have HLT2 := Lib.hid hlt2
        have HTE := Lib.hid hte
        clear hge hlt2 hte
        have HT3 := Lib.hid ht3
        have HDS := Lib.hid (fun i (hi : i < k) => ker_desc HMV.out hi (by rw [HLL.out]; exact hlt))
        clear hbx hrw hkw hB hap hz hfx hker ht1 ht2 ht3
        go_upto_region 11 with fail
        go_cut [8, 9] (fun s8 s9 wx => s8 = .int .u64 0 ∧ s9 = .int .i64 0 ∧ Below wr.heap.size wr wx)
        case first =>
          go_region_law (go_simp; go_at_call 21; (with_reducible refine HAP.out.mono ?_); rintro e w10 ⟨rfl, hb10⟩; have HBA := Lib.hid hb10; clear hb10; go_simp)
          all_goals (
            go_wp2_with fail
            go_meet
            exact ⟨by first | rfl | trivial, by first | rfl | trivial, belowK HBA.out⟩)
        case rest =>
          obtain ⟨rfl, rfl, hbc⟩ := hcut
          have hcell' := cell_below hbc hcell
          have HKC := Lib.hid (HKW.out.below hbc)
          have HXC := Lib.hid (HBX.out.below hbc)
          have HRC := Lib.hid (HRW.out.below hbc)
          have HBC := Lib.hid (HB.out.trans (hbc.mono HB.out.size))
          clear a0 a1 hcell HBX HRW HKW HB hbc HAP
          have KEY : ∀ wy : World, Below wc.heap.size wc wy → MBox wy w5.heap.size c a' R.length cap' ∧ Row wy a' R cap' ∧ Row wy (some ⟨kb, ko, none⟩) L kc ∧ Below w.heap.size w wy := fun wy hd =>
            ⟨HXC.out.below hd, HRC.out.below hd, HKC.out.below hd, HBC.out.trans (hd.mono HBC.out.size)⟩
          have HKEY := Lib.hid KEY
          clear KEY HXC HRC HBC
          go_upto_region 12 with fail
          go_cut [80] (fun s80 wx => s80 = .bool false ∧ Below wc.heap.size wc wx)
          case first =>
            have hnz2 : (((el L k).toNat : Int) == 0) = false := beq_false_of_ne (by omega)
            have HO := Over.one wc
            have hC : ∀ n : Over wc, n.w.cell? ⟨kb, ko + k, none⟩ = some (.int .u64 ((el L k).toNat : Int)) := fun n => cell_below n.h hcell'
            by_cases hk0 : k = 0
            · have hgu : decide ((0 : Int) < (k : Int)) = false := decide_eq_false (by omega)
              have hgn : decide (0 < k) = false := decide_eq_false (by omega)
              clear hcell' hk0
              refine wp_region_over (by kernel_rfl) (by kernel_rfl) ?_
              repeat (go_big_quiet_step (first | exact fun _ => rfl | rfl))
              refine wpQuiet_nil ?_
              intro _ hw'
              obtain ⟨nq, rfl⟩ := hw'
              go_wp2_with fail
              go_meet
              exact ⟨by first | rfl | trivial, nq.h⟩
            · obtain ⟨q, hq⟩ : ∃ q, q + 1 = k := ⟨k - 1, Nat.sub_add_cancel (Nat.pos_of_ne_zero hk0)⟩
              have hqk : q < k := hq ▸ Nat.lt_succ_self q
              have hqn : q < L.length := Nat.lt_trans hqk hlt
              have hkp : 0 < k := Nat.pos_of_ne_zero hk0
              have hidx : (k : Int) - 1 = (q : Int) := by rw [← hq]; show ((q : Int) + 1) - 1 = (q : Int); exact Int.add_sub_cancel _ _
              have hwd : wrap64 (q : Int) = (q : Int) := wrap64_id q (Nat.lt_trans hqn (by omega))
              have hcellq := HKC.out.atV q hqn
              have hgu : decide ((0 : Int) < (k : Int)) = true := decide_eq_true (Int.ofNat_lt.2 hkp)
              have hgn : decide (0 < k) = true := decide_eq_true hkp
              obtain ⟨t2, ht2e, _, _, hq1, hq2, _⟩ := ker_at HMV.out (show q < (kernL c R).length by rw [HLL.out]; exact hqn)
              rw [HLL.out] at hq1 hq2
              have hge2 := top_ge hq1
              have hd2 : t < t2 := by rw [HTE.out, ht2e]; exact HDS.out q hqk
              have hpw := pw_le (s := t + 1) (t := t2) hd2
              have hLT : (el L k).toNat < (el L q).toNat := Nat.lt_of_lt_of_le HLT2.out (Nat.le_trans hpw hge2)
              have hlt3 : decide (((el L q).toNat : Int) ≤ ((el L k).toNat : Int)) = false := decide_eq_false (fun h => Nat.not_lt.2 (Int.ofNat_le.1 h) hLT)
              have hlt4 : decide ((el L q).toNat ≤ (el L k).toNat) = false := decide_eq_false (fun h => Nat.not_lt.2 h hLT)
              have hC2 : ∀ n : Over wc, n.w.cell? ⟨kb, ko + q, none⟩ = some (.int .u64 ((el L q).toNat : Int)) := fun n => cell_below n.h hcellq
              clear hq hq1 hq2 hge2 hd2 hpw ht2e hcell' hcellq hk0 hqk hLT
              refine wp_region_over (by kernel_rfl) (by kernel_rfl) ?_
              repeat (go_big_quiet_step (first | exact fun _ => rfl | rfl))
              refine wpQuiet_nil ?_
              intro _ hw'
              obtain ⟨nq, rfl⟩ := hw'
              go_wp2_with fail
              go_meet
              exact ⟨by first | rfl | trivial, nq.h⟩
          case rest =>
            obtain ⟨rfl, hdr⟩ := hcut
            have HDR := Lib.hid hdr
            obtain ⟨_, _, hkw2, _⟩ := HKEY.out _ hdr
            have hcell2 := hkw2.atV k hlt
            clear hcell' hkw2 hdr
            go_wp2_with fail
            go_loopw [10] (fun h wy => ∃ s : Nat, h = .int .u64 (pw s : Int) ∧ s ≤ t ∧ wy = wc) (fun h _ => (el L k).toNat - (intOf h).toNat)
            case atStart => exact ⟨0, rfl, Nat.zero_le _, rfl⟩
            case round =>
              obtain ⟨s, rfl, hs, rfl⟩ := hrel
              have hsh := pw_shl (t := s) (by omega)
              have hp0 := pw_pos (s + 1)
              have hp1 := pw_lt (t := s + 1) (by omega)
              have hnq : ¬ pw (s + 1) = 0 := Nat.ne_of_gt hp0
              have hnr : ¬ (pw (s + 1) : Int) = 0 := fun h => hnq (Int.ofNat_eq_zero.1 h)
              have hnp : ((pw (s + 1) : Int) != 0) = true := bne_iff_ne.2 hnr
              by_cases hst : s < t
              · have hle0 : pw (s + 1) ≤ (el L k).toNat := Nat.le_trans (pw_le hst) HGE.out
                have hle : decide ((pw (s + 1) : Int) ≤ ((el L k).toNat : Int)) = true := decide_eq_true (Int.ofNat_le.2 hle0)
                have hle2 : decide (pw (s + 1) ≤ (el L k).toNat) = true := decide_eq_true hle0
                have hlt5 : pw s < pw (s + 1) := Nat.pow_lt_pow_right (a := 2) (by decide) (Nat.lt_succ_self s)
                have HLE := Lib.hid (And.intro hle0 hlt5)
                clear hle0 hlt5 hp0 hp1
                go_wp2_with fail
                go_roundw
                case rel => exact ⟨s + 1, rfl, hst, trivial⟩
                case measure =>
                  have e1 : ∀ n : Nat, (intOf (Value.int .u64 (n : Int))).toNat = n := fun _ => rfl
                  rw [e1, e1]
                  exact Nat.sub_lt_sub_left (Nat.lt_of_lt_of_le HLE.out.2 HLE.out.1) HLE.out.2
              · have hes : t = s := (Nat.le_antisymm hs (Nat.not_lt.1 hst)).symm
                have hle0 : ¬ pw (s + 1) ≤ (el L k).toNat := by rw [← hes]; exact Nat.not_le.2 HLT2.out
                have hle : decide ((pw (s + 1) : Int) ≤ ((el L k).toNat : Int)) = false := decide_eq_false (fun h => hle0 (Int.ofNat_le.1 h))
                have hle2 : decide (pw (s + 1) ≤ (el L k).toNat) = false := decide_eq_false hle0
                subst hes
                clear hle0 hp0 hp1
                go_wp2_with fail
                go_loopw [11] (fun i wy => ∃ q : Nat, i = .int .i64 (q : Int) ∧ q ≤ L.length ∧ wy = wr) (fun i _ => L.length - (intOf i).toNat)
                case atStart => exact ⟨0, rfl, Nat.zero_le _, by first | rfl | trivial⟩
                case round =>
                  clear hle hle2 hnp hnq hnr hsh
                  obtain ⟨q, rfl, hq, rfl⟩ := hrel
                  by_cases hqn : q < L.length
                  · obtain ⟨_, _, hkw3, _⟩ := HKEY.out _ HDR.out
                    have hcell3 := hkw3.atV q hqn
                    clear hkw3 hcell2
                    by_cases hqk : q = k
                    · subst hqk
                      clear hcell3
                      go_wp2_with fail
                      go_roundw
                      case rel => exact ⟨q + 1, by go_num, hqn, by first | rfl | trivial⟩
                      case measure => simp [intOf]; omega
                    · obtain ⟨_, _, _, _, _, _, hq3⟩ := ker_at HMV.out (show q < (kernL c R).length by rw [HLL.out]; exact hqn)
                      rw [HLL.out] at hq3
                      have hb : bt (el L q) t = false := by rw [HTE.out]; exact hq3 k hlt (fun h => hqk h.symm)
                      have hand := and_pw (c := t) (by omega) hb
                      have hqe : ¬ (q : Int) = (k : Int) := fun h => hqk (Int.ofNat.inj h)
                      clear hb hq3
                      go_wp2_with fail
                      go_roundw
                      case rel => exact ⟨q + 1, by go_num, hqn, by first | rfl | trivial⟩
                      case measure => simp [intOf]; omega
                  · obtain rfl : q = L.length := Nat.le_antisymm hq (Nat.not_lt.1 hqn)
                    clear hcell2
                    go_wp2_with fail
                    go_roundw
                    case rel =>
                      obtain ⟨h1, h2, h3, h4⟩ := HKEY.out _ HDR.out
                      exact ⟨k + 1, by go_num, hlt, h1, h2, h3, h4⟩
                    case measure => simp [intOf]; omega
      · clear hbx hrw hkw hB
        go_wp2_with fail
        go_ret
        exact ⟨rfl, HB.out⟩
  · have hlt := light_any a ts.length cap w
    rw [decide_eq_false (show ¬ (ts.length : Int) ≤ 400 by omega)] at hlt
    have HL := Lib.hid hlt
    have HAW := Lib.hid (awake_yes w)
    clear hlt hR
    go_enter Try.func8, Try.ntmps8
    go_wp2_with fail
    refine HL.out.mono ?_
    rintro e w1 ⟨rfl, hw⟩
    obtain rfl := hw.symm
    go_wp2_with fail
    refine HAW.out.mono ?_
    rintro e w2 ⟨rfl, hb2⟩
    go_wp2_with fail
    go_ret
    exact ⟨rfl, by assumption⟩
end Go.Proofs.Ytgihafjebmbdiaa.B
