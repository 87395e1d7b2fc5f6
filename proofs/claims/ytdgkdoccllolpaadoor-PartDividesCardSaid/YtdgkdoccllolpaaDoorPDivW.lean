/- PartDivides: the walk. -/
import Derived.Test.YtdgkdoccllolpaaDoorPLawK
import Derived.Test.YtdgkdoccllolpaaDoorPDivM
namespace Go.Proofs.YtdgkdoccllolpaaDoor.P
open Go Go.RowKit Go.Shelf
open G
section
attribute [local semireducible] knB
theorem kn_yes {k : Int} (h1 : 1 ≤ k) (h2 : k ≤ 6) : knB k = true := by unfold knB; rw [decide_eq_true_iff]; exact ⟨h1, h2⟩
end
set_option maxRecDepth 100000 in
set_option maxHeartbeats 4000000 in
/-- **PartDivides** -/
theorem divides_any (a : Option Addr) (cap : Nat) (ts : List Int) (n : Int) (w : World) (hR : IRow w a ts cap) (hT : Tab w) :
    Calls Tryd.prog 7 #[.slice a ts.length cap, .int .i64 n] w fun e W => e = .returned (.bool true) ∧ Below w.heap.size w W := by
  have HAW := Lib.hid (fun W hT => awake_any W hT)
  have HT := Lib.hid hT
  by_cases h400 : (ts.length : Int) ≤ 400
  case neg =>
    have hd : decide ((ts.length : Int) ≤ 400) = false := by simpa using h400
    have HL := Lib.hid (G.light_any a ts.length cap w)
    rw [hd] at HL
    clear hd hR hT
    go_enter Tryd.func7, Tryd.ntmps7
    go_wp2_with fail
    refine HL.out.mono ?_
    rintro e w1 ⟨rfl, rfl⟩
    go_wp2_with fail
    refine (HAW.out _ HT.out).mono ?_
    rintro e w2 ⟨rfl, hb2⟩
    go_wp2_with fail
    go_ret
    exact ⟨rfl, hb2⟩
  case pos =>
    have hd : decide ((ts.length : Int) ≤ 400) = true := by simpa using h400
    have HL := Lib.hid (G.light_any a ts.length cap w)
    rw [hd] at HL
    have HRO := Lib.hid (G.roll_any a cap ts w hR (by omega))
    clear hd hR hT
    go_enter Tryd.func7, Tryd.ntmps7
    go_wp2_with fail
    refine HL.out.mono ?_
    rintro e w1 ⟨rfl, rfl⟩
    go_wp2_with fail
    refine HRO.out.mono ?_
    rintro e w1 ⟨rfl, hd1, hb1⟩
    have HSH := Lib.hid (shape_any w1 w.heap.size a cap ts 0 6 (by decide) hd1)
    have HB1 := Lib.hid (And.intro hb1 hd1.lt)
    clear hd1 hb1 HL HRO
    go_wp2_with fail
    refine HSH.out.mono ?_
    rintro e w2 ⟨x, k2, rfl, hok, htm, hd2, hg2⟩
    have hk := LK.start (x := x) HT.out HB1.out.1 HB1.out.2 hd2 hg2
    obtain ⟨w3, hw3⟩ : ∃ w3, w2.alloc (.cells #[.int .i64 (x 0), .int .i64 (x 1), .int .i64 (x 2), .int .i64 (x 3), .int .i64 (x 4), .int .i64 (x 5)] 23) = w3 := ⟨_, rfl⟩
    rw [hw3] at hk
    obtain ⟨p, hp⟩ : ∃ p, w2.heap.size = p := ⟨_, rfl⟩
    rw [hp] at hk
    have HSX := Lib.hid hk.shape
    have HTT := Lib.hid hk.tab
    have HBB := Lib.hid hk.bel
    have HS := Lib.hid (fun W => size_any x W)
    have HA := Lib.hid (fun i W => at_any x i W)
    have HC := Lib.hid (fun kd P W hT => covered_any x kd P 0 1 0 false W hT)
    obtain ⟨sz, hsz⟩ : ∃ z, szN x = z := ⟨_, rfl⟩
    have hszl := sz_le x
    have HYES := Lib.hid (fun (i : Nat) (h : i < szN x) => at_yes hok h)
    have HSZ := Lib.hid hsz
    rw [hsz] at HS HC hszl HYES
    obtain ⟨r, hr, hr6⟩ := mod_nat n 6 (by decide)
    have HM := Lib.hid (fun W => (show Calls Tryd.prog 18 #[.int .i64 n, .int .i64 6] W fun e W' => e = .returned (.int .i64 (r : Int)) ∧ W = W' from by rw [← hr]; exact mod_any n 6 (by omega) (by omega) W))
    obtain ⟨kd, hkd⟩ : ∃ kd, 1 + (r : Int) = kd := ⟨_, rfl⟩
    have hkw : IntKind.i64.wrap (1 + (r : Int)) = kd := by rw [IntKind.wrap_i64]; omega
    have HK := Lib.hid (kn_yes (k := kd) (by omega) (by omega))
    obtain ⟨c0, c1, c2, c3, c4, c5⟩ := hk.shape.all
    clear hok htm hd2 hg2 hk HSH HB1 hsz HT hr hkd
    go_wp2_with fail
    refine (HM.out _).mono ?_
    rintro e w3' ⟨rfl, rfl⟩
    go_wp2_with fail
    refine (HS.out _).mono ?_
    rintro e w4 ⟨rfl, hb4⟩
    have HB4 := Lib.hid hb4
    clear hb4 c0 c1 c2 c3 c4 c5
    have hs4 := HB4.out.size
    go_wp2_with (at_make; refine wpList_make1 (α := Nat) rfl _ _ rfl sz rfl rfl rfl (by omega) (B := w3.heap.size) (by omega) ?_; intro w5 hown5 hb5; have HO5 := Lib.hid hown5; have HB5 := Lib.hid (HB4.out.trans hb5); clear hown5 hb5)
    have hg4 : w4.heap.size < w5.heap.size := (World.ownsRow.lt HO5.out _ rfl).2
    obtain ⟨g, hgg⟩ : ∃ g, w4.heap.size = g := ⟨_, rfl⟩
    rw [hgg] at HO5 hg4 hs4
    rw [hgg]
    go_loopw [9] (fun i wr => ∃ m : Nat, i = .int .i64 (m : Int) ∧ m ≤ sz ∧ Hid (G.Own wr w3.heap.size (.slice (some ⟨g, 0, none⟩) sz sz) (tab sz (TT x kd sz m)) ∧ Below w3.heap.size w3 wr ∧ g < wr.heap.size)) (fun i _ => sz - (intOf i).toNat)
    case atStart =>
      refine ⟨0, rfl, Nat.zero_le _, Lib.hid ⟨?_, HB5.out, by omega⟩⟩
      have e : List.replicate sz (Elt.z : Nat) = tab sz (TT x kd sz 0) := by
        rw [tab_replicate]
        exact tab_ext (fun y _ => (TT_zero x kd sz y).symm)
      rw [← e]
      exact HO5.out
    case round =>
      obtain ⟨m, rfl, hm, HI⟩ := hrel
      obtain ⟨c0, c1, c2, c3, c4, c5⟩ := (HSX.out.below HI.out.2.1).all
      go_wp2_with fail
      refine (HS.out _).mono ?_
      rintro e w6 ⟨rfl, hb6⟩
      have HI6 := Lib.hid (And.intro (HI.out.1.below hb6) (And.intro (HI.out.2.1.trans (hb6.mono HI.out.2.1.size)) (Nat.lt_of_lt_of_le HI.out.2.2 hb6.size)))
      clear hb6 HI c0 c1 c2 c3 c4 c5
      by_cases hlt : m < sz
      · obtain ⟨c0, c1, c2, c3, c4, c5⟩ := (HSX.out.below HI6.out.2.1).all
        go_wp2_with fail
        refine (HA.out (m : Int) _).mono ?_
        rintro e w7 ⟨rfl, hb7⟩
        rw [(HYES.out m hlt).1]
        obtain ⟨P, hP⟩ : ∃ P : Nat → Int, atP x (m : Int) = P := ⟨_, rfl⟩
        rw [hP]
        have HP := Lib.hid hP
        obtain ⟨w8, hw8⟩ : ∃ w8, w7.alloc (.cells #[.int .i64 (P 0), .int .i64 (P 1), .int .i64 (P 2), .int .i64 (P 3), .int .i64 (P 4), .int .i64 (P 5)] 24) = w8 := ⟨_, rfl⟩
        have hp8 := Six.new w7 24 P
        have hb78 := hb7.trans ((Below.refl _ w7).alloc hb7.size (.cells #[.int .i64 (P 0), .int .i64 (P 1), .int .i64 (P 2), .int .i64 (P 3), .int .i64 (P 4), .int .i64 (P 5)] 24))
        obtain ⟨pp, hpp⟩ : ∃ q, w7.heap.size = q := ⟨_, rfl⟩
        rw [hw8] at hp8 hb78
        rw [hpp] at hp8
        obtain ⟨p0, p1, p2, p3, p4, p5⟩ := hp8.all
        have HI8 := Lib.hid (And.intro (HI6.out.1.below hb78) (And.intro (HI6.out.2.1.trans (hb78.mono HI6.out.2.1.size)) (Nat.lt_of_lt_of_le HI6.out.2.2 hb78.size)))
        have hb89 := (Below.refl w8.heap.size w8).alloc (Nat.le_refl _) (.cells #[.int .i64 kd, .int .i64 (P 0), .int .i64 (P 1), .int .i64 (P 2), .int .i64 (P 3), .int .i64 (P 4), .int .i64 (P 5), .int .i64 0, .int .u8 1, .int .u8 0, .bool false] 26)
        have HI9 := Lib.hid (And.intro (HI8.out.1.below hb89) (And.intro (HI8.out.2.1.trans (hb89.mono HI8.out.2.1.size)) (Nat.lt_of_lt_of_le HI8.out.2.2 hb89.size)))
        clear c0 c1 c2 c3 c4 c5
        obtain ⟨c0, c1, c2, c3, c4, c5⟩ := (HSX.out.below HI9.out.2.1).all
        clear hb7 hp8 hb78 hb89 HI6 HI8 hP
        go_wp2_with fail
        refine (HC.out kd P _ (HTT.out.below HI9.out.2.1)).mono ?_
        rintro e w10 ⟨al, cl, rfl, ho10, hb10⟩
        have hcl : cvF x kd P sz = LL x kd sz m := by rw [← HP.out]; exact LL_eq x kd sz m
        rw [hcl] at ho10
        rw [hcl]
        have hspec := hd_spec (x := x) (k := kd) HK.out hlt
        have hl0 := hspec.1
        have hll := LL_len x kd sz m
        have HEL := Lib.hid (fun k (hk : k < (LL x kd sz m).length) => el_LL hk)
        obtain ⟨L, hL⟩ : ∃ L, LL x kd sz m = L := ⟨_, rfl⟩
        have hhd := hdL_eq x kd sz m
        rw [hL] at ho10 hl0 hll HEL hhd
        rw [hL]
        have HL := Lib.hid hL
        rcases ho10.parts with ⟨_, e2⟩ | ⟨b, cb, e, hBb, hblt, hcap, hmx, hcell⟩
        · rw [e2] at hl0; exact absurd hl0 (Nat.lt_irrefl _)
        have hinj := Value.slice.inj e
        obtain ⟨ea, _, ec⟩ := hinj
        subst ea ec
        have HCE := Lib.hid hcell
        have HI10 := Lib.hid (And.intro (HI9.out.1.below hb10) (And.intro (HI9.out.2.1.trans (hb10.mono HI9.out.2.1.size)) (Nat.lt_of_lt_of_le HI9.out.2.2 hb10.size)))
        have hgb : g < b := Nat.lt_of_lt_of_le HI9.out.2.2 hBb
        have HOL := Lib.hid (ho10.mono (Nat.succ_le_of_lt HI9.out.2.2))
        have hc0 : w10.cell? ⟨b, 0, none⟩ = some (.int .i64 ((hdL x kd sz m : Nat) : Int)) := by rw [← hhd]; exact (hcell 0 hl0).1
        have hlb : ((L.length : Int) == 0) = false := by rw [beq_eq_false_iff_ne]; omega
        obtain ⟨h, hh⟩ : ∃ h, hdL x kd sz m = h := ⟨_, rfl⟩
        rw [hh] at hc0
        have HH := Lib.hid hh
        clear hcl hspec hL hhd ho10 hcell hb10 HI9 c0 c1 c2 c3 c4 c5 p0 p1 p2 p3 p4 p5 hh
        by_cases hhm : h = m
        case neg =>
          have hne : ((h : Int) == (m : Int)) = false := by rw [beq_eq_false_iff_ne]; omega
          have hne2 : ((h : Int) != (m : Int)) = true := by simp only [bne, hne]; rfl
          go_wp2_with fail
          go_round
          case rel =>
            have e : tab sz (TT x kd sz (m + 1)) = tab sz (TT x kd sz m) := tab_ext (fun y _ => TT_no (by rw [HH.out]; exact hhm) y)
            exact ⟨m + 1, by go_num, hlt, by rw [e]; exact HI10⟩
          case measure => simp [intOf]; omega
        case pos =>
        subst hhm
        have hne : ((h : Int) == (h : Int)) = true := by simp
        go_wp2_with fail
        go_loopw [14] (fun i wr => ∃ k : Nat, i = .int .i64 (k : Int) ∧ k ≤ L.length ∧ Hid (G.Own wr w3.heap.size (.slice (some ⟨g, 0, none⟩) sz sz) (tab sz (IN x kd sz h k)) ∧ G.Own wr (g + 1) (.slice (some ⟨b, 0, none⟩) L.length cl) L ∧ Below w3.heap.size w3 wr ∧ g < wr.heap.size)) (fun i _ => L.length - (intOf i).toNat)
        case atStart =>
          have e : tab sz (IN x kd sz h 0) = tab sz (TT x kd sz h) := tab_ext (fun y _ => IN_zero x kd sz h y)
          exact ⟨0, rfl, Nat.zero_le _, by rw [e]; exact Lib.hid ⟨HI10.out.1, HOL.out, HI10.out.2.1, HI10.out.2.2⟩⟩
        case round =>
          obtain ⟨k, rfl, hk, HJ⟩ := hrel
          by_cases hkl : k < L.length
          · have hy := HEL.out k hkl
            have hc1 : wr.cell? ⟨b, k, none⟩ = some (.int .i64 ((el L k : Nat) : Int)) := HJ.out.2.1.cellN k hkl
            obtain ⟨y, hye⟩ : ∃ y, el L k = y := ⟨_, rfl⟩
            rw [hye] at hy hc1
            have hc2 : wr.cell? ⟨g, y, none⟩ = some (.int .i64 ((IN x kd sz h k y : Nat) : Int)) := by
              have := HJ.out.1.cellN y (by rw [tab_len]; exact hy)
              rwa [el_tab _ _ _ hy] at this
            have hcf : wr.frozen? ⟨g, y, none⟩ = false := (HJ.out.1.at y (by rw [tab_len]; exact hy)).2.2.2.2.2
            have hin := IN_le x kd sz h k y
            obtain ⟨z, hz⟩ : ∃ z, IN x kd sz h k y = z := ⟨_, rfl⟩
            rw [hz] at hc2 hin
            have hwz : IntKind.i64.wrap ((z : Int) + 1) = (z : Int) + 1 := by rw [IntKind.wrap_i64]; omega
            have ho1 := HJ.out.1.setN y (z + 1)
            have est : (tab sz (IN x kd sz h k)).set y (z + 1) = tab sz (IN x kd sz h (k + 1)) := by
              rw [tab_set, ← hz, ← hye, ← HL.out]
              exact IN_step (by rw [HL.out]; exact hkl)
            rw [est, show (((z + 1 : Nat)) : Int) = (z : Int) + 1 by omega] at ho1
            have ho2 := HJ.out.2.1.setBelow (p := ⟨g, y, none⟩) (Nat.lt_succ_self g) (.int .i64 ((z : Int) + 1))
            have hbw := HJ.out.2.2.1.setCell (p := ⟨g, y, none⟩) hs4 (.int .i64 ((z : Int) + 1))
            have HJ2 := Lib.hid (And.intro ho1 (And.intro ho2 (And.intro hbw (show g < (wr.setCell ⟨g, y, none⟩ (.int .i64 ((z : Int) + 1))).heap.size by rw [World.size_setCell]; exact HJ.out.2.2.2))))
            have hcast : ((((tab sz (IN x kd sz h k)).length : Nat)) : Int) = (sz : Int) := by rw [tab_len]
            clear ho1 ho2 hbw est HJ hz hye hin
            go_wp2_with fail
            go_round
            case rel => exact ⟨k + 1, by go_num, hkl, HJ2⟩
            case measure => simp [intOf]; omega
          · obtain rfl : k = L.length := by omega
            have e : tab sz (IN x kd sz h L.length) = tab sz (TT x kd sz (h + 1)) := tab_ext (fun y hy => by rw [← HL.out]; exact IN_all HK.out hlt HH.out y hy)
            have HJ2 : Hid (G.Own wr w3.heap.size (.slice (some ⟨g, 0, none⟩) sz sz) (tab sz (TT x kd sz (h + 1))) ∧ Below w3.heap.size w3 wr ∧ g < wr.heap.size) := Lib.hid (by rw [← e]; exact ⟨HJ.out.1, HJ.out.2.2.1, HJ.out.2.2.2⟩)
            clear e HJ
            go_wp2_with fail
            go_roundw
            case rel => exact ⟨h + 1, by go_num, hlt, HJ2⟩
            case measure => simp [intOf]; omega
      · obtain rfl : m = sz := by omega
        have HI7 := Lib.hid (And.intro (HI6.out.1) (And.intro HI6.out.2.1 HI6.out.2.2))
        clear HI6
        go_wp2_with fail
        go_loopw [15] (fun i wr => ∃ k : Nat, i = .int .i64 (k : Int) ∧ k ≤ m ∧ wr = w6) (fun i _ => m - (intOf i).toNat)
        case atStart => exact ⟨0, rfl, Nat.zero_le _, rfl⟩
        case round =>
          obtain ⟨k, rfl, hk, rfl⟩ := hrel
          by_cases hkl : k < m
          · have hc2 : wr.cell? ⟨g, k, none⟩ = some (.int .i64 1) := by
              have := HI7.out.1.cellN k (by rw [tab_len]; exact hkl)
              rwa [el_tab _ _ _ hkl, TT_all HK.out hkl] at this
            go_wp2_with fail
            go_round
            case rel => exact ⟨k + 1, by go_num, hkl, trivial⟩
            case measure => simp [intOf]; omega
          · obtain rfl : k = m := by omega
            go_wp2_with fail
            refine (HAW.out _ (HTT.out.below HI7.out.2.1)).mono ?_
            rintro e w9 ⟨rfl, hb9⟩
            have HB9 := Lib.hid (HBB.out.trans ((HI7.out.2.1.trans (hb9.mono HI7.out.2.1.size)).mono HBB.out.size))
            go_wp2_with fail
            go_ret
            exact ⟨rfl, HB9.out⟩
end Go.Proofs.YtdgkdoccllolpaaDoor.P
