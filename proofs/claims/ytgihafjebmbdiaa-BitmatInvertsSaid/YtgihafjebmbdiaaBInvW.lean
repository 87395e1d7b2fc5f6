/- BitmatInverts: the walk. -/
import Derived.Test.YtgihafjebmbdiaaBTurnsW
import Derived.Test.YtgihafjebmbdiaaBMasks
import Derived.Deep.CutBlock
import Derived.Deep.DeepCutAuto
namespace Go.Proofs.Ytgihafjebmbdiaa.B
open Go Go.RowKit Go.Shelf
open BM (bt pe)

/-- A square matrix in a box. -/
def SqCut (w : World) (p n : Nat) (W : World) : Prop := ∃ (a' : Option Addr) (c' : Nat) (R : List V), R.length = n ∧ MV n R ∧ MBox W p n a' n c' ∧ Row W a' R c' ∧ Below w.heap.size w W

/-- What the parts answer. -/
theorem inv_parts {n : Nat} {R : List V} (h : MV n R) (hR : R.length = n) (he : invE n R = 0) (v : V) (hv : fitB v n = true) : ∃ (I : List V) (X : V) (P : List V),
    invC n R = n ∧ invR n R = I ∧ rankN n R = n ∧ applyE n R v = 0 ∧ applyV n R v = X ∧ applyE n I X = 0 ∧ applyV n I X = v ∧ MV n I ∧ mulE n n I R = 0 ∧ mulC n n I R = n ∧ mulR n n I R = P ∧ P = tab n unitF := by
  obtain ⟨h1, _, h3⟩ := inv_facts h hR
  obtain ⟨hC, I, hI, hIl, hMI, hA, hM⟩ := h3 he
  have hX : fitB (BM.app (el R) R.length v) n = true := (fitB_iff _ _).2 (fun k hk => BM.bt_app_ge (by omega))
  refine ⟨I, BM.app (el R) R.length v, tab n unitF, hC, hI, h1.1 he, applyE_is h hv, applyV_is h hv, applyE_is hMI hX, ?_, hMI, mulE_is hMI h hR.symm, mulC_is hMI h hR.symm, ?_, rfl⟩
  · rw [applyV_is hMI hX, hIl, hR]; exact hA v hv
  · rw [mulR_is hMI h hR.symm, hIl, hR]
    exact tab_ext (fun i hi => hM i hi)

set_option maxRecDepth 100000 in
set_option maxHeartbeats 4000000 in
theorem bitmatInverts_any (a : Option Addr) (cap : Nat) (ts : List Int) (v : V) (w : World) (hR : IRow w a ts cap) :
    Calls Try.prog 6 #[.slice a ts.length cap, .int .u64 (v.toNat : Int)] w fun e W => e = .returned (.bool true) ∧ Below w.heap.size w W := by
  have hroom := hR.room
  have hmost := hR.most
  by_cases hl : ts.length ≤ 400
  · have hlt := light_any a ts.length cap w
    rw [decide_eq_true (show (ts.length : Int) ≤ 400 by omega)] at hlt
    have HL := Lib.hid hlt
    have HRO := Lib.hid (roll_any a cap ts w hR hl)
    clear hlt hR
    go_enter Try.func6, Try.ntmps6
    go_wp2_with fail
    refine HL.out.mono ?_
    rintro e w1 ⟨rfl, hw⟩
    obtain rfl := hw.symm
    go_wp2_with fail
    refine HRO.out.mono ?_
    rintro e w2 ⟨rfl, hd2, hb2⟩
    have HB2 := Lib.hid hb2
    have hs2 := hd2.lt
    have HN := Lib.hid (next_any w2 w.heap.size a cap ts 0 12 (by decide) (by decide) hd2)
    clear hd2 hb2 HL HRO
    go_wp2_with fail
    refine HN.out.mono ?_
    rintro e w3 ⟨n1, k3, hn1, rfl, hd3, hg3⟩
    have HB3 := Lib.hid (HB2.out.trans (below_dice hg3 (Nat.le_refl _) (Nat.le_of_lt hs2)))
    have hs3 := hd3.lt
    obtain ⟨n, hn⟩ : ∃ n : Nat, n = n1 + 1 := ⟨_, rfl⟩
    have hni : (1 : Int) + (n1 : Int) = (n : Int) := by omega
    have hnb : 1 ≤ n ∧ n ≤ 12 := by omega
    obtain ⟨hnb1, hnb2⟩ := hnb
    have HM := Lib.hid (matrix_any w3 w.heap.size a cap ts k3 n n (by omega) (by omega) hd3)
    clear hn hd3 hg3 HN
    go_wp2_with fail
    refine HM.out.mono ?_
    rintro e w5 ⟨vv, R, k5, rfl, hRl, hRf, ⟨a', cap', rfl, hrow, hfr⟩, hd5, hg5⟩
    have hMV : MV n R := ⟨by omega, by omega, by omega, by omega, fun j hj => hRf j (by omega)⟩
    have HB5 := Lib.hid (HB3.out.trans (below_dice hg5 (Nat.le_refl _) (Nat.le_of_lt hs3)))
    have hs5 := hd5.lt
    have HMV := Lib.hid hMV
    have hbx := MBox.new w5 (n : Int) a' R.length cap' 24
    have hr6 := hrow.alloc (.cells #[.int .i64 (n : Int), .slice a' R.length cap'] 24)
    have hb6 := HB5.out.alloc HB5.out.size (.cells #[.int .i64 (n : Int), .slice a' R.length cap'] 24)
    have hd6 := hd5.alloc (.cells #[.int .i64 (n : Int), .slice a' R.length cap'] 24)
    obtain ⟨w6, hw6⟩ : ∃ w6, w5.alloc (.cells #[.int .i64 (n : Int), .slice a' R.length cap'] 24) = w6 := ⟨_, rfl⟩
    rw [hw6] at hbx hr6 hb6 hd6
    have z0 := box0 w5
    obtain ⟨y0, y1, y2, y3⟩ := z0
    have HBX := Lib.hid hbx
    have HR6 := Lib.hid hr6
    have HB6 := Lib.hid hb6
    have HRL := Lib.hid hRl
    have HFR := Lib.hid hfr
    have HON := Lib.hid (one_any w6 w.heap.size a cap ts k5 2 (by decide) (by decide) hd6)
    have hs6 := hd6.lt
    clear hRf hrow hd5 hg5 hMV hbx hr6 hb6 hd6 hfr HM HB2 HB3 HB5 hRl
    go_wp2_with fail
    refine HON.out.mono ?_
    rintro e w7 ⟨t, k7, rfl, hd7, hg7⟩
    have HD7 := Lib.hid hd7
    have HBX7 := Lib.hid (HBX.out.grown hg7 (show w5.heap.size ≠ w.heap.size by omega))
    have HR7 := Lib.hid (HR6.out.grown hg7 (fun b o e => by have := HFR.out b o e; intro h; cases h; omega))
    have HB7 := Lib.hid (HB6.out.trans (below_dice hg7 (Nat.le_refl _) (Nat.le_of_lt hs6)))
    have hs7 := hd7.lt
    have hbl := lt_of_cell HBX7.out.c0
    clear hd7 hg7 HON HBX HR6 HB6 y0 y1 y2 y3
    go_upto_if 32 with fail
    go_cut [10] (fun _ wx => SqCut w w5.heap.size n wx)
    case first =>
      cases t with
      | false =>
        go_wp2_with fail
        go_meet
        exact ⟨a', cap', R, HRL.out, HMV.out, by have := HBX7.out; rw [HRL.out] at this; exact this, HR7.out, HB7.out⟩
      | true =>
        have HMS := Lib.hid (masks_any w7 w.heap.size a cap ts k7 n (by omega) (by omega) HD7.out)
        go_wp2_with fail
        refine HMS.out.mono ?_
        rintro e w8 ⟨ys, a8, c8, k8, rfl, hyl, hyf, ho8, hd8, hg8⟩
        have hbx8 := HBX7.out.grown hg8 (show w5.heap.size ≠ w.heap.size by omega)
        have a1 := hbx8.c1
        have f1 := hbx8.f1
        have HBX8 := Lib.hid hbx8
        have HO8 := Lib.hid ho8
        have HB8 := Lib.hid (HB7.out.trans (below_dice hg8 (Nat.le_refl _) (Nat.le_of_lt hs7)))
        have HYL := Lib.hid hyl
        have HYF := Lib.hid hyf
        clear hbx8 ho8 hd8 hg8 hyl hyf HMS
        go_wp2_with fail
        go_meet
        refine ⟨a8, c8, ys, HYL.out, ⟨by omega, by omega, by have := HYL.out; omega, by have := HYL.out; omega, fun j hj => HYF.out j (by have := HYL.out; omega)⟩, ⟨?_, ?_, ?_, ?_⟩, ?_, ?_⟩
        · exact (World.cell?_setCell_other _ _ _ _ (by intro e; cases e)).trans HBX8.out.c0
        · exact World.cell?_setCell_same' _ _ _ (by rw [HBX8.out.c1]; rfl)
        · exact (World.frozen?_setCell _ _ _ _).trans HBX8.out.f0
        · exact (World.frozen?_setCell _ _ _ _).trans HBX8.out.f1
        · exact HO8.out.rowAt.storedV HBX8.out.c1 (fun x e => by cases e) _
        · exact HB8.out.setCell (p := ⟨w5.heap.size, 1, none⟩) (by show _ ≤ w5.heap.size; omega) _
    case rest =>
      clear HD7 HBX7 HR7 HB7 HRL HFR HMV hs2 hs3 hs6 hs7 hbl
      obtain ⟨b', d', S, hSl, hMS, hbx, hrow, hB⟩ := hcut
      subst hSl
      have HMS := Lib.hid hMS
      have hi := inverse_any S.length b' d' S wc hrow
      obtain ⟨hrk, h6, _⟩ := inv_facts hMS rfl
      have a0 := hbx.c0
      have a1 := hbx.c1
      obtain ⟨y0, y1, y2, y3⟩ := box0 wc
      by_cases he : invE S.length S = 0
      · obtain ⟨v', hv1, hv2⟩ := masked v S.length (by omega)
        obtain ⟨I, X, P, i1, i2, i3, i4, i5, i6, i7, hMI, i8, i9, i10, i11⟩ := inv_parts hMS rfl he v' hv2
        rw [he, i1, i2] at hi
        have HI := Lib.hid hi
        have HMI := Lib.hid hMI
        have HA_0 := Lib.hid (show BX wc w5.heap.size S.length S b' d' from ⟨hbx, hrow⟩)
        have HB_0 := Lib.hid hB
        have I11 := Lib.hid i11
        clear hi hMS hMI hbx hrow hB hrk h6 he i1 i2 i11 hv2
        go_wp2_with fail
        refine HI.out.mono ?_
        rintro e v1 ⟨⟨vv, rfl, bI, dI, rfl, hrow, _⟩, hb⟩
        have hI := BX.new (C := (S.length : Int)) hrow
        obtain ⟨x0, x1, x2, x3⟩ := box0 v1
        have hA := (HA_0.out.below hb).below ((Below.refl _ _).alloc (Nat.le_refl _) (.cells #[.int .i64 (S.length : Int), .slice bI I.length dI] 24))
        have hbb := (HB_0.out.trans (hb.mono HB_0.out.size)).alloc (Nat.le_trans HB_0.out.size hb.size) (.cells #[.int .i64 (S.length : Int), .slice bI I.length dI] 24)
        obtain ⟨u1, hu1⟩ : ∃ u1, v1.alloc (.cells #[.int .i64 (S.length : Int), .slice bI I.length dI] 24) = u1 := ⟨_, rfl⟩
        rw [hu1] at hI hA hbb
        have HI_1 := Lib.hid hI
        have HA_1 := Lib.hid hA
        have HB_1 := Lib.hid hbb
        have HT := Lib.hid (awake_yes u1)
        clear HI hrow hb hI hA hbb HA_0 HB_0 a0 a1 y0 y1 y2 y3
        go_wp2_with fail
        clear x0 x1 x2 x3
        refine HT.out.mono ?_
        rintro e u2 ⟨rfl, hb⟩
        have HA_2 := Lib.hid (HA_1.out.below hb)
        have HI_2 := Lib.hid (HI_1.out.below hb)
        have HB_2 := Lib.hid (HB_1.out.trans (hb.mono HB_1.out.size))
        clear HT hb HA_1 HI_1 HB_1
        have a0 := HA_2.out.box.c0
        have a1 := HA_2.out.box.c1
        have tt := rank_any S.length b' d' S u2 HA_2.out.row
        rw [i3] at tt
        have HT := Lib.hid tt
        clear tt
        go_wp2_with fail
        refine HT.out.mono ?_
        rintro e u3 ⟨rfl, hb⟩
        have HA_3 := Lib.hid (HA_2.out.below hb)
        have HI_3 := Lib.hid (HI_2.out.below hb)
        have HB_3 := Lib.hid (HB_2.out.trans (hb.mono HB_2.out.size))
        clear HT hb HA_2 HI_2 HB_2
        clear a0 a1
        have a0 := HA_3.out.box.c0
        have a1 := HA_3.out.box.c1
        have tt := apply_any S.length b' d' S v' u3 HA_3.out.row
        rw [i4, i5] at tt
        have HT := Lib.hid tt
        clear tt
        go_wp2_with fail
        refine HT.out.mono ?_
        rintro e u4 ⟨rfl, hb⟩
        have HA_4 := Lib.hid (HA_3.out.below hb)
        have HI_4 := Lib.hid (HI_3.out.below hb)
        have HB_4 := Lib.hid (HB_3.out.trans (hb.mono HB_3.out.size))
        clear HT hb HA_3 HI_3 HB_3
        clear a0 a1
        have a0 := HI_4.out.box.c0
        have a1 := HI_4.out.box.c1
        have tt := apply_any S.length bI dI I X u4 HI_4.out.row
        rw [i6, i7] at tt
        have HT := Lib.hid tt
        clear tt
        go_wp2_with fail
        refine HT.out.mono ?_
        rintro e u5 ⟨rfl, hb⟩
        have HA_5 := Lib.hid (HA_4.out.below hb)
        have HI_5 := Lib.hid (HI_4.out.below hb)
        have HB_5 := Lib.hid (HB_4.out.trans (hb.mono HB_4.out.size))
        clear HT hb HA_4 HI_4 HB_4
        clear a0 a1
        have a0 := HI_5.out.box.c0
        have a1 := HI_5.out.box.c1
        have e0 := HA_5.out.box.c0
        have e1 := HA_5.out.box.c1
        have tt := mul_good S.length S.length bI b' dI d' I S u5 HI_5.out.row HA_5.out.row HMI.out HMS.out
        rw [i8, i9, i10] at tt
        have HT := Lib.hid tt
        clear tt
        go_wp2_with fail
        refine HT.out.mono ?_
        rintro e v6 ⟨⟨vv, rfl, bP, dP, rfl, hrow, _⟩, hb⟩
        have hP := BX.new (C := (S.length : Int)) hrow
        obtain ⟨x0, x1, x2, x3⟩ := box0 v6
        have hbb := (HB_5.out.trans (hb.mono HB_5.out.size)).alloc (Nat.le_trans HB_5.out.size hb.size) (.cells #[.int .i64 (S.length : Int), .slice bP P.length dP] 24)
        obtain ⟨u7, hu7⟩ : ∃ u7, v6.alloc (.cells #[.int .i64 (S.length : Int), .slice bP P.length dP] 24) = u7 := ⟨_, rfl⟩
        rw [hu7] at hP hbb
        have HP_7 := Lib.hid hP
        have HB_7 := Lib.hid hbb
        have hside : sideB (S.length : Int) = true := (sideB_iff _).2 ⟨by omega, by omega⟩
        have tt := unit_any (S.length : Int) u7
        rw [hside] at tt
        simp only [if_true] at tt
        have HT2 := Lib.hid tt
        clear HT tt hside hrow hb hP hbb HA_5 HI_5 HB_5 a0 a1 e0 e1
        go_wp2_with fail
        clear x0 x1 x2 x3
        refine HT2.out.mono ?_
        rintro e v8 ⟨⟨vv, rfl, bU, dU, rfl, hrow, _⟩, hb⟩
        obtain ⟨U, hU⟩ : ∃ U, tab (S.length : Int).toNat unitF = U := ⟨_, rfl⟩
        rw [hU] at hrow ⊢
        have hUU := BX.new (C := (S.length : Int)) hrow
        obtain ⟨x0, x1, x2, x3⟩ := box0 v8
        have hPP := (HP_7.out.below hb).below ((Below.refl _ _).alloc (Nat.le_refl _) (.cells #[.int .i64 (S.length : Int), .slice bU U.length dU] 24))
        have hbb := (HB_7.out.trans (hb.mono HB_7.out.size)).alloc (Nat.le_trans HB_7.out.size hb.size) (.cells #[.int .i64 (S.length : Int), .slice bU U.length dU] 24)
        obtain ⟨u9, hu9⟩ : ∃ u9, v8.alloc (.cells #[.int .i64 (S.length : Int), .slice bU U.length dU] 24) = u9 := ⟨_, rfl⟩
        rw [hu9] at hUU hPP hbb
        have a0 := hPP.box.c0
        have a1 := hPP.box.c1
        have e0 := hUU.box.c0
        have e1 := hUU.box.c1
        have hPU : P = U := by rw [I11.out, ← hU, Int.toNat_natCast]
        have HS := Lib.hid (same_yes S.length S.length bP bU dP dU P U u9 hPP.row hUU.row rfl hPU)
        have HB_9 := Lib.hid hbb
        have hbe : ((v'.toNat : Int) == (v'.toNat : Int)) = true := by simp
        clear HT2 hrow hb hU hUU hPP hbb hPU HP_7 HB_7
        go_wp2_with fail
        clear x0 x1 x2 x3
        refine HS.out.mono ?_
        rintro e u10 ⟨rfl, hb⟩
        have HB_10 := Lib.hid (HB_9.out.trans (hb.mono HB_9.out.size))
        clear hb
        go_wp2_with fail
        go_ret
        exact ⟨rfl, HB_10.out⟩
      · have e6 := h6 he
        have i1 : invC S.length S = 0 := by unfold invC; rw [if_neg he]
        have i2 : invR S.length S = [] := by unfold invR; rw [if_neg he]
        have hnr : rankN S.length S ≠ S.length := fun h => he (hrk.2 h)
        obtain ⟨N, hN⟩ : ∃ N, rankN S.length S = N := ⟨_, rfl⟩
        rw [hN] at hnr
        have hne : ((N : Int) == (S.length : Int)) = false := beq_false_of_ne (by omega)
        rw [e6, i1, i2] at hi
        have HI := Lib.hid hi
        have HN := Lib.hid hN
        have HA_0 := Lib.hid (show BX wc w5.heap.size S.length S b' d' from ⟨hbx, hrow⟩)
        have HB_0 := Lib.hid hB
        clear hi hMS hbx hrow hB hrk h6 he i1 i2 e6 hnr hN
        go_wp2_with fail
        refine HI.out.mono ?_
        rintro e v1 ⟨⟨vv, rfl, bI, dI, rfl, hrow, _⟩, hb⟩
        obtain ⟨x0, x1, x2, x3⟩ := box0 v1
        have hA := (HA_0.out.below hb).below ((Below.refl _ _).alloc (Nat.le_refl _) (.cells #[.int .i64 0, .slice bI 0 dI] 24))
        have hbb := (HB_0.out.trans (hb.mono HB_0.out.size)).alloc (Nat.le_trans HB_0.out.size hb.size) (.cells #[.int .i64 0, .slice bI 0 dI] 24)
        obtain ⟨u1, hu1⟩ : ∃ u1, v1.alloc (.cells #[.int .i64 0, .slice bI 0 dI] 24) = u1 := ⟨_, rfl⟩
        rw [hu1] at hA hbb
        have HA_1 := Lib.hid hA
        have HB_1 := Lib.hid hbb
        have HT := Lib.hid (awake_yes u1)
        have e00 : ([] : List V).length = 0 := rfl
        rw [e00]
        clear HI hrow hb hA hbb HA_0 HB_0 a0 a1 y0 y1 y2 y3 e00
        go_wp2_with fail
        clear x0 x1 x2 x3
        refine HT.out.mono ?_
        rintro e u2 ⟨rfl, hb⟩
        have HA_2 := Lib.hid (HA_1.out.below hb)
        have HB_2 := Lib.hid (HB_1.out.trans (hb.mono HB_1.out.size))
        have tt := rank_any S.length b' d' S u2 HA_2.out.row
        rw [HN.out] at tt
        have HT2 := Lib.hid tt
        have a0 := HA_2.out.box.c0
        have a1 := HA_2.out.box.c1
        clear tt HT hb HA_1 HB_1
        go_wp2_with fail
        refine HT2.out.mono ?_
        rintro e u3 ⟨rfl, hb⟩
        have HB_3 := Lib.hid (HB_2.out.trans (hb.mono HB_2.out.size))
        clear hb
        go_wp2_with fail
        go_ret
        exact ⟨rfl, HB_3.out⟩
  · have hlt := light_any a ts.length cap w
    rw [decide_eq_false (show ¬ (ts.length : Int) ≤ 400 by omega)] at hlt
    have HL := Lib.hid hlt
    have HAW := Lib.hid (awake_yes w)
    clear hlt hR
    go_enter Try.func6, Try.ntmps6
    go_wp2_with fail
    refine HL.out.mono ?_
    rintro e w1 ⟨rfl, hw⟩
    obtain rfl := hw.symm
    go_wp2_with fail
    refine HAW.out.mono ?_
    rintro e w2 ⟨rfl, hb2⟩
    go_wp2_with fail
    go_ret
    exact ⟨rfl, by assumption⟩
end Go.Proofs.Ytgihafjebmbdiaa.B
