/- BitmatTurns: the walk. -/
import Derived.Test.YtgihafjebmbdiaaBSolvesW
import Derived.Test.YtgihafjebmbdiaaBSame
import Derived.Test.YtgihafjebmbdiaaBMath5
import Derived.Test.YtgihafjebmbdiaaQuietW
namespace Go.Proofs.Ytgihafjebmbdiaa.B
open Go Go.RowKit Go.Shelf
open BM (bt pe)

/-- A matrix in a box, with its rows. -/
structure BX (W : World) (p : Nat) (C : Int) (R : List V) (a : Option Addr) (c : Nat) : Prop where
  box : MBox W p C a R.length c
  row : Row W a R c
theorem BX.below {W W' : World} {p : Nat} {C : Int} {R : List V} {a : Option Addr} {c : Nat} (h : BX W p C R a c) (hb : Below W.heap.size W W') : BX W' p C R a c := ⟨h.box.below hb, h.row.below hb⟩
theorem BX.new {W : World} {C : Int} {R : List V} {a : Option Addr} {c : Nat} (h : Row W a R c) : BX (W.alloc (.cells #[.int .i64 C, .slice a R.length c] 24)) W.heap.size C R a c := ⟨MBox.new _ _ _ _ _ _, h.alloc _⟩
/-- A box for a matrix that has just been laid. -/
theorem box0 (W : World) : MBox (W.alloc (.cells #[.int .i64 0, .slice none 0 0] 24)) W.heap.size 0 none 0 0 := MBox.new _ _ _ _ _ _

theorem turns_facts {m c : Nat} {R T : List V} (hA : MV m R) (hB : MV c T) (e : m = T.length) : ∃ P Q O M N U : List V,
    (turnE m R = 0 ∧ turnC m R = R.length ∧ turnR m R = P) ∧ (turnE c T = 0 ∧ turnC c T = T.length ∧ turnR c T = Q) ∧ (turnE R.length P = 0 ∧ turnC R.length P = P.length ∧ turnR R.length P = O) ∧
    (mulE m c R T = 0 ∧ mulC m c R T = c ∧ mulR m c R T = M) ∧ (turnE c M = 0 ∧ turnC c M = M.length ∧ turnR c M = N) ∧ (mulE T.length R.length Q P = 0 ∧ mulC T.length R.length Q P = R.length ∧ mulR T.length R.length Q P = U) ∧
    ((P.length : Int) = m ∧ O = R) ∧ ((M.length : Int) = R.length ∧ N = U) ∧ rankN m R = rankN R.length P ∧ rankN c M ≤ rankN m R ∧ rankN c M ≤ rankN c T ∧ MV T.length Q ∧ MV R.length P := by
  have hP := turn_mv hA
  have hQ := turn_mv hB
  have hM := mul_mv hA hB
  have eP : T.length = (tab m (trF R R.length)).length := by rw [tab_len]; exact e.symm
  refine ⟨_, _, _, _, _, _, ⟨turnE_is hA, turnC_is hA, turnR_is hA⟩, ⟨turnE_is hB, turnC_is hB, turnR_is hB⟩, ⟨turnE_is hP, turnC_is hP, turnR_is hP⟩, ⟨mulE_is hA hB e, mulC_is hA hB e, mulR_is hA hB e⟩, ⟨turnE_is hM, turnC_is hM, turnR_is hM⟩, ⟨mulE_is hQ hP eP, mulC_is hQ hP eP, mulR_is hQ hP eP⟩, ⟨by rw [tab_len], ?_⟩, ⟨by rw [tab_len], ?_⟩, (rank_turn hA).symm, (mul_rank hA hB e).1, (mul_rank hA hB e).2, hQ, hP⟩
  · rw [tab_len]; exact turn_turn hA
  · rw [tab_len, tab_len, tab_len]
    exact turn_mul hA hB e

set_option maxRecDepth 100000 in
set_option maxHeartbeats 4000000 in
theorem bitmatTurns_any (a : Option Addr) (cap : Nat) (ts : List Int) (w : World) (hR : IRow w a ts cap) :
    Calls Try.prog 7 #[.slice a ts.length cap] w fun e W => e = .returned (.bool true) ∧ Below w.heap.size w W := by
  have hroom := hR.room
  have hmost := hR.most
  by_cases hl : ts.length ≤ 400
  · have hlt := light_any a ts.length cap w
    rw [decide_eq_true (show (ts.length : Int) ≤ 400 by omega)] at hlt
    have HL := Lib.hid hlt
    have HRO := Lib.hid (roll_any a cap ts w hR hl)
    clear hlt hR
    go_enter Try.func7, Try.ntmps7
    go_wp2_with fail
    refine HL.out.mono ?_
    rintro e w1 ⟨rfl, hw⟩
    obtain rfl := hw.symm
    go_wp2_with fail
    refine HRO.out.mono ?_
    rintro e w2 ⟨rfl, hd2, hb2⟩
    have HB2 := Lib.hid hb2
    have hs2 := hd2.lt
    have HN2 := Lib.hid (next_any w2 w.heap.size a cap ts 0 8 (by decide) (by decide) hd2)
    clear hd2 hb2 HL HRO
    go_wp2_with fail
    refine HN2.out.mono ?_
    rintro e w3 ⟨r1, k3, hr1, rfl, hd3, hg3⟩
    have HB3 := Lib.hid (HB2.out.trans (below_dice hg3 (Nat.le_refl _) (Nat.le_of_lt hs2)))
    have hs3 := hd3.lt
    obtain ⟨r, hr⟩ : ∃ r : Nat, r = r1 + 1 := ⟨_, rfl⟩
    have hri : (1 : Int) + (r1 : Int) = (r : Int) := by omega
    have hrb : 1 ≤ r ∧ r ≤ 8 := by omega
    obtain ⟨hrb1, hrb2⟩ := hrb
    have HN3 := Lib.hid (next_any w3 w.heap.size a cap ts k3 8 (by decide) (by decide) hd3)
    clear hr hd3 hg3 HN2 HB2
    go_wp2_with fail
    refine HN3.out.mono ?_
    rintro e w4 ⟨m1, k4, hm1, rfl, hd4, hg4⟩
    have HB4 := Lib.hid (HB3.out.trans (below_dice hg4 (Nat.le_refl _) (Nat.le_of_lt hs3)))
    have hs4 := hd4.lt
    obtain ⟨m, hm⟩ : ∃ m : Nat, m = m1 + 1 := ⟨_, rfl⟩
    have hmi : (1 : Int) + (m1 : Int) = (m : Int) := by omega
    have hmb : 1 ≤ m ∧ m ≤ 8 := by omega
    obtain ⟨hmb1, hmb2⟩ := hmb
    have HN4 := Lib.hid (next_any w4 w.heap.size a cap ts k4 8 (by decide) (by decide) hd4)
    clear hm hd4 hg4 HN3 HB3
    go_wp2_with fail
    refine HN4.out.mono ?_
    rintro e w5 ⟨c1, k5, hc1, rfl, hd5, hg5⟩
    have HB5 := Lib.hid (HB4.out.trans (below_dice hg5 (Nat.le_refl _) (Nat.le_of_lt hs4)))
    have hs5 := hd5.lt
    obtain ⟨c, hc⟩ : ∃ c : Nat, c = c1 + 1 := ⟨_, rfl⟩
    have hci : (1 : Int) + (c1 : Int) = (c : Int) := by omega
    have hcb : 1 ≤ c ∧ c ≤ 8 := by omega
    obtain ⟨hcb1, hcb2⟩ := hcb
    have HM5 := Lib.hid (matrix_any w5 w.heap.size a cap ts k5 r m (by omega) (by omega) hd5)
    clear hc hd5 hg5 HN4 HB4
    go_wp2_with fail
    refine HM5.out.mono ?_
    rintro e w6 ⟨vv, R, k6, rfl, hRl, hRf, ⟨a1, c1', rfl, hrow1, hfr1⟩, hd6, hg6⟩
    have hMA : MV m R := ⟨by omega, by omega, by omega, by omega, fun j hj => hRf j (by omega)⟩
    have HB6 := Lib.hid (HB5.out.trans (below_dice hg6 (Nat.le_refl _) (Nat.le_of_lt hs5)))
    have hs6 := hd6.lt
    have HM6 := Lib.hid (matrix_any w6 w.heap.size a cap ts k6 m c (by omega) (by omega) hd6)
    have HMA := Lib.hid hMA
    have HRL := Lib.hid hRl
    have HR1 := Lib.hid hrow1
    have HF1 := Lib.hid hfr1
    clear hRl hRf hrow1 hfr1 hd6 hg6 hMA HM5 HB5
    go_wp2_with fail
    refine HM6.out.mono ?_
    rintro e w7 ⟨vv, T, k7, rfl, hTl, hTf, ⟨a2, c2', rfl, hrow2, hfr2⟩, hd7, hg7⟩
    have hMB : MV c T := ⟨by omega, by omega, by omega, by omega, fun j hj => hTf j (by omega)⟩
    have HB7 := Lib.hid (HB6.out.trans (below_dice hg7 (Nat.le_refl _) (Nat.le_of_lt hs6)))
    have hR7 : Row w7 a1 R c1' := HR1.out.grown hg7 (fun b o e => by have := HF1.out b o e; intro h; cases h; omega)
    have HMB := Lib.hid hMB
    have HTL := Lib.hid (show m = T.length by omega)
    obtain ⟨P, Q, O, M, N, U, ⟨t1, t2, t3⟩, ⟨t4, t5, t6⟩, ⟨t7, t8, t9⟩, ⟨m1e, m2e, m3e⟩, ⟨t10, t11, t12⟩, ⟨m4e, m5e, m6e⟩, ⟨s1, s2⟩, ⟨s3, s4⟩, k1, k2, k3, hmvQ, hmvP⟩ := turns_facts HMA.out HMB.out HTL.out
    have MQ := Lib.hid hmvQ
    have MP := Lib.hid hmvP
    have K1 := Lib.hid k1
    have K2 := Lib.hid k2
    have K3 := Lib.hid k3
    clear hmvQ hmvP k1 k2 k3
    have FS1 := Lib.hid s1
    have FS2 := Lib.hid s2
    have FS3 := Lib.hid s3
    have FS4 := Lib.hid s4
    have hA8 := BX.new (C := (m : Int)) hR7
    have hT8 := hrow2.alloc (.cells #[.int .i64 (m : Int), .slice a1 R.length c1'] 24)
    have hB8 := BX.new (C := (c : Int)) hT8
    have hA9 := hA8.below ((Below.refl _ _).alloc (Nat.le_refl _) (.cells #[.int .i64 (c : Int), .slice a2 T.length c2'] 24))
    have hb9 := (HB7.out.alloc HB7.out.size (.cells #[.int .i64 (m : Int), .slice a1 R.length c1'] 24)).alloc (by have := HB7.out.size; simp; omega) (.cells #[.int .i64 (c : Int), .slice a2 T.length c2'] 24)
    have z1 := (box0 w7).alloc (.cells #[.int .i64 0, .slice none 0 0] 24)
    have z2 := box0 (w7.alloc (.cells #[.int .i64 (m : Int), .slice a1 R.length c1'] 24))
    simp only [World.size_alloc] at z2 hB8
    obtain ⟨y0, y1, y2, y3⟩ := z1
    obtain ⟨x0, x1, x2, x3⟩ := z2
    obtain ⟨w9, hw9⟩ : ∃ w9, ((w7.alloc (.cells #[.int .i64 (m : Int), .slice a1 R.length c1'] 24)).alloc (.cells #[.int .i64 (c : Int), .slice a2 T.length c2'] 24)) = w9 := ⟨_, rfl⟩
    rw [hw9] at hA9 hB8 hb9
    have HA_0 := Lib.hid hA9
    have HBB_0 := Lib.hid hB8
    have HB_0 := Lib.hid hb9
    have a0 := hA9.box.c0
    have a1c := hA9.box.c1
    have tt := turn_any (m : Int) a1 c1' R w9 hA9.row
    rw [t1, t2, t3] at tt
    have HT := Lib.hid tt
    clear hR7 hrow2 hfr2 hd7 hg7 hTf hTl hMB hA8 hT8 hB8 hA9 hb9 tt t1 t2 t3 s1 s2 s3 s4 HR1 HF1 HM6 HB6 HB7
    go_wp2_with fail
    clear y0 y1 y2 y3 x0 x1 x2 x3 a0 a1c
    (with_reducible refine HT.out.mono ?_)
    rintro e v1 ⟨⟨vv, rfl, b1, d1, rfl, hrow, _⟩, hb⟩
    have hP := BX.new (C := (R.length : Int)) hrow
    have z1 := box0 v1
    obtain ⟨y0, y1, y2, y3⟩ := z1
    have hA := (HA_0.out.below hb).below ((Below.refl _ _).alloc (Nat.le_refl _) (.cells #[.int .i64 (R.length : Int), .slice b1 P.length d1] 24))
    have hBB := (HBB_0.out.below hb).below ((Below.refl _ _).alloc (Nat.le_refl _) (.cells #[.int .i64 (R.length : Int), .slice b1 P.length d1] 24))
    have hbb := (HB_0.out.trans (hb.mono HB_0.out.size)).alloc (Nat.le_trans HB_0.out.size hb.size) (.cells #[.int .i64 (R.length : Int), .slice b1 P.length d1] 24)
    obtain ⟨u1, hn1⟩ : ∃ u1, v1.alloc (.cells #[.int .i64 (R.length : Int), .slice b1 P.length d1] 24) = u1 := ⟨_, rfl⟩
    rw [hn1] at hA hBB hP hbb
    have HA_1 := Lib.hid hA
    have HBB_1 := Lib.hid hBB
    have HP_1 := Lib.hid hP
    have HB_1 := Lib.hid hbb
    clear HT hrow hb hbb HA_0 HBB_0 HB_0
    have a0 := hBB.box.c0
    have a1c := hBB.box.c1
    have tt := turn_any (c : Int) a2 c2' T u1 hBB.row
    rw [t4, t5, t6] at tt
    have HT := Lib.hid tt
    clear tt hA hBB hP
    go_wp2_with fail
    clear y0 y1 y2 y3 a0 a1c
    (with_reducible refine HT.out.mono ?_)
    rintro e v2 ⟨⟨vv, rfl, b2, d2, rfl, hrow, _⟩, hb⟩
    have hQ := BX.new (C := (T.length : Int)) hrow
    have z1 := box0 v2
    obtain ⟨y0, y1, y2, y3⟩ := z1
    have hA := (HA_1.out.below hb).below ((Below.refl _ _).alloc (Nat.le_refl _) (.cells #[.int .i64 (T.length : Int), .slice b2 Q.length d2] 24))
    have hBB := (HBB_1.out.below hb).below ((Below.refl _ _).alloc (Nat.le_refl _) (.cells #[.int .i64 (T.length : Int), .slice b2 Q.length d2] 24))
    have hP := (HP_1.out.below hb).below ((Below.refl _ _).alloc (Nat.le_refl _) (.cells #[.int .i64 (T.length : Int), .slice b2 Q.length d2] 24))
    have hbb := (HB_1.out.trans (hb.mono HB_1.out.size)).alloc (Nat.le_trans HB_1.out.size hb.size) (.cells #[.int .i64 (T.length : Int), .slice b2 Q.length d2] 24)
    obtain ⟨u2, hn2⟩ : ∃ u2, v2.alloc (.cells #[.int .i64 (T.length : Int), .slice b2 Q.length d2] 24) = u2 := ⟨_, rfl⟩
    rw [hn2] at hA hBB hP hQ hbb
    have HA_2 := Lib.hid hA
    have HBB_2 := Lib.hid hBB
    have HP_2 := Lib.hid hP
    have HQ_2 := Lib.hid hQ
    have HB_2 := Lib.hid hbb
    clear HT hrow hb hbb HA_1 HBB_1 HP_1 HB_1
    have a0 := hP.box.c0
    have a1c := hP.box.c1
    have tt := turn_any (R.length : Int) b1 d1 P u2 hP.row
    rw [t7, t8, t9] at tt
    have HT := Lib.hid tt
    clear tt hA hBB hP hQ
    go_wp2_with fail
    clear y0 y1 y2 y3 a0 a1c
    (with_reducible refine HT.out.mono ?_)
    rintro e v3 ⟨⟨vv, rfl, b3, d3, rfl, hrow, _⟩, hb⟩
    have hO := BX.new (C := (P.length : Int)) hrow
    have z1 := box0 v3
    obtain ⟨y0, y1, y2, y3⟩ := z1
    have hA := (HA_2.out.below hb).below ((Below.refl _ _).alloc (Nat.le_refl _) (.cells #[.int .i64 (P.length : Int), .slice b3 O.length d3] 24))
    have hBB := (HBB_2.out.below hb).below ((Below.refl _ _).alloc (Nat.le_refl _) (.cells #[.int .i64 (P.length : Int), .slice b3 O.length d3] 24))
    have hP := (HP_2.out.below hb).below ((Below.refl _ _).alloc (Nat.le_refl _) (.cells #[.int .i64 (P.length : Int), .slice b3 O.length d3] 24))
    have hQ := (HQ_2.out.below hb).below ((Below.refl _ _).alloc (Nat.le_refl _) (.cells #[.int .i64 (P.length : Int), .slice b3 O.length d3] 24))
    have hbb := (HB_2.out.trans (hb.mono HB_2.out.size)).alloc (Nat.le_trans HB_2.out.size hb.size) (.cells #[.int .i64 (P.length : Int), .slice b3 O.length d3] 24)
    obtain ⟨u3, hn3⟩ : ∃ u3, v3.alloc (.cells #[.int .i64 (P.length : Int), .slice b3 O.length d3] 24) = u3 := ⟨_, rfl⟩
    rw [hn3] at hA hBB hP hQ hO hbb
    have HA_3 := Lib.hid hA
    have HBB_3 := Lib.hid hBB
    have HP_3 := Lib.hid hP
    have HQ_3 := Lib.hid hQ
    have HO_3 := Lib.hid hO
    have HB_3 := Lib.hid hbb
    clear HT hrow hb hbb HA_2 HBB_2 HP_2 HQ_2 HB_2
    have a0 := hA.box.c0
    have a1c := hA.box.c1
    have e0 := hBB.box.c0
    have e1c := hBB.box.c1
    have tt := mul_good m c a1 a2 c1' c2' R T u3 hA.row hBB.row HMA.out HMB.out
    rw [m1e, m2e, m3e] at tt
    have HT := Lib.hid tt
    clear tt hA hBB hP hQ hO
    go_wp2_with fail
    clear y0 y1 y2 y3 a0 a1c e0 e1c
    (with_reducible refine HT.out.mono ?_)
    rintro e v4 ⟨⟨vv, rfl, b4, d4, rfl, hrow, _⟩, hb⟩
    have hM := BX.new (C := (c : Int)) hrow
    have z1 := box0 v4
    obtain ⟨y0, y1, y2, y3⟩ := z1
    have hA := (HA_3.out.below hb).below ((Below.refl _ _).alloc (Nat.le_refl _) (.cells #[.int .i64 (c : Int), .slice b4 M.length d4] 24))
    have hBB := (HBB_3.out.below hb).below ((Below.refl _ _).alloc (Nat.le_refl _) (.cells #[.int .i64 (c : Int), .slice b4 M.length d4] 24))
    have hP := (HP_3.out.below hb).below ((Below.refl _ _).alloc (Nat.le_refl _) (.cells #[.int .i64 (c : Int), .slice b4 M.length d4] 24))
    have hQ := (HQ_3.out.below hb).below ((Below.refl _ _).alloc (Nat.le_refl _) (.cells #[.int .i64 (c : Int), .slice b4 M.length d4] 24))
    have hO := (HO_3.out.below hb).below ((Below.refl _ _).alloc (Nat.le_refl _) (.cells #[.int .i64 (c : Int), .slice b4 M.length d4] 24))
    have hbb := (HB_3.out.trans (hb.mono HB_3.out.size)).alloc (Nat.le_trans HB_3.out.size hb.size) (.cells #[.int .i64 (c : Int), .slice b4 M.length d4] 24)
    obtain ⟨u4, hn4⟩ : ∃ u4, v4.alloc (.cells #[.int .i64 (c : Int), .slice b4 M.length d4] 24) = u4 := ⟨_, rfl⟩
    rw [hn4] at hA hBB hP hQ hO hM hbb
    have HA_4 := Lib.hid hA
    have HBB_4 := Lib.hid hBB
    have HP_4 := Lib.hid hP
    have HQ_4 := Lib.hid hQ
    have HO_4 := Lib.hid hO
    have HM_4 := Lib.hid hM
    have HB_4 := Lib.hid hbb
    clear HT hrow hb hbb HA_3 HBB_3 HP_3 HQ_3 HO_3 HB_3
    have a0 := hM.box.c0
    have a1c := hM.box.c1
    have tt := turn_any (c : Int) b4 d4 M u4 hM.row
    rw [t10, t11, t12] at tt
    have HT := Lib.hid tt
    clear tt hA hBB hP hQ hO hM
    go_wp2_with fail
    clear y0 y1 y2 y3 a0 a1c
    (with_reducible refine HT.out.mono ?_)
    rintro e v5 ⟨⟨vv, rfl, b5, d5, rfl, hrow, _⟩, hb⟩
    have hN := BX.new (C := (M.length : Int)) hrow
    have z1 := box0 v5
    obtain ⟨y0, y1, y2, y3⟩ := z1
    have hA := (HA_4.out.below hb).below ((Below.refl _ _).alloc (Nat.le_refl _) (.cells #[.int .i64 (M.length : Int), .slice b5 N.length d5] 24))
    have hBB := (HBB_4.out.below hb).below ((Below.refl _ _).alloc (Nat.le_refl _) (.cells #[.int .i64 (M.length : Int), .slice b5 N.length d5] 24))
    have hP := (HP_4.out.below hb).below ((Below.refl _ _).alloc (Nat.le_refl _) (.cells #[.int .i64 (M.length : Int), .slice b5 N.length d5] 24))
    have hQ := (HQ_4.out.below hb).below ((Below.refl _ _).alloc (Nat.le_refl _) (.cells #[.int .i64 (M.length : Int), .slice b5 N.length d5] 24))
    have hO := (HO_4.out.below hb).below ((Below.refl _ _).alloc (Nat.le_refl _) (.cells #[.int .i64 (M.length : Int), .slice b5 N.length d5] 24))
    have hM := (HM_4.out.below hb).below ((Below.refl _ _).alloc (Nat.le_refl _) (.cells #[.int .i64 (M.length : Int), .slice b5 N.length d5] 24))
    have hbb := (HB_4.out.trans (hb.mono HB_4.out.size)).alloc (Nat.le_trans HB_4.out.size hb.size) (.cells #[.int .i64 (M.length : Int), .slice b5 N.length d5] 24)
    obtain ⟨u5, hn5⟩ : ∃ u5, v5.alloc (.cells #[.int .i64 (M.length : Int), .slice b5 N.length d5] 24) = u5 := ⟨_, rfl⟩
    rw [hn5] at hA hBB hP hQ hO hM hN hbb
    have HA_5 := Lib.hid hA
    have HBB_5 := Lib.hid hBB
    have HP_5 := Lib.hid hP
    have HQ_5 := Lib.hid hQ
    have HO_5 := Lib.hid hO
    have HM_5 := Lib.hid hM
    have HN_5 := Lib.hid hN
    have HB_5 := Lib.hid hbb
    clear HT hrow hb hbb HA_4 HBB_4 HP_4 HQ_4 HO_4 HM_4 HB_4
    have a0 := hQ.box.c0
    have a1c := hQ.box.c1
    have e0 := hP.box.c0
    have e1c := hP.box.c1
    have tt := mul_good T.length R.length b2 b1 d2 d1 Q P u5 hQ.row hP.row MQ.out MP.out
    rw [m4e, m5e, m6e] at tt
    have HT := Lib.hid tt
    clear tt hA hBB hP hQ hO hM hN
    go_wp2_with fail
    clear y0 y1 y2 y3 a0 a1c e0 e1c
    (with_reducible refine HT.out.mono ?_)
    rintro e v6 ⟨⟨vv, rfl, b6, d6, rfl, hrow, _⟩, hb⟩
    have hU := BX.new (C := (R.length : Int)) hrow
    have z1 := box0 v6
    obtain ⟨y0, y1, y2, y3⟩ := z1
    have hA := (HA_5.out.below hb).below ((Below.refl _ _).alloc (Nat.le_refl _) (.cells #[.int .i64 (R.length : Int), .slice b6 U.length d6] 24))
    have hBB := (HBB_5.out.below hb).below ((Below.refl _ _).alloc (Nat.le_refl _) (.cells #[.int .i64 (R.length : Int), .slice b6 U.length d6] 24))
    have hP := (HP_5.out.below hb).below ((Below.refl _ _).alloc (Nat.le_refl _) (.cells #[.int .i64 (R.length : Int), .slice b6 U.length d6] 24))
    have hQ := (HQ_5.out.below hb).below ((Below.refl _ _).alloc (Nat.le_refl _) (.cells #[.int .i64 (R.length : Int), .slice b6 U.length d6] 24))
    have hO := (HO_5.out.below hb).below ((Below.refl _ _).alloc (Nat.le_refl _) (.cells #[.int .i64 (R.length : Int), .slice b6 U.length d6] 24))
    have hM := (HM_5.out.below hb).below ((Below.refl _ _).alloc (Nat.le_refl _) (.cells #[.int .i64 (R.length : Int), .slice b6 U.length d6] 24))
    have hN := (HN_5.out.below hb).below ((Below.refl _ _).alloc (Nat.le_refl _) (.cells #[.int .i64 (R.length : Int), .slice b6 U.length d6] 24))
    have hbb := (HB_5.out.trans (hb.mono HB_5.out.size)).alloc (Nat.le_trans HB_5.out.size hb.size) (.cells #[.int .i64 (R.length : Int), .slice b6 U.length d6] 24)
    obtain ⟨u6, hn6⟩ : ∃ u6, v6.alloc (.cells #[.int .i64 (R.length : Int), .slice b6 U.length d6] 24) = u6 := ⟨_, rfl⟩
    rw [hn6] at hA hBB hP hQ hO hM hN hU hbb
    have HA_6 := Lib.hid hA
    have HBB_6 := Lib.hid hBB
    have HP_6 := Lib.hid hP
    have HQ_6 := Lib.hid hQ
    have HO_6 := Lib.hid hO
    have HM_6 := Lib.hid hM
    have HN_6 := Lib.hid hN
    have HU_6 := Lib.hid hU
    have HB_6 := Lib.hid hbb
    clear HT hrow hb hbb HA_5 HBB_5 HP_5 HQ_5 HO_5 HM_5 HN_5 HB_5
    have fA0 : ∀ n : Over u6, n.w.cell? ⟨w7.heap.size, 0, none⟩ = some (.int .i64 (m : Int)) := fun n => cell_below n.h hA.box.c0
    have fA1 : ∀ n : Over u6, n.w.cell? ⟨w7.heap.size, 1, none⟩ = some (.slice a1 R.length c1') := fun n => cell_below n.h hA.box.c1
    have fBB0 : ∀ n : Over u6, n.w.cell? ⟨(w7.heap.size + 1), 0, none⟩ = some (.int .i64 (c : Int)) := fun n => cell_below n.h hBB.box.c0
    have fBB1 : ∀ n : Over u6, n.w.cell? ⟨(w7.heap.size + 1), 1, none⟩ = some (.slice a2 T.length c2') := fun n => cell_below n.h hBB.box.c1
    have fP0 : ∀ n : Over u6, n.w.cell? ⟨v1.heap.size, 0, none⟩ = some (.int .i64 (R.length : Int)) := fun n => cell_below n.h hP.box.c0
    have fP1 : ∀ n : Over u6, n.w.cell? ⟨v1.heap.size, 1, none⟩ = some (.slice b1 P.length d1) := fun n => cell_below n.h hP.box.c1
    have fO0 : ∀ n : Over u6, n.w.cell? ⟨v3.heap.size, 0, none⟩ = some (.int .i64 (P.length : Int)) := fun n => cell_below n.h hO.box.c0
    have fO1 : ∀ n : Over u6, n.w.cell? ⟨v3.heap.size, 1, none⟩ = some (.slice b3 O.length d3) := fun n => cell_below n.h hO.box.c1
    have fM0 : ∀ n : Over u6, n.w.cell? ⟨v4.heap.size, 0, none⟩ = some (.int .i64 (c : Int)) := fun n => cell_below n.h hM.box.c0
    have fM1 : ∀ n : Over u6, n.w.cell? ⟨v4.heap.size, 1, none⟩ = some (.slice b4 M.length d4) := fun n => cell_below n.h hM.box.c1
    have fN0 : ∀ n : Over u6, n.w.cell? ⟨v5.heap.size, 0, none⟩ = some (.int .i64 (M.length : Int)) := fun n => cell_below n.h hN.box.c0
    have fN1 : ∀ n : Over u6, n.w.cell? ⟨v5.heap.size, 1, none⟩ = some (.slice b5 N.length d5) := fun n => cell_below n.h hN.box.c1
    have fU0 : ∀ n : Over u6, n.w.cell? ⟨v6.heap.size, 0, none⟩ = some (.int .i64 (R.length : Int)) := fun n => cell_below n.h hU.box.c0
    have fU1 : ∀ n : Over u6, n.w.cell? ⟨v6.heap.size, 1, none⟩ = some (.slice b6 U.length d6) := fun n => cell_below n.h hU.box.c1
    have HO := Over.one u6
    obtain ⟨N1, hN1⟩ : ∃ N1, rankN m R = N1 := ⟨_, rfl⟩
    obtain ⟨N2, hN2⟩ : ∃ N2, rankN c M = N2 := ⟨_, rfl⟩
    obtain ⟨N3, hN3⟩ : ∃ N3, rankN c T = N3 := ⟨_, rfl⟩
    have j1 := K1.out
    have j2 := K2.out
    have j3 := K3.out
    rw [hN1] at j1 j2
    rw [hN2] at j2 j3
    rw [hN3] at j3
    have RA := Lib.hid (fun n : Over u6 => (by have := rank_any (m : Int) a1 c1' R n.w (hA.row.below n.h); rw [hN1] at this; exact this : Calls Try.prog 22 #[.agg #[.int .i64 (m : Int), .slice a1 R.length c1']] n.w fun e W => e = .returned (.int .i64 (N1 : Int)) ∧ Below n.w.heap.size n.w W))
    have RP := Lib.hid (fun n : Over u6 => (by have := rank_any (R.length : Int) b1 d1 P n.w (hP.row.below n.h); rw [← j1] at this; exact this : Calls Try.prog 22 #[.agg #[.int .i64 (R.length : Int), .slice b1 P.length d1]] n.w fun e W => e = .returned (.int .i64 (N1 : Int)) ∧ Below n.w.heap.size n.w W))
    have RM := Lib.hid (fun n : Over u6 => (by have := rank_any (c : Int) b4 d4 M n.w (hM.row.below n.h); rw [hN2] at this; exact this : Calls Try.prog 22 #[.agg #[.int .i64 (c : Int), .slice b4 M.length d4]] n.w fun e W => e = .returned (.int .i64 (N2 : Int)) ∧ Below n.w.heap.size n.w W))
    have RT := Lib.hid (fun n : Over u6 => (by have := rank_any (c : Int) a2 c2' T n.w (hBB.row.below n.h); rw [hN3] at this; exact this : Calls Try.prog 22 #[.agg #[.int .i64 (c : Int), .slice a2 T.length c2']] n.w fun e W => e = .returned (.int .i64 (N3 : Int)) ∧ Below n.w.heap.size n.w W))
    have SOA := Lib.hid (fun n : Over u6 => same_yes (P.length : Int) (m : Int) b3 a1 d3 c1' O R n.w (hO.row.below n.h) (hA.row.below n.h) FS1.out FS2.out)
    have SNU := Lib.hid (fun n : Over u6 => same_yes (M.length : Int) (R.length : Int) b5 b6 d5 d6 N U n.w (hN.row.below n.h) (hU.row.below n.h) FS3.out FS4.out)
    have AW := Lib.hid (fun n : Over u6 => awake_yes n.w)
    have d1 : decide ((N2 : Int) ≤ (N1 : Int)) = true := decide_eq_true (by omega)
    have d2 : decide ((N2 : Int) ≤ (N3 : Int)) = true := decide_eq_true (by omega)
    clear hN1 hN2 hN3 j1 hA hBB hP hQ hO hM hN hU
    go_wp2_with fail
    clear y0 y1 y2 y3
    refine wp_region_over (by kernel_rfl) (by kernel_rfl) ?_
    repeat (go_big_quiet_step (first | exact fun _ => rfl | rfl | (with_reducible exact quiet_over (AW.out _)) | (with_reducible exact quiet_over (SOA.out _)) | (with_reducible exact quiet_over (SNU.out _)) | (with_reducible exact quiet_over (RA.out _)) | (with_reducible exact quiet_over (RP.out _)) | (with_reducible exact quiet_over (RM.out _)) | (with_reducible exact quiet_over (RT.out _))))
    refine wpQuiet_nil ?_
    intro _ hw'
    obtain ⟨nq, rfl⟩ := hw'
    go_wp2_with fail
    go_ret
    exact ⟨rfl, HB_6.out.trans (nq.h.mono HB_6.out.size)⟩
  · have hlt := light_any a ts.length cap w
    rw [decide_eq_false (show ¬ (ts.length : Int) ≤ 400 by omega)] at hlt
    have HL := Lib.hid hlt
    have HAW := Lib.hid (awake_yes w)
    clear hlt hR
    go_enter Try.func7, Try.ntmps7
    go_wp2_with fail
    refine HL.out.mono ?_
    rintro e w1 ⟨rfl, hw⟩
    obtain rfl := hw.symm
    go_wp2_with fail
    refine HAW.out.mono ?_
    rintro e w2 ⟨rfl, hb2⟩
    go_wp2_with fail
    go_ret
    exact ⟨rfl, by assumption⟩
end Go.Proofs.Ytgihafjebmbdiaa.B
