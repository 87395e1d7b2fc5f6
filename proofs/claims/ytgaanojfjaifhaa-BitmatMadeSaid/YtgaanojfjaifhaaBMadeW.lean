/- BitmatMade: the walk. -/
import Derived.Test.YtgaanojfjaifhaaBAgree
import Derived.Test.YtgaanojfjaifhaaBMask
namespace Go.Proofs.Ytgaanojfjaifhaa.B
open Go Go.RowKit Go.Shelf
open BM (bt St)

set_option maxRecDepth 100000 in
set_option maxHeartbeats 4000000 in
theorem bitmatMade_any (a : Option Addr) (cap : Nat) (ts : List Int) (v : V) (w : World) (hR : IRow w a ts cap) :
    Calls Try.prog 4 #[.slice a ts.length cap, .int .u64 (v.toNat : Int)] w fun e W => e = .returned (.bool true) ∧ Below w.heap.size w W := by
  have hroom := hR.room
  have hmost := hR.most
  by_cases hl : ts.length ≤ 400
  · have hlt := light_any a ts.length cap w
    rw [decide_eq_true (show (ts.length : Int) ≤ 400 by omega)] at hlt
    have HL := Lib.hid hlt
    have HRO := Lib.hid (roll_any a cap ts w hR hl)
    clear hlt hR
    go_enter Try.func4, Try.ntmps4
    go_wp2_with fail
    refine HL.out.mono ?_
    rintro e w1 ⟨rfl, hw⟩
    obtain rfl := hw.symm
    go_wp2_with fail
    refine HRO.out.mono ?_
    rintro e w2 ⟨rfl, hd2, hb2⟩
    have HB2 := Lib.hid hb2
    have hs2 := hd2.lt
    have HN2 := Lib.hid (next_any w2 w.heap.size a cap ts 0 8 (by decide) (by decide) hd2)
    clear hd2 hb2 HL HRO
    go_wp2_with fail
    refine HN2.out.mono ?_
    rintro e w3 ⟨r1, k3, hr1, rfl, hd3, hg3⟩
    have HB3 := Lib.hid (HB2.out.trans (below_dice hg3 (Nat.le_refl _) (Nat.le_of_lt hs2)))
    have hs3 := hd3.lt
    obtain ⟨r, hr⟩ : ∃ r : Nat, r = r1 + 1 := ⟨_, rfl⟩
    have hri : (1 : Int) + (r1 : Int) = (r : Int) := by omega
    have hrb : 1 ≤ r ∧ r ≤ 8 := by omega
    obtain ⟨hrb1, hrb2⟩ := hrb
    have HN3 := Lib.hid (next_any w3 w.heap.size a cap ts k3 8 (by decide) (by decide) hd3)
    clear hr hd3 hg3 HN2 HB2
    go_wp2_with fail
    refine HN3.out.mono ?_
    rintro e w4 ⟨m1, k4, hm1, rfl, hd4, hg4⟩
    have HB4 := Lib.hid (HB3.out.trans (below_dice hg4 (Nat.le_refl _) (Nat.le_of_lt hs3)))
    have hs4 := hd4.lt
    obtain ⟨m, hm⟩ : ∃ m : Nat, m = m1 + 1 := ⟨_, rfl⟩
    have hmi : (1 : Int) + (m1 : Int) = (m : Int) := by omega
    have hmb : 1 ≤ m ∧ m ≤ 8 := by omega
    obtain ⟨hmb1, hmb2⟩ := hmb
    have HN4 := Lib.hid (next_any w4 w.heap.size a cap ts k4 8 (by decide) (by decide) hd4)
    clear hm hd4 hg4 HN3 HB3
    go_wp2_with fail
    refine HN4.out.mono ?_
    rintro e w5 ⟨c1, k5, hc1, rfl, hd5, hg5⟩
    have HB5 := Lib.hid (HB4.out.trans (below_dice hg5 (Nat.le_refl _) (Nat.le_of_lt hs4)))
    have hs5 := hd5.lt
    obtain ⟨c, hc⟩ : ∃ c : Nat, c = c1 + 1 := ⟨_, rfl⟩
    have hci : (1 : Int) + (c1 : Int) = (c : Int) := by omega
    have hcb : 1 ≤ c ∧ c ≤ 8 := by omega
    obtain ⟨hcb1, hcb2⟩ := hcb
    have HON := Lib.hid (one_any w5 w.heap.size a cap ts k5 2 (by decide) (by decide) hd5)
    clear hc hd5 hg5 HN4 HB4
    go_wp2_with fail
    refine HON.out.mono ?_
    rintro e y5 ⟨tt, k6, rfl, hd6, hg6⟩
    have HB6 := Lib.hid (HB5.out.trans (below_dice hg6 (Nat.le_refl _) (Nat.le_of_lt hs5)))
    have hs6 := hd6.lt
    have HD6 := Lib.hid hd6
    clear HON HB5 hd6 hg6
    cases tt with
    | false =>
      have HM5 := Lib.hid (matrix_any y5 w.heap.size a cap ts k6 r m (by omega) (by omega) HD6.out)
      clear HD6
      go_wp2_with fail
      refine HM5.out.mono ?_
      rintro e w6 ⟨vv, R, k7, rfl, hRl, hRf, ⟨a1, c1', rfl, hrow1, hfr1⟩, hd6, hg6⟩
      have HB7 := Lib.hid (HB6.out.trans (below_dice hg6 (Nat.le_refl _) (Nat.le_of_lt hs6)))
      have hs7 := hd6.lt
      have HM6 := Lib.hid (matrix_any w6 w.heap.size a cap ts k7 m c (by omega) (by omega) hd6)
      have HR1 := Lib.hid hrow1
      have HF1 := Lib.hid hfr1
      clear hRl hRf hrow1 hfr1 hd6 hg6 HM5 HB6
      go_wp2_with fail
      refine HM6.out.mono ?_
      rintro e w7 ⟨vv, T, k8, rfl, hTl, hTf, ⟨a2, c2', rfl, hrow2, hfr2⟩, hd7, hg7⟩
      have HB8 := Lib.hid (HB7.out.trans (below_dice hg7 (Nat.le_refl _) (Nat.le_of_lt hs7)))
      have hR7 : Row w7 a1 R c1' := HR1.out.grown hg7 (fun b o e => by have := HF1.out b o e; intro h; cases h; omega)
      have hA8 := BX.new (C := (m : Int)) hR7
      have hT8 := hrow2.alloc (.cells #[.int .i64 (m : Int), .slice a1 R.length c1'] 24)
      have hB8 := BX.new (C := (c : Int)) hT8
      have hA9 := hA8.below ((Below.refl _ _).alloc (Nat.le_refl _) (.cells #[.int .i64 (c : Int), .slice a2 T.length c2'] 24))
      have hb9 := (HB8.out.alloc HB8.out.size (.cells #[.int .i64 (m : Int), .slice a1 R.length c1'] 24)).alloc (by have := HB8.out.size; simp; omega) (.cells #[.int .i64 (c : Int), .slice a2 T.length c2'] 24)
      have z1 := (box0 w7).alloc (.cells #[.int .i64 0, .slice none 0 0] 24)
      have z2 := box0 (w7.alloc (.cells #[.int .i64 (m : Int), .slice a1 R.length c1'] 24))
      simp only [World.size_alloc] at z2 hB8
      obtain ⟨y0, y1, y2, y3⟩ := z1
      obtain ⟨x0, x1, x2, x3⟩ := z2
      obtain ⟨w9, hw9⟩ : ∃ w9, ((w7.alloc (.cells #[.int .i64 (m : Int), .slice a1 R.length c1'] 24)).alloc (.cells #[.int .i64 (c : Int), .slice a2 T.length c2'] 24)) = w9 := ⟨_, rfl⟩
      rw [hw9] at hA9 hB8 hb9
      have XA := Lib.hid hA9
      have XB := Lib.hid hB8
      have HW := Lib.hid hb9
      have HAW := Lib.hid (awake_yes w9)
      clear hR7 hrow2 hfr2 hd7 hg7 hTf hTl hA8 hT8 hB8 hA9 hb9 HR1 HF1 HM6 HB7 HB8
      go_wp2_with fail
      refine HAW.out.mono ?_
      rintro e u1 ⟨rfl, hb⟩
      replace XA := Lib.hid (XA.out.below hb)
      replace XB := Lib.hid (XB.out.below hb)
      replace HW := Lib.hid (HW.out.trans (hb.mono HW.out.size))
      clear hb y0 y1 y2 y3 x0 x1 x2 x3
      have a0 := XA.out.box.c0
      have a1' := XA.out.box.c1
      have b0 := XB.out.box.c0
      have b1' := XB.out.box.c1
      obtain ⟨q, hq⟩ : ∃ q : Nat, min r m = q := ⟨_, rfl⟩
      have hq64 : q < 64 := by omega
      have hqi : min (r : Int) (m : Int) = (q : Int) := by omega
      have hql : q ≤ 64 := Nat.le_of_lt hq64
      obtain ⟨v', hv1, _⟩ := masked v q hq64
      have HAG := Lib.hid (agree_any m c a1 a2 c1' c2' R T v' u1 XA.out.row XB.out.row)
      have HQ := Lib.hid hq
      clear hq
      go_wp2_with fail
      refine HAG.out.mono ?_
      rintro e u2 ⟨rfl, hb⟩
      replace XA := Lib.hid (XA.out.below hb)
      replace XB := Lib.hid (XB.out.below hb)
      replace HW := Lib.hid (HW.out.trans (hb.mono HW.out.size))
      clear hb a0 a1' b0 b1' HAG hv1
      have a0 := XA.out.box.c0
      have a1' := XA.out.box.c1
      have b0 := XB.out.box.c0
      have b1' := XB.out.box.c1
      have HAG := Lib.hid (agree_any m c a1 a2 c1' c2' R T v u2 XA.out.row XB.out.row)
      go_wp2_with fail
      refine HAG.out.mono ?_
      rintro e u3 ⟨rfl, hb⟩
      replace HW := Lib.hid (HW.out.trans (hb.mono HW.out.size))
      clear hb
      go_wp2_with fail
      go_ret
      exact ⟨rfl, HW.out⟩
    | true =>
      have HM5 := Lib.hid (matrix_any y5 w.heap.size a cap ts k6 r r (by omega) (by omega) HD6.out)
      clear HD6
      go_wp2_with fail
      refine HM5.out.mono ?_
      rintro e w6 ⟨vv, R, k7, rfl, hRl, hRf, ⟨a1, c1', rfl, hrow1, hfr1⟩, hd6, hg6⟩
      have HB7 := Lib.hid (HB6.out.trans (below_dice hg6 (Nat.le_refl _) (Nat.le_of_lt hs6)))
      have hs7 := hd6.lt
      have HM6 := Lib.hid (matrix_any w6 w.heap.size a cap ts k7 r c (by omega) (by omega) hd6)
      have HR1 := Lib.hid hrow1
      have HF1 := Lib.hid hfr1
      clear hRl hRf hrow1 hfr1 hd6 hg6 HM5 HB6
      go_wp2_with fail
      refine HM6.out.mono ?_
      rintro e w7 ⟨vv, T, k8, rfl, hTl, hTf, ⟨a2, c2', rfl, hrow2, hfr2⟩, hd7, hg7⟩
      have HB8 := Lib.hid (HB7.out.trans (below_dice hg7 (Nat.le_refl _) (Nat.le_of_lt hs7)))
      have hR7 : Row w7 a1 R c1' := HR1.out.grown hg7 (fun b o e => by have := HF1.out b o e; intro h; cases h; omega)
      have hA8 := BX.new (C := (r : Int)) hR7
      have hT8 := hrow2.alloc (.cells #[.int .i64 (r : Int), .slice a1 R.length c1'] 24)
      have hB8 := BX.new (C := (c : Int)) hT8
      have hA9 := hA8.below ((Below.refl _ _).alloc (Nat.le_refl _) (.cells #[.int .i64 (c : Int), .slice a2 T.length c2'] 24))
      have hb9 := (HB8.out.alloc HB8.out.size (.cells #[.int .i64 (r : Int), .slice a1 R.length c1'] 24)).alloc (by have := HB8.out.size; simp; omega) (.cells #[.int .i64 (c : Int), .slice a2 T.length c2'] 24)
      have z1 := (box0 w7).alloc (.cells #[.int .i64 0, .slice none 0 0] 24)
      have z2 := box0 (w7.alloc (.cells #[.int .i64 (r : Int), .slice a1 R.length c1'] 24))
      simp only [World.size_alloc] at z2 hB8
      obtain ⟨y0, y1, y2, y3⟩ := z1
      obtain ⟨x0, x1, x2, x3⟩ := z2
      obtain ⟨w9, hw9⟩ : ∃ w9, ((w7.alloc (.cells #[.int .i64 (r : Int), .slice a1 R.length c1'] 24)).alloc (.cells #[.int .i64 (c : Int), .slice a2 T.length c2'] 24)) = w9 := ⟨_, rfl⟩
      rw [hw9] at hA9 hB8 hb9
      have XA := Lib.hid hA9
      have XB := Lib.hid hB8
      have HW := Lib.hid hb9
      have HAW := Lib.hid (awake_yes w9)
      clear hR7 hrow2 hfr2 hd7 hg7 hTf hTl hA8 hT8 hB8 hA9 hb9 HR1 HF1 HM6 HB7 HB8
      go_wp2_with fail
      refine HAW.out.mono ?_
      rintro e u1 ⟨rfl, hb⟩
      replace XA := Lib.hid (XA.out.below hb)
      replace XB := Lib.hid (XB.out.below hb)
      replace HW := Lib.hid (HW.out.trans (hb.mono HW.out.size))
      clear hb y0 y1 y2 y3 x0 x1 x2 x3
      have a0 := XA.out.box.c0
      have a1' := XA.out.box.c1
      have b0 := XB.out.box.c0
      have b1' := XB.out.box.c1
      obtain ⟨q, hq⟩ : ∃ q : Nat, min r r = q := ⟨_, rfl⟩
      have hq64 : q < 64 := by omega
      have hqi : min (r : Int) (r : Int) = (q : Int) := by omega
      have hql : q ≤ 64 := Nat.le_of_lt hq64
      obtain ⟨v', hv1, _⟩ := masked v q hq64
      have HAG := Lib.hid (agree_any r c a1 a2 c1' c2' R T v' u1 XA.out.row XB.out.row)
      have HQ := Lib.hid hq
      clear hq
      go_wp2_with fail
      refine HAG.out.mono ?_
      rintro e u2 ⟨rfl, hb⟩
      replace XA := Lib.hid (XA.out.below hb)
      replace XB := Lib.hid (XB.out.below hb)
      replace HW := Lib.hid (HW.out.trans (hb.mono HW.out.size))
      clear hb a0 a1' b0 b1' HAG hv1
      have a0 := XA.out.box.c0
      have a1' := XA.out.box.c1
      have b0 := XB.out.box.c0
      have b1' := XB.out.box.c1
      have HAG := Lib.hid (agree_any r c a1 a2 c1' c2' R T v u2 XA.out.row XB.out.row)
      go_wp2_with fail
      refine HAG.out.mono ?_
      rintro e u3 ⟨rfl, hb⟩
      replace HW := Lib.hid (HW.out.trans (hb.mono HW.out.size))
      clear hb
      go_wp2_with fail
      go_ret
      exact ⟨rfl, HW.out⟩
  · have hlt := light_any a ts.length cap w
    rw [decide_eq_false (show ¬ (ts.length : Int) ≤ 400 by omega)] at hlt
    have HL := Lib.hid hlt
    have HAW := Lib.hid (awake_yes w)
    clear hlt hR
    go_enter Try.func4, Try.ntmps4
    go_wp2_with fail
    refine HL.out.mono ?_
    rintro e w1 ⟨rfl, hw⟩
    obtain rfl := hw.symm
    go_wp2_with fail
    refine HAW.out.mono ?_
    rintro e w2 ⟨rfl, hb2⟩
    go_wp2_with fail
    go_ret
    exact ⟨rfl, by assumption⟩
end Go.Proofs.Ytgaanojfjaifhaa.B
