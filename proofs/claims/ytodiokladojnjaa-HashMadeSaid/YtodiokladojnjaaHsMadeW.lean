/- law10.HashMade. -/
import Derived.Test.YtodiokladojnjaaHsRawW
import Derived.Test.YtodiokladojnjaaHsMk
import Derived.Test.YtodiokladojnjaaBDice
import Derived.Deep.RegionHeld3
import Derived.Deep.DeepMust
namespace Go.Proofs.Ytodiokladojnjaa.B
open Go Go.RowKit Go.Shelf

/-- What the last region meets. -/
structure MadQ (w : World) (p : Nat) (m n o q : Int) (a : Option Addr) (ca : Nat) (A : List V) (b : Option Addr) (cb : Nat) (T : List V) (W : World) : Prop where
  ra : Row W a A ca
  rb : Row W b T cb
  bx : Bx4 W p m n o q
  bel : Below w.heap.size w W
theorem MadQ.below {w : World} {p : Nat} {m n o q : Int} {a b : Option Addr} {ca cb : Nat} {A T : List V} {W W' : World} (h : MadQ w p m n o q a ca A b cb T W) (hb : Below W.heap.size W W') : MadQ w p m n o q a ca A b cb T W' :=
  ⟨h.ra.below hb, h.rb.below hb, h.bx.below hb, h.bel.trans (hb.mono h.bel.size)⟩
def MadCut (w : World) (p : Nat) (m n o q : Int) (l : Nat) (a : Option Addr) (ca : Nat) (y : Value) (W : World) : Prop :=
  ∃ (A T : List V) (b : Option Addr) (cb : Nat), A.length = l ∧ y = .slice b T.length cb ∧ MadQ w p m n o q a ca A b cb T W
theorem Bx4.grown {W W' : World} {p dp : Nat} {m n o q : Int} (h : Bx4 W p m n o q) (hg : W.grownBy W' (some dp)) (hne : p ≠ dp) : Bx4 W' p m n o q :=
  ⟨cell_grown hg hne h.c0, cell_grown hg hne h.c1, cell_grown hg hne h.c2, cell_grown hg hne h.c3⟩
theorem Bx4.other {W : World} {p g j : Nat} {m n o q : Int} (h : Bx4 W p m n o q) (v : Value) (hne : p ≠ g) : Bx4 (W.setCell ⟨g, j, none⟩ v) p m n o q :=
  ⟨(cell_other v hne).trans h.c0, (cell_other v hne).trans h.c1, (cell_other v hne).trans h.c2, (cell_other v hne).trans h.c3⟩

theorem Row.under {W W' : World} {B : Nat} {a : Option Addr} {zs : List V} {cap : Nat} (h : Row W a zs cap) (hb : Below B W W') (hlt : ∀ b o, a = some ⟨b, o, none⟩ → 0 < zs.length → b < B) : Row W' a zs cap :=
  ⟨h.room, h.most, fun j hj => by
    obtain ⟨b, off, e, hc⟩ := h.el j hj
    exact ⟨b, off, e, (hb.cell (p := ⟨b, off + j, none⟩) (hlt b off e (by omega))).trans hc⟩⟩
theorem Bx4.under {W W' : World} {B p : Nat} {m n o q : Int} (h : Bx4 W p m n o q) (hb : Below B W W') (hp : p < B) : Bx4 W' p m n o q :=
  ⟨(hb.cell (p := ⟨p, 0, none⟩) hp).trans h.c0, (hb.cell (p := ⟨p, 1, none⟩) hp).trans h.c1, (hb.cell (p := ⟨p, 2, none⟩) hp).trans h.c2, (hb.cell (p := ⟨p, 3, none⟩) hp).trans h.c3⟩
theorem Own.blk {W : World} {B n cap : Nat} {a : Option Addr} {zs : List V} (h : Own W B (.slice a n cap) zs) {b o : Nat} (e : a = some ⟨b, o, none⟩) (h0 : 0 < zs.length) : B ≤ b := by
  rcases h.parts with ⟨_, rfl⟩ | ⟨g, cap', e1, hB, _⟩
  · cases h0
  · subst e
    simp only [Value.slice.injEq, Option.some.injEq, Addr.mk.injEq] at e1
    omega
theorem MadQ.cells {w : World} {p : Nat} {m n o q : Int} {a b : Option Addr} {ca cb : Nat} {A T : List V} {W : World} (h : MadQ w p m n o q a ca A b cb T W) : W.cell? ⟨p, 0, none⟩ = some (.int .i64 m) ∧ W.cell? ⟨p, 1, none⟩ = some (.int .i64 n) ∧ W.cell? ⟨p, 2, none⟩ = some (.int .i64 o) ∧ W.cell? ⟨p, 3, none⟩ = some (.int .i64 q) := ⟨h.bx.c0, h.bx.c1, h.bx.c2, h.bx.c3⟩
theorem shl_13 (b : Nat) (hb : b ≤ 13) : wrap64 (2 ^ b) = ((2 ^ b : Nat) : Int) := by
  have h1 : (2 : Nat) ^ b ≤ 8192 := Nat.pow_le_pow_right (n := 2) (i := b) (j := 13) (by decide) hb
  have h2 : ((2 : Int) ^ b) = ((2 ^ b : Nat) : Int) := by rw [Int.natCast_pow]; rfl
  rw [h2]
  generalize 2 ^ b = n at *
  unfold wrap64
  omega

set_option maxRecDepth 100000 in
set_option maxHeartbeats 40000000 in
theorem hashMade_any (a : Option Addr) (cap : Nat) (ts : List Int) (m n o q : Int) (w : World) (hR : IRow w a ts cap) (_ : In64 m) (_ : In64 n) (_ : In64 o) (_ : In64 q) :
    Calls Try.prog 4 #[.slice a ts.length cap, .agg #[.int .i64 m, .int .i64 n, .int .i64 o, .int .i64 q]] w fun e W => e = .returned (.bool true) ∧ Below w.heap.size w W := by
  have hroom := hR.room
  have hmost := hR.most
  have hbx := Bx4.new w m n o q 23
  have hA1 := hR.alloc (.cells #[.int .i64 m, .int .i64 n, .int .i64 o, .int .i64 q] 23)
  have hB1 := (Below.refl _ w).alloc (Nat.le_refl _) (.cells #[.int .i64 m, .int .i64 n, .int .i64 o, .int .i64 q] 23)
  have hs1 : (w.alloc (.cells #[.int .i64 m, .int .i64 n, .int .i64 o, .int .i64 q] 23)).heap.size = w.heap.size + 1 := by simp
  obtain ⟨w1, hw1⟩ : ∃ w1, w.alloc (.cells #[.int .i64 m, .int .i64 n, .int .i64 o, .int .i64 q] 23) = w1 := ⟨_, rfl⟩
  rw [hw1] at hbx hA1 hB1 hs1
  have HX1 := Lib.hid hbx
  have HB1 := Lib.hid hB1
  have HS1 := Lib.hid hs1
  by_cases hl : ts.length ≤ 400
  · have hlt := light_any a ts.length cap w1
    rw [decide_eq_true (show (ts.length : Int) ≤ 400 by omega)] at hlt
    have HL := Lib.hid hlt
    have HRO := Lib.hid (roll_any a cap ts w1 hA1 hl)
    clear hlt hR hA1 hbx hB1 hs1
    go_enter Try.func4, Try.ntmps4
    go_wp2_with fail
    refine HL.out.mono ?_
    rintro e w1' ⟨rfl, hw⟩
    obtain rfl := hw.symm
    go_wp2_with fail
    refine HRO.out.mono ?_
    rintro e w2 ⟨rfl, hd2, hb2⟩
    obtain ⟨dp, hdp⟩ : ∃ dp, w1.heap.size = dp := ⟨_, rfl⟩
    have hpd : w.heap.size < dp := by have := HS1.out; omega
    have HB2 := Lib.hid (HB1.out.trans (hb2.mono HB1.out.size))
    have HX2 := Lib.hid (HX1.out.below hb2)
    rw [hdp] at hd2
    rw [hdp]
    have hs2 := hd2.lt
    have HN := Lib.hid (next_any w2 dp a cap ts 0 13 (by decide) (by decide) hd2)
    clear hd2 hb2 HL HRO HB1 HX1 HS1 hdp
    go_wp2_with fail
    refine HN.out.mono ?_
    rintro e w3 ⟨b, k3, hb13, rfl, hd3, hg3⟩
    have HB3 := Lib.hid (HB2.out.trans (below_dice hg3 (Nat.le_of_lt hpd) (Nat.le_trans (Nat.le_of_lt hpd) (Nat.le_of_lt hs2))))
    have HX3 := Lib.hid (HX2.out.grown hg3 (Nat.ne_of_lt hpd))
    have hs3 := hd3.lt
    have HM := Lib.hid (mask_any w3 dp a cap ts k3 b (by omega) hd3)
    clear hd3 hg3 HN HB2 HX2
    go_wp2_with fail
    refine HM.out.mono ?_
    rintro e w4 ⟨X, ax, cx, k4, rfl, hl4, _, ho4, hd4, hg4, _⟩
    have HXL := Lib.hid hl4
    have HB4 := Lib.hid (HB3.out.trans (below_dice hg4 (Nat.le_of_lt hpd) (Nat.le_trans (Nat.le_of_lt hpd) (Nat.le_of_lt hs3))))
    have HX4 := Lib.hid (HX3.out.grown hg4 (Nat.ne_of_lt hpd))
    have hs4 := hd4.lt
    have HXB := Lib.hid (show ∀ g o, ax = some ⟨g, o, none⟩ → 0 < X.length → g < w4.heap.size from fun g o e h => by have := ho4.rowAt; rw [e] at this; exact this.lt h)
    have HOX := Lib.hid ho4
    have HM2 := Lib.hid (mask_any w4 dp a cap ts k4 b (by omega) hd4)
    clear hd4 hg4 HM hl4 ho4 HB3 HX3
    go_wp2_with fail
    refine HM2.out.mono ?_
    rintro e w5 ⟨Y, ay, cy, k5, rfl, hl5, _, ho5, hd5, hg5, _⟩
    have HYL := Lib.hid hl5
    have HB5 := Lib.hid (HB4.out.trans (below_dice hg5 (Nat.le_of_lt hpd) (Nat.le_trans (Nat.le_of_lt hpd) (Nat.le_of_lt hs4))))
    have HX5 := Lib.hid (HX4.out.grown hg5 (Nat.ne_of_lt hpd))
    have hs5 := hd5.lt
    have HS45 := Lib.hid (show w4.heap.size ≤ w5.heap.size from hg5.size)
    have HOX5 := Lib.hid (HOX.out.far hg5 hs3)
    have HYB := Lib.hid (show ∀ g o, ay = some ⟨g, o, none⟩ → 0 < Y.length → g < w5.heap.size from fun g o e h => by have := ho5.rowAt; rw [e] at this; exact this.lt h)
    have HOY := Lib.hid ho5
    have HN5 := Lib.hid (next_any w5 dp a cap ts k5 5 (by decide) (by decide) hd5)
    clear hd5 hg5 HM2 hl5 ho5 HOX HB4 HX4
    go_wp2_with fail
    refine HN5.out.mono ?_
    rintro e w6 ⟨t, k6, ht, rfl, hd6, hg6⟩
    have HB6 := Lib.hid (HB5.out.trans (below_dice hg6 (Nat.le_of_lt hpd) (Nat.le_trans (Nat.le_of_lt hpd) (Nat.le_of_lt hs5))))
    have HX6 := Lib.hid (HX5.out.grown hg6 (Nat.ne_of_lt hpd))
    have hs6 := hd6.lt
    have HOX6 := Lib.hid (HOX5.out.far hg6 hs3)
    have HOY6 := Lib.hid (HOY.out.far hg6 hs4)
    have HD6 := Lib.hid hd6
    have HS46 := Lib.hid (show w4.heap.size ≤ w6.heap.size from Nat.le_trans HS45.out hg6.size)
    clear hd6 hg6 HN5 HOX5 HOY HB5 HX5
    go_upto_block 0 with fail
    go_cut [8] (fun y wx => MadCut w w.heap.size m n o q b ax cx y wx)
    case first =>
      rcases (show t = 0 ∨ t = 1 ∨ 2 ≤ t by omega) with rfl | rfl | ht2
      · by_cases hb0 : 0 < b
        · have hbi : (0 : Int) < (b : Int) := by omega
          have HNA := Lib.hid (next_any w6 dp a cap ts k6 b hb0 (by omega) HD6.out)
          have hsh := shl_13 (b + 1) (by omega)
          obtain ⟨mm, hmm⟩ : ∃ mm : Nat, 2 ^ (b + 1) = mm := ⟨_, rfl⟩
          have hmm1 : 1 ≤ mm := by rw [← hmm]; exact Nat.two_pow_pos _
          have hmm2 : mm ≤ 8192 := by rw [← hmm]; exact Nat.pow_le_pow_right (n := 2) (i := b + 1) (j := 13) (by decide) (by omega)
          rw [hmm] at hsh
          clear hmm
          go_wp2_with fail
          refine HNA.out.mono ?_
          rintro e w7 ⟨i, k7, hib, rfl, hd7, hg7⟩
          have HB7 := Lib.hid (HB6.out.trans (below_dice hg7 (Nat.le_of_lt hpd) (Nat.le_trans (Nat.le_of_lt hpd) (Nat.le_of_lt hs6))))
          have HX7 := Lib.hid (HX6.out.grown hg7 (Nat.ne_of_lt hpd))
          have hs7 := hd7.lt
          have HOX7 := Lib.hid (HOX6.out.far hg7 hs3)
          have HOY7 := Lib.hid (HOY6.out.far hg7 hs4)
          have HNB := Lib.hid (next_any w7 dp a cap ts k7 mm hmm1 (by omega) hd7)
          clear hd7 hg7 HNA HB6 HX6 HOX6 HOY6 HD6
          go_wp2_with fail
          refine HNB.out.mono ?_
          rintro e w8 ⟨vv, k8, hvv, rfl, hd8, hg8⟩
          have HB8 := Lib.hid (HB7.out.trans (below_dice hg8 (Nat.le_of_lt hpd) (Nat.le_trans (Nat.le_of_lt hpd) (Nat.le_of_lt hs7))))
          have HX8 := Lib.hid (HX7.out.grown hg8 (Nat.ne_of_lt hpd))
          have hox8 := HOX7.out.far hg8 hs3
          have HOY8 := Lib.hid (HOY7.out.far hg8 hs4)
          obtain ⟨g, rfl, hg1, hg2⟩ := hox8.fresh (by rw [HXL.out]; exact hb0)
          have q1 := hox8.cellV i (by rw [HXL.out]; exact hib)
          have q2 := hox8.free i (by rw [HXL.out]; exact hib)
          have hrm := hox8.room
          have HSET := Lib.hid (hox8.setV i (BitVec.ofNat 64 vv))
          rw [show ((BitVec.ofNat 64 vv).toNat : Int) = (vv : Int) by rw [BitVec.toNat_ofNat, Nat.mod_eq_of_lt (by omega)]] at HSET
          have hgx := HXB.out g 0 rfl (by rw [HXL.out]; exact hb0)
          clear hox8 hd8 hg8 HNB HB7 HX7 HOX7 HOY7
          go_wp2_with fail
          go_meet
          exact ⟨X.set i (BitVec.ofNat 64 vv), Y, ay, cy, by rw [List.length_set, HXL.out], by rw [HYL.out], ⟨HSET.out.rowAt, HOY8.out.rowAt.other _ (fun b' o' e h => by have := HOY8.out.blk e h; intro h9; subst h9; show False; exact absurd hgx (Nat.not_lt.2 this)), HX8.out.other _ (by omega), HB8.out.setCell (p := ⟨g, i, none⟩) (by show _ ≤ g; omega) _⟩⟩
        · have hbi : ¬ (0 : Int) < (b : Int) := by omega
          go_wp2_with fail
          go_meet
          exact ⟨X, Y, ay, cy, HXL.out, by rw [HYL.out], ⟨HOX6.out.rowAt, HOY6.out.rowAt, HX6.out, HB6.out⟩⟩
      · have hsh := shl_one b
        obtain ⟨y, hy⟩ : ∃ y, 1#64 <<< b = y := ⟨_, rfl⟩
        rw [hy] at hsh
        have hs46 := HS46.out
        clear hy
        go_wp2_with (at_builtin; refine wpList_app1 (α := V) rfl _ _ rfl y (by rfl) (by have := HOY6.out.alloc (.cells #[.int .u64 (y.toNat : Int)] 32); rw [← HYL.out] at this; rw [← HYL.out]; exact this) rfl (cell_new _ _ _) (by have := HYL.out; omega) (by simp; omega) ?_; intro a9 cap9 w9 hown9 hg9 hb9 hw9; have HO9 := Lib.hid hown9; have HB9 := Lib.hid hb9; clear hown9 hg9 hb9 hw9)
        go_meet
        have hba := HB6.out.alloc HB6.out.size (.cells #[.int .u64 (y.toNat : Int)] 32)
        exact ⟨X, Y ++ [y], a9, cap9, HXL.out, by rw [List.length_append]; rfl, ⟨(HOX6.out.rowAt.alloc _).under HB9.out (fun b o e h => HXB.out b o e h), HO9.out.rowAt, (HX6.out.below ((Below.refl _ w6).alloc (Nat.le_refl _) _)).under HB9.out (by omega), hba.trans (HB9.out.mono (by omega))⟩⟩
      · have hne0 : ((t : Int) == 0) = false := beq_eq_false_iff_ne.2 (by omega)
        have hne1 : ((t : Int) == 1) = false := beq_eq_false_iff_ne.2 (by omega)
        go_wp2_with fail
        go_meet
        exact ⟨X, Y, ay, cy, HXL.out, by rw [HYL.out], ⟨HOX6.out.rowAt, HOY6.out.rowAt, HX6.out, HB6.out⟩⟩
    case rest =>
      clear HB6 HX6 HOX6 HOY6 HD6 HXL HYL hs2 hs3 hs4 hs5 hs6
      obtain ⟨A, T, b', cb, hAl, rfl, hq⟩ := hcut
      subst hAl
      have HAW := Lib.hid (fun W => hawake_yes W)
      have HQ := Lib.hid (hq.below ((Below.refl _ wc).drew))
      clear hq
      have HM0 := Lib.hid (fun W => mod_any m 5000 (by decide) (by decide) W)
      have HM1 := Lib.hid (fun W => mod_any n 70 (by decide) (by decide) W)
      have HM2 := Lib.hid (fun W => mod_any o 300 (by decide) (by decide) W)
      go_upto_region 12 with fail
      go_region_held3 (fun W' => W'.cell? ⟨w.heap.size, 0, none⟩ = some (.int .i64 m) ∧ W'.cell? ⟨w.heap.size, 1, none⟩ = some (.int .i64 n) ∧ W'.cell? ⟨w.heap.size, 2, none⟩ = some (.int .i64 o) ∧ W'.cell? ⟨w.heap.size, 3, none⟩ = some (.int .i64 q)) (first | exact HQ.out.cells) (first
        | ((try go_simp); go_at_call 3; (with_reducible refine (hashRaw_any _ _ _ _ A T _ _ _ _ _ HQ.out.ra HQ.out.rb).mono ?_); go_must (rintro e v1 ⟨rfl, hb⟩; (have HQ' := Lib.hid (HQ.out.below hb)); (clear HQ); (have HQ := HQ'); (clear HQ'); clear hb))
        | ((try go_simp); go_at_call 25; (first | (with_reducible refine (HM0.out _).mono ?_) | (with_reducible refine (HM1.out _).mono ?_) | (with_reducible refine (HM2.out _).mono ?_)); go_must (rintro e v1 ⟨rfl, hw⟩; obtain rfl := hw)))
      have HB := Lib.hid HQ.out.bel
      clear HQ
      go_wp2_with fail
      go_ret
      exact ⟨rfl, HB.out⟩
  · have hli : ¬ (ts.length : Int) ≤ 400 := by omega
    have hlt := light_any a ts.length cap w1
    rw [decide_eq_false hli] at hlt
    have HL := Lib.hid hlt
    have HAW := Lib.hid (hawake_yes w1)
    clear hl hlt hR
    go_enter Try.func4, Try.ntmps4
    go_wp2_with fail
    refine HL.out.mono ?_
    rintro e w1' ⟨rfl, hw⟩
    obtain rfl := hw.symm
    go_wp2_with fail
    refine HAW.out.mono ?_
    rintro e w2 ⟨rfl, hb⟩
    have HB := Lib.hid (HB1.out.trans (hb.mono HB1.out.size))
    clear hb
    go_wp2_with fail
    go_ret
    exact ⟨rfl, HB.out⟩
end Go.Proofs.Ytodiokladojnjaa.B
