/- The walk of law02.RatioMade. -/
import Derived.Test.YtfaggdjoogpmmaaDoorBAgree2
import Derived.Test.YtfaggdjoogpmmaaDoorB10
import Derived.Test.YtfaggdjoogpmmaaDoorBMakeAll
namespace Go.Proofs.YtfaggdjoogpmmaaDoor
open Go Go.RowKit Go.Shelf

theorem nat2 (w : World) (dp : Nat) (a : Option Addr) (cap : Nat) (ts : List Int) (k : Nat) (hD : Dice w dp a cap ts k) :
    Calls Tryd.prog 22 #[.pointer (some ⟨dp, 0, none⟩), .int .i64 2] w fun e W => ∃ (s : Option Addr) (c x k' : Nat), e = .returned (.agg #[.slice s (M.dig x).length c]) ∧ Row W s (M.dig x) c ∧ (M.dig x).length ≤ 2 ∧ Dice W dp a cap ts k' ∧ w.grownBy W (some dp) ∧ ∀ W', W.grownBy W' (some dp) → Row W' s (M.dig x) c := by
  refine (diceNat_keep w dp a cap ts k 2 (by decide) hD).mono ?_
  rintro e W ⟨v, x, k', rfl, ⟨s, c, rfl, hr⟩, hl, hd, hg, hk⟩
  refine ⟨s, c, x, k', rfl, hr, hl, hd, hg, fun W' h => ?_⟩
  obtain ⟨s', c', e, hr'⟩ := hk W' h
  cases e
  exact hr'
theorem next6 (w : World) (dp : Nat) (a : Option Addr) (cap : Nat) (ts : List Int) (k : Nat) (hD : Dice w dp a cap ts k) :
    Calls Tryd.prog 50 #[.pointer (some ⟨dp, 0, none⟩), .int .i64 6] w fun e W => ∃ (r k' : Nat), r < 6 ∧ e = .returned (.int .i64 (r : Int)) ∧ Dice W dp a cap ts k' ∧ w.grownBy W (some dp) :=
  (next_any w dp a cap ts k 6 (by decide) (by decide) hD).mono fun _ _ h => h

/-- A variable of type Ratio, that may be stored into. -/
structure Bx (W : World) (p : Nat) (u v : Value) : Prop where
  c0 : W.cell? ⟨p, 0, none⟩ = some u
  c1 : W.cell? ⟨p, 1, none⟩ = some v
  f0 : W.frozen? ⟨p, 0, none⟩ = false
  f1 : W.frozen? ⟨p, 1, none⟩ = false
theorem Bx.new (W : World) (u v : Value) (t : TypeId) : Bx (W.alloc (.cells #[u, v] t)) W.heap.size u v :=
  ⟨(two_cells W u v t).1.1, (two_cells W u v t).2.1, (two_cells W u v t).1.2, (two_cells W u v t).2.2⟩
theorem Bx.alloc {W : World} {p : Nat} {u v : Value} (h : Bx W p u v) (o : Obj) : Bx (W.alloc o) p u v := ⟨cell_later _ h.c0, cell_later _ h.c1, frozen_later _ h.c0 h.f0, frozen_later _ h.c1 h.f1⟩
theorem Bx.next {W W' : World} {p dp : Nat} {u v : Value} (h : Bx W p u v) (hg : W.grownBy W' (some dp)) (hp : p ≠ dp) : Bx W' p u v := ⟨gcell hg h.c0 hp, gcell hg h.c1 hp, gfree hg h.c0 h.f0 hp, gfree hg h.c1 h.f1 hp⟩
theorem RLVar.of {W : World} {p : Nat} {a b : Option Addr} {ca cb : Nat} {zs ys : List Int} (h : Bx W p (.slice a zs.length ca) (.slice b ys.length cb)) (hr : Row W a zs ca ∧ Row W b ys cb) : RLVar W p a ca b cb zs ys := ⟨h.c0, h.c1, hr.1, hr.2⟩
/-- Another fraction is stored into the variable. -/
theorem rl_store {W : World} {p : Nat} {a b s t : Option Addr} {ca cb c d n m : Nat} {zs ys : List Int} (h : Bx W p (.slice a n ca) (.slice b m cb)) (hs : Row W s zs c) (ht : Row W t ys d) :
    RLVar ((W.setCell ⟨p, 0, none⟩ (.slice s zs.length c)).setCell ⟨p, 1, none⟩ (.slice t ys.length d)) p s c t d zs ys := by
  have q1 : (W.setCell ⟨p, 0, none⟩ (.slice s zs.length c)).cell? ⟨p, 1, none⟩ = some (.slice b m cb) := (World.cell?_setCell_other _ _ _ _ (by intro e; cases e)).trans h.c1
  exact ⟨(World.cell?_setCell_other _ _ _ _ (by intro e; cases e)).trans (World.cell?_setCell_same _ _ _ h.c0), World.cell?_setCell_same _ _ _ q1, (hs.storedAt h.c0 _).storedAt q1 _, (ht.storedAt h.c0 _).storedAt q1 _⟩
theorem rl_beside {W : World} {p q : Nat} {a b a' b' : Option Addr} {ca cb ca' cb' n m : Nat} {zs ys : List Int} (h : Bx W p (.slice a n ca) (.slice b m cb)) (hv : RLVar W q a' ca' b' cb' zs ys) (hne : q ≠ p) (u v : Value) :
    RLVar ((W.setCell ⟨p, 0, none⟩ u).setCell ⟨p, 1, none⟩ v) q a' ca' b' cb' zs ys := by
  have q1 : (W.setCell ⟨p, 0, none⟩ u).cell? ⟨p, 1, none⟩ = some (.slice b m cb) := (World.cell?_setCell_other _ _ _ _ (by intro e; cases e)).trans h.c1
  exact (hv.beside2 h.c0 hne u).beside2 q1 hne v
theorem two_set {B : Nat} {w W : World} {p : Nat} (hB : Below B w W) (hp : B ≤ p) (u v : Value) : Below B w ((W.setCell ⟨p, 0, none⟩ u).setCell ⟨p, 1, none⟩ v) := (hB.setCell (p := ⟨p, 0, none⟩) hp u).setCell (p := ⟨p, 1, none⟩) hp v

set_option maxRecDepth 100000 in
set_option maxHeartbeats 4000000 in
theorem ratMade_any (ta : Option Addr) (tc : Nat) (ts : List Int) (w : World) (hR : Row w ta ts tc) :
    Calls Tryd.prog 13 #[.slice ta ts.length tc] w fun e W' => e = .returned (.bool true) ∧ Below w.heap.size w W' := by
  have HR := Lib.hid hR
  have HLT := Lib.hid (fun W : World => light_any ta ts.length tc W)
  clear hR
  by_cases hl : (ts.length : Int) ≤ 400
  · go_enter Tryd.func13, Tryd.ntmps13
    go_wp2_with fail
    refine (HLT.out _).mono ?_
    rintro e w' ⟨rfl, rfl⟩
    rw [show decide ((ts.length : Int) ≤ 400) = true from decide_eq_true hl]
    go_wp2_with fail
    refine (roll_any ta tc ts _ HR.out (by omega)).mono ?_
    rintro e w1 ⟨rfl, hd, hb1⟩
    obtain ⟨dp, hdp⟩ : ∃ dp, w'.heap.size = dp := ⟨_, rfl⟩
    rw [hdp] at hd ⊢
    have HD := Lib.hid hd
    have HB1 := Lib.hid hb1
    have hs1 : dp < w1.heap.size := hd.lt
    clear hd hb1 HR HLT
    go_wp2_with fail
    refine (some_any w1 dp ta tc ts 0 HD.out).mono ?_
    rintro e w2 ⟨s_A, c_A, t_A, d_A, n_A, m_A, kA, rfl, hy_A, hg_A, hx_A, hl_A, hd, hg2, _, _, hkA⟩
    replace HD := Lib.hid hd
    have HKA := Lib.hid hkA
    have HG2 := Lib.hid hg2
    have hs2 := hg2.size
    clear hd hg2 hkA
    go_wp2_with fail
    refine (some_any w2 dp ta tc ts kA HD.out).mono ?_
    rintro e w3 ⟨s_B, c_B, t_B, d_B, n_B, m_B, kB, rfl, hy_B, hg_B, hx_B, hl_B, hd, hg3, _, _, hkB⟩
    replace HD := Lib.hid hd
    have HKB := Lib.hid hkB
    have HG3 := Lib.hid (grown_trans HG2.out hg3)
    replace HKA := Lib.hid (fun W' (h : w3.grownBy W' (some dp)) => HKA.out W' (grown_trans hg3 h))
    have hs3 := hg3.size
    clear hd hg3 hkB HG2
    go_wp2_with fail
    have hg4 : w3.grownBy ((w3.alloc (.cells #[.slice s_A (M.dig n_A).length c_A, .slice t_A (M.dig m_A).length d_A] 58)).alloc (.cells #[.slice s_B (M.dig n_B).length c_B, .slice t_B (M.dig m_B).length d_B] 58)) (some dp) := grown_alloc (grown_alloc (World.grownBy.refl w3 _) _) _
    have hbA := (Bx.new w3 (.slice s_A (M.dig n_A).length c_A) (.slice t_A (M.dig m_A).length d_A) 58).alloc (.cells #[.slice s_B (M.dig n_B).length c_B, .slice t_B (M.dig m_B).length d_B] 58)
    have hbB := Bx.new (w3.alloc (.cells #[.slice s_A (M.dig n_A).length c_A, .slice t_A (M.dig m_A).length d_A] 58)) (.slice s_B (M.dig n_B).length c_B) (.slice t_B (M.dig m_B).length d_B) 58
    rw [World.size_alloc] at hbB
    have hd4 := (HD.out.alloc (.cells #[.slice s_A (M.dig n_A).length c_A, .slice t_A (M.dig m_A).length d_A] 58)).alloc (.cells #[.slice s_B (M.dig n_B).length c_B, .slice t_B (M.dig m_B).length d_B] 58)
    generalize ((w3.alloc (.cells #[.slice s_A (M.dig n_A).length c_A, .slice t_A (M.dig m_A).length d_A] 58)).alloc (.cells #[.slice s_B (M.dig n_B).length c_B, .slice t_B (M.dig m_B).length d_B] 58)) = w4 at *
    have HG4 := Lib.hid hg4
    have HBA := Lib.hid hbA
    have HBB := Lib.hid hbB
    replace HD := Lib.hid hd4
    have hsd : w1.heap.size ≤ w3.heap.size := Nat.le_trans hs2 hs3
    clear hg4 hbA hbB hd4
    refine (next6 w4 dp ta tc ts kB HD.out).mono ?_
    rintro e w5 ⟨r, k5, hr6, rfl, hd, hg5⟩
    obtain ⟨pa, hpa⟩ : ∃ pa, w3.heap.size = pa := ⟨_, rfl⟩
    rw [hpa] at HBA HBB hsd ⊢
    replace HD := Lib.hid hd
    replace HBA := Lib.hid (HBA.out.next hg5 (by omega))
    replace HBB := Lib.hid (HBB.out.next hg5 (by omega))
    replace HG4 := Lib.hid (grown_trans HG4.out hg5)
    have HG := Lib.hid (grown_trans HG3.out HG4.out)
    clear hd hg5 HG3
    have hwB := HB1.out.size
    by_cases hr0 : r = 0
    · subst hr0
      have z0 := HBA.out.f0
      have z1 := HBA.out.f1
      have y0 := HBA.out.c0
      have y1 := HBA.out.c1
      go_wp2_with fail
      refine (nat2 w5 dp ta tc ts k5 HD.out).mono ?_
      rintro e w6 ⟨s_C, c_C, n_C, k6, rfl, _, hl_C, hd, hg6, hkC⟩
      replace HD := Lib.hid hd
      have HKC := Lib.hid hkC
      replace HBA := Lib.hid (HBA.out.next hg6 (by omega))
      replace HBB := Lib.hid (HBB.out.next hg6 (by omega))
      replace HG4 := Lib.hid (grown_trans HG4.out hg6)
      replace HG := Lib.hid (grown_trans HG.out hg6)
      clear hd hg6 hkC z0 z1 y0 y1
      go_wp2_with fail
      refine (nat2 w6 dp ta tc ts k6 HD.out).mono ?_
      rintro e w7 ⟨s_D, c_D, n_D, k7, rfl, hrD, hl_D, hd, hg7, _⟩
      have hrC := HKC.out w7 hg7
      have hbA := HBA.out.next hg7 (show pa ≠ dp by omega)
      have hbB := HBB.out.next hg7 (show pa + 1 ≠ dp by omega)
      have hg4 := grown_trans HG4.out hg7
      have hgw := grown_trans HG.out hg7
      have hb0 := HB1.out.trans (below_of_dice hgw (by omega) HB1.out.size)
      have V_A := Lib.hid (rl_store hbA hrC hrD)
      have V_B := Lib.hid (rl_beside hbA (RLVar.of hbB (HKB.out w7 hg4)) (show pa + 1 ≠ pa by omega) (.slice s_C (M.dig n_C).length c_C) (.slice s_D (M.dig n_D).length c_D))
      have HB := Lib.hid (two_set hb0 (show w'.heap.size ≤ pa by omega) (.slice s_C (M.dig n_C).length c_C) (.slice s_D (M.dig n_D).length c_D))
      have z0 := hbA.f0
      have z1 := hbA.f1
      have y0 := hbA.c0
      have y1 := hbA.c1
      obtain ⟨w8, hw8⟩ : ∃ w8, ((w7.setCell ⟨pa, 0, none⟩ (.slice s_C (M.dig n_C).length c_C)).setCell ⟨pa, 1, none⟩ (.slice s_D (M.dig n_D).length c_D)) = w8 := ⟨_, rfl⟩
      rw [hw8] at V_A V_B HB
      have hlen : (M.dig n_C).length + (M.dig n_D).length + (M.dig n_B).length + (M.dig m_B).length ≤ 48 := by omega
      clear HD HKA HKB HKC HBA HBB HG4 HG hd hg7 hrC hrD hbA hbB hg4 hgw hb0 HB1
      generalize M.dig n_C = zA, M.dig n_D = yA, M.dig n_B = zB, M.dig m_B = yB at *
      obtain ⟨E, n, d, hM1, hM2⟩ := make_both zA zB
      have HM1 := Lib.hid hM1
      have HM2 := Lib.hid hM2
      clear hM1 hM2
      have e0_A := V_A.out.c0
      have e1_A := V_A.out.c1
      have e0_B := V_B.out.c0
      have e1_B := V_B.out.c1
      go_wp2_with fail
      (with_reducible refine (HM1.out _ _ _ _ _ V_A.out.ra V_B.out.ra).mono ?_)
      rintro e u1 ⟨⟨s_X, c_X, t_X, d_X, rfl, hr, hq⟩, hb⟩
      replace V_A := Lib.hid (V_A.out.below hb)
      replace V_B := Lib.hid (V_B.out.below hb)
      replace HB := Lib.hid (HB.out.trans (hb.mono HB.out.size))
      clear hb e0_A e1_A e0_B e1_B
      replace V_A := Lib.hid (V_A.out.alloc (.cells #[.slice s_X (M.dig n).length c_X, .slice t_X (M.dig d).length d_X] 58))
      replace V_B := Lib.hid (V_B.out.alloc (.cells #[.slice s_X (M.dig n).length c_X, .slice t_X (M.dig d).length d_X] 58))
      replace HB := Lib.hid (HB.out.alloc HB.out.size (.cells #[.slice s_X (M.dig n).length c_X, .slice t_X (M.dig d).length d_X] 58))
      have V_X := Lib.hid (RVar.new hr hq)
      clear hr hq
      have e0_A := V_A.out.c0
      have e1_A := V_A.out.c1
      have e0_B := V_B.out.c0
      have e1_B := V_B.out.c1
      go_wp2_with fail
      (with_reducible refine (HM2.out _ _ _ _ _ V_A.out.ra V_B.out.ra).mono ?_)
      rintro e u2 ⟨⟨s_Y, c_Y, t_Y, d_Y, rfl, hr, hq⟩, hb⟩
      replace V_A := Lib.hid (V_A.out.below hb)
      replace V_B := Lib.hid (V_B.out.below hb)
      replace V_X := Lib.hid (V_X.out.below hb)
      replace HB := Lib.hid (HB.out.trans (hb.mono HB.out.size))
      clear hb e0_A e1_A e0_B e1_B
      replace V_A := Lib.hid (V_A.out.alloc (.cells #[.slice s_Y (M.dig n).length c_Y, .slice t_Y (M.dig d).length d_Y] 58))
      replace V_B := Lib.hid (V_B.out.alloc (.cells #[.slice s_Y (M.dig n).length c_Y, .slice t_Y (M.dig d).length d_Y] 58))
      replace V_X := Lib.hid (V_X.out.alloc (.cells #[.slice s_Y (M.dig n).length c_Y, .slice t_Y (M.dig d).length d_Y] 58))
      replace HB := Lib.hid (HB.out.alloc HB.out.size (.cells #[.slice s_Y (M.dig n).length c_Y, .slice t_Y (M.dig d).length d_Y] 58))
      have V_Y := Lib.hid (RVar.new hr hq)
      clear hr hq
      clear HM1 HM2
      have e0_A := V_A.out.c0
      have e1_A := V_A.out.c1
      have e0_B := V_B.out.c0
      have e1_B := V_B.out.c1
      go_wp2_with fail
      (with_reducible refine (ratAwake_any _).mono ?_)
      rintro e u3 ⟨rfl, hb⟩
      replace V_A := Lib.hid (V_A.out.below hb)
      replace V_B := Lib.hid (V_B.out.below hb)
      replace V_X := Lib.hid (V_X.out.below hb)
      replace V_Y := Lib.hid (V_Y.out.below hb)
      replace HB := Lib.hid (HB.out.trans (hb.mono HB.out.size))
      clear hb e0_A e1_A e0_B e1_B
      have e0_A := V_A.out.c0
      have e1_A := V_A.out.c1
      have e0_B := V_B.out.c0
      have e1_B := V_B.out.c1
      go_wp2_with fail
      (with_reducible refine (agree2_any _ _ _ _ _ _ _ _ zA yA zB yB _ (fun _ => hlen) V_A.out.ra V_A.out.rb V_B.out.ra V_B.out.rb).mono ?_)
      rintro e u4 ⟨rfl, hb⟩
      replace V_A := Lib.hid (V_A.out.below hb)
      replace V_B := Lib.hid (V_B.out.below hb)
      replace V_X := Lib.hid (V_X.out.below hb)
      replace V_Y := Lib.hid (V_Y.out.below hb)
      replace HB := Lib.hid (HB.out.trans (hb.mono HB.out.size))
      clear hb e0_A e1_A e0_B e1_B
      have e0_A := V_A.out.c0
      have e1_A := V_A.out.c1
      have e0_B := V_B.out.c0
      have e1_B := V_B.out.c1
      go_wp2_with fail
      (with_reducible refine (agree2_any _ _ _ _ _ _ _ _ zB yB zA yA _ (fun _ => by omega) V_B.out.ra V_B.out.rb V_A.out.ra V_A.out.rb).mono ?_)
      rintro e u5 ⟨rfl, hb⟩
      replace V_A := Lib.hid (V_A.out.below hb)
      replace V_B := Lib.hid (V_B.out.below hb)
      replace V_X := Lib.hid (V_X.out.below hb)
      replace V_Y := Lib.hid (V_Y.out.below hb)
      replace HB := Lib.hid (HB.out.trans (hb.mono HB.out.size))
      clear hb e0_A e1_A e0_B e1_B
      have e0_X := V_X.out.c0
      have e1_X := V_X.out.c1
      have e0_Y := V_Y.out.c0
      have e1_Y := V_Y.out.c1
      go_wp2_with fail
      (with_reducible refine (ratSame_any V_X.out.val V_Y.out.val).mono ?_)
      rintro e u6 ⟨rfl, hb⟩
      replace HB := Lib.hid (HB.out.trans (hb.mono HB.out.size))
      go_wp2_with fail
      go_ret
      exact ⟨rfl, HB.out⟩
    · have hq0 : ((r : Int) == 0) = false := by simp; omega
      by_cases hr1 : r = 1
      · subst hr1
        have hb0 := HB1.out.trans (below_of_dice HG.out (by omega) HB1.out.size)
        have hva := RLVar.of HBA.out (HKA.out w5 HG4.out)
        have V_A := Lib.hid (rl_beside HBB.out hva (show pa ≠ pa + 1 by omega) (.slice s_A (M.dig n_A).length c_A) (.slice t_A (M.dig m_A).length d_A))
        have V_B := Lib.hid (rl_store HBB.out hva.ra hva.rb)
        have HB := Lib.hid (two_set hb0 (show w'.heap.size ≤ pa + 1 by omega) (.slice s_A (M.dig n_A).length c_A) (.slice t_A (M.dig m_A).length d_A))
        have z0 := HBB.out.f0
        have z1 := HBB.out.f1
        have y0 := HBB.out.c0
        have y1 := HBB.out.c1
        have x0 := HBA.out.c0
        have x1 := HBA.out.c1
        obtain ⟨w8, hw8⟩ : ∃ w8, ((w5.setCell ⟨pa + 1, 0, none⟩ (.slice s_A (M.dig n_A).length c_A)).setCell ⟨pa + 1, 1, none⟩ (.slice t_A (M.dig m_A).length d_A)) = w8 := ⟨_, rfl⟩
        rw [hw8] at V_A V_B HB
        have hlen : (M.dig n_A).length + (M.dig m_A).length + (M.dig n_A).length + (M.dig m_A).length ≤ 48 := by omega
        clear HD HKA HKB HBA HBB HG4 HG hb0 HB1 hva
        generalize M.dig n_A = zA, M.dig m_A = yA at *
        obtain ⟨E, n, d, hM1, hM2⟩ := make_both zA zA
        have HM1 := Lib.hid hM1
        have HM2 := Lib.hid hM2
        clear hM1 hM2
        have e0_A := V_A.out.c0
        have e1_A := V_A.out.c1
        have e0_B := V_B.out.c0
        have e1_B := V_B.out.c1
        go_wp2_with fail
        (with_reducible refine (HM1.out _ _ _ _ _ V_A.out.ra V_B.out.ra).mono ?_)
        rintro e u1 ⟨⟨s_X, c_X, t_X, d_X, rfl, hr, hq⟩, hb⟩
        replace V_A := Lib.hid (V_A.out.below hb)
        replace V_B := Lib.hid (V_B.out.below hb)
        replace HB := Lib.hid (HB.out.trans (hb.mono HB.out.size))
        clear hb e0_A e1_A e0_B e1_B
        replace V_A := Lib.hid (V_A.out.alloc (.cells #[.slice s_X (M.dig n).length c_X, .slice t_X (M.dig d).length d_X] 58))
        replace V_B := Lib.hid (V_B.out.alloc (.cells #[.slice s_X (M.dig n).length c_X, .slice t_X (M.dig d).length d_X] 58))
        replace HB := Lib.hid (HB.out.alloc HB.out.size (.cells #[.slice s_X (M.dig n).length c_X, .slice t_X (M.dig d).length d_X] 58))
        have V_X := Lib.hid (RVar.new hr hq)
        clear hr hq
        have e0_A := V_A.out.c0
        have e1_A := V_A.out.c1
        have e0_B := V_B.out.c0
        have e1_B := V_B.out.c1
        go_wp2_with fail
        (with_reducible refine (HM2.out _ _ _ _ _ V_A.out.ra V_B.out.ra).mono ?_)
        rintro e u2 ⟨⟨s_Y, c_Y, t_Y, d_Y, rfl, hr, hq⟩, hb⟩
        replace V_A := Lib.hid (V_A.out.below hb)
        replace V_B := Lib.hid (V_B.out.below hb)
        replace V_X := Lib.hid (V_X.out.below hb)
        replace HB := Lib.hid (HB.out.trans (hb.mono HB.out.size))
        clear hb e0_A e1_A e0_B e1_B
        replace V_A := Lib.hid (V_A.out.alloc (.cells #[.slice s_Y (M.dig n).length c_Y, .slice t_Y (M.dig d).length d_Y] 58))
        replace V_B := Lib.hid (V_B.out.alloc (.cells #[.slice s_Y (M.dig n).length c_Y, .slice t_Y (M.dig d).length d_Y] 58))
        replace V_X := Lib.hid (V_X.out.alloc (.cells #[.slice s_Y (M.dig n).length c_Y, .slice t_Y (M.dig d).length d_Y] 58))
        replace HB := Lib.hid (HB.out.alloc HB.out.size (.cells #[.slice s_Y (M.dig n).length c_Y, .slice t_Y (M.dig d).length d_Y] 58))
        have V_Y := Lib.hid (RVar.new hr hq)
        clear hr hq
        clear HM1 HM2
        have e0_A := V_A.out.c0
        have e1_A := V_A.out.c1
        have e0_B := V_B.out.c0
        have e1_B := V_B.out.c1
        go_wp2_with fail
        (with_reducible refine (ratAwake_any _).mono ?_)
        rintro e u3 ⟨rfl, hb⟩
        replace V_A := Lib.hid (V_A.out.below hb)
        replace V_B := Lib.hid (V_B.out.below hb)
        replace V_X := Lib.hid (V_X.out.below hb)
        replace V_Y := Lib.hid (V_Y.out.below hb)
        replace HB := Lib.hid (HB.out.trans (hb.mono HB.out.size))
        clear hb e0_A e1_A e0_B e1_B
        have e0_A := V_A.out.c0
        have e1_A := V_A.out.c1
        have e0_B := V_B.out.c0
        have e1_B := V_B.out.c1
        go_wp2_with fail
        (with_reducible refine (agree2_any _ _ _ _ _ _ _ _ zA yA zA yA _ (fun _ => hlen) V_A.out.ra V_A.out.rb V_B.out.ra V_B.out.rb).mono ?_)
        rintro e u4 ⟨rfl, hb⟩
        replace V_A := Lib.hid (V_A.out.below hb)
        replace V_B := Lib.hid (V_B.out.below hb)
        replace V_X := Lib.hid (V_X.out.below hb)
        replace V_Y := Lib.hid (V_Y.out.below hb)
        replace HB := Lib.hid (HB.out.trans (hb.mono HB.out.size))
        clear hb e0_A e1_A e0_B e1_B
        have e0_A := V_A.out.c0
        have e1_A := V_A.out.c1
        have e0_B := V_B.out.c0
        have e1_B := V_B.out.c1
        go_wp2_with fail
        (with_reducible refine (agree2_any _ _ _ _ _ _ _ _ zA yA zA yA _ (fun _ => by omega) V_B.out.ra V_B.out.rb V_A.out.ra V_A.out.rb).mono ?_)
        rintro e u5 ⟨rfl, hb⟩
        replace V_A := Lib.hid (V_A.out.below hb)
        replace V_B := Lib.hid (V_B.out.below hb)
        replace V_X := Lib.hid (V_X.out.below hb)
        replace V_Y := Lib.hid (V_Y.out.below hb)
        replace HB := Lib.hid (HB.out.trans (hb.mono HB.out.size))
        clear hb e0_A e1_A e0_B e1_B
        have e0_X := V_X.out.c0
        have e1_X := V_X.out.c1
        have e0_Y := V_Y.out.c0
        have e1_Y := V_Y.out.c1
        go_wp2_with fail
        (with_reducible refine (ratSame_any V_X.out.val V_Y.out.val).mono ?_)
        rintro e u6 ⟨rfl, hb⟩
        replace HB := Lib.hid (HB.out.trans (hb.mono HB.out.size))
        go_wp2_with fail
        go_ret
        exact ⟨rfl, HB.out⟩
      · have hq1 : ((r : Int) == 1) = false := by simp; omega
        have hb0 := HB1.out.trans (below_of_dice HG.out (by omega) HB1.out.size)
        have V_A := Lib.hid (RLVar.of HBA.out (HKA.out w5 HG4.out))
        have V_B := Lib.hid (RLVar.of HBB.out (HKB.out w5 HG4.out))
        have HB := Lib.hid hb0
        have hlen : (M.dig n_A).length + (M.dig m_A).length + (M.dig n_B).length + (M.dig m_B).length ≤ 48 := by omega
        clear HD HKA HKB HBA HBB HG4 HG hb0 HB1
        generalize M.dig n_A = zA, M.dig m_A = yA, M.dig n_B = zB, M.dig m_B = yB at *
        obtain ⟨E, n, d, hM1, hM2⟩ := make_both zA zB
        have HM1 := Lib.hid hM1
        have HM2 := Lib.hid hM2
        clear hM1 hM2
        have e0_A := V_A.out.c0
        have e1_A := V_A.out.c1
        have e0_B := V_B.out.c0
        have e1_B := V_B.out.c1
        go_wp2_with fail
        (with_reducible refine (HM1.out _ _ _ _ _ V_A.out.ra V_B.out.ra).mono ?_)
        rintro e u1 ⟨⟨s_X, c_X, t_X, d_X, rfl, hr, hq⟩, hb⟩
        replace V_A := Lib.hid (V_A.out.below hb)
        replace V_B := Lib.hid (V_B.out.below hb)
        replace HB := Lib.hid (HB.out.trans (hb.mono HB.out.size))
        clear hb e0_A e1_A e0_B e1_B
        replace V_A := Lib.hid (V_A.out.alloc (.cells #[.slice s_X (M.dig n).length c_X, .slice t_X (M.dig d).length d_X] 58))
        replace V_B := Lib.hid (V_B.out.alloc (.cells #[.slice s_X (M.dig n).length c_X, .slice t_X (M.dig d).length d_X] 58))
        replace HB := Lib.hid (HB.out.alloc HB.out.size (.cells #[.slice s_X (M.dig n).length c_X, .slice t_X (M.dig d).length d_X] 58))
        have V_X := Lib.hid (RVar.new hr hq)
        clear hr hq
        have e0_A := V_A.out.c0
        have e1_A := V_A.out.c1
        have e0_B := V_B.out.c0
        have e1_B := V_B.out.c1
        go_wp2_with fail
        (with_reducible refine (HM2.out _ _ _ _ _ V_A.out.ra V_B.out.ra).mono ?_)
        rintro e u2 ⟨⟨s_Y, c_Y, t_Y, d_Y, rfl, hr, hq⟩, hb⟩
        replace V_A := Lib.hid (V_A.out.below hb)
        replace V_B := Lib.hid (V_B.out.below hb)
        replace V_X := Lib.hid (V_X.out.below hb)
        replace HB := Lib.hid (HB.out.trans (hb.mono HB.out.size))
        clear hb e0_A e1_A e0_B e1_B
        replace V_A := Lib.hid (V_A.out.alloc (.cells #[.slice s_Y (M.dig n).length c_Y, .slice t_Y (M.dig d).length d_Y] 58))
        replace V_B := Lib.hid (V_B.out.alloc (.cells #[.slice s_Y (M.dig n).length c_Y, .slice t_Y (M.dig d).length d_Y] 58))
        replace V_X := Lib.hid (V_X.out.alloc (.cells #[.slice s_Y (M.dig n).length c_Y, .slice t_Y (M.dig d).length d_Y] 58))
        replace HB := Lib.hid (HB.out.alloc HB.out.size (.cells #[.slice s_Y (M.dig n).length c_Y, .slice t_Y (M.dig d).length d_Y] 58))
        have V_Y := Lib.hid (RVar.new hr hq)
        clear hr hq
        clear HM1 HM2
        have e0_A := V_A.out.c0
        have e1_A := V_A.out.c1
        have e0_B := V_B.out.c0
        have e1_B := V_B.out.c1
        go_wp2_with fail
        (with_reducible refine (ratAwake_any _).mono ?_)
        rintro e u3 ⟨rfl, hb⟩
        replace V_A := Lib.hid (V_A.out.below hb)
        replace V_B := Lib.hid (V_B.out.below hb)
        replace V_X := Lib.hid (V_X.out.below hb)
        replace V_Y := Lib.hid (V_Y.out.below hb)
        replace HB := Lib.hid (HB.out.trans (hb.mono HB.out.size))
        clear hb e0_A e1_A e0_B e1_B
        have e0_A := V_A.out.c0
        have e1_A := V_A.out.c1
        have e0_B := V_B.out.c0
        have e1_B := V_B.out.c1
        go_wp2_with fail
        (with_reducible refine (agree2_any _ _ _ _ _ _ _ _ zA yA zB yB _ (fun _ => hlen) V_A.out.ra V_A.out.rb V_B.out.ra V_B.out.rb).mono ?_)
        rintro e u4 ⟨rfl, hb⟩
        replace V_A := Lib.hid (V_A.out.below hb)
        replace V_B := Lib.hid (V_B.out.below hb)
        replace V_X := Lib.hid (V_X.out.below hb)
        replace V_Y := Lib.hid (V_Y.out.below hb)
        replace HB := Lib.hid (HB.out.trans (hb.mono HB.out.size))
        clear hb e0_A e1_A e0_B e1_B
        have e0_A := V_A.out.c0
        have e1_A := V_A.out.c1
        have e0_B := V_B.out.c0
        have e1_B := V_B.out.c1
        go_wp2_with fail
        (with_reducible refine (agree2_any _ _ _ _ _ _ _ _ zB yB zA yA _ (fun _ => by omega) V_B.out.ra V_B.out.rb V_A.out.ra V_A.out.rb).mono ?_)
        rintro e u5 ⟨rfl, hb⟩
        replace V_A := Lib.hid (V_A.out.below hb)
        replace V_B := Lib.hid (V_B.out.below hb)
        replace V_X := Lib.hid (V_X.out.below hb)
        replace V_Y := Lib.hid (V_Y.out.below hb)
        replace HB := Lib.hid (HB.out.trans (hb.mono HB.out.size))
        clear hb e0_A e1_A e0_B e1_B
        have e0_X := V_X.out.c0
        have e1_X := V_X.out.c1
        have e0_Y := V_Y.out.c0
        have e1_Y := V_Y.out.c1
        go_wp2_with fail
        (with_reducible refine (ratSame_any V_X.out.val V_Y.out.val).mono ?_)
        rintro e u6 ⟨rfl, hb⟩
        replace HB := Lib.hid (HB.out.trans (hb.mono HB.out.size))
        go_wp2_with fail
        go_ret
        exact ⟨rfl, HB.out⟩
  · go_enter Tryd.func13, Tryd.ntmps13
    go_wp2_with fail
    refine (HLT.out _).mono ?_
    rintro e w' ⟨rfl, rfl⟩
    rw [show decide ((ts.length : Int) ≤ 400) = false from decide_eq_false (by omega)]
    go_wp2_with fail
    refine (ratAwake_any _).mono ?_
    rintro e u3 ⟨rfl, hb⟩
    go_wp2_with fail
    go_ret
    exact ⟨rfl, hb⟩
end Go.Proofs.YtfaggdjoogpmmaaDoor
