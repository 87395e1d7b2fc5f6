/- The walk of law01.NatMade. -/
import Derived.Test.YtneimnacanhjmaaDoorBAgree
import Derived.Test.YtneimnacanhjmaaDoorB10
import Derived.Test.YtneimnacanhjmaaDoorBOdd
namespace Go.Proofs.YtneimnacanhjmaaDoor
open Go Go.RowKit Go.Shelf

theorem ne_some {p q : Nat} (h : p ≠ q) : some p ≠ some q := fun e => h (Option.some.inj e)
theorem num_row {W : World} {a : Option Addr} {c x : Nat} (h : Num W (.agg #[.slice a (M.dig x).length c]) x) : Row W a (M.dig x) c := by
  obtain ⟨a', c', e, hr⟩ := h
  cases e
  exact hr
theorem LVar.store {W : World} {p : Nat} {a s : Option Addr} {ca c : Nat} {zs ys : List Int} (h : LVar W p a ca zs) (hr : Row W s ys c) : LVar (W.setCell ⟨p, 0, none⟩ (.slice s ys.length c)) p s c ys :=
  ⟨World.cell?_setCell_same _ _ _ h.cell, hr.storedAt h.cell _⟩

set_option maxRecDepth 100000 in
set_option maxHeartbeats 4000000 in
theorem made_any (ta : Option Addr) (tc : Nat) (ts : List Int) (w : World) (hR : Row w ta ts tc) :
    Calls Tryd.prog 4 #[.slice ta ts.length tc] w fun e W' => e = .returned (.bool true) ∧ Below w.heap.size w W' := by
  have HR := Lib.hid hR
  have HLT := Lib.hid (fun W : World => light_any ta ts.length tc W)
  clear hR
  by_cases hl : (ts.length : Int) ≤ 400
  · go_enter Tryd.func4, Tryd.ntmps4
    go_wp2_with fail
    refine (HLT.out _).mono ?_
    rintro e w' ⟨rfl, rfl⟩
    rw [show decide ((ts.length : Int) ≤ 400) = true from decide_eq_true hl]
    go_wp2_with fail
    refine (roll_any ta tc ts _ HR.out (by omega)).mono ?_
    rintro e w1 ⟨rfl, hd, hb1⟩
    have HD := Lib.hid hd
    have HB1 := Lib.hid hb1
    have hs1 : w'.heap.size < w1.heap.size := hd.lt
    clear hd hb1 HR HLT
    go_wp2_with fail
    refine (show Calls Tryd.prog 22 #[.pointer (some ⟨w'.heap.size, 0, none⟩), .int .i64 12] w1 _ from diceNat_keep w1 (w'.heap.size) ta tc ts 0 12 (by omega) HD.out).mono ?_
    rintro e w2 ⟨v, x, k2, rfl, -, hx, hd2, hg2, hkx⟩
    have HD2 := Lib.hid hd2
    have HB2 := Lib.hid (HB1.out.trans (below_of_dice hg2 (Nat.le_refl _) (Nat.le_of_lt hs1)))
    have HKX := Lib.hid hkx
    have hs2 := hg2.size
    clear hd2 hg2 hkx HD HB1
    go_wp2_with fail
    refine (show Calls Tryd.prog 22 #[.pointer (some ⟨w'.heap.size, 0, none⟩), .int .i64 12] w2 _ from diceNat_keep w2 (w'.heap.size) ta tc ts k2 12 (by omega) HD2.out).mono ?_
    rintro e w3 ⟨u, y, k3, rfl, hu, hy, hd3, hg3, hky⟩
    obtain ⟨a, ca, rfl, hxr⟩ := HKX.out w3 hg3
    obtain ⟨b, cb, rfl, hyr⟩ := hu
    have HB3 := Lib.hid (HB2.out.trans (below_of_dice hg3 (Nat.le_refl _) (by omega)))
    have hs3 : w'.heap.size < w3.heap.size := by have := hg3.size; omega
    have hd5 := (hd3.alloc (.cells #[.slice a (M.dig x).length ca] 24)).alloc (.cells #[.slice b (M.dig y).length cb] 24)
    have hG5 := grown_alloc (grown_alloc (World.grownBy.refl w3 (some w'.heap.size)) (.cells #[.slice a (M.dig x).length ca] 24)) (.cells #[.slice b (M.dig y).length cb] 24)
    have va := (LVar.new hxr).alloc (.cells #[.slice b (M.dig y).length cb] 24)
    have vb := LVar.new (hyr.alloc (.cells #[.slice a (M.dig x).length ca] 24))
    rw [World.size_alloc] at vb
    have fa := frozen_later (.cells #[.slice b (M.dig y).length cb] 24) (cell_of_new w3 (.slice a (M.dig x).length ca) 24).1 (cell_of_new w3 (.slice a (M.dig x).length ca) 24).2
    have HD5 := Lib.hid hd5
    have HG5 := Lib.hid hG5
    have HG3 := Lib.hid hg3
    have HKY := Lib.hid hky
    have V0 := Lib.hid va
    have V1 := Lib.hid vb
    have F0 := Lib.hid fa
    clear hxr hyr hd3 hd5 hG5 hg3 hky va vb fa HD2 HB2 hs2 hs1
    go_wp2_with fail
    refine (one_any _ _ ta tc ts k3 4 (by decide) (by decide) HD5.out).mono ?_
    rintro e w6 ⟨bb, k6, rfl, hd6, hg6⟩
    have hG6 := grown_trans HG5.out hg6
    have hxr := num_row (HKX.out w6 (grown_trans HG3.out hG6))
    have hyr := num_row (HKY.out w6 hG6)
    have HB := Lib.hid (HB3.out.trans (below_of_dice hG6 (Nat.le_refl _) (Nat.le_of_lt hs3)))
    have V_A := Lib.hid (show LVar w6 w3.heap.size a ca (M.dig x) from ⟨hg6.cell V0.out.cell (ne_some (p := w3.heap.size) (by omega)), hxr⟩)
    have V_B := Lib.hid (show LVar w6 (w3.heap.size + 1) b cb (M.dig y) from ⟨hg6.cell V1.out.cell (ne_some (p := w3.heap.size + 1) (by omega)), hyr⟩)
    have FA := Lib.hid ((World.frozen?_of_block (hg6.block w3.heap.size (by simp only [World.size_alloc]; omega) (ne_some (by omega)))).trans F0.out)
    have HD6 := Lib.hid hd6
    have HG6 := Lib.hid hG6
    clear hd6 hg6 hG6 hxr hyr HD5 HG5 V0 V1 F0 HB3
    cases bb
    · skip
      go_wp2_with fail
      refine (awake_any _).mono ?_
      rintro e w8 ⟨rfl, hb⟩
      replace HB := Lib.hid (HB.out.trans (hb.mono HB.out.size))
      replace V_A := Lib.hid (V_A.out.below hb)
      replace V_B := Lib.hid (V_B.out.below hb)
      clear hb
      have e0_A := V_A.out.cell
      have e0_B := V_B.out.cell
      go_wp2_with fail
      refine (agree_any a b ca cb (M.dig x) (M.dig y) _ V_A.out.row V_B.out.row).mono ?_
      rintro e w9 ⟨rfl, hb⟩
      clear e0_A e0_B
      replace HB := Lib.hid (HB.out.trans (hb.mono HB.out.size))
      replace V_A := Lib.hid (V_A.out.below hb)
      replace V_B := Lib.hid (V_B.out.below hb)
      clear hb
      have e0_A := V_A.out.cell
      have e0_B := V_B.out.cell
      go_wp2_with fail
      refine (agree_any b a cb ca (M.dig y) (M.dig x) _ V_B.out.row V_A.out.row).mono ?_
      rintro e w10 ⟨rfl, hb⟩
      clear e0_A e0_B
      replace HB := Lib.hid (HB.out.trans (hb.mono HB.out.size))
      replace V_A := Lib.hid (V_A.out.below hb)
      replace V_B := Lib.hid (V_B.out.below hb)
      clear hb
      have e0_A := V_A.out.cell
      have e0_B := V_B.out.cell
      go_wp2_with fail
      go_ret
      exact ⟨rfl, HB.out⟩
    · have e0_A := V_A.out.cell
      go_wp2_with fail
      refine (odd_any _ _ ta tc ts k6 a ca (M.dig x) (by omega) HD6.out V_A.out.row).mono ?_
      rintro e w7 ⟨s, c, zs, k7, rfl, hr7, hd7, hg7⟩
      have hyr := num_row (HKY.out w7 (grown_trans HG6.out hg7))
      have hlt6 := LVar.lt V_A.out
      have q0 := hg7.cell V_A.out.cell (ne_some (p := w3.heap.size) (by omega))
      have g0 := (World.frozen?_of_block (hg7.block w3.heap.size hlt6 (ne_some (by omega)))).trans FA.out
      replace HB := Lib.hid ((HB.out.trans (below_of_dice hg7 (Nat.le_refl _) HB.out.size)).setCell (p := ⟨w3.heap.size, 0, none⟩) (by show w'.heap.size ≤ w3.heap.size; omega) (.slice s zs.length c))
      have vb : LVar w7 (w3.heap.size + 1) b cb (M.dig y) := ⟨hg7.cell V_B.out.cell (ne_some (p := w3.heap.size + 1) (by omega)), hyr⟩
      replace V_B := Lib.hid (vb.beside q0 (by omega) (.slice s zs.length c))
      have hr8 := hr7.storedAt q0 (.slice s zs.length c)
      replace V_A := Lib.hid (show LVar (w7.setCell ⟨w3.heap.size, 0, none⟩ (.slice s zs.length c)) w3.heap.size s c zs from ⟨World.cell?_setCell_same _ _ _ q0, hr8⟩)
      clear hyr hlt6 hr7 hr8 hd7 hg7 vb e0_A HD6 HG6 HKX HKY FA HG3
      go_upto_region 7 with fail
      clear q0 g0
      generalize w7.setCell ⟨w3.heap.size, 0, none⟩ (.slice s zs.length c) = w7b at *
      go_wp2_with fail
      refine (awake_any _).mono ?_
      rintro e w8 ⟨rfl, hb⟩
      replace HB := Lib.hid (HB.out.trans (hb.mono HB.out.size))
      replace V_A := Lib.hid (V_A.out.below hb)
      replace V_B := Lib.hid (V_B.out.below hb)
      clear hb
      have e0_A := V_A.out.cell
      have e0_B := V_B.out.cell
      go_wp2_with fail
      refine (agree_any s b c cb zs (M.dig y) _ V_A.out.row V_B.out.row).mono ?_
      rintro e w9 ⟨rfl, hb⟩
      clear e0_A e0_B
      replace HB := Lib.hid (HB.out.trans (hb.mono HB.out.size))
      replace V_A := Lib.hid (V_A.out.below hb)
      replace V_B := Lib.hid (V_B.out.below hb)
      clear hb
      have e0_A := V_A.out.cell
      have e0_B := V_B.out.cell
      go_wp2_with fail
      refine (agree_any b s cb c (M.dig y) zs _ V_B.out.row V_A.out.row).mono ?_
      rintro e w10 ⟨rfl, hb⟩
      clear e0_A e0_B
      replace HB := Lib.hid (HB.out.trans (hb.mono HB.out.size))
      replace V_A := Lib.hid (V_A.out.below hb)
      replace V_B := Lib.hid (V_B.out.below hb)
      clear hb
      have e0_A := V_A.out.cell
      have e0_B := V_B.out.cell
      go_wp2_with fail
      go_ret
      exact ⟨rfl, HB.out⟩
  · go_enter Tryd.func4, Tryd.ntmps4
    go_wp2_with fail
    refine (HLT.out _).mono ?_
    rintro e w' ⟨rfl, rfl⟩
    rw [show decide ((ts.length : Int) ≤ 400) = false from decide_eq_false (by omega)]
    go_wp2_with fail
    refine (awake_any _).mono ?_
    rintro e w8 ⟨rfl, hb⟩
    have HB := Lib.hid hb
    clear hb
    go_wp2_with fail
    go_ret
    exact ⟨rfl, HB.out⟩
end Go.Proofs.YtneimnacanhjmaaDoor
