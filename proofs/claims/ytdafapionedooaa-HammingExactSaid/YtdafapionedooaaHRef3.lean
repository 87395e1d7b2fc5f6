/- ref06.Decode. -/
import Derived.Test.YtdafapionedooaaHRef2
namespace Go.Proofs.Ytdafapionedooaa.G.H
open Go Go.RowKit Go.Shelf

set_option maxRecDepth 100000 in
set_option maxHeartbeats 4000000 in
/-- **ref06.Decode** -/
theorem rdecode_no (a : Option Addr) (n cap : Nat) (w : World) (hl : n ≠ 9) :
    Calls Try.prog 16 #[.slice a n cap] w (DecNo w) := by
  have hb0 := Box.new w 34 [.int .i64 0, .slice none 0 0, .slice none 0 0]
  have hw0 : Below w.heap.size w (w.alloc (.cells #[.int .i64 0, .slice none 0 0, .slice none 0 0] 34)) := (Below.refl _ w).alloc (Nat.le_refl _) _
  obtain ⟨w1, hw1⟩ : ∃ w1, w.alloc (.cells #[.int .i64 0, .slice none 0 0, .slice none 0 0] 34) = w1 := ⟨_, rfl⟩
  have hb1 : Box w1 w.heap.size 34 [.int .i64 0, .slice none 0 0, .slice none 0 0] := by rw [← hw1]; exact hb0
  rw [hw1] at hw0
  have HB := Lib.hid hb1
  have HW := Lib.hid hw0
  have HS := Lib.hid (rsyndrome_no a n cap w1 hl)
  clear hb0 hb1 hw0 hl
  go_enter Try.func16, Try.ntmps16
  go_wp2_with fail
  refine HS.out.mono ?_
  rintro e w2 ⟨rfl, hw2⟩
  have hb2 := HB.out.below hw2
  have c0 := hb2.cell 0 rfl
  have c1 := hb2.cell 1 rfl
  have c2 := hb2.cell 2 rfl
  have f0 := hb2.free 0
  have f1 := hb2.free 1
  have f2 := hb2.free 2
  have hb3 := box3_set hb2 (.int .i64 0) (.slice none 0 0) (.slice none 0 0)
  have hw3 := below3 (HW.out.trans (hw2.mono HW.out.size)) (Nat.le_refl _) (.int .i64 0) (.slice none 0 0) (.slice none 0 0)
  have HB3 := Lib.hid hb3
  have HW3 := Lib.hid hw3
  have hgs : w.heap.size < w2.heap.size := hb2.lt
  clear hb2 hb3 hw3 hw2
  go_wp2_with fail
  refine bodyPost_ret (v := .tuple #[.agg #[.int .i64 0, .slice none 0 0, .slice none 0 0], .int .i64 0, .int .i64 7]) (by simp [results, Try.results16, go_sem, HB3.out.cell 0 rfl, HB3.out.cell 1 rfl, HB3.out.cell 2 rfl]) rfl ⟨rfl, HW3.out⟩

set_option maxRecDepth 100000 in
set_option maxHeartbeats 4000000 in
theorem rdecode_yes (a : Option Addr) (zs : List Y) (cap : Nat) (w : World) (hR : Row w a zs cap) (hl : zs.length = 9) :
    Calls Try.prog 16 #[.slice a 9 cap] w (DecR w zs (syn zs 72)) := by
  have hb0 := Box.new w 34 [.int .i64 0, .slice none 0 0, .slice none 0 0]
  have hw0 : Below w.heap.size w (w.alloc (.cells #[.int .i64 0, .slice none 0 0, .slice none 0 0] 34)) := (Below.refl _ w).alloc (Nat.le_refl _) _
  obtain ⟨w1, hw1⟩ : ∃ w1, w.alloc (.cells #[.int .i64 0, .slice none 0 0, .slice none 0 0] 34) = w1 := ⟨_, rfl⟩
  have hb1 : Box w1 w.heap.size 34 [.int .i64 0, .slice none 0 0, .slice none 0 0] := by rw [← hw1]; exact hb0
  rw [hw1] at hw0
  have hR1 := hR.below hw0
  have HB := Lib.hid hb1
  have HW := Lib.hid hw0
  have HR := Lib.hid hR1
  have HS := Lib.hid (rsyndrome_yes a zs cap w1 hR1 hl)
  have HL := Lib.hid hl
  obtain ⟨s, hs⟩ : ∃ s, syn zs 72 = s := ⟨_, rfl⟩
  rw [hs] at HS ⊢
  clear hb0 hb1 hw0 hl hR hR1 hs
  go_enter Try.func16, Try.ntmps16
  go_wp2_with fail
  refine HS.out.mono ?_
  rintro e w2 ⟨rfl, hw2⟩
  have HB2 := Lib.hid (HB.out.below hw2)
  have HR2 := Lib.hid (HR.out.below hw2)
  have HW2 := Lib.hid (HW.out.trans (hw2.mono HW.out.size))
  have hgs : w.heap.size < w2.heap.size := HB2.out.lt
  clear hw2 HB HR HW HS hw1
  obtain ⟨p, hp⟩ : ∃ p, w.heap.size = p := ⟨_, rfl⟩
  rw [hp] at HB2 hgs ⊢
  have HP := Lib.hid hp
  clear hp
  by_cases h0 : s = 0
  · obtain ⟨d0, d1, d2, d3⟩ := dec_0 (w := zs) h0
    have HD := Lib.hid (And.intro d0 (And.intro d1 (And.intro d2 d3)))
    have hsb : ((s.toNat : Int) == 0) = true := by rw [h0]; rfl
    clear h0 d0 d1 d2 d3
    go_wp2_with (at_builtin; refine wpList_appAny (α := Y) (zs := []) (ys := zs) (B := w2.heap.size) rfl _ _ rfl rfl (Own.nil _ _) (cap := cap) (ad := a) (by rw [HL.out]; rfl) HR2.out (by rw [HL.out]; decide) (Nat.le_refl _) ?_; intro a3 cap3 w3 ho3 hw3; rw [show ([] : List Y).length + zs.length = 9 by rw [HL.out]; rfl] at ho3 ⊢; have hb3 := HB2.out.below hw3; have c0 := hb3.cell 0 rfl; have c1 := hb3.cell 1 rfl; have c2 := hb3.cell 2 rfl; have f0 := hb3.free 0; have f1 := hb3.free 1; have f2 := hb3.free 2; have HB3 := Lib.hid hb3; have HO3 := Lib.hid ho3; have HW3 := Lib.hid hw3; clear hb3 ho3 hw3)
    have HB4 := Lib.hid (box3_set HB3.out (.int .i64 0) (.slice a3 9 cap3) (.slice none 0 0))
    have hw4 := below3 (HW2.out.trans (HW3.out.mono HW2.out.size)) (by rw [HP.out]; exact Nat.le_refl p) (.int .i64 0) (.slice a3 9 cap3) (.slice none 0 0)
    have HW4 := Lib.hid hw4
    have HO4 := Lib.hid (own3 HO3.out hgs (.int .i64 0) (.slice a3 9 cap3) (.slice none 0 0))
    refine bodyPost_ret (v := .tuple #[.agg #[.int .i64 0, .slice a3 9 cap3, .slice none 0 0], .int .i64 (-1), .int .i64 0]) (by simp [results, Try.results16, go_sem, HB4.out.cell 0 rfl, HB4.out.cell 1 rfl, HB4.out.cell 2 rfl]) rfl ?_
    refine ⟨a3, cap3, none, 0, ?_, ?_, ?_, HW4.out⟩
    · rw [HD.out.1, HD.out.2.1, HD.out.2.2.1, HD.out.2.2.2, HL.out]; rfl
    · rw [HD.out.2.1, HL.out, HP.out]; exact HO4.out.mono (by omega)
    · rw [HD.out.2.2.1]; exact Own.nil _ _
  · have hsb : ((s.toNat : Int) == 0) = false := by
      have := beq_Y s 0
      rw [decide_eq_false h0] at this
      exact this
    have H0 := Lib.hid h0
    clear h0
    go_wp2_with (at_builtin; refine wpList_appAny (α := Y) (zs := []) (ys := zs) (B := w2.heap.size) rfl _ _ rfl rfl (Own.nil _ _) (cap := cap) (ad := a) (by rw [HL.out]; rfl) HR2.out (by rw [HL.out]; decide) (Nat.le_refl _) ?_; intro a3 cap3 w3 ho3 hw3; rw [show ([] : List Y).length + zs.length = 9 by rw [HL.out]; rfl] at ho3 ⊢; have hb3 := HB2.out.below hw3; have HB3 := Lib.hid hb3; have HO3 := Lib.hid ho3; have HW3 := Lib.hid hw3; clear hb3 ho3 hw3)
    have HC := Lib.hid (rcolumns_any w3)
    refine HC.out.mono ?_
    rintro e w4 ⟨ac, cc, rfl, hoc, hw4⟩
    obtain ⟨gk, rfl, _, _⟩ := hoc.fresh (by rw [cols_len]; decide)
    obtain ⟨g, rfl, hg1, hg2⟩ := HO3.out.fresh (by rw [List.nil_append, HL.out]; decide)
    have HOC := Lib.hid hoc
    have HB4 := Lib.hid (HB3.out.below hw4)
    have HW4 := Lib.hid ((HW2.out.trans (HW3.out.mono HW2.out.size)).trans (hw4.mono (HW2.out.trans (HW3.out.mono HW2.out.size)).size))
    have HO4 : Hid (Own w4 w2.heap.size (.slice (some ⟨g, 0, none⟩) 9 cap3) zs) := Lib.hid (HO3.out.below hw4)
    have hrk := hoc.room
    have hrm := HO3.out.room
    clear hoc hw4 HB3 HW3 HO3 HC HB2 HW2 HR2 hsb
    obtain ⟨j, hj⟩ : ∃ j, idx s = j := ⟨_, rfl⟩
    have hj72 : j ≤ 72 := by rw [← hj]; exact idx_le s
    have HJ := Lib.hid hj
    clear hj
    go_wp2_with fail
    go_loop [9] (fun i => ∃ k : Nat, i = .int .i64 (k : Int) ∧ k ≤ j) (fun i => 72 - (intOf i).toNat)
    case atStart => exact ⟨0, rfl, Nat.zero_le _⟩
    case round =>
      obtain ⟨i, rfl, hij⟩ := hrel
      by_cases hlt : i < 72
      · have hck := HOC.out.cellY i (by rw [cols_len]; exact hlt)
        rw [← col_eq] at hck
        by_cases he : i = j
        · subst he
          obtain ⟨d0, d1, d2, d3⟩ := dec_1 (w := zs) H0.out (by rw [HJ.out]; exact hlt)
          have HD := Lib.hid (And.intro d0 (And.intro d1 (And.intro d2 d3)))
          have hcs : col i = s := by have := idx_col (s := s) (by rw [HJ.out]; exact hlt); rwa [HJ.out] at this
          rw [hcs] at hck
          have hbe : ((s.toNat : Int) == (s.toNat : Int)) = true := by simp
          rw [HJ.out] at HD
          obtain ⟨q, hq⟩ : ∃ q, i / 8 = q := ⟨_, rfl⟩
          obtain ⟨r, hr⟩ : ∃ r, i % 8 = r := ⟨_, rfl⟩
          have hql : q < 9 := by omega
          have hqi : (i : Int) / 8 = (q : Int) := by omega
          have hri : (i : Int) % 8 = (r : Int) := by omega
          have hr8 : r < 8 := by omega
          have hfl : flipAt zs i = zs.set q (el zs q ^^^ ((1 : Y) <<< r)) := by unfold flipAt; rw [hq, hr]
          rw [hfl, hq] at HD
          clear d0 d1 d2 d3 hq hr hfl hcs
          have cq := HO4.out.cellY q (by rw [HL.out]; exact hql)
          have fq := HO4.out.free q (by rw [HL.out]; exact hql)
          have hsh := shl_Y hr8
          have hxy := xor_Y (el zs q) ((1 : Y) <<< r)
          obtain ⟨x, hx⟩ : ∃ x, el zs q = x := ⟨_, rfl⟩
          obtain ⟨y, hy⟩ : ∃ y, (1 : Y) <<< r = y := ⟨_, rfl⟩
          obtain ⟨z, hz⟩ : ∃ z, x ^^^ y = z := ⟨_, rfl⟩
          rw [hx] at cq hxy HD
          rw [hy] at hsh hxy HD
          rw [hz] at hxy HD
          have ho6 := HO4.out.setY q z
          have hgp : g ≠ p := by omega
          have hb6 := HB4.out.other (q := ⟨g, q, none⟩) hgp (.int .u8 (z.toNat : Int))
          have hw6 := HW4.out.setCell (p := ⟨g, q, none⟩) (by rw [HP.out]; show p ≤ g; omega) (.int .u8 (z.toNat : Int))
          obtain ⟨w6, hn6⟩ : ∃ w6, w4.setCell ⟨g, q, none⟩ (.int .u8 (z.toNat : Int)) = w6 := ⟨_, rfl⟩
          rw [hn6] at ho6 hb6 hw6
          clear hx hy hz
          have hp6 := hb6.lt
          have hoc := own_list w6 w.heap.size [q] hw6.size (by show 1 ≤ 1000000; decide)
          have hb7 := hb6.alloc (.cells #[.int .i64 (q : Int)] 3)
          have ho7 := ho6.alloc (.cells #[.int .i64 (q : Int)] 3)
          have hw7 := hw6.alloc hw6.size (.cells #[.int .i64 (q : Int)] 3)
          obtain ⟨gc, hgc⟩ : ∃ gc, w6.heap.size = gc := ⟨_, rfl⟩
          obtain ⟨w7, hn7⟩ : ∃ w7, w6.alloc (.cells #[.int .i64 (q : Int)] 3) = w7 := ⟨_, rfl⟩
          have hoc7 : Own w7 w.heap.size (.slice (some ⟨gc, 0, none⟩) 1 1) [q] := by rw [← hn7, ← hgc]; exact hoc
          rw [hn7] at hb7 ho7 hw7
          have c0 := hb7.cell 0 rfl
          have c1 := hb7.cell 1 rfl
          have c2 := hb7.cell 2 rfl
          have f0 := hb7.free 0
          have f1 := hb7.free 1
          have f2 := hb7.free 2
          have HB8 := Lib.hid (box3_set hb7 (.int .i64 1) (.slice (some ⟨g, 0, none⟩) 9 cap3) (.slice (some ⟨gc, 0, none⟩) 1 1))
          have HW8 := Lib.hid (below3 hw7 (by rw [HP.out]; exact Nat.le_refl p) (.int .i64 1) (.slice (some ⟨g, 0, none⟩) 9 cap3) (.slice (some ⟨gc, 0, none⟩) 1 1))
          have HO8 := Lib.hid (own3 ho7 hgs (.int .i64 1) (.slice (some ⟨g, 0, none⟩) 9 cap3) (.slice (some ⟨gc, 0, none⟩) 1 1))
          have HC8 := Lib.hid (((hoc7.other (p := ⟨p, 0, none⟩) (.int .i64 1) (by show some gc ≠ some p; intro e; cases e; omega)).other (p := ⟨p, 1, none⟩) (.slice (some ⟨g, 0, none⟩) 9 cap3) (by show some gc ≠ some p; intro e; cases e; omega)).other (p := ⟨p, 2, none⟩) (.slice (some ⟨gc, 0, none⟩) 1 1) (by show some gc ≠ some p; intro e; cases e; omega))
          clear hb6 ho6 hw6 hoc hb7 ho7 hw7 hoc7 hp6
          go_wp2_with fail
          refine bodyPost_ret (v := .tuple #[.agg #[.int .i64 1, .slice (some ⟨g, 0, none⟩) 9 cap3, .slice (some ⟨gc, 0, none⟩) 1 1], .int .i64 (i : Int), .int .i64 0]) (by simp [results, Try.results16, go_sem, HB8.out.cell 0 rfl, HB8.out.cell 1 rfl, HB8.out.cell 2 rfl]) rfl ?_
          refine ⟨some ⟨g, 0, none⟩, cap3, some ⟨gc, 0, none⟩, 1, ?_, ?_, ?_, HW8.out⟩
          · rw [HD.out.1, HD.out.2.1, HD.out.2.2.1, HD.out.2.2.2, List.length_set, HL.out]; rfl
          · rw [HD.out.2.1, List.length_set, HL.out, HP.out]; exact HO8.out.mono (by omega)
          · rw [HD.out.2.2.1]; exact HC8.out

        · have hne : col i ≠ s := idx_not (by rw [HJ.out]; omega)
          have hbe : (((col i).toNat : Int) == (s.toNat : Int)) = false := by rw [beq_Y, decide_eq_false hne]
          obtain ⟨c, hcc⟩ : ∃ c, col i = c := ⟨_, rfl⟩
          rw [hcc] at hck hbe
          clear hcc hne
          go_wp2_with fail
          go_round
          case rel => exact ⟨i + 1, by go_num, by omega⟩
          case measure => simp [intOf]; omega
      · obtain ⟨d0, d1, d2, d3⟩ := dec_2 (w := zs) H0.out (by rw [HJ.out]; omega)
        have HD := Lib.hid (And.intro d0 (And.intro d1 (And.intro d2 d3)))
        have c0 := HB4.out.cell 0 rfl
        have c1 := HB4.out.cell 1 rfl
        have c2 := HB4.out.cell 2 rfl
        have f0 := HB4.out.free 0
        have f1 := HB4.out.free 1
        have f2 := HB4.out.free 2
        have HB5 := Lib.hid (box3_set HB4.out (.int .i64 2) (.slice none 0 0) (.slice none 0 0))
        have HW5 := Lib.hid (below3 HW4.out (by rw [HP.out]; exact Nat.le_refl p) (.int .i64 2) (.slice none 0 0) (.slice none 0 0))
        clear d0 d1 d2 d3
        go_wp2_with fail
        refine bodyPost_ret (v := .tuple #[.agg #[.int .i64 2, .slice none 0 0, .slice none 0 0], .int .i64 (-1), .int .i64 0]) (by simp [results, Try.results16, go_sem, HB5.out.cell 0 rfl, HB5.out.cell 1 rfl, HB5.out.cell 2 rfl]) rfl ?_
        refine ⟨none, 0, none, 0, ?_, ?_, ?_, HW5.out⟩
        · rw [HD.out.1, HD.out.2.1, HD.out.2.2.1, HD.out.2.2.2]; rfl
        · rw [HD.out.2.1]; exact Own.nil _ _
        · rw [HD.out.2.2.1]; exact Own.nil _ _
end Go.Proofs.Ytdafapionedooaa.G.H
