/- hamming.Decode. -/
import Derived.Test.YtdafapionedooaaHCode
import Derived.Test.YtdafapionedooaaGBox
import Derived.Test.YtdafapionedooaaGInt
import Derived.Test.YtdafapionedooaaGBClone
namespace Go.Proofs.Ytdafapionedooaa.G.H
open Go Go.RowKit Go.Shelf

theorem box3_set {W : World} {p : Nat} {t : TypeId} {v0 v1 v2 : Value} (h : Box W p t [v0, v1, v2]) (u0 u1 u2 : Value) : Box (((W.setCell ⟨p, 0, none⟩ u0).setCell ⟨p, 1, none⟩ u1).setCell ⟨p, 2, none⟩ u2) p t [u0, u1, u2] :=
  ((h.set 0 u0).set 1 u1).set 2 u2
theorem below3 {w W : World} {B p : Nat} (h : Below B w W) (hp : B ≤ p) (u0 u1 u2 : Value) : Below B w (((W.setCell ⟨p, 0, none⟩ u0).setCell ⟨p, 1, none⟩ u1).setCell ⟨p, 2, none⟩ u2) :=
  ((h.setCell (p := ⟨p, 0, none⟩) hp _).setCell (p := ⟨p, 1, none⟩) hp _).setCell (p := ⟨p, 2, none⟩) hp _
theorem own3 {α : Type} [Elt α] {W : World} {B p : Nat} {v : Value} {zs : List α} (h : Own W B v zs) (hp : p < B) (u0 u1 u2 : Value) : Own (((W.setCell ⟨p, 0, none⟩ u0).setCell ⟨p, 1, none⟩ u1).setCell ⟨p, 2, none⟩ u2) B v zs :=
  ((h.setBelow (p := ⟨p, 0, none⟩) hp _).setBelow (p := ⟨p, 1, none⟩) hp _).setBelow (p := ⟨p, 2, none⟩) hp _
/-- What Decode answers for a word whose syndrome is s. -/
def DecR (w : World) (zs : List Y) (s : Y) (e : Ending) (W : World) : Prop :=
  ∃ (a : Option Addr) (c : Nat) (a2 : Option Addr) (c2 : Nat), e = .returned (.tuple #[.agg #[.int .i64 (decO s : Int), .slice a (decW zs s).length c, .slice a2 (decC s).length c2], .int .i64 (decB s), .int .i64 0]) ∧
    Own W w.heap.size (.slice a (decW zs s).length c) (decW zs s) ∧ Own W w.heap.size (.slice a2 (decC s).length c2) (decC s) ∧ Below w.heap.size w W
def DecNo (w : World) (e : Ending) (W : World) : Prop :=
  e = .returned (.tuple #[.agg #[.int .i64 0, .slice none 0 0, .slice none 0 0], .int .i64 0, .int .i64 7]) ∧ Below w.heap.size w W

set_option maxRecDepth 100000 in
set_option maxHeartbeats 4000000 in
/-- **hamming.Decode** -/
theorem decode_no (a : Option Addr) (n cap : Nat) (w : World) (hl : n ≠ 9) :
    Calls Try.prog 15 #[.slice a n cap] w (DecNo w) := by
  have hb0 := Box.new w 34 [.int .i64 0, .slice none 0 0, .slice none 0 0]
  have hw0 : Below w.heap.size w (w.alloc (.cells #[.int .i64 0, .slice none 0 0, .slice none 0 0] 34)) := (Below.refl _ w).alloc (Nat.le_refl _) _
  obtain ⟨w1, hw1⟩ : ∃ w1, w.alloc (.cells #[.int .i64 0, .slice none 0 0, .slice none 0 0] 34) = w1 := ⟨_, rfl⟩
  have hb1 : Box w1 w.heap.size 34 [.int .i64 0, .slice none 0 0, .slice none 0 0] := by rw [← hw1]; exact hb0
  rw [hw1] at hw0
  have HB := Lib.hid hb1
  have HW := Lib.hid hw0
  have HS := Lib.hid (syndrome_no a n cap w1 hl)
  clear hb0 hb1 hw0 hl
  go_enter Try.func15, Try.ntmps15
  go_wp2_with fail
  refine HS.out.mono ?_
  rintro e w2 ⟨rfl, hw2⟩
  have hb2 := HB.out.below hw2
  have c0 := hb2.cell 0 rfl
  have c1 := hb2.cell 1 rfl
  have c2 := hb2.cell 2 rfl
  have f0 := hb2.free 0
  have f1 := hb2.free 1
  have f2 := hb2.free 2
  have hb3 := box3_set hb2 (.int .i64 0) (.slice none 0 0) (.slice none 0 0)
  have hw3 := below3 (HW.out.trans (hw2.mono HW.out.size)) (Nat.le_refl _) (.int .i64 0) (.slice none 0 0) (.slice none 0 0)
  have HB3 := Lib.hid hb3
  have HW3 := Lib.hid hw3
  have hgs : w.heap.size < w2.heap.size := hb2.lt
  clear hb2 hb3 hw3 hw2
  go_wp2_with fail
  refine bodyPost_ret (v := .tuple #[.agg #[.int .i64 0, .slice none 0 0, .slice none 0 0], .int .i64 0, .int .i64 7]) (by simp [results, Try.results15, go_sem, HB3.out.cell 0 rfl, HB3.out.cell 1 rfl, HB3.out.cell 2 rfl]) rfl ⟨rfl, HW3.out⟩

theorem bitI_yes {s : Y} (h : idx s < 72) : bitI s = (idx s : Int) := by unfold bitI; rw [if_pos h]
theorem bitI_no {s : Y} (h : ¬ idx s < 72) : bitI s = -1 := by unfold bitI; rw [if_neg h]
theorem beq_Y (a b : Y) : ((a.toNat : Int) == (b.toNat : Int)) = decide (a = b) := by
  rw [Bool.eq_iff_iff, beq_iff_eq, decide_eq_true_iff]
  exact ⟨Y.ext, fun h => by rw [h]⟩
theorem shl_Y {r : Nat} (h : r < 8) : IntKind.u8.wrap ((2 : Int) ^ r) = (((1 : Y) <<< r).toNat : Int) := by
  have h2 : 2 ^ r < 256 := Nat.pow_lt_pow_right (a := 2) (by decide) h
  rw [BitVec.toNat_shiftLeft, show (1 : Y).toNat = 1 from rfl, Nat.shiftLeft_eq, Nat.one_mul, Nat.mod_eq_of_lt h2]
  have := u8_wrap (2 ^ r) h2
  rwa [Int.natCast_pow] at this

set_option maxRecDepth 100000 in
set_option maxHeartbeats 4000000 in
theorem decode_yes (a : Option Addr) (zs : List Y) (cap : Nat) (w : World) (hR : Row w a zs cap) (hl : zs.length = 9) :
    Calls Try.prog 15 #[.slice a 9 cap] w (DecR w zs (syn zs 72)) := by
  have hb0 := Box.new w 34 [.int .i64 0, .slice none 0 0, .slice none 0 0]
  have hw0 : Below w.heap.size w (w.alloc (.cells #[.int .i64 0, .slice none 0 0, .slice none 0 0] 34)) := (Below.refl _ w).alloc (Nat.le_refl _) _
  obtain ⟨w1, hw1⟩ : ∃ w1, w.alloc (.cells #[.int .i64 0, .slice none 0 0, .slice none 0 0] 34) = w1 := ⟨_, rfl⟩
  have hb1 : Box w1 w.heap.size 34 [.int .i64 0, .slice none 0 0, .slice none 0 0] := by rw [← hw1]; exact hb0
  rw [hw1] at hw0
  have hR1 := hR.below hw0
  have HB := Lib.hid hb1
  have HW := Lib.hid hw0
  have HR := Lib.hid hR1
  have HS := Lib.hid (syndrome_yes a zs cap w1 hR1 hl)
  have HL := Lib.hid hl
  obtain ⟨s, hs⟩ : ∃ s, syn zs 72 = s := ⟨_, rfl⟩
  rw [hs] at HS ⊢
  clear hb0 hb1 hw0 hl hR hR1 hs
  go_enter Try.func15, Try.ntmps15
  go_wp2_with fail
  refine HS.out.mono ?_
  rintro e w2 ⟨rfl, hw2⟩
  have HB2 := Lib.hid (HB.out.below hw2)
  have HR2 := Lib.hid (HR.out.below hw2)
  have HW2 := Lib.hid (HW.out.trans (hw2.mono HW.out.size))
  have hgs : w.heap.size < w2.heap.size := HB2.out.lt
  clear hw2 HB HR HW HS hw1
  obtain ⟨p, hp⟩ : ∃ p, w.heap.size = p := ⟨_, rfl⟩
  rw [hp] at HB2 hgs ⊢
  have HP := Lib.hid hp
  clear hp
  by_cases h0 : s = 0
  · obtain ⟨d0, d1, d2, d3⟩ := dec_0 (w := zs) h0
    have HD := Lib.hid (And.intro d0 (And.intro d1 (And.intro d2 d3)))
    have hsb : ((s.toNat : Int) == 0) = true := by rw [h0]; rfl
    have hC := bclone_any a zs cap w2 HR2.out (by rw [HL.out]; decide)
    rw [HL.out] at hC
    have HC := Lib.hid hC
    clear h0 d0 d1 d2 d3 hC
    go_wp2_with fail
    refine HC.out.mono ?_
    rintro e w3 ⟨a', cap', rfl, ho3, hw3⟩
    have hb3 := HB2.out.below hw3
    have c0 := hb3.cell 0 rfl
    have c1 := hb3.cell 1 rfl
    have c2 := hb3.cell 2 rfl
    have f0 := hb3.free 0
    have f1 := hb3.free 1
    have f2 := hb3.free 2
    have HB4 := Lib.hid (box3_set hb3 (.int .i64 0) (.slice a' 9 cap') (.slice none 0 0))
    have hw4 := below3 (HW2.out.trans (hw3.mono HW2.out.size)) (by rw [HP.out]; exact Nat.le_refl p) (.int .i64 0) (.slice a' 9 cap') (.slice none 0 0)
    have HW4 := Lib.hid hw4
    have HO4 := Lib.hid (own3 ho3 hgs (.int .i64 0) (.slice a' 9 cap') (.slice none 0 0))
    clear hb3 hw3 hw4 ho3
    go_wp2_with fail
    refine bodyPost_ret (v := .tuple #[.agg #[.int .i64 0, .slice a' 9 cap', .slice none 0 0], .int .i64 (-1), .int .i64 0]) (by simp [results, Try.results15, go_sem, HB4.out.cell 0 rfl, HB4.out.cell 1 rfl, HB4.out.cell 2 rfl]) rfl ?_
    refine ⟨a', cap', none, 0, ?_, ?_, ?_, HW4.out⟩
    · rw [HD.out.1, HD.out.2.1, HD.out.2.2.1, HD.out.2.2.2, HL.out]; rfl
    · rw [HD.out.2.1, HL.out, HP.out]; exact HO4.out.mono (by omega)
    · rw [HD.out.2.2.1]; exact Own.nil _ _
  · have hsb : ((s.toNat : Int) == 0) = false := by
      have := beq_Y s 0
      rw [decide_eq_false h0] at this
      exact this
    have HI := Lib.hid (bitWith_any s w2)
    by_cases hi : idx s < 72
    · obtain ⟨d0, d1, d2, d3⟩ := dec_1 (w := zs) h0 hi
      have HD := Lib.hid (And.intro d0 (And.intro d1 (And.intro d2 d3)))
      rw [bitI_yes hi] at HI
      obtain ⟨i, hii⟩ : ∃ i, idx s = i := ⟨_, rfl⟩
      rw [hii] at HI HD hi
      obtain ⟨q, hq⟩ : ∃ q, i / 8 = q := ⟨_, rfl⟩
      obtain ⟨r, hr⟩ : ∃ r, i % 8 = r := ⟨_, rfl⟩
      have hql : q < 9 := by omega
      have hqi : (i : Int) / 8 = (q : Int) := by omega
      have hri : (i : Int) % 8 = (r : Int) := by omega
      have hr8 : r < 8 := by omega
      have hfl : flipAt zs i = zs.set q (el zs q ^^^ ((1 : Y) <<< r)) := by unfold flipAt; rw [hq, hr]
      rw [hfl, hq] at HD
      clear h0 d0 d1 d2 d3 hii hq hr hfl
      go_wp2_with fail
      refine HI.out.mono ?_
      rintro e w3 ⟨rfl, hw3⟩
      have HB3 := Lib.hid (HB2.out.below hw3)
      have hR3 := HR2.out.below hw3
      have HW3 := Lib.hid (HW2.out.trans (hw3.mono HW2.out.size))
      have hgs3 : p < w3.heap.size := HB3.out.lt
      have hC := bclone_any a zs cap w3 hR3 (by rw [HL.out]; decide)
      rw [HL.out] at hC
      have HC := Lib.hid hC
      clear hw3 hR3 hC HB2 HR2 HW2 hgs HI hsb
      go_wp2_with fail
      refine HC.out.mono ?_
      rintro e w4 ⟨a', cap', rfl, ho4, hw4⟩
      obtain ⟨g, ha', hg1, hg2⟩ := ho4.fresh (by rw [HL.out]; decide)
      subst ha'
      have HB4 := Lib.hid (HB3.out.below hw4)
      have HW4 := Lib.hid (HW3.out.trans (hw4.mono HW3.out.size))
      have cq := ho4.cellY q (by rw [HL.out]; exact hql)
      have fq := ho4.free q (by rw [HL.out]; exact hql)
      have hrm := ho4.room
      have hsh := shl_Y hr8
      have hxy := xor_Y (el zs q) ((1 : Y) <<< r)
      obtain ⟨x, hx⟩ : ∃ x, el zs q = x := ⟨_, rfl⟩
      obtain ⟨y, hy⟩ : ∃ y, (1 : Y) <<< r = y := ⟨_, rfl⟩
      obtain ⟨z, hz⟩ : ∃ z, x ^^^ y = z := ⟨_, rfl⟩
      rw [hx] at cq hxy HD
      rw [hy] at hsh hxy HD
      rw [hz] at hxy HD
      have ho5 := ho4.setY q z
      have hgp : g ≠ p := by omega
      have hb5 := HB4.out.other (q := ⟨g, q, none⟩) hgp (.int .u8 (z.toNat : Int))
      have hw5 := HW4.out.setCell (p := ⟨g, q, none⟩) (by rw [HP.out]; show p ≤ g; omega) (.int .u8 (z.toNat : Int))
      obtain ⟨w5, hn5⟩ : ∃ w5, w4.setCell ⟨g, q, none⟩ (.int .u8 (z.toNat : Int)) = w5 := ⟨_, rfl⟩
      rw [hn5] at ho5 hb5 hw5
      have HO5 := Lib.hid ho5
      have HB5 := Lib.hid hb5
      have HW5 := Lib.hid hw5
      clear ho4 hw4 hx hy hz ho5 hb5 hw5 HW4 HB4 HC HB3 HW3
      go_wp2_with fail
      go_region
      clear cq fq hn5 hxy hsh
      obtain ⟨w6, hn6⟩ : ∃ w6, w5.drew = w6 := ⟨_, rfl⟩
      have hb6 : Box w6 p 34 [.int .i64 0, .slice none 0 0, .slice none 0 0] := by rw [← hn6]; exact HB5.out
      have ho6 : Own w6 w3.heap.size (.slice (some ⟨g, 0, none⟩) 9 cap') (zs.set q z) := by rw [← hn6]; exact HO5.out.drewN 1
      have hw6 : Below w.heap.size w w6 := by rw [← hn6]; exact belowN HW5.out 1
      rw [hn6]
      have hp6 := hb6.lt
      have hoc := own_list w6 w.heap.size [q] hw6.size (by show 1 ≤ 1000000; decide)
      have hb7 := hb6.alloc (.cells #[.int .i64 (q : Int)] 3)
      have ho7 := ho6.alloc (.cells #[.int .i64 (q : Int)] 3)
      have hw7 := hw6.alloc hw6.size (.cells #[.int .i64 (q : Int)] 3)
      obtain ⟨gc, hgc⟩ : ∃ gc, w6.heap.size = gc := ⟨_, rfl⟩
      obtain ⟨w7, hn7⟩ : ∃ w7, w6.alloc (.cells #[.int .i64 (q : Int)] 3) = w7 := ⟨_, rfl⟩
      have hoc7 : Own w7 w.heap.size (.slice (some ⟨gc, 0, none⟩) 1 1) [q] := by rw [← hn7, ← hgc]; exact hoc
      rw [hn7] at hb7 ho7 hw7
      have c0 := hb7.cell 0 rfl
      have c1 := hb7.cell 1 rfl
      have c2 := hb7.cell 2 rfl
      have f0 := hb7.free 0
      have f1 := hb7.free 1
      have f2 := hb7.free 2
      have HB8 := Lib.hid (box3_set hb7 (.int .i64 1) (.slice (some ⟨g, 0, none⟩) 9 cap') (.slice (some ⟨gc, 0, none⟩) 1 1))
      have HW8 := Lib.hid (below3 hw7 (by rw [HP.out]; exact Nat.le_refl p) (.int .i64 1) (.slice (some ⟨g, 0, none⟩) 9 cap') (.slice (some ⟨gc, 0, none⟩) 1 1))
      have HO8 := Lib.hid (own3 ho7 hgs3 (.int .i64 1) (.slice (some ⟨g, 0, none⟩) 9 cap') (.slice (some ⟨gc, 0, none⟩) 1 1))
      have HC8 := Lib.hid (((hoc7.other (p := ⟨p, 0, none⟩) (.int .i64 1) (by show some gc ≠ some p; intro e; cases e; omega)).other (p := ⟨p, 1, none⟩) (.slice (some ⟨g, 0, none⟩) 9 cap') (by show some gc ≠ some p; intro e; cases e; omega)).other (p := ⟨p, 2, none⟩) (.slice (some ⟨gc, 0, none⟩) 1 1) (by show some gc ≠ some p; intro e; cases e; omega))
      clear hb6 ho6 hw6 hoc hb7 ho7 hw7 hoc7 hn6 HO5 HB5 HW5 hp6
      go_wp2_with fail
      refine bodyPost_ret (v := .tuple #[.agg #[.int .i64 1, .slice (some ⟨g, 0, none⟩) 9 cap', .slice (some ⟨gc, 0, none⟩) 1 1], .int .i64 (i : Int), .int .i64 0]) (by simp [results, Try.results15, go_sem, HB8.out.cell 0 rfl, HB8.out.cell 1 rfl, HB8.out.cell 2 rfl]) rfl ?_
      refine ⟨some ⟨g, 0, none⟩, cap', some ⟨gc, 0, none⟩, 1, ?_, ?_, ?_, HW8.out⟩
      · rw [HD.out.1, HD.out.2.1, HD.out.2.2.1, HD.out.2.2.2, List.length_set, HL.out]; rfl
      · rw [HD.out.2.1, List.length_set, HL.out, HP.out]; exact HO8.out.mono (by omega)
      · rw [HD.out.2.2.1]; exact HC8.out
    · have hi72 : idx s = 72 := by have := idx_le s; omega
      obtain ⟨d0, d1, d2, d3⟩ := dec_2 (w := zs) h0 hi72
      have HD := Lib.hid (And.intro d0 (And.intro d1 (And.intro d2 d3)))
      rw [bitI_no hi] at HI
      clear h0 d0 d1 d2 d3 hi72 hi
      go_wp2_with fail
      refine HI.out.mono ?_
      rintro e w3 ⟨rfl, hw3⟩
      have hb3 := HB2.out.below hw3
      have c0 := hb3.cell 0 rfl
      have c1 := hb3.cell 1 rfl
      have c2 := hb3.cell 2 rfl
      have f0 := hb3.free 0
      have f1 := hb3.free 1
      have f2 := hb3.free 2
      have HB4 := Lib.hid (box3_set hb3 (.int .i64 2) (.slice none 0 0) (.slice none 0 0))
      have HW4 := Lib.hid (below3 (HW2.out.trans (hw3.mono HW2.out.size)) (by rw [HP.out]; exact Nat.le_refl p) (.int .i64 2) (.slice none 0 0) (.slice none 0 0))
      clear hb3 hw3 HW2 HB2 HI
      go_wp2_with fail
      refine bodyPost_ret (v := .tuple #[.agg #[.int .i64 2, .slice none 0 0, .slice none 0 0], .int .i64 (-1), .int .i64 0]) (by simp [results, Try.results15, go_sem, HB4.out.cell 0 rfl, HB4.out.cell 1 rfl, HB4.out.cell 2 rfl]) rfl ?_
      refine ⟨none, 0, none, 0, ?_, ?_, ?_, HW4.out⟩
      · rw [HD.out.1, HD.out.2.1, HD.out.2.2.1, HD.out.2.2.2]; rfl
      · rw [HD.out.2.1]; exact Own.nil _ _
      · rw [HD.out.2.2.1]; exact Own.nil _ _
end Go.Proofs.Ytdafapionedooaa.G.H
