/- ref05.Unit, in memory of its own. -/
import Derived.Test.YtodiokladojnjaaBRef6
namespace Go.Proofs.Ytodiokladojnjaa.B
open Go Go.RowKit Go.Shelf
open BM (bt St)

set_option maxRecDepth 100000 in
set_option maxHeartbeats 1000000 in
theorem runit_own (m : Nat) (n1 : 1 ≤ m) (n2 : m ≤ 64) (w : World) :
    Calls Try.prog 41 #[.int .i64 (m : Int)] w fun e W => (∃ g cc, e = .returned (.tuple #[.agg #[.int .i64 (m : Int), .slice (some ⟨g, 0, none⟩) m cc], .int .i64 0]) ∧ Own W (w.heap.size + 1 + 1) (.slice (some ⟨g, 0, none⟩) m cc) (tab m unitF)) ∧ Below w.heap.size w W := by
  have hbx := box0 w
  have hb1 := (Below.refl w.heap.size w).alloc (Nat.le_refl _) (.cells #[.int .i64 0, .slice none 0 0] 49)
  obtain ⟨w1, hw1⟩ : ∃ w1, w.alloc (.cells #[.int .i64 0, .slice none 0 0] 49) = w1 := ⟨_, rfl⟩
  have hs1 : w1.heap.size = w.heap.size + 1 := by rw [← hw1]; simp
  rw [hw1] at hbx hb1
  have HBX := Lib.hid hbx
  have HB1 := Lib.hid hb1
  have HS1 := Lib.hid hs1
  have c0 := hbx.c0
  have c1 := hbx.c1
  have f0 := hbx.f0
  have f1 := hbx.f1
  clear hs1
  obtain ⟨y0, y1, y2, y3⟩ := box0 w1
  have hmk : Mk w (w1.alloc (.cells #[.int .i64 (m : Int), .slice none 0 0] 49)) w1.heap.size (w1.heap.size + 1) m [] :=
    ⟨⟨none, 0, MBox.new w1 (m : Int) none 0 0 _, Own.nil _ _⟩, hb1.alloc (by have := HS1.out; omega) _, by simp, by omega, by have := HS1.out; omega⟩
  have HMK := Lib.hid hmk
  have HR0 := Lib.hid (hbx.alloc (.cells #[.int .i64 (m : Int), .slice none 0 0] 49))
  clear hbx hb1 hmk c0 c1 f0 f1
  go_enter Try.func41, Try.ntmps41
  go_wp2_with fail
  clear y0 y1 y2 y3
  go_loopw [5] (fun i wr => ∃ k : Nat, i = .int .i64 (k : Int) ∧ k ≤ m ∧ Mk w wr w1.heap.size (w1.heap.size + 1) m (tab k unitF) ∧ MBox wr w.heap.size 0 none 0 0) (fun i _ => m - (intOf i).toNat)
  case atStart => exact ⟨0, rfl, Nat.zero_le _, HMK.out, HR0.out⟩
  case round =>
    clear HMK HR0
    obtain ⟨k, rfl, hk, hmk, hres⟩ := hrel
    obtain ⟨aa, cc, hbx, ho⟩ := hmk.box
    have HMK := Lib.hid hmk
    have HRES := Lib.hid hres
    have hsz := hmk.size
    by_cases hlt : k < m
    · have hsh := shl_one k
      obtain ⟨y, hy⟩ : ∃ y, 1#64 <<< k = y := ⟨_, rfl⟩
      rw [hy] at hsh
      have HY := Lib.hid hy
      have m1 := hbx.c1
      have mf := hbx.f1
      have k1 := cell_later (.cells #[.int .u64 (y.toNat : Int)] 32) m1
      have HBB := Lib.hid hbx
      have HO := Lib.hid ho
      have hlen : (tab k unitF).length < 1000000 := by rw [tab_len]; omega
      clear hy hmk hres hbx ho
      go_wp2_with (at_builtin; refine wpList_app1 (α := V) rfl _ _ rfl y (by rfl) (HO.out.alloc (.cells #[.int .u64 (y.toNat : Int)] 32)) rfl (cell_new _ _ _) hlen (by simp; omega) ?_; intro a3 cap3 w6 hown3 hg3 hb3 hw3; have k2 := (hb3.cell (p := ⟨w1.heap.size, 1, none⟩) (by show w1.heap.size < _; omega)).trans k1; have k3 := (hb3.frozen (p := ⟨w1.heap.size, 1, none⟩) (by show w1.heap.size < _; omega)).trans (frozen_later _ m1 mf); have HO3 := Lib.hid hown3; have HB3 := Lib.hid hb3; clear hown3 hg3 hb3 hw3)
      go_roundw
      case rel =>
        have hbb := ((Below.refl (w1.heap.size + 1) wr).alloc hsz (.cells #[.int .u64 (y.toNat : Int)] 32)).trans HB3.out
        have hpush := HMK.out.push HBB.out HO3.out hbb
        rw [← HY.out, show (1#64 <<< k) = unitF k from rfl, tab_snoc] at hpush
        refine ⟨k + 1, by go_num, hlt, hpush, ?_⟩
        have e := HRES.out
        have hh : w.heap.size < w1.heap.size := by have := HS1.out; omega
        exact (⟨(hbb.cell (p := ⟨w.heap.size, 0, none⟩) (by show w.heap.size < _; omega)).trans e.c0, (hbb.cell (p := ⟨w.heap.size, 1, none⟩) (by show w.heap.size < _; omega)).trans e.c1, (hbb.frozen (p := ⟨w.heap.size, 0, none⟩) (by show w.heap.size < _; omega)).trans e.f0, (hbb.frozen (p := ⟨w.heap.size, 1, none⟩) (by show w.heap.size < _; omega)).trans e.f1⟩ : MBox w6 w.heap.size 0 none 0 0).other (show w1.heap.size ≠ w.heap.size by omega) _
      case measure => simp [intOf]; omega
    · obtain rfl : k = m := by omega
      have m0 := hbx.c0
      have m1 := hbx.c1
      have r0 := hres.c0
      have r1 := hres.c1
      have rf0 := hres.f0
      have rf1 := hres.f1
      have r1' : (wr.setCell ⟨w.heap.size, 0, none⟩ (.int .i64 (k : Int))).cell? ⟨w.heap.size, 1, none⟩ = some (.slice none 0 0) := (World.cell?_setCell_other _ _ _ _ (by intro e; cases e)).trans r1
      have hset := hres.set (C' := (k : Int)) (a' := aa) (n' := (tab k unitF).length) (cap' := cc)
      have HSET := Lib.hid hset
      have HO := Lib.hid ho
      clear hmk hres hbx ho hset
      go_wp2_with fail
      have HSS1 := HS1.out
      refine bodyPost_ret (v := .tuple #[.agg #[.int .i64 (k : Int), .slice aa (tab k unitF).length cc], .int .i64 0]) (by simp [results, Try.results41, go_sem, HSET.out.c0, HSET.out.c1]) rfl ?_
      rcases HO.out.parts with ⟨_, e2⟩ | ⟨g, c2, e2, hB, _⟩
      · have e3 := congrArg List.length e2; rw [tab_len] at e3; exact absurd (show k = 0 from e3) (by omega)
      · have e4 : aa = some ⟨g, 0, none⟩ := by injection e2
        subst e4
        have hne : (Value.slice (some ⟨g, 0, none⟩) (tab k unitF).length cc).ownBlock ≠ some w.heap.size := by intro e; simp [Value.ownBlock] at e; omega
        refine ⟨⟨g, cc, by rw [tab_len], ?_⟩, ?_⟩
        · have := (HO.out.other (.int .i64 (k : Int)) (p := ⟨w.heap.size, 0, none⟩) hne).other (.slice (some ⟨g, 0, none⟩) (tab k unitF).length cc) (p := ⟨w.heap.size, 1, none⟩) hne
          rw [tab_len] at this ⊢
          rw [← HSS1]
          exact this
        · exact (HMK.out.below.setCell (p := ⟨w.heap.size, 0, none⟩) (Nat.le_refl _) _).setCell (p := ⟨w.heap.size, 1, none⟩) (Nat.le_refl _) _
end Go.Proofs.Ytodiokladojnjaa.B
