/- ref05.Apply, Unit. -/
import Derived.Test.YtodiokladojnjaaBRef1
import Derived.Test.YtodiokladojnjaaBBox
namespace Go.Proofs.Ytodiokladojnjaa.B
open Go Go.RowKit Go.Shelf
open BM (bt xs)

/-- A matrix that is being made: in block p, with rows of the call's own. -/
structure Mk (w W : World) (p B : Nat) (C : Int) (ys : List V) : Prop where
  box : ∃ (a : Option Addr) (c : Nat), MBox W p C a ys.length c ∧ Own W B (.slice a ys.length c) ys
  below : Below w.heap.size w W
  size : B ≤ W.heap.size
  pos : p < B
  high : w.heap.size ≤ p
theorem Mk.keep {w W W' : World} {p B : Nat} {C : Int} {ys : List V} (h : Mk w W p B C ys) (hb : Below W.heap.size W W') : Mk w W' p B C ys := by
  obtain ⟨a, c, h1, h2⟩ := h.box
  exact ⟨⟨a, c, h1.below hb, h2.below hb⟩, h.below.trans (hb.mono h.below.size), Nat.le_trans h.size hb.size, h.pos, h.high⟩
/-- A row has been appended. -/
theorem Mk.push {w W W' : World} {p B : Nat} {C : Int} {ys : List V} {x : V} {a a3 : Option Addr} {c c3 : Nat} (h : Mk w W p B C ys) (h1 : MBox W p C a ys.length c) (ho : Own W' B (.slice a3 (ys.length + 1) c3) (ys ++ [x])) (hb : Below B W W') :
    Mk w (W'.setCell ⟨p, 1, none⟩ (.slice a3 (ys.length + 1) c3)) p B C (ys ++ [x]) := by
  have hp := h.pos
  have hw := h.high
  have k0 : W'.cell? ⟨p, 0, none⟩ = some (.int .i64 C) := (hb.cell (p := ⟨p, 0, none⟩) hp).trans h1.c0
  have k1 : W'.cell? ⟨p, 1, none⟩ = some (.slice a ys.length c) := (hb.cell (p := ⟨p, 1, none⟩) hp).trans h1.c1
  have k2 : W'.frozen? ⟨p, 0, none⟩ = false := (hb.frozen (p := ⟨p, 0, none⟩) hp).trans h1.f0
  have k3 : W'.frozen? ⟨p, 1, none⟩ = false := (hb.frozen (p := ⟨p, 1, none⟩) hp).trans h1.f1
  have hl : (ys ++ [x]).length = ys.length + 1 := by rw [List.length_append]; rfl
  refine ⟨⟨a3, c3, ⟨(World.cell?_setCell_other _ _ _ _ (by intro e; cases e)).trans k0, ?_, (World.frozen?_setCell _ _ _ _).trans k2, (World.frozen?_setCell _ _ _ _).trans k3⟩, ?_⟩, ?_, ?_, hp, hw⟩
  · rw [hl]; exact World.cell?_setCell_same' _ _ _ (by rw [k1]; rfl)
  · rw [hl]; exact ho.setBelow (show p < B from hp) _
  · exact (h.below.trans (hb.mono (by omega))).setCell (p := ⟨p, 1, none⟩) hw _
  · have := hb.size
    have h6 := h.size
    simpa [World.setCell] using Nat.le_trans h6 this

set_option maxRecDepth 100000 in
set_option maxHeartbeats 1000000 in
/-- **ref05.Unit** -/
theorem runit_any (n : Int) (w : World) :
    Calls Try.prog 41 #[.int .i64 n] w fun e W => (∃ v, e = .returned (.tuple #[v, .int .i64 (if sideB n then 0 else 2)]) ∧ MatR w.heap.size W v (if sideB n then n else 0) (if sideB n then tab n.toNat unitF else [])) ∧ Below w.heap.size w W := by
  have hbx := box0 w
  have hb1 := (Below.refl w.heap.size w).alloc (Nat.le_refl _) (.cells #[.int .i64 0, .slice none 0 0] 49)
  obtain ⟨w1, hw1⟩ : ∃ w1, w.alloc (.cells #[.int .i64 0, .slice none 0 0] 49) = w1 := ⟨_, rfl⟩
  have hs1 : w1.heap.size = w.heap.size + 1 := by rw [← hw1]; simp
  rw [hw1] at hbx hb1
  have HBX := Lib.hid hbx
  have HB1 := Lib.hid hb1
  have HS1 := Lib.hid hs1
  have c0 := hbx.c0
  have c1 := hbx.c1
  have f0 := hbx.f0
  have f1 := hbx.f1
  clear hs1
  by_cases hs : 1 ≤ n ∧ n ≤ 64
  · obtain ⟨n1, n2⟩ := hs
    rw [(sideB_iff n).2 ⟨n1, n2⟩]
    simp only [if_true]
    obtain ⟨m, rfl⟩ : ∃ m : Nat, n = (m : Int) := ⟨n.toNat, by omega⟩
    obtain ⟨y0, y1, y2, y3⟩ := box0 w1
    have hmk : Mk w (w1.alloc (.cells #[.int .i64 (m : Int), .slice none 0 0] 49)) w1.heap.size (w1.heap.size + 1) m [] :=
      ⟨⟨none, 0, MBox.new w1 (m : Int) none 0 0 _, Own.nil _ _⟩, hb1.alloc (by have := HS1.out; omega) _, by simp, by omega, by have := HS1.out; omega⟩
    have HMK := Lib.hid hmk
    have HR0 := Lib.hid (hbx.alloc (.cells #[.int .i64 (m : Int), .slice none 0 0] 49))
    clear hbx hb1 hmk c0 c1 f0 f1
    go_enter Try.func41, Try.ntmps41
    go_wp2_with fail
    clear y0 y1 y2 y3
    go_loopw [5] (fun i wr => ∃ k : Nat, i = .int .i64 (k : Int) ∧ k ≤ m ∧ Mk w wr w1.heap.size (w1.heap.size + 1) m (tab k unitF) ∧ MBox wr w.heap.size 0 none 0 0) (fun i _ => m - (intOf i).toNat)
    case atStart => exact ⟨0, rfl, Nat.zero_le _, HMK.out, HR0.out⟩
    case round =>
      clear HMK HR0
      obtain ⟨k, rfl, hk, hmk, hres⟩ := hrel
      obtain ⟨aa, cc, hbx, ho⟩ := hmk.box
      have HMK := Lib.hid hmk
      have HRES := Lib.hid hres
      have hsz := hmk.size
      by_cases hlt : k < m
      · have hsh := shl_one k
        obtain ⟨y, hy⟩ : ∃ y, 1#64 <<< k = y := ⟨_, rfl⟩
        rw [hy] at hsh
        have HY := Lib.hid hy
        have m1 := hbx.c1
        have mf := hbx.f1
        have k1 := cell_later (.cells #[.int .u64 (y.toNat : Int)] 32) m1
        have HBB := Lib.hid hbx
        have HO := Lib.hid ho
        have hlen : (tab k unitF).length < 1000000 := by rw [tab_len]; omega
        clear hy hmk hres hbx ho
        go_wp2_with (at_builtin; refine wpList_app1 (α := V) rfl _ _ rfl y (by rfl) (HO.out.alloc (.cells #[.int .u64 (y.toNat : Int)] 32)) rfl (cell_new _ _ _) hlen (by simp; omega) ?_; intro a3 cap3 w6 hown3 hg3 hb3 hw3; have k2 := (hb3.cell (p := ⟨w1.heap.size, 1, none⟩) (by show w1.heap.size < _; omega)).trans k1; have k3 := (hb3.frozen (p := ⟨w1.heap.size, 1, none⟩) (by show w1.heap.size < _; omega)).trans (frozen_later _ m1 mf); have HO3 := Lib.hid hown3; have HB3 := Lib.hid hb3; clear hown3 hg3 hb3 hw3)
        go_roundw
        case rel =>
          have hbb := ((Below.refl (w1.heap.size + 1) wr).alloc hsz (.cells #[.int .u64 (y.toNat : Int)] 32)).trans HB3.out
          have hpush := HMK.out.push HBB.out HO3.out hbb
          rw [← HY.out, show (1#64 <<< k) = unitF k from rfl, tab_snoc] at hpush
          refine ⟨k + 1, by go_num, hlt, hpush, ?_⟩
          have e := HRES.out
          have hh : w.heap.size < w1.heap.size := by have := HS1.out; omega
          exact (⟨(hbb.cell (p := ⟨w.heap.size, 0, none⟩) (by show w.heap.size < _; omega)).trans e.c0, (hbb.cell (p := ⟨w.heap.size, 1, none⟩) (by show w.heap.size < _; omega)).trans e.c1, (hbb.frozen (p := ⟨w.heap.size, 0, none⟩) (by show w.heap.size < _; omega)).trans e.f0, (hbb.frozen (p := ⟨w.heap.size, 1, none⟩) (by show w.heap.size < _; omega)).trans e.f1⟩ : MBox w6 w.heap.size 0 none 0 0).other (show w1.heap.size ≠ w.heap.size by omega) _
        case measure => simp [intOf]; omega
      · obtain rfl : k = m := by omega
        have m0 := hbx.c0
        have m1 := hbx.c1
        have r0 := hres.c0
        have r1 := hres.c1
        have rf0 := hres.f0
        have rf1 := hres.f1
        have r1' : (wr.setCell ⟨w.heap.size, 0, none⟩ (.int .i64 (k : Int))).cell? ⟨w.heap.size, 1, none⟩ = some (.slice none 0 0) := (World.cell?_setCell_other _ _ _ _ (by intro e; cases e)).trans r1
        have hset := hres.set (C' := (k : Int)) (a' := aa) (n' := (tab k unitF).length) (cap' := cc)
        have HSET := Lib.hid hset
        have HO := Lib.hid ho
        clear hmk hres hbx ho hset
        go_wp2_with fail
        refine bodyPost_ret (v := .tuple #[.agg #[.int .i64 (k : Int), .slice aa (tab k unitF).length cc], .int .i64 0]) (by simp [results, Try.results41, go_sem, HSET.out.c0, HSET.out.c1]) rfl ⟨⟨_, rfl, aa, cc, by rw [Int.toNat_natCast], ?_, ?_⟩, ?_⟩
        · rw [Int.toNat_natCast]; exact HO.out.rowAt.boxed HRES.out
        · intro b o e
          subst e
          rcases HO.out.parts with ⟨e2, _⟩ | ⟨g, c2, e2, hB, _⟩
          · cases e2
          · cases e2; have := HS1.out; omega
        · exact (HMK.out.below.setCell (p := ⟨w.heap.size, 0, none⟩) (Nat.le_refl _) _).setCell (p := ⟨w.heap.size, 1, none⟩) (Nat.le_refl _) _
  · have hsb : sideB n = false := by
      cases h : sideB n with
      | false => rfl
      | true => exact absurd ((sideB_iff n).1 h) hs
    rw [hsb]
    simp only [Bool.false_eq_true, if_false]
    have c1' : (w1.setCell ⟨w.heap.size, 0, none⟩ (.int .i64 0)).cell? ⟨w.heap.size, 1, none⟩ = some (.slice none 0 0) := (World.cell?_setCell_other _ _ _ _ (by intro e; cases e)).trans c1
    by_cases h1 : n < 1
    · clear hbx hb1 hs hsb
      go_enter Try.func41, Try.ntmps41
      go_wp2_with fail
      have hset := HBX.out.set (C' := 0) (a' := none) (n' := 0) (cap' := 0)
      refine bodyPost_ret (v := .tuple #[.agg #[.int .i64 0, .slice none 0 0], .int .i64 2]) (by simp [results, Try.results41, go_sem, hset.c0, hset.c1]) rfl ⟨⟨_, rfl, MatR.none _ _⟩, ?_⟩
      exact (HB1.out.setCell (p := ⟨w.heap.size, 0, none⟩) (Nat.le_refl _) _).setCell (p := ⟨w.heap.size, 1, none⟩) (Nat.le_refl _) _
    · have h2 : 64 < n := by omega
      clear hbx hb1 hs hsb
      go_enter Try.func41, Try.ntmps41
      go_wp2_with fail
      have hset := HBX.out.set (C' := 0) (a' := none) (n' := 0) (cap' := 0)
      refine bodyPost_ret (v := .tuple #[.agg #[.int .i64 0, .slice none 0 0], .int .i64 2]) (by simp [results, Try.results41, go_sem, hset.c0, hset.c1]) rfl ⟨⟨_, rfl, MatR.none _ _⟩, ?_⟩
      exact (HB1.out.setCell (p := ⟨w.heap.size, 0, none⟩) (Nat.le_refl _) _).setCell (p := ⟨w.heap.size, 1, none⟩) (Nat.le_refl _) _
end Go.Proofs.Ytodiokladojnjaa.B
