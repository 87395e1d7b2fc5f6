/- Slices of ints in memory; nat.trim and nat.within over them. -/
import Derived.Test.YtamniclnhenmgaaDoorBack
import Derived.Test.YtamniclnhenmgaaDoorMath
import Derived.Lib.Hide
namespace Go.Proofs.YtamniclnhenmgaaDoor
open Go Go.RowKit Go.Shelf
attribute [local go_sem] Oper.semAt_some

theorem cell_new (w : World) (v : Value) (t : TypeId) : (w.alloc (.cells #[v] t)).cell? ⟨w.heap.size, 0, none⟩ = some v := by
  simp
theorem frozen_new (w : World) (v : Value) (t : TypeId) : (w.alloc (.cells #[v] t)).frozen? ⟨w.heap.size, 0, none⟩ = false := by
  simp
theorem cell_later {w : World} {a : Addr} {v : Value} (o : Obj) (h : w.cell? a = some v) : (w.alloc o).cell? a = some v :=
  cell_kept h (World.grownBy_alloc w o none) (fun r e => by cases e)
theorem frozen_later {w : World} {a : Addr} {v : Value} (o : Obj) (h : w.cell? a = some v) (hf : w.frozen? a = false) : (w.alloc o).frozen? a = false :=
  (frozen_kept h (World.grownBy_alloc w o none) (fun r e => by cases e)).trans hf
theorem lt_of_cell {w : World} {a : Addr} {v : Value} (h : w.cell? a = some v) : a.block < w.heap.size := by
  obtain ⟨o, ho, _⟩ := cells_of_cell h
  exact (Array.getElem?_eq_some_iff.1 ho).1

/-- The slice at a, of capacity cap, holds the ints zs. -/
structure Row (w : World) (a : Option Addr) (zs : List Int) (cap : Nat) : Prop where
  room : zs.length ≤ cap
  most : cap ≤ 9223372036854775807
  el : ∀ j, j < zs.length → ∃ b off, a = some ⟨b, off, none⟩ ∧ w.cell? ⟨b, off + j, none⟩ = some (.int .i64 (M.el zs j))

theorem Row.below {w w' : World} {a : Option Addr} {zs : List Int} {cap : Nat} (h : Row w a zs cap) (hb : Below w.heap.size w w') : Row w' a zs cap :=
  ⟨h.room, h.most, fun j hj => by
    obtain ⟨b, off, e, hc⟩ := h.el j hj
    exact ⟨b, off, e, (hb.cell (p := ⟨b, off + j, none⟩) (lt_of_cell hc)).trans hc⟩⟩

/-- The cell of element j, at the address that is known. -/
theorem Row.cell {w : World} {b off : Nat} {zs : List Int} {cap : Nat} (h : Row w (some ⟨b, off, none⟩) zs cap) (j : Nat) (hj : j < zs.length) : w.cell? ⟨b, off + j, none⟩ = some (.int .i64 (M.el zs j)) := by
  obtain ⟨b', off', e, hc⟩ := h.el j hj
  cases e
  exact hc

/-- The slice that trim hands back. -/
def cut (a : Option Addr) (cap : Nat) (ts : List Int) : Value := if ts = [] then .slice none 0 0 else .slice a ts.length cap

set_option maxRecDepth 100000 in
set_option maxHeartbeats 2000000 in
/-- **nat.trim**: the slice without the zeros at its end. -/
theorem trim_any (a : Option Addr) (zs : List Int) (cap : Nat) (w : World) (hR : Row w a zs cap) :
    Calls Tryd.prog 78 #[.slice a zs.length cap] w fun e W' => e = .returned (cut a cap (M.trimL zs)) ∧ Below w.heap.size w W' := by
  refine (callsIn_wide (n := 6)).1 ?_
  refine callsIn_of_wp_marks Tryd.func78 rfl trivial ?_ rfl
  simp only [Tryd.ntmps78, List.size_toArray, List.length_cons, List.length_nil, Nat.reduceAdd, Nat.reduceSub, Array.replicate_succ, Array.replicate_zero, List.push_toArray, List.append_toArray, List.nil_append, List.cons_append]
  gi_wp2_with (refine ⟨trivial, ?_⟩; gi_at_call 85; refine (callsIn_wide.2 (backward_any _ _ _ _)).mono ?_; rintro e w' ⟨rfl, rfl⟩)
  have c0 := cell_new w (.slice a zs.length cap) 22
  have c1 := cell_new (w.alloc (.cells #[.slice a zs.length cap] 22)) (.slice none 0 0) 22
  have f1 := frozen_new (w.alloc (.cells #[.slice a zs.length cap] 22)) (.slice none 0 0) 22
  have c2 := cell_new ((w.alloc (.cells #[.slice a zs.length cap] 22)).alloc (.cells #[.slice none 0 0] 22)) (.slice a zs.length cap) 22
  simp only [World.size_alloc] at c1 f1 c2
  have hB0 : Below w.heap.size w (((w.alloc (.cells #[.slice a zs.length cap] 22)).alloc (.cells #[.slice none 0 0] 22)).alloc (.cells #[.slice a zs.length cap] 22)) := (((Below.refl _ w).alloc (Nat.le_refl _) _).alloc (by simp) _).alloc (by simp; omega) _
  refine wpIn_back (n := 6) (by omega) (Bs := w.heap.size + 1 + 1) rfl rfl a zs.length cap (by have := hR.room; have := hR.most; omega) (fun j => M.el zs j)
    (fun k W => ((∀ j : Nat, k ≤ j → M.el zs j = 0) ∧ W.cell? ⟨w.heap.size, 0, none⟩ = some (.slice a zs.length cap) ∧ W.cell? ⟨w.heap.size + 1, 0, none⟩ = some (.slice none 0 0) ∧ W.frozen? ⟨w.heap.size + 1, 0, none⟩ = false ∧ W.cell? ⟨w.heap.size + 1 + 1, 0, none⟩ = some (.slice a zs.length cap)) ∧ Below w.heap.size w W)
    (fun c k W => (c = .ret ∧ M.el zs k ≠ 0 ∧ (∀ j : Nat, k < j → M.el zs j = 0) ∧ W.cell? ⟨w.heap.size + 1, 0, none⟩ = some (.slice a (k + 1) cap)) ∧ Below w.heap.size w W)
    (OwnFrom.and (Own.from (fun s A B row hs hg hr => ⟨hs.1, cell_kept hs.2.1 hg hr, cell_kept hs.2.2.1 hg hr, (frozen_kept hs.2.2.1 hg hr).trans hs.2.2.2.1, cell_kept hs.2.2.2.2 hg hr⟩) _) (ownFrom_below (Nat.le_refl _) (by simp; omega)))
    (fun c => OwnFrom.and (Own.from (fun s A B row hs hg hr => ⟨hs.1, hs.2.1, hs.2.2.1, cell_kept hs.2.2.2 hg hr⟩) _) (ownFrom_below (Nat.le_refl _) (by simp; omega)))
    ⟨⟨fun j hj => by exact M.el_ge hj, cell_later _ (cell_later _ c0), cell_later _ c1, frozen_later _ c1 f1, c2⟩, hB0⟩
    (fun k W h => h.1.2.2.2.2)
    (fun k W h hk => by
      obtain ⟨b, off, e, hc⟩ := hR.el k hk
      exact ⟨b, off, e, (h.2.cell (p := ⟨b, off + k, none⟩) (lt_of_cell hc)).trans hc⟩)
    (fun k => { tmps := #[.slice a zs.length cap, .pointer (some ⟨w.heap.size, 0, none⟩), .pointer (some ⟨w.heap.size + 1, 0, none⟩), .int .i64 (k : Int), .int .i64 (M.el zs k), .slice a zs.length cap, .func (.func 110) #[] #[.pointer (some ⟨w.heap.size + 1 + 1, 0, none⟩)], .int .i64 (k : Int), .int .i64 (M.el zs k), undef, undef, undef, undef, undef, undef], defers := [] }) ?assign ?body ?done ?stop
  case assign =>
    intro l k W K hk hK
    gi_wp2
    exact hK
  case body =>
    rintro l k W hl hrec ⟨⟨hz, hc0, hc1, hf1, hc2⟩, hB⟩ hk
    have hroom := hR.room
    have hmost := hR.most
    have hz' : ∀ j : Nat, k < j → M.el zs j = 0 := fun j hj => hz j hj
    have HZ := Lib.hid hz
    have HZ' := Lib.hid hz'
    clear hz hz'
    by_cases hne : M.el zs k = 0
    · have hb : ((M.el zs k) != 0) = false := by simp [hne]
      have HN := Lib.hid hne
      clear hne
      gi_wp2
      refine ⟨(KeepsOthers.refl _).from _, ⟨fun j hj => ?_, hc0, hc1, hf1, hc2⟩, hB⟩
      by_cases e : j = k
      · rw [e]; exact HN.out
      · exact HZ'.out j (by omega)
    · have hb : ((M.el zs k) != 0) = true := by simp [hne]
      have HN := Lib.hid hne
      clear hne
      gi_wp2
      exact ⟨(KeepsOthers.setCell _ _ _).from _, ⟨rfl, HN.out, HZ'.out, World.cell?_setCell_same' _ _ _ (by rw [hc1]; rfl)⟩, hB.setCell (p := ⟨w.heap.size + 1, 0, none⟩) (by simp) _⟩
  case done =>
    rintro D W hD ⟨⟨hz, _, hc1, hf1, _⟩, hB⟩ hK
    have HZ := Lib.hid (M.trimL_none zs (fun j => hz j (Nat.zero_le _)))
    clear hz
    gi_wp2
    have hK' := (KeepsOthers.setCell W ⟨w.heap.size + 1, 0, none⟩ (.slice none 0 0)).same D _ hK rfl
    refine ⟨by simp, .inl ⟨_, _, rfl, run_takeDeferred hK', ?_⟩⟩
    have hc5 := cell_kept (World.cell?_setCell_same' W ⟨w.heap.size + 1, 0, none⟩ (.slice none 0 0) (by rw [hc1]; rfl)) (grownBy_putObj' _ D (.deferred none)) (fun r e => by cases e; exact ⟨_, hK', rfl⟩)
    refine ⟨.slice none 0 0, ?_, by rw [HZ.out]; rfl, (hB.setCell (p := ⟨w.heap.size + 1, 0, none⟩) (by simp) _).trans (belowK_b (w := w) (Nat.le_refl _) _ D _ _ (by simp at hD; omega) hK' rfl rfl)⟩
    simp [results, Tryd.f78, go_sem, hc5]
  case stop =>
    rintro D c k W hD hk ⟨⟨rfl, hne, hz, hc1⟩, hB⟩ hK
    have HZ := Lib.hid (M.trimL_at zs k hne hz)
    clear hz hne
    gi_wp2
    refine ⟨by simp, .inl ⟨_, _, rfl, run_takeDeferred hK, ?_⟩⟩
    have hc5 := cell_kept hc1 (grownBy_putObj' _ D (.deferred none)) (fun r e => by cases e; exact ⟨_, hK, rfl⟩)
    refine ⟨.slice a (k + 1) cap, ?_, ?_, hB.trans (belowK_b (w := w) (Nat.le_refl _) W D _ _ (by simp at hD; omega) hK rfl rfl)⟩
    · simp [results, Tryd.f78, go_sem, hc5]
    · have hh := HZ.out
      unfold cut
      rw [if_neg (by intro e; rw [e] at hh; simp at hh), hh]
end Go.Proofs.YtamniclnhenmgaaDoor
