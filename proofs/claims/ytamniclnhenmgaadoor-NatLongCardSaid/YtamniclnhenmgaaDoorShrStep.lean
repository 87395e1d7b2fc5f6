/- What one round of nat.shrink does to memory. -/
import Derived.Test.YtamniclnhenmgaaDoorOwn
import Derived.Test.YtamniclnhenmgaaDoorBits
namespace Go.Proofs.YtamniclnhenmgaaDoor
open Go Go.RowKit Go.Shelf
attribute [local go_sem] Oper.semAt_some mask24

theorem ownFrom_grown {β : Type} {w₀ : World} {row₀ : Option Nat} {B : Nat} (hB : w₀.heap.size ≤ B) : OwnFrom B (fun (_ : β) W => w₀.grownBy W row₀) :=
  fun _ W W' row hs hg hr => ⟨hg.os.trans hs.os, hg.tape.trans hs.tape, hg.output.trans hs.output, Nat.le_trans hs.size hg.size, fun k hk hne => by
    refine (hg.block k (Nat.lt_of_lt_of_le hk hs.size) ?_).trans (hs.block k hk hne)
    intro e
    have := (hr k e.symm).1
    omega⟩

/-- What is owned from B on, while blocks that hold no cells turn beyond. -/
theorem ownFrom_own {β : Type} {B0 B : Nat} {v : Value} (f : β → List Int) : OwnFrom B0 (fun s W => Own W B v (f s)) := fun s W W' row hs hg hr =>
  World.ownsRow.kept hs hg (by
    cases hv : v.ownBlock with
    | none => exact .inl rfl
    | some k =>
      refine .inr ?_
      intro e
      obtain ⟨_, o, ho, hc⟩ := hr k e.symm
      obtain ⟨_, h2 | ⟨g, cap, cur, rfl, hb, hh, _⟩⟩ := hs
      · rw [h2.1] at hv; simp [Value.ownBlock] at hv
      · simp [Value.ownBlock] at hv
        subst hv
        rw [hh] at ho
        cases ho
        simp [Obj.isCells] at hc)

theorem grown_setCell {w W : World} {row : Option Nat} (h : w.grownBy W row) {a : Addr} (u : Value) (ha : w.heap.size ≤ a.block ∨ row = some a.block) : w.grownBy (W.setCell a u) row := by
  refine ⟨h.os, h.tape, h.output, by rw [show (W.setCell a u).heap.size = W.heap.size by simp [World.setCell]]; exact h.size, fun k hk hne => ?_⟩
  refine (Below.heap_setCell W a u k ?_).trans (h.block k hk hne)
  rintro rfl
  rcases ha with h | h
  · omega
  · exact hne h.symm
theorem grown_alloc {w W : World} {row : Option Nat} (h : w.grownBy W row) (o : Obj) : w.grownBy (W.alloc o) row :=
  ⟨h.os, h.tape, h.output, by rw [World.size_alloc]; exact Nat.le_succ_of_le h.size, fun k hk hne => (Below.heap_alloc W o k (Nat.lt_of_lt_of_le hk h.size)).trans (h.block k hk hne)⟩
theorem grown_drew {w W : World} {row : Option Nat} (h : w.grownBy W row) : w.grownBy W.drew row := ⟨h.os, h.tape, h.output, h.size, h.block⟩

/-- What holds in shrink's loop when k elements are still to come. -/
def ShrI (w : World) (B : Nat) (a : Option Addr) (cap : Nat) (zs : List Int) (d : Int) (k : Nat) (W : World) : Prop :=
  (W.cell? ⟨w.heap.size, 0, none⟩ = some (.slice a zs.length cap) ∧ W.cell? ⟨w.heap.size + 1, 0, none⟩ = some (.int .i64 d) ∧ W.cell? ⟨w.heap.size + 1 + 1, 0, none⟩ = some (.int .i64 (M.shr d (zs.drop k)).1) ∧ W.frozen? ⟨w.heap.size + 1 + 1, 0, none⟩ = false ∧
    W.cell? ⟨w.heap.size + 1 + 1 + 1, 0, none⟩ = some (.slice a zs.length cap)) ∧ Own W B (.slice a zs.length cap) (M.shrAt d zs k) ∧ w.grownBy W (Value.slice a zs.length cap).ownBlock

theorem shrI_own {w : World} {B B0 : Nat} {a : Option Addr} {cap : Nat} {zs : List Int} {d : Int} (hB0 : w.heap.size ≤ B0) : OwnFrom B0 (ShrI w B a cap zs d) :=
  OwnFrom.and (Own.from (fun _ _ _ _ hs hg hr => ⟨cell_kept hs.1 hg hr, cell_kept hs.2.1 hg hr, cell_kept hs.2.2.1 hg hr, (frozen_kept hs.2.2.1 hg hr).trans hs.2.2.2.1, cell_kept hs.2.2.2.2 hg hr⟩) _)
    (OwnFrom.and (ownFrom_own _) (ownFrom_grown hB0))

theorem cell_other {W : World} {p a : Addr} (u : Value) (h : a.block ≠ p.block) : (W.setCell p u).cell? a = W.cell? a :=
  World.cell?_of_block (Below.heap_setCell W p u a.block h)

theorem shr_step {w W : World} {B B0 g cap : Nat} {zs : List Int} {d r x : Int} {k : Nat} (hgw : g < w.heap.size) (hc0 : W.cell? ⟨w.heap.size, 0, none⟩ = some (.slice (some ⟨g, 0, none⟩) zs.length cap))
    (hc1 : W.cell? ⟨w.heap.size + 1, 0, none⟩ = some (.int .i64 d)) (hc2 : W.cell? ⟨w.heap.size + 1 + 1, 0, none⟩ = some (.int .i64 r)) (hf2 : W.frozen? ⟨w.heap.size + 1 + 1, 0, none⟩ = false)
    (hc3 : W.cell? ⟨w.heap.size + 1 + 1 + 1, 0, none⟩ = some (.slice (some ⟨g, 0, none⟩) zs.length cap)) (HO : Own W B (.slice (some ⟨g, 0, none⟩) zs.length cap) (M.shrAt d zs (k + 1))) (HG : w.grownBy W (Value.slice (some ⟨g, 0, none⟩) zs.length cap).ownBlock)
    (HS : (M.shrAt d zs (k + 1)).set k (x / d) = M.shrAt d zs k) (HR : (M.shr d (zs.drop k)).1 = x % d) :
    KeepsFrom B0 W (((W.setCell ⟨w.heap.size + 1 + 1, 0, none⟩ (.int .i64 x)).setCell ⟨g, k, none⟩ (.int .i64 (x / d))).setCell ⟨w.heap.size + 1 + 1, 0, none⟩ (.int .i64 (x % d))).drew ∧
    ShrI w B (some ⟨g, 0, none⟩) cap zs d k (((W.setCell ⟨w.heap.size + 1 + 1, 0, none⟩ (.int .i64 x)).setCell ⟨g, k, none⟩ (.int .i64 (x / d))).setCell ⟨w.heap.size + 1 + 1, 0, none⟩ (.int .i64 (x % d))).drew := by
  have e2 : (((W.setCell ⟨w.heap.size + 1 + 1, 0, none⟩ (.int .i64 x)).setCell ⟨g, k, none⟩ (.int .i64 (x / d))).cell? ⟨w.heap.size + 1 + 1, 0, none⟩).isSome = true := by
    rw [cell_other _ (by simp; omega), World.cell?_setCell_same' _ _ _ (by rw [hc2]; rfl)]; rfl
  refine ⟨(((KeepsOthers.setCell _ _ _).trans (KeepsOthers.setCell _ _ _)).trans ((KeepsOthers.setCell _ _ _).trans (KeepsOthers.drew _))).from _, ⟨?_, ?_, ?_, ?_, ?_⟩, ?_, ?_⟩
  · exact (cell_other _ (by simp; omega)).trans ((cell_other _ (by simp; omega)).trans ((cell_other _ (by simp; omega)).trans hc0))
  · exact (cell_other _ (by simp)).trans ((cell_other _ (by simp; omega)).trans ((cell_other _ (by simp)).trans hc1))
  · rw [HR]; exact World.cell?_setCell_same' _ _ _ e2
  · show World.frozen? (World.setCell _ _ _) _ = false
    rw [World.frozen?_setCell, World.frozen?_setCell, World.frozen?_setCell]; exact hf2
  · exact (cell_other _ (by simp)).trans ((cell_other _ (by simp; omega)).trans ((cell_other _ (by simp)).trans hc3))
  · have hl := M.shrAt_len d zs (k + 1)
    have h1 := HO.other (p := ⟨w.heap.size + 1 + 1, 0, none⟩) (.int .i64 x) (by simp [Value.ownBlock]; omega)
    rw [← hl] at h1
    have h2 := (h1.set k (x / d)).other (p := ⟨w.heap.size + 1 + 1, 0, none⟩) (.int .i64 (x % d)) (by simp [Value.ownBlock]; omega)
    rw [HS, hl] at h2
    exact h2
  · have g1 := grown_setCell HG (a := ⟨w.heap.size + 1 + 1, 0, none⟩) (.int .i64 x) (.inl (by show w.heap.size ≤ w.heap.size + 1 + 1; omega))
    have g2 := grown_setCell g1 (a := ⟨g, k, none⟩) (.int .i64 (x / d)) (.inr rfl)
    exact grown_drew (grown_setCell g2 (a := ⟨w.heap.size + 1 + 1, 0, none⟩) (.int .i64 (x % d)) (.inl (by show w.heap.size ≤ w.heap.size + 1 + 1; omega)))

end Go.Proofs.YtamniclnhenmgaaDoor
