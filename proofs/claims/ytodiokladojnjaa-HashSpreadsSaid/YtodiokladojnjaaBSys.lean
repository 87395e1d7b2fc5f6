/- The system that is being solved; exchange. -/
import Derived.Test.YtodiokladojnjaaBValid
namespace Go.Proofs.Ytodiokladojnjaa.B
open Go Go.RowKit Go.Shelf
open BM (St)

/-- The system in block g; what it is made of lies from block B on. -/
structure Sys (W : World) (B g m C gr cr gx cx : Nat) (s : St) : Prop where
  c0 : W.cell? ⟨g, 0, none⟩ = some (.int .i64 (C : Int))
  c1 : W.cell? ⟨g, 1, none⟩ = some (.slice (some ⟨gr, 0, none⟩) m cr)
  c2 : W.cell? ⟨g, 2, none⟩ = some (.slice (some ⟨gx, 0, none⟩) m cx)
  c3 : ∃ ap cp, W.cell? ⟨g, 3, none⟩ = some (.slice ap s.P.length cp) ∧ Own W B (.slice ap s.P.length cp) s.P ∧ ∀ b o, ap = some ⟨b, o, none⟩ → b ≠ g ∧ b ≠ gr ∧ b ≠ gx
  f3 : W.frozen? ⟨g, 3, none⟩ = false
  rows : Own W B (.slice (some ⟨gr, 0, none⟩) m cr) (tab m s.R)
  right : Own W B (.slice (some ⟨gx, 0, none⟩) m cx) (tab m s.r)
  gB : B ≤ g
  n1 : gr ≠ gx
  n2 : gr ≠ g
  n3 : gx ≠ g
section
variable {W : World} {B g m C gr cr gx cx : Nat} {s : St}
theorem Sys.lt (h : Sys W B g m C gr cr gx cx s) : g < W.heap.size := lt_of_cell h.c0
theorem Sys.below {W' : World} (h : Sys W B g m C gr cr gx cx s) (hb : Below W.heap.size W W') : Sys W' B g m C gr cr gx cx s := by
  obtain ⟨ap, cp, h1, h2, h3⟩ := h.c3
  exact ⟨cell_below hb h.c0, cell_below hb h.c1, cell_below hb h.c2, ⟨ap, cp, cell_below hb h1, h2.below hb, h3⟩, frozen_below hb h1 h.f3, h.rows.below hb, h.right.below hb, h.gB, h.n1, h.n2, h.n3⟩
theorem Sys.drewN (h : Sys W B g m C gr cr gx cx s) (k : Nat) : Sys (W.drewN k) B g m C gr cr gx cx s := ⟨h.c0, h.c1, h.c2, h.c3, h.f3, h.rows, h.right, h.gB, h.n1, h.n2, h.n3⟩
/-- A store into a row. -/
theorem Sys.setR (h : Sys W B g m C gr cr gx cx s) (j : Nat) (x : V) : Sys (W.setCell ⟨gr, j, none⟩ (.int .u64 (x.toNat : Int))) B g m C gr cr gx cx ⟨upd s.R j x, s.r, s.P⟩ := by
  obtain ⟨ap, cp, h1, h2, h3⟩ := h.c3
  refine ⟨(cell_other _ (fun e => h.n2 e.symm)).trans h.c0, (cell_other _ (fun e => h.n2 e.symm)).trans h.c1, (cell_other _ (fun e => h.n2 e.symm)).trans h.c2, ⟨ap, cp, (cell_other _ (fun e => h.n2 e.symm)).trans h1, h2.other _ ?_, h3⟩, (World.frozen?_setCell _ _ _ _).trans h.f3, ?_, h.right.other _ ?_, h.gB, h.n1, h.n2, h.n3⟩
  · intro e
    cases ap with
    | none => cases e
    | some q =>
      rcases h2.parts with ⟨e2, _⟩ | ⟨b, c', e2, _⟩
      · cases e2
      · cases e2
        have := (h3 b 0 rfl).2.1
        simp [Value.ownBlock] at e
        exact this e
  · have := h.rows.setV j x
    rwa [tab_set] at this
  · intro e; simp [Value.ownBlock] at e; exact h.n1 e.symm
theorem Sys.setX (h : Sys W B g m C gr cr gx cx s) (j : Nat) (x : V) : Sys (W.setCell ⟨gx, j, none⟩ (.int .u64 (x.toNat : Int))) B g m C gr cr gx cx ⟨s.R, upd s.r j x, s.P⟩ := by
  obtain ⟨ap, cp, h1, h2, h3⟩ := h.c3
  refine ⟨(cell_other _ (fun e => h.n3 e.symm)).trans h.c0, (cell_other _ (fun e => h.n3 e.symm)).trans h.c1, (cell_other _ (fun e => h.n3 e.symm)).trans h.c2, ⟨ap, cp, (cell_other _ (fun e => h.n3 e.symm)).trans h1, h2.other _ ?_, h3⟩, (World.frozen?_setCell _ _ _ _).trans h.f3, h.rows.other _ ?_, ?_, h.gB, h.n1, h.n2, h.n3⟩
  · intro e
    cases ap with
    | none => cases e
    | some q =>
      rcases h2.parts with ⟨e2, _⟩ | ⟨b, c', e2, _⟩
      · cases e2
      · cases e2
        have := (h3 b 0 rfl).2.2
        simp [Value.ownBlock] at e
        exact this e
  · intro e; simp [Value.ownBlock] at e; exact h.n1 e
  · have := h.right.setV j x
    rwa [tab_set] at this
theorem Sys.cellR (h : Sys W B g m C gr cr gx cx s) (k : Nat) (hk : k < m) : W.cell? ⟨gr, k, none⟩ = some (.int .u64 ((s.R k).toNat : Int)) ∧ W.frozen? ⟨gr, k, none⟩ = false := by
  have := h.rows.cellV k (by rw [tab_len]; exact hk)
  rw [el_tab _ _ _ hk] at this
  exact ⟨this, h.rows.free k (by rw [tab_len]; exact hk)⟩
theorem Sys.cellX (h : Sys W B g m C gr cr gx cx s) (k : Nat) (hk : k < m) : W.cell? ⟨gx, k, none⟩ = some (.int .u64 ((s.r k).toNat : Int)) ∧ W.frozen? ⟨gx, k, none⟩ = false := by
  have := h.right.cellV k (by rw [tab_len]; exact hk)
  rw [el_tab _ _ _ hk] at this
  exact ⟨this, h.right.free k (by rw [tab_len]; exact hk)⟩
theorem Sys.bR (h : Sys W B g m C gr cr gx cx s) (hm : 0 < m) : B ≤ gr := (h.rows.at 0 (by rw [tab_len]; exact hm)).1
theorem Sys.bX (h : Sys W B g m C gr cr gx cx s) (hm : 0 < m) : B ≤ gx := (h.right.at 0 (by rw [tab_len]; exact hm)).1
theorem Sys.room (h : Sys W B g m C gr cr gx cx s) : m ≤ cr ∧ cr ≤ 9223372036854775807 ∧ m ≤ cx ∧ cx ≤ 9223372036854775807 := ⟨h.rows.room.1, h.rows.room.2, h.right.room.1, h.right.room.2⟩
end

theorem swp_upd (R : Nat → V) (i k : Nat) : upd (upd R i (R k)) k (R i) = BM.swp R i k := by
  funext j
  unfold upd BM.swp
  by_cases h1 : j = k
  · rw [if_pos h1]
    by_cases h2 : j = i
    · rw [if_pos h2, ← h1, h2]
    · rw [if_neg h2, if_pos h1]
  · rw [if_neg h1]
    by_cases h2 : j = i
    · rw [if_pos h2, if_pos h2]
    · rw [if_neg h2, if_neg h2, if_neg h1]

end Go.Proofs.Ytodiokladojnjaa.B
