/- ref05.echelon. -/
import Derived.Test.YtodiokladojnjaaBRef5
import Derived.Test.YtodiokladojnjaaBSolve
namespace Go.Proofs.Ytodiokladojnjaa.B
open Go Go.RowKit Go.Shelf
open BM (bt St)

/-- What echelon works on. -/
structure EcSt (w W : World) (B gr cr gx cx m : Nat) (ap : Option Addr) (cp : Nat) (C : Int) (a : Option Addr) (ca : Nat) (s : St) : Prop where
  box : MBox W w.heap.size C a m ca
  rows : Own W B (.slice (some ⟨gr, 0, none⟩) m cr) (tab m s.R)
  right : Own W B (.slice (some ⟨gx, 0, none⟩) m cx) (tab m s.r)
  lead : Own W B (.slice ap s.P.length cp) s.P
  ne : ∀ b o, ap = some ⟨b, o, none⟩ → b ≠ gr ∧ b ≠ gx
  n1 : gr ≠ gx
  below : Below w.heap.size w W
  pos : w.heap.size < B
section
variable {w W : World} {B gr cr gx cx m : Nat} {ap : Option Addr} {cp : Nat} {C : Int} {a : Option Addr} {ca : Nat} {s : St}
theorem EcSt.cellR (h : EcSt w W B gr cr gx cx m ap cp C a ca s) (k : Nat) (hk : k < m) : W.cell? ⟨gr, k, none⟩ = some (.int .u64 ((s.R k).toNat : Int)) ∧ W.frozen? ⟨gr, k, none⟩ = false := by
  have := h.rows.cellV k (by rw [tab_len]; exact hk)
  rw [el_tab _ _ _ hk] at this
  exact ⟨this, h.rows.free k (by rw [tab_len]; exact hk)⟩
theorem EcSt.cellX (h : EcSt w W B gr cr gx cx m ap cp C a ca s) (k : Nat) (hk : k < m) : W.cell? ⟨gx, k, none⟩ = some (.int .u64 ((s.r k).toNat : Int)) ∧ W.frozen? ⟨gx, k, none⟩ = false := by
  have := h.right.cellV k (by rw [tab_len]; exact hk)
  rw [el_tab _ _ _ hk] at this
  exact ⟨this, h.right.free k (by rw [tab_len]; exact hk)⟩
theorem EcSt.bR (h : EcSt w W B gr cr gx cx m ap cp C a ca s) (hm : 0 < m) : B ≤ gr := (h.rows.at 0 (by rw [tab_len]; exact hm)).1
theorem EcSt.bX (h : EcSt w W B gr cr gx cx m ap cp C a ca s) (hm : 0 < m) : B ≤ gx := (h.right.at 0 (by rw [tab_len]; exact hm)).1
theorem EcSt.nb (h : EcSt w W B gr cr gx cx m ap cp C a ca s) : (Value.slice ap s.P.length cp).ownBlock ≠ some gr ∧ (Value.slice ap s.P.length cp).ownBlock ≠ some gx :=
  ⟨fun e => by obtain ⟨o, e2⟩ := own_block h.lead e; exact (h.ne _ o e2).1 rfl, fun e => by obtain ⟨o, e2⟩ := own_block h.lead e; exact (h.ne _ o e2).2 rfl⟩
theorem EcSt.setR (h : EcSt w W B gr cr gx cx m ap cp C a ca s) (hm : 0 < m) (j : Nat) (x : V) : EcSt w (W.setCell ⟨gr, j, none⟩ (.int .u64 (x.toNat : Int))) B gr cr gx cx m ap cp C a ca ⟨upd s.R j x, s.r, s.P⟩ := by
  have hb := h.bR hm
  have hp := h.pos
  refine ⟨h.box.other (show gr ≠ w.heap.size by omega) _, ?_, h.right.other _ ?_, h.lead.other _ h.nb.1, h.ne, h.n1, h.below.setCell (p := ⟨gr, j, none⟩) (by show _ ≤ gr; omega) _, hp⟩
  · have := h.rows.setV j x
    rwa [tab_set] at this
  · intro e; simp [Value.ownBlock] at e; exact h.n1 e.symm
theorem EcSt.setX (h : EcSt w W B gr cr gx cx m ap cp C a ca s) (hm : 0 < m) (j : Nat) (x : V) : EcSt w (W.setCell ⟨gx, j, none⟩ (.int .u64 (x.toNat : Int))) B gr cr gx cx m ap cp C a ca ⟨s.R, upd s.r j x, s.P⟩ := by
  have hb := h.bX hm
  have hp := h.pos
  refine ⟨h.box.other (show gx ≠ w.heap.size by omega) _, h.rows.other _ ?_, ?_, h.lead.other _ h.nb.2, h.ne, h.n1, h.below.setCell (p := ⟨gx, j, none⟩) (by show _ ≤ gx; omega) _, hp⟩
  · intro e; simp [Value.ownBlock] at e; exact h.n1 e
  · have := h.right.setV j x
    rwa [tab_set] at this
theorem EcSt.drewN (h : EcSt w W B gr cr gx cx m ap cp C a ca s) (n : Nat) : EcSt w (W.drewN n) B gr cr gx cx m ap cp C a ca s := ⟨h.box.drewN n, h.rows, h.right, h.lead, h.ne, h.n1, belowN h.below n, h.pos⟩
theorem EcSt.as {R r R' r' : Nat → V} {P : List Nat} (h : EcSt w W B gr cr gx cx m ap cp C a ca ⟨R, r, P⟩) (hR : ∀ j, j < m → R j = R' j) (hr : ∀ j, j < m → r j = r' j) : EcSt w W B gr cr gx cx m ap cp C a ca ⟨R', r', P⟩ :=
  ⟨h.box, by have := h.rows; rwa [tab_ext hR] at this, by have := h.right; rwa [tab_ext hr] at this, h.lead, h.ne, h.n1, h.below, h.pos⟩
theorem EcSt.room (h : EcSt w W B gr cr gx cx m ap cp C a ca s) : m ≤ cr ∧ cr ≤ 9223372036854775807 ∧ m ≤ cx ∧ cx ≤ 9223372036854775807 := ⟨h.rows.room.1, h.rows.room.2, h.right.room.1, h.right.room.2⟩
theorem EcSt.push {W' : World} {R r : Nat → V} {P : List Nat} {a' : Option Addr} {cap' c : Nat} (hm : 0 < m) (h : EcSt w W B gr cr gx cx m ap cp C a ca ⟨R, r, P⟩) (o : Obj)
    (hg : (W.alloc o).grownBy W' (Value.slice ap P.length cp).ownBlock) (hb : Below B (W.alloc o) W') (ho : Own W' B (.slice a' (P.length + 1) cap') (P ++ [c])) (hw : ∀ b o', a' = some ⟨b, o', none⟩ → (Value.slice ap P.length cp).ownBlock = some b ∨ b = (W.alloc o).heap.size) :
    EcSt w W' B gr cr gx cx m a' cap' C a ca ⟨R, r, P ++ [c]⟩ := by
  have hrl : gr < W.heap.size := lt_of_cell (h.cellR 0 hm).1
  have hxl : gx < W.heap.size := lt_of_cell (h.cellX 0 hm).1
  have hsz := h.bR hm
  have hp := h.pos
  have hne := h.nb
  have hB0 : Below w.heap.size w (W.alloc o) := h.below.alloc (by omega) o
  refine ⟨(h.box.alloc o).grownTo hb hp, (h.rows.alloc o).grown hg (.inr ?_), (h.right.alloc o).grown hg (.inr ?_), ?_, ?_, h.n1, hB0.trans (hb.mono (Nat.le_of_lt hp)), hp⟩
  · intro e; exact hne.1 (e.symm ▸ rfl)
  · intro e; exact hne.2 (e.symm ▸ rfl)
  · show Own W' B (.slice a' (P ++ [c]).length cap') (P ++ [c])
    rw [List.length_append]; exact ho
  · intro b o' e
    rcases hw b o' e with h5 | h5
    · exact ⟨fun e2 => hne.1 (by subst e2; exact h5), fun e2 => hne.2 (by subst e2; exact h5)⟩
    · rw [World.size_alloc] at h5
      exact ⟨by omega, by omega⟩
end

def ek (R : List V) (v : V) (k : Nat) : St := BM.run R.length ⟨el R, rhs v, []⟩ k
theorem ek_le (R : List V) (v : V) (k : Nat) : (ek R v k).P.length ≤ R.length := run_len _ _ (Nat.zero_le _) _
def EcRhs (w : World) (B gr cr : Nat) (C : Int) (a : Option Addr) (ca : Nat) (R : List V) (v : V) (rv iv : Value) (W : World) : Prop :=
  ∃ (k : Nat) (ax : Option Addr) (cx : Nat), iv = .int .i64 (k : Int) ∧ k ≤ R.length ∧ rv = .slice ax k cx ∧ MBox W w.heap.size C a R.length ca ∧ Own W B (.slice (some ⟨gr, 0, none⟩) R.length cr) R ∧ Own W B (.slice ax k cx) (tab k (rhs v)) ∧ (∀ b o, ax = some ⟨b, o, none⟩ → b ≠ gr) ∧ Below w.heap.size w W ∧ B ≤ W.heap.size
def EcRel (w : World) (B gr cr gx cx D : Nat) (a : Option Addr) (ca : Nat) (R : List V) (v : V) (lv nv kv : Value) (W : World) : Prop :=
  ∃ (k : Nat) (ap : Option Addr) (cp : Nat), kv = .int .i64 (k : Int) ∧ k ≤ D ∧ nv = .int .i64 ((ek R v k).P.length : Int) ∧ lv = .slice ap (ek R v k).P.length cp ∧ EcSt w W B gr cr gx cx R.length ap cp D a ca (ek R v k)

end Go.Proofs.Ytodiokladojnjaa.B
