/- bitmat.Turn. -/
import Derived.Test.YtodiokladojnjaaBMul
namespace Go.Proofs.Ytodiokladojnjaa.B
open Go Go.RowKit Go.Shelf
open BM (St)

/-- A matrix and a result lie in boxes. -/
structure M1 (w : World) (C : Int) (a : Option Addr) (ca : Nat) (R : List V) (W : World) : Prop where
  pa : MBox W w.heap.size C a R.length ca
  pr : MBox W (w.heap.size + 1) 0 none 0 0
  ra : Row W a R ca
  below : Below w.heap.size w W
  size : w.heap.size + 1 + 1 ≤ W.heap.size
  fa : ∀ b' o, a = some ⟨b', o, none⟩ → 0 < R.length → b' < w.heap.size
theorem M1.keep {w W W' : World} {C : Int} {a : Option Addr} {ca : Nat} {R : List V} (h : M1 w C a ca R W) (hb : Below W.heap.size W W') : M1 w C a ca R W' :=
  ⟨h.pa.below hb, h.pr.below hb, h.ra.below hb, h.below.trans (hb.mono h.below.size), Nat.le_trans h.size hb.size, h.fa⟩
theorem M1.drewN {w W : World} {C : Int} {a : Option Addr} {ca : Nat} {R : List V} (h : M1 w C a ca R W) (n : Nat) : M1 w C a ca R (W.drewN n) :=
  ⟨h.pa.drewN n, h.pr.drewN n, h.ra.drewN n, belowN h.below n, h.size, h.fa⟩
/-- A store into a block of the call's own. -/
theorem M1.other {w W : World} {C : Int} {a : Option Addr} {ca : Nat} {R : List V} (h : M1 w C a ca R W) {g : Nat} (hg : w.heap.size + 1 + 1 ≤ g) (j : Nat) (u : Value) : M1 w C a ca R (W.setCell ⟨g, j, none⟩ u) :=
  ⟨h.pa.other (show g ≠ w.heap.size by omega) u, h.pr.other (show g ≠ w.heap.size + 1 by omega) u, h.ra.other u (fun b' o e h0 => by have := h.fa b' o e h0; show b' ≠ g; omega), h.below.setCell (p := ⟨g, j, none⟩) (by show _ ≤ g; omega) u, by have := h.size; simpa [World.setCell] using this, h.fa⟩
theorem M1.start {w : World} {C : Int} {a : Option Addr} {ca : Nat} {R : List V} (hA : Row w a R ca) :
    M1 w C a ca R ((w.alloc (.cells #[.int .i64 C, .slice a R.length ca] 49)).alloc (.cells #[.int .i64 0, .slice none 0 0] 49)) := by
  have h1 := MBox.new w C a R.length ca 49
  have h2 := MBox.new (w.alloc (.cells #[.int .i64 C, .slice a R.length ca] 49)) 0 none 0 0 49
  simp only [World.size_alloc] at h2
  exact ⟨h1.alloc _, h2, (hA.alloc _).alloc _, ((Below.refl _ w).alloc (Nat.le_refl _) _).alloc (by simp) _, by simp, fun b' o e h0 => by subst e; exact hA.lt h0⟩
/-- A matrix has been stored as the result. -/
theorem M1.stored {w W : World} {C : Int} {a : Option Addr} {ca : Nat} {R : List V} (h : M1 w C a ca R W) (D : Int) (a' : Option Addr) (n c : Nat) :
    MBox ((W.setCell ⟨w.heap.size + 1, 0, none⟩ (.int .i64 D)).setCell ⟨w.heap.size + 1, 1, none⟩ (.slice a' n c)) (w.heap.size + 1) D a' n c ∧ Below w.heap.size w ((W.setCell ⟨w.heap.size + 1, 0, none⟩ (.int .i64 D)).setCell ⟨w.heap.size + 1, 1, none⟩ (.slice a' n c)) ∧ (W.setCell ⟨w.heap.size + 1, 0, none⟩ (.int .i64 D)).cell? ⟨w.heap.size + 1, 1, none⟩ = some (.slice none 0 0) :=
  ⟨h.pr.set, (h.below.setCell (p := ⟨w.heap.size + 1, 0, none⟩) (by show _ ≤ w.heap.size + 1; omega) _).setCell (p := ⟨w.heap.size + 1, 1, none⟩) (by show _ ≤ w.heap.size + 1; omega) _, (World.cell?_setCell_other _ _ _ _ (by intro e; cases e)).trans h.pr.c1⟩

/-- Column j of the first k rows. -/
def trF (R : List V) (k j : Nat) : V := BM.ofB k (fun i => BM.bt (el R i) j)
def trM (R : List V) (k c j : Nat) : V := if j < c then trF R (k + 1) j else trF R k j
theorem trM_0 (R : List V) (k : Nat) : trM R k 0 = trF R k := by funext j; unfold trM; rw [if_neg (Nat.not_lt_zero j)]
theorem trM_end (R : List V) (k C : Nat) : tab C (trM R k C) = tab C (trF R (k + 1)) := tab_ext (fun j hj => by unfold trM; rw [if_pos hj])
theorem trM_at (R : List V) (k c : Nat) : trM R k c c = trF R k c := by unfold trM; rw [if_neg (Nat.lt_irrefl c)]
theorem trM_step (R : List V) (k c : Nat) : upd (trM R k c) c (trF R (k + 1) c) = trM R k (c + 1) := by
  funext j
  unfold upd trM
  by_cases e : j = c
  · subst e; rw [if_pos rfl, if_pos (Nat.lt_succ_self j)]
  · rw [if_neg e]
    by_cases h : j < c
    · rw [if_pos h, if_pos (by omega)]
    · rw [if_neg h, if_neg (by omega)]
theorem trF_succ (R : List V) (k c : Nat) : trF R k c ||| b1 (BM.bt (el R k) c) <<< k = trF R (k + 1) c := by rw [b1_shl]; rfl
theorem trF_0 (R : List V) (C : Nat) : List.replicate C (Elt.z : V) = tab C (trF R 0) := tab_replicate C _

def turnE (C : Int) (R : List V) : Int := if validB C R then 0 else 1
def turnC (C : Int) (R : List V) : Int := if validB C R then R.length else 0
def turnR (C : Int) (R : List V) : List V := if validB C R then tab C.toNat (trF R R.length) else []
def TurnRel (w : World) (C : Nat) (a : Option Addr) (ca : Nat) (R : List V) (p g : Nat) (f : Nat → V) (W : World) : Prop :=
  M1 w C a ca R W ∧ MBox W p R.length (some ⟨g, 0, none⟩) C C ∧ Own W (w.heap.size + 1 + 1) (.slice (some ⟨g, 0, none⟩) C C) (tab C f)
def TurnCut (w : World) (C : Nat) (a : Option Addr) (ca : Nat) (R : List V) (v : Value) (W : World) : Prop :=
  ∃ p g, v = .pointer (some ⟨p, 0, none⟩) ∧ p ≠ g ∧ w.heap.size + 1 < p ∧ w.heap.size + 1 < g ∧ TurnRel w C a ca R p g (trF R 0) W

end Go.Proofs.Ytodiokladojnjaa.B
