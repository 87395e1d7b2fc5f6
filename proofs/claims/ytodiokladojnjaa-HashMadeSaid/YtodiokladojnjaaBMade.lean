/- made.Dice.Matrix. -/
import Derived.Test.YtodiokladojnjaaBDice
import Derived.Test.YtodiokladojnjaaBKern
namespace Go.Proofs.Ytodiokladojnjaa.B
open Go Go.RowKit Go.Shelf
open BM (St)

theorem MBox.grown {W W' : World} {p dp : Nat} {C : Int} {a : Option Addr} {n cap : Nat} (h : MBox W p C a n cap) (hg : W.grownBy W' (some dp)) (hne : p ≠ dp) : MBox W' p C a n cap :=
  ⟨cell_grown hg hne h.c0, cell_grown hg hne h.c1, frozen_grown hg hne h.c0 h.f0, frozen_grown hg hne h.c1 h.f1⟩
theorem Own.far {α : Type} [Elt α] {W W' : World} {B dp : Nat} {v : Value} {zs : List α} (h : Own W B v zs) (hg : W.grownBy W' (some dp)) (hdp : dp < B) : Own W' B v zs :=
  h.grown hg (by
    cases hv : v.ownBlock with
    | none => exact .inl rfl
    | some g => exact .inr (by intro e; cases e; have := (World.ownsRow.lt h _ hv).1; omega))

theorem fit_zero (n : Nat) : fitB 0 n = true := (fitB_iff _ _).2 (fun k _ => BM.bt_zero k)
theorem fit_or {a b : V} {n : Nat} (ha : fitB a n = true) (hb : fitB b n = true) : fitB (a ||| b) n = true := by
  rw [fitB_iff] at ha hb ⊢
  intro k hk
  unfold BM.bt at ha hb ⊢
  rw [BitVec.getLsbD_or, ha k hk, hb k hk]; rfl
theorem fit_xor {a b : V} {n : Nat} (ha : fitB a n = true) (hb : fitB b n = true) : fitB (a ^^^ b) n = true := by
  rw [fitB_iff] at ha hb ⊢
  intro k hk
  rw [BM.bt_xor, ha k hk, hb k hk]; rfl
theorem fit_unit {k n : Nat} (h : k < n) : fitB (1#64 <<< k) n = true := by
  rw [fitB_iff]
  intro j hj
  rw [BM.bt_shl]
  exact decide_eq_false (by omega)
theorem fit_b1 {k n : Nat} (t : Bool) (h : k < n) : fitB (b1 t <<< k) n = true := by
  rw [b1_shl]
  cases t
  · exact fit_zero n
  · exact fit_unit h

/-- What Matrix leaves. -/
def MatrixPost (w : World) (dp : Nat) (a : Option Addr) (cap : Nat) (ts : List Int) (r c : Nat) (e : Ending) (W : World) : Prop :=
  ∃ (v : Value) (R : List V) (k' : Nat), e = .returned v ∧ R.length = r ∧ (∀ j, j < r → fitB (el R j) c = true) ∧ MatR w.heap.size W v c R ∧ Dice W dp a cap ts k' ∧ w.grownBy W (some dp)
structure MtSt (w : World) (dp : Nat) (a : Option Addr) (cap : Nat) (ts : List Int) (n c : Nat) (W : World) : Prop where
  rows : ∃ (a' : Option Addr) (c' : Nat) (ys : List V), ys.length = n ∧ (∀ j, j < n → fitB (el ys j) c = true) ∧ MBox W (w.heap.size + 1) c a' n c' ∧ Own W (w.heap.size + 1 + 1) (.slice a' n c') ys
  res : MBox W w.heap.size 0 none 0 0
  dice : ∃ k', Dice W dp a cap ts k'
  gr : w.grownBy W (some dp)
  size : w.heap.size + 1 + 1 ≤ W.heap.size
theorem grown_from {w W : World} {a b : Option Nat} (h : w.grownBy W a) (hn : ∀ k, a = some k → w.heap.size ≤ k) : w.grownBy W b :=
  ⟨h.os, h.tape, h.output, h.size, fun k hk _ => h.block k hk (fun e => by have := hn k e.symm; omega)⟩

theorem MtSt.next {w : World} {dp : Nat} {a : Option Addr} {cap : Nat} {ts : List Int} {n c : Nat} {W W' : World} (h : MtSt w dp a cap ts n c W) (hdp : dp < w.heap.size) (hg : W.grownBy W' (some dp)) (hd : ∃ k', Dice W' dp a cap ts k') : MtSt w dp a cap ts n c W' := by
  obtain ⟨a', c', ys, h1, h2, h3, h4⟩ := h.rows
  exact ⟨⟨a', c', ys, h1, h2, h3.grown hg (by omega), h4.far hg (by omega)⟩, h.res.grown hg (by omega), hd, grown_trans h.gr hg, Nat.le_trans h.size hg.size⟩
theorem next_bit {r : Nat} (h : r < 2) : ∃ t : Bool, (r : Int) = ((b1 t).toNat : Int) := by
  match r, h with
  | 0, _ => exact ⟨false, rfl⟩
  | 1, _ => exact ⟨true, rfl⟩
/-- A row has been appended. -/
theorem MtSt.push {w : World} {dp : Nat} {a : Option Addr} {cap : Nat} {ts : List Int} {n c : Nat} {W W' : World} (h : MtSt w dp a cap ts n c W) (hdp : dp < w.heap.size) (hf : ∀ b off, a = some ⟨b, off, none⟩ → 0 < ts.length → b < w.heap.size)
    {a' a3 : Option Addr} {c' c3 : Nat} {ys : List V} {x : V} (h1 : ys.length = n) (h2 : ∀ j, j < n → fitB (el ys j) c = true) (hx : fitB x c = true) (h3 : MBox W (w.heap.size + 1) c a' n c')
    (ho : Own W' (w.heap.size + 1 + 1) (.slice a3 (n + 1) c3) (ys ++ [x])) (hb : Below (w.heap.size + 1 + 1) W W') : MtSt w dp a cap ts (n + 1) c (W'.setCell ⟨w.heap.size + 1, 1, none⟩ (.slice a3 (n + 1) c3)) := by
  obtain ⟨k', hd⟩ := h.dice
  have k0 : W'.cell? ⟨w.heap.size + 1, 0, none⟩ = some (.int .i64 (c : Int)) := (hb.cell (p := ⟨w.heap.size + 1, 0, none⟩) (by show w.heap.size + 1 < _; omega)).trans h3.c0
  have k1 : W'.cell? ⟨w.heap.size + 1, 1, none⟩ = some (.slice a' n c') := (hb.cell (p := ⟨w.heap.size + 1, 1, none⟩) (by show w.heap.size + 1 < _; omega)).trans h3.c1
  have k2 : W'.frozen? ⟨w.heap.size + 1, 0, none⟩ = false := (hb.frozen (p := ⟨w.heap.size + 1, 0, none⟩) (by show w.heap.size + 1 < _; omega)).trans h3.f0
  have k3 : W'.frozen? ⟨w.heap.size + 1, 1, none⟩ = false := (hb.frozen (p := ⟨w.heap.size + 1, 1, none⟩) (by show w.heap.size + 1 < _; omega)).trans h3.f1
  refine ⟨⟨a3, c3, ys ++ [x], by rw [List.length_append, h1]; rfl, fun j hj => ?_, ⟨(World.cell?_setCell_other _ _ _ _ (by intro e; cases e)).trans k0, World.cell?_setCell_same' _ _ _ (by rw [k1]; rfl), (World.frozen?_setCell _ _ _ _).trans k2, (World.frozen?_setCell _ _ _ _).trans k3⟩, ho.setBelow (show w.heap.size + 1 < _ by omega) _⟩, ?_, ⟨k', ?_⟩, ?_, ?_⟩
  · rw [el_append, h1]
    by_cases h5 : j < n
    · rw [if_pos h5]; exact h2 j h5
    · rw [if_neg h5, show j - n = 0 by omega]; exact hx
  · have e := h.res
    exact (⟨(hb.cell (p := ⟨w.heap.size, 0, none⟩) (by show w.heap.size < _; omega)).trans e.c0, (hb.cell (p := ⟨w.heap.size, 1, none⟩) (by show w.heap.size < _; omega)).trans e.c1, (hb.frozen (p := ⟨w.heap.size, 0, none⟩) (by show w.heap.size < _; omega)).trans e.f0, (hb.frozen (p := ⟨w.heap.size, 1, none⟩) (by show w.heap.size < _; omega)).trans e.f1⟩ : MBox W' w.heap.size 0 none 0 0).other (show w.heap.size + 1 ≠ w.heap.size by omega) _
  · exact hd.belowAt (B := w.heap.size) ((hb.mono (by omega)).setCell (p := ⟨w.heap.size + 1, 1, none⟩) (by show _ ≤ w.heap.size + 1; omega) _) hdp hf
  · exact grown_setCell (grown_then h.gr (hb.mono (by omega))) _ (.inl (by show _ ≤ w.heap.size + 1; omega))
  · have := hb.size
    have h6 := h.size
    simpa [World.setCell] using Nat.le_trans h6 this
theorem below_dice {W W' : World} {B dp : Nat} (hg : W.grownBy W' (some dp)) (h1 : B ≤ dp) (h2 : B ≤ W.heap.size) : Below B W W' :=
  (Below.refl B W).grown hg h2 (fun k e => by cases e; exact h1)
end Go.Proofs.Ytodiokladojnjaa.B
