/- PartFaults: two places are thrown: what the walk keeps. -/
import Derived.Test.YtdgkdoccllolpaaDoorPLawK
import Derived.Test.YtdgkdoccllolpaaDoorPReg
namespace Go.Proofs.YtdgkdoccllolpaaDoor.P
open Go Go.RowKit Go.Shelf
open G
theorem nf10 {b0 b1 b2 b3 b4 b5 b6 b7 b8 b9 : Bool} (h : 0 = nf b0 + nf b1 + nf b2 + nf b3 + nf b4 + nf b5 + nf b6 + nf b7 + nf b8 + nf b9) : b0 = true ∧ b1 = true ∧ b2 = true ∧ b3 = true ∧ b4 = true ∧ b5 = true ∧ b6 = true ∧ b7 = true ∧ b8 = true ∧ b9 = true := by
  cases b0 <;> cases b1 <;> cases b2 <;> cases b3 <;> cases b4 <;> cases b5 <;> cases b6 <;> cases b7 <;> cases b8 <;> cases b9 <;> simp [nf] at h ⊢
theorem get10 {b0 b1 b2 b3 b4 b5 b6 b7 b8 b9 : Bool} (h : 0 = nf b0 + nf b1 + nf b2 + nf b3 + nf b4 + nf b5 + nf b6 + nf b7 + nf b8 + nf b9) {i : Nat} (hi : i < 10) : (#[b0, b1, b2, b3, b4, b5, b6, b7, b8, b9] : Array Bool).getD i true = true := by
  obtain ⟨rfl, rfl, rfl, rfl, rfl, rfl, rfl, rfl, rfl, rfl⟩ := nf10 h
  rcases lt_10 hi with rfl | rfl | rfl | rfl | rfl | rfl | rfl | rfl | rfl | rfl <;> rfl
structure LKB (w : World) (dp : Nat) (a : Option Addr) (cap : Nat) (ts : List Int) (p : Nat) (x : Nat → Int) (B : Nat) (W : World) : Prop where
  lk : LK w dp a cap ts p x W
  size : B ≤ W.heap.size
  far : ∀ b off, a = some ⟨b, off, none⟩ → 0 < ts.length → b < B
  dlt : dp < B
  plt : p < B
  nlt : 0 < B
variable {w W W' : World} {dp p B : Nat} {a : Option Addr} {cap : Nat} {ts : List Int} {x : Nat → Int}
theorem LKB.start (h : LK w dp a cap ts p x W) : LKB w dp a cap ts p x W.heap.size W.drew :=
  ⟨h.below (Below.refl _ W).drew, Nat.le_refl _, h.dice.elim fun _ hk => hk.far, h.dice.elim fun _ hk => hk.lt, h.shape.lt, h.tab.lt⟩
theorem LKB.alloc (h : LKB w dp a cap ts p x B W) (o : Obj) : LKB w dp a cap ts p x B (W.alloc o) :=
  ⟨h.lk.alloc o, Nat.le_trans h.size ((Below.refl _ W).alloc (Nat.le_refl _) o).size, h.far, h.dlt, h.plt, h.nlt⟩
section
attribute [local semireducible] Tab
theorem LKB.put (h : LKB w dp a cap ts p x B W) {q : Nat} (hq : B ≤ q) (z : Nat → Int) : LKB w dp a cap ts p x B (put6 W q z) := by
  have hb := put6_below (Below.refl B W) hq z
  have hs := hb.size
  refine ⟨⟨h.lk.dice.elim fun k hk => ⟨k, hk.belowAt hb h.dlt h.far⟩, put6_other h.lk.shape (by have := h.plt; omega) z, fun k j hk hj => ?_, put6_below h.lk.bel (Nat.le_trans h.lk.lo (by have := h.dlt; omega)) z, h.lk.lo, h.lk.ne, h.lk.net⟩, Nat.le_trans h.size hs, h.far, h.dlt, h.plt, h.nlt⟩
  exact (hb.cell (p := ⟨0, k * 6 + j, none⟩) h.nlt).trans (h.lk.tab k j hk hj)
end
section
attribute [local semireducible] Slot
theorem Slot.diced {b : Bool} {s : Value} {t : TypeId} {z : Nat → Int} (h : Slot W B b s t z) (hg : W.grownBy W' (some dp)) (hd : dp < B) : Slot W' B b s t z := fun e => by
  obtain ⟨q, h1, h2, h3⟩ := h e
  exact ⟨q, h1, h2, h3.diced hg (by omega)⟩
end
section
attribute [local semireducible] sel
theorem Slot.sel_no {b c : Bool} {s : Value} {t : TypeId} {y : Nat → Int} (h : Slot W B b s t (sel c y)) (hc : c = false) (z : Nat → Int) : Slot W B b s t (sel c z) := by
  subst hc; exact h
end
/-- A throw of a place. -/
theorem place_lk (hx : okB x = true) (h : LKB w dp a cap ts p x B W) :
    Calls Tryd.prog 16 #[.pointer (some ⟨dp, 0, none⟩), .agg #[.int .i64 (x 0), .int .i64 (x 1), .int .i64 (x 2), .int .i64 (x 3), .int .i64 (x 4), .int .i64 (x 5)]] W fun e W' => ∃ (y : Nat → Int), e = .returned (.agg #[.int .i64 (y 0), .int .i64 (y 1), .int .i64 (y 2), .int .i64 (y 3), .int .i64 (y 4), .int .i64 (y 5)]) ∧ Inn x y 6 ∧ LKB w dp a cap ts p x B W' ∧ ∀ (b : Bool) (s : Value) (t : TypeId) (z : Nat → Int), Slot W B b s t z → Slot W' B b s t z := by
  obtain ⟨k, hk⟩ := h.lk.dice
  exact (place_any W dp a cap ts k x hx hk).mono fun e W' ⟨y, k', h1, h2, h3, h4⟩ => ⟨y, h1, h2, ⟨h.lk.grown h3 h4, Nat.le_trans h.size h4.size, h.far, h.dlt, h.plt, h.nlt⟩, fun b s t z hs => hs.diced h4 h.dlt⟩
end Go.Proofs.YtdgkdoccllolpaaDoor.P
