/- For regions that make two arrays of six and store into them, in whatever order. -/
import Derived.Test.YtfleehlajngkbaaPSix
import Derived.Test.YtfleehlajngkbaaGInv
namespace Go.Proofs.Ytfleehlajngkbaa.P
open Go Go.RowKit Go.Shelf
open G
def sel (b : Bool) (x : Nat → Int) : Nat → Int := if b then x else fun _ => 0
theorem nf_f {b : Bool} (h : b = false) : nf b = 1 := by rw [h]; rfl
theorem nf_t : nf true = 0 := rfl
theorem nf8 {b0 b1 b2 b3 b4 b5 b6 b7 : Bool} (h : 0 = nf b0 + nf b1 + nf b2 + nf b3 + nf b4 + nf b5 + nf b6 + nf b7) : b0 = true ∧ b1 = true ∧ b2 = true ∧ b3 = true ∧ b4 = true ∧ b5 = true ∧ b6 = true ∧ b7 = true := by
  have hz : ∀ b, nf b = 0 → b = true := by intro b; cases b <;> simp [nf]
  exact ⟨hz _ (by omega), hz _ (by omega), hz _ (by omega), hz _ (by omega), hz _ (by omega), hz _ (by omega), hz _ (by omega), hz _ (by omega)⟩
theorem get8 {b0 b1 b2 b3 b4 b5 b6 b7 : Bool} (h : 0 = nf b0 + nf b1 + nf b2 + nf b3 + nf b4 + nf b5 + nf b6 + nf b7) {i : Nat} (hi : i < 8) : (#[b0, b1, b2, b3, b4, b5, b6, b7] : Array Bool).getD i true = true := by
  obtain ⟨rfl, rfl, rfl, rfl, rfl, rfl, rfl, rfl⟩ := nf8 h
  rcases lt_8 hi with rfl | rfl | rfl | rfl | rfl | rfl | rfl | rfl <;> rfl
theorem nf9 {b0 b1 b2 b3 b4 b5 b6 b7 b8 : Bool} (h : 0 = nf b0 + nf b1 + nf b2 + nf b3 + nf b4 + nf b5 + nf b6 + nf b7 + nf b8) : b0 = true ∧ b1 = true ∧ b2 = true ∧ b3 = true ∧ b4 = true ∧ b5 = true ∧ b6 = true ∧ b7 = true ∧ b8 = true := by
  have hz : ∀ b, nf b = 0 → b = true := by intro b; cases b <;> simp [nf]
  exact ⟨hz _ (by omega), hz _ (by omega), hz _ (by omega), hz _ (by omega), hz _ (by omega), hz _ (by omega), hz _ (by omega), hz _ (by omega), hz _ (by omega)⟩
theorem get9 {b0 b1 b2 b3 b4 b5 b6 b7 b8 : Bool} (h : 0 = nf b0 + nf b1 + nf b2 + nf b3 + nf b4 + nf b5 + nf b6 + nf b7 + nf b8) {i : Nat} (hi : i < 9) : (#[b0, b1, b2, b3, b4, b5, b6, b7, b8] : Array Bool).getD i true = true := by
  obtain ⟨rfl, rfl, rfl, rfl, rfl, rfl, rfl, rfl, rfl⟩ := nf9 h
  rcases lt_9 hi with rfl | rfl | rfl | rfl | rfl | rfl | rfl | rfl | rfl <;> rfl

/-- If b: the slot s holds the address of a block, from B on, with the six numbers x. -/
def Slot (W : World) (B : Nat) (b : Bool) (s : Value) (t : TypeId) (x : Nat → Int) : Prop := b = true → ∃ p, s = .pointer (some ⟨p, 0, none⟩) ∧ B ≤ p ∧ Six W p t x
theorem Slot.no {W : World} {B : Nat} {s : Value} {t : TypeId} {x : Nat → Int} : Slot W B false s t x := fun h => by cases h
theorem Slot.below {W W' : World} {B : Nat} {b : Bool} {s : Value} {t : TypeId} {x : Nat → Int} (h : Slot W B b s t x) (hb : Below W.heap.size W W') : Slot W' B b s t x := fun e => by
  obtain ⟨p, h1, h2, h3⟩ := h e
  exact ⟨p, h1, h2, h3.below hb⟩
theorem Slot.alloc {W : World} {B : Nat} {b : Bool} {s : Value} {t : TypeId} {x : Nat → Int} (h : Slot W B b s t x) (o : Obj) : Slot (W.alloc o) B b s t x := h.below ((Below.refl _ W).alloc (Nat.le_refl _) _)
theorem Slot.new {W : World} {B : Nat} {b : Bool} (hb : b = false) {t : TypeId} {x : Nat → Int} (h : B ≤ W.heap.size) :
    Slot (W.alloc (.cells #[.int .i64 0, .int .i64 0, .int .i64 0, .int .i64 0, .int .i64 0, .int .i64 0] t)) B true (.pointer (some ⟨W.heap.size, 0, none⟩)) t (sel b x) := fun _ => by
  subst hb
  exact ⟨_, rfl, h, Six.new W t (fun _ => 0)⟩
theorem Slot.ne {W : World} {B : Nat} {b : Bool} {s : Value} {t : TypeId} {x : Nat → Int} (h : Slot W B b s t x) (hb : b = true) : s ≠ .pointer (some ⟨W.heap.size, 0, none⟩) := fun e => by
  obtain ⟨p, h1, _, h3⟩ := h hb
  rw [h1] at e
  cases e
  exact absurd h3.lt (Nat.lt_irrefl _)
/-- The world after a store of six. -/
def put6 (W : World) (p : Nat) (x : Nat → Int) : World :=
  (((((W.setCell ⟨p, 0, none⟩ (.int .i64 (x 0))).setCell ⟨p, 1, none⟩ (.int .i64 (x 1))).setCell ⟨p, 2, none⟩ (.int .i64 (x 2))).setCell ⟨p, 3, none⟩ (.int .i64 (x 3))).setCell ⟨p, 4, none⟩ (.int .i64 (x 4))).setCell ⟨p, 5, none⟩ (.int .i64 (x 5))
theorem put6_six {W : World} {p : Nat} {t : TypeId} {z : Nat → Int} (h : Six W p t z) (x : Nat → Int) : Six (put6 W p x) p t x := by
  unfold Six at h ⊢
  exact (((((Box.set h 0 (.int .i64 (x 0))).set 1 (.int .i64 (x 1))).set 2 (.int .i64 (x 2))).set 3 (.int .i64 (x 3))).set 4 (.int .i64 (x 4))).set 5 (.int .i64 (x 5))
theorem put6_other {W : World} {p q : Nat} {t : TypeId} {y : Nat → Int} (h : Six W q t y) (hne : p ≠ q) (x : Nat → Int) : Six (put6 W p x) q t y :=
  (((((h.other (q := ⟨p, 0, none⟩) hne _).other (q := ⟨p, 1, none⟩) hne _).other (q := ⟨p, 2, none⟩) hne _).other (q := ⟨p, 3, none⟩) hne _).other (q := ⟨p, 4, none⟩) hne _).other (q := ⟨p, 5, none⟩) hne _
theorem put6_below {W W0 : World} {B p : Nat} (h : Below B W0 W) (hp : B ≤ p) (x : Nat → Int) : Below B W0 (put6 W p x) :=
  (((((h.setCell (p := ⟨p, 0, none⟩) hp _).setCell (p := ⟨p, 1, none⟩) hp _).setCell (p := ⟨p, 2, none⟩) hp _).setCell (p := ⟨p, 3, none⟩) hp _).setCell (p := ⟨p, 4, none⟩) hp _).setCell (p := ⟨p, 5, none⟩) hp _
theorem Slot.stored {W : World} {B p : Nat} {b : Bool} {t : TypeId} {z : Nat → Int} (h : Six W p t z) (hB : B ≤ p) (x : Nat → Int) : Slot (put6 W p x) B b (.pointer (some ⟨p, 0, none⟩)) t (sel true x) := fun _ => ⟨p, rfl, hB, put6_six h x⟩
theorem Slot.other {W : World} {B p : Nat} {b : Bool} {s : Value} {t : TypeId} {y : Nat → Int} (h : Slot W B b s t y) (hne : s ≠ .pointer (some ⟨p, 0, none⟩)) (x : Nat → Int) : Slot (put6 W p x) B b s t y := fun e => by
  obtain ⟨q, h1, h2, h3⟩ := h e
  exact ⟨q, h1, h2, put6_other h3 (fun e => hne (by rw [h1, e])) x⟩
theorem Slot.fin {W : World} {B : Nat} {b c : Bool} {s : Value} {t : TypeId} {x : Nat → Int} (h : Slot W B b s t (sel c x)) (hb : b = true) (hc : c = true) : ∃ p, s = .pointer (some ⟨p, 0, none⟩) ∧ Six W p t x := by
  subst hc
  obtain ⟨p, h1, _, h3⟩ := h hb
  exact ⟨p, h1, h3⟩
theorem Six.frees {W : World} {p : Nat} {t : TypeId} {x : Nat → Int} (h : Six W p t x) : W.frozen? ⟨p, 0, none⟩ = false ∧ W.frozen? ⟨p, 1, none⟩ = false ∧ W.frozen? ⟨p, 2, none⟩ = false ∧ W.frozen? ⟨p, 3, none⟩ = false ∧ W.frozen? ⟨p, 4, none⟩ = false ∧ W.frozen? ⟨p, 5, none⟩ = false :=
  ⟨h.free 0, h.free 1, h.free 2, h.free 3, h.free 4, h.free 5⟩
theorem not_after {b c : Bool} (h : c = true → b = true) (hb : b = false) : c = false := by
  cases c with
  | false => rfl
  | true => rw [h rfl] at hb; cases hb
attribute [irreducible] Slot sel
end Go.Proofs.Ytfleehlajngkbaa.P
