/- Slices of bytes that a call has made itself. -/
import Derived.Test.YtamniclnhenmgaaDoorOwn
namespace Go.Proofs.YtamniclnhenmgaaDoor
open Go Go.RowKit Go.Shelf

/-- The slice v of bytes, made from block B on, holds bs. -/
def OwnB (W : World) (B : Nat) (v : Value) (bs : List Nat) : Prop := W.ownsRow B 5 1 v bs.length (bs.map fun (b : Nat) => Value.int .u8 (b : Int))

theorem OwnB.nil (W : World) (B : Nat) : OwnB W B (.slice none 0 0) [] := World.ownsRow_nil _ _ _ _
theorem OwnB.below {W W' : World} {B : Nat} {v : Value} {bs : List Nat} (h : OwnB W B v bs) (hb : Below W.heap.size W W') : OwnB W' B v bs :=
  World.ownsRow.kept h (grown_of_below hb) (by cases v.ownBlock with | none => exact .inl rfl | some k => exact .inr (by intro e; cases e))
theorem OwnB.alloc {W : World} {B : Nat} {v : Value} {bs : List Nat} (h : OwnB W B v bs) (o : Obj) : OwnB (W.alloc o) B v bs :=
  h.below ((Below.refl _ W).alloc (Nat.le_refl _) _)
/-- Kept while another block below B turns. -/
theorem OwnB.kept {W W' : World} {B : Nat} {v : Value} {bs : List Nat} (h : OwnB W B v bs) {row : Option Nat} (hg : W.grownBy W' row) (hr : ∀ k, row = some k → k < B) : OwnB W' B v bs :=
  World.ownsRow.kept h hg (by
    cases hv : v.ownBlock with
    | none => exact .inl rfl
    | some k => exact .inr (by intro e; have h1 := hr k e.symm; have h2 := (World.ownsRow.lt h k hv).1; omega))
theorem OwnB.slice {W : World} {B : Nat} {v : Value} {bs : List Nat} (h : OwnB W B v bs) : ∃ a cap, v = .slice a bs.length cap := by
  obtain ⟨h1, h2 | ⟨g, cap, cur, hv, _⟩⟩ := h
  · exact ⟨none, 0, by rw [h2.1, h2.2]⟩
  · exact ⟨_, cap, hv⟩
theorem OwnB.parts {W : World} {B : Nat} {a : Option Addr} {n cap : Nat} {bs : List Nat} (h : OwnB W B (.slice a n cap) bs) (h0 : 0 < bs.length) :
    ∃ g, a = some ⟨g, 0, none⟩ ∧ B ≤ g ∧ g < W.heap.size ∧ bs.length ≤ cap ∧ cap ≤ 9223372036854775807 ∧ ∀ (j : Nat) (hj : j < bs.length), W.cell? ⟨g, j, none⟩ = some (.int .u8 (bs[j] : Nat)) ∧ W.frozen? ⟨g, j, none⟩ = false := by
  have h' := h
  obtain ⟨h1, h2 | ⟨g, cap', cur, hv, hg, hh, r1, r2, r3⟩⟩ := h
  · omega
  · cases hv
    refine ⟨g, rfl, hg, (Array.getElem?_eq_some_iff.1 hh).1, r1, r2, fun j hj => ⟨?_, World.ownsRow.frozenAt h' j⟩⟩
    rw [World.ownsRow.cellAt h' j (by simpa using hj), List.getElem?_map, List.getElem?_eq_getElem hj]
    rfl

theorem info_byte : (Tryd.prog.info? 5).map (fun i => (i.zero, i.size, i.bytes)) = some (some (.int .u8 0), 1, 1) := by kernel_rfl

/-- **append(s, x)**, s a slice of bytes that is owned. -/
theorem wpList_appB {W : World} {ops : Array Oper} {rest : List Oper} {o : Oper} {a : Act} {Q : Exit → Act → World → Prop} (hgd : o.guard = none) (s x : Operand)
    (ho : o.op = .call { callee := .builtin .append, args := #[s, x], argTypes := #[80, 80] }) {B : Nat} {v : Value} {bs : List Nat} {X : Int} (z : Nat) (hs : a.eval s = v) (hown : OwnB W B v bs)
    {b : Nat} (hx : a.eval x = .slice (some ⟨b, 0, none⟩) 1 1) (hc : W.cell? ⟨b, 0, none⟩ = some (.int .u8 X)) (hz : X = (z : Int)) (hl : bs.length < 1000000) (hbase : B ≤ W.heap.size)
    (h : ∀ a' cap' W', OwnB W' B (.slice a' (bs ++ [z]).length cap') (bs ++ [z]) → W.grownBy W' v.ownBlock → wpList Tryd.prog ops Q rest (a.put o.dst (.slice a' (bs.length + 1) cap')) W') : wpList Tryd.prog ops Q (o :: rest) a W := by
  subst hz
  obtain ⟨i0, hi, hz0, hz1, hz2⟩ := info_parts info_byte
  refine wpList_append_own W hgd s x 80 ho B 5 i0 (.int .u8 0) 1 1 Tryd.underlying80 hi hz0 hz1 hz2 rfl (by decide) v bs.length _ hs hown ⟨b, 0, none⟩ 1 1 [.int .u8 (z : Int)] hx rfl ?_ ?_ (by unfold maxLen; omega) (by omega) hbase ?_
  · intro j u hj
    match j, hj with
    | 0, hj => simp at hj; subst hj; simpa [Addr.add] using hc
  · intro u hu; simp at hu; subst hu; rfl
  · intro v' W' hown' hgrow _
    have ho2 : OwnB W' B v' (bs ++ [z]) := by unfold OwnB; simpa using hown'
    obtain ⟨a', cap', rfl⟩ := ho2.slice
    have := h a' cap' W' ho2 hgrow
    simpa using this
end Go.Proofs.YtamniclnhenmgaaDoor
