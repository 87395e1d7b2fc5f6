/- append as a step of a region that draws its order. -/
import Derived.Test.YtjemijjhplajaaaGRow
namespace Go.Proofs.Ytjemijjhplajaaa.G
open Go Go.RowKit Go.Shelf

theorem step_app1 {α : Type} [Elt α] {W : World} {ops : Array Oper} {o : Oper} {a : Act} {K : Act → World → Prop} {Q : Exit → Act → World → Prop} {E : Prop} (hgd : o.guard = none) (s x : Operand)
    (ho : o.op = .call { callee := .builtin .append, args := #[s, x], argTypes := #[Elt.sl α, Elt.sl α] }) {B : Nat} {v : Value} {zs : List α} (c : α) (hs : a.eval s = v) (hown : Own W B v zs)
    {b : Nat} (hx : a.eval x = .slice (some ⟨b, 0, none⟩) 1 1) (hc : W.cell? ⟨b, 0, none⟩ = some (Elt.gv c)) (hl : zs.length < 1000000) (hbase : B ≤ W.heap.size)
    (h : ∀ a' cap' W', Own W' B (.slice a' (zs.length + 1) cap') (zs ++ [c]) → W.grownBy W' v.ownBlock → Below B W W' → (∀ b' o', a' = some ⟨b', o', none⟩ → v.ownBlock = some b' ∨ b' = W.heap.size) → K (a.put o.dst (.slice a' (zs.length + 1) cap')) W') :
    if Region.wanted o (yielded ops a.tmps) = true then Oper.wp Try.prog o a W K Q else E := by
  have hw : Region.wanted o (yielded ops a.tmps) = true := by simp [Region.wanted, hgd]
  rw [if_pos hw]
  exact wp_app1 s x ho c hs hown hx hc hl hbase h
/-- A slice that a call has made does not lie in an older block. -/
theorem own_ne {α : Type} [Elt α] {W : World} {B p : Nat} {v : Value} {zs : List α} (h : Own W B v zs) (hp : p < B) : v.ownBlock ≠ some p := fun e => by
  have := (World.ownsRow.lt h _ e).1
  omega
end Go.Proofs.Ytjemijjhplajaaa.G
