/- Which numbers of its place a fault names: the table part.named. -/
import Derived.Test.YtdgkdoccllolpaaDoorPSix
import Derived.Lib.LaidU8
import Derived.Test.YtdgkdoccllolpaaDoorRows
namespace Go.Proofs.YtdgkdoccllolpaaDoor.P
open Go Go.RowKit Go.Shelf
open G
/-- A fault of kind k names the number j. -/
def nmB (k : Int) (j : Nat) : Bool :=
  if k = 1 then true else if k = 2 then j != 5 else if k = 3 then j != 4 else if k = 4 then decide (j < 4) else if k = 5 then decide (j < 3) else if k = 6 then decide (j < 2) else false
def knB (k : Int) : Bool := decide (1 ≤ k ∧ k ≤ 6)
/-- The table lies in memory. -/
def Tab (W : World) : Prop := ∀ k j : Nat, k < 7 → j < 6 → W.cell? ⟨0, k * 6 + j, none⟩ = some (.bool (nmB (k : Int) j))
theorem Tab.below {W W' : World} (h : Tab W) (hb : Below W.heap.size W W') : Tab W' := fun k j hk hj => cell_below hb (h k j hk hj)
theorem Tab.drewN {W : World} (h : Tab W) (n : Nat) : Tab (W.drewN n) := h
theorem Tab.at {W : World} (h : Tab W) (k j : Nat) (hk : k < 7) (hj : j < 6) : W.cell? ⟨0, k * 6 + j, none⟩ = some (.bool (nmB (k : Int) j)) := h k j hk hj
section
variable {H : Type} {enc : TypeId × Value → H} {P : Program} {w : World} {base : Nat} {sp : Nat → Bool} {held : Bool}
theorem bools_of_array {fuel n : Nat} {t e : TypeId} {cs : List Value} {bs : List Bool} {p : List MemPlace} (ht : P.underlying t = some (.array n e)) (he : P.underlying e = some .bool) (hce : P.cellsOf e = 1)
    (h : DataW.trod enc P w base sp held fuel t cs = some (.agg (bs.map fun b => .lit (.bool b)), p)) (j : Nat) (hj : j < n) : ∃ b, bs[j]? = some b ∧ cs[j]? = some (.bool b) := by
  obtain ⟨f', d, q, hd, hx⟩ := Lib.array_elem ht h j hj
  rw [hce, Nat.mul_one] at hx
  obtain ⟨b, hb, hq⟩ := DataW.trod_bool he hx
  have h1 : cs[j]? = some (.bool b) := by
    have := congrArg (·[0]?) hb
    simpa [List.getElem?_take, List.getElem?_drop] using this
  cases hq
  rw [List.getElem?_map] at hd
  cases hbs : bs[j]? with
  | none => rw [hbs] at hd; cases hd
  | some b' =>
    rw [hbs] at hd
    cases hd
    exact ⟨_, rfl, h1⟩
end
theorem tab_of_laid {w : World} (h : laidMet Tryd.prog [("memfault/part.named", Rows.laid_memfault_part_named)] w) : Tab w := by
  obtain ⟨g, t, cs, fuel, p, hg, hty, hvar, hd⟩ := Lib.laidMet.reads h (.head _)
  obtain rfl := Option.some.inj ((show Tryd.prog.globalNamed "memfault/part.named" = some 0 by kernel_rfl).symm.trans hg)
  obtain rfl := Option.some.inj ((show (Tryd.prog.globals[0]?).map (·.type) = some 67 by kernel_rfl).symm.trans hty)
  intro k j hk hj
  rw [World.var?_cell hg hvar]
  obtain ⟨f', d, q, hdi, he⟩ := Lib.array_elem Tryd.underlying67 hd k hk
  rw [show Tryd.prog.cellsOf 66 = 6 by kernel_rfl] at he
  have hrow : ∃ bs : List Bool, d = .agg (bs.map fun b => .lit (.bool b)) ∧ bs[j]? = some (nmB (k : Int) j) := by
    obtain rfl | rfl | rfl | rfl | rfl | rfl | rfl : k = 0 ∨ k = 1 ∨ k = 2 ∨ k = 3 ∨ k = 4 ∨ k = 5 ∨ k = 6 := by omega
    · obtain rfl | rfl | rfl | rfl | rfl | rfl : j = 0 ∨ j = 1 ∨ j = 2 ∨ j = 3 ∨ j = 4 ∨ j = 5 := by omega
      all_goals exact ⟨[false, false, false, false, false, false], (Option.some.inj hdi).symm, rfl⟩
    · obtain rfl | rfl | rfl | rfl | rfl | rfl : j = 0 ∨ j = 1 ∨ j = 2 ∨ j = 3 ∨ j = 4 ∨ j = 5 := by omega
      all_goals exact ⟨[true, true, true, true, true, true], (Option.some.inj hdi).symm, rfl⟩
    · obtain rfl | rfl | rfl | rfl | rfl | rfl : j = 0 ∨ j = 1 ∨ j = 2 ∨ j = 3 ∨ j = 4 ∨ j = 5 := by omega
      all_goals exact ⟨[true, true, true, true, true, false], (Option.some.inj hdi).symm, rfl⟩
    · obtain rfl | rfl | rfl | rfl | rfl | rfl : j = 0 ∨ j = 1 ∨ j = 2 ∨ j = 3 ∨ j = 4 ∨ j = 5 := by omega
      all_goals exact ⟨[true, true, true, true, false, true], (Option.some.inj hdi).symm, rfl⟩
    · obtain rfl | rfl | rfl | rfl | rfl | rfl : j = 0 ∨ j = 1 ∨ j = 2 ∨ j = 3 ∨ j = 4 ∨ j = 5 := by omega
      all_goals exact ⟨[true, true, true, true, false, false], (Option.some.inj hdi).symm, rfl⟩
    · obtain rfl | rfl | rfl | rfl | rfl | rfl : j = 0 ∨ j = 1 ∨ j = 2 ∨ j = 3 ∨ j = 4 ∨ j = 5 := by omega
      all_goals exact ⟨[true, true, true, false, false, false], (Option.some.inj hdi).symm, rfl⟩
    · obtain rfl | rfl | rfl | rfl | rfl | rfl : j = 0 ∨ j = 1 ∨ j = 2 ∨ j = 3 ∨ j = 4 ∨ j = 5 := by omega
      all_goals exact ⟨[true, true, false, false, false, false], (Option.some.inj hdi).symm, rfl⟩
  obtain ⟨bs, rfl, hbs⟩ := hrow
  obtain ⟨b, hb, hc⟩ := bools_of_array Tryd.underlying66 Tryd.underlying4 (by kernel_rfl) he j hj
  rw [hbs] at hb
  cases hb
  have h1 : cs.toList[k * 6 + j]? = some (.bool (nmB (k : Int) j)) := by
    rw [List.getElem?_take, if_pos hj, List.getElem?_drop] at hc
    exact hc
  simpa using h1
attribute [irreducible] nmB knB Tab
end Go.Proofs.YtdgkdoccllolpaaDoor.P
