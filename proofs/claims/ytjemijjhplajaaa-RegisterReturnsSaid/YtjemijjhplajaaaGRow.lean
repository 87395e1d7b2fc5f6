/- Slices in memory, of any elements that take one cell each (class Elt): what is read, what a call has made itself. The instances: GU8 (bytes), GInt (ints from 0 on), GBool. -/
import Derived.Lib.Hide
import Derived.WalkKit
import Derived.LoopTactic
import Derived.BigQuiet
import Derived.IntWalk
import Derived.Deep.QuietTactic
import Derived.Laws.Bits64
import Derived.Laws.OwnMore
import Derived.Laws.CopyOwn
import Derived.Outline
import Derived.Laws.ResultCell
import Derived.WalkSpells
import Derived.Shelf.Abstract
import Derived.Shelf.RegionOpen
import Derived.OwnWalkIn
import Derived.RangeFuncNested
import Derived.RangeFuncBound
import Derived.RangeFuncCalls
import Derived.RangeFuncLeaves
import Derived.TacticsInMore
import Derived.LoopNIn
import Derived.LoopIn
import Derived.Test.YtjemijjhplajaaaProg
namespace Go.Proofs.Ytjemijjhplajaaa.G
open Go Go.RowKit Go.Shelf

theorem cell_new (w : World) (v : Value) (t : TypeId) : (w.alloc (.cells #[v] t)).cell? ⟨w.heap.size, 0, none⟩ = some v := by
  simp
theorem frozen_new (w : World) (v : Value) (t : TypeId) : (w.alloc (.cells #[v] t)).frozen? ⟨w.heap.size, 0, none⟩ = false := by
  simp
theorem cell_later {w : World} {a : Addr} {v : Value} (o : Obj) (h : w.cell? a = some v) : (w.alloc o).cell? a = some v :=
  cell_kept h (World.grownBy_alloc w o none) (fun r e => by cases e)
theorem frozen_later {w : World} {a : Addr} {v : Value} (o : Obj) (h : w.cell? a = some v) (hf : w.frozen? a = false) : (w.alloc o).frozen? a = false :=
  (frozen_kept h (World.grownBy_alloc w o none) (fun r e => by cases e)).trans hf
theorem lt_of_cell {w : World} {a : Addr} {v : Value} (h : w.cell? a = some v) : a.block < w.heap.size := by
  obtain ⟨o, ho, _⟩ := cells_of_cell h
  exact (Array.getElem?_eq_some_iff.1 ho).1
theorem belowN {B : Nat} {w W : World} (h : Below B w W) (n : Nat) : Below B w (W.drewN n) := ⟨h.os, h.tape, h.output, h.size, h.block⟩
theorem cell_other {W : World} {p a : Addr} (u : Value) (h : a.block ≠ p.block) : (W.setCell p u).cell? a = W.cell? a :=
  World.cell?_of_block (Below.heap_setCell W p u a.block h)
theorem grown_of_below {W W' : World} (h : Below W.heap.size W W') : W.grownBy W' none := ⟨h.os, h.tape, h.output, h.size, fun k hk _ => h.block k hk⟩
theorem below_of_grown {W W' : World} (h : W.grownBy W' none) : Below W.heap.size W W' := ⟨h.os, h.tape, h.output, h.size, fun k hk => h.block k hk (by intro e; cases e)⟩
theorem grown_trans {a b c : World} {row : Option Nat} (h : a.grownBy b row) (k : b.grownBy c row) : a.grownBy c row :=
  ⟨k.os.trans h.os, k.tape.trans h.tape, k.output.trans h.output, Nat.le_trans h.size k.size, fun i hi hne => (k.block i (Nat.lt_of_lt_of_le hi h.size) hne).trans (h.block i hi hne)⟩
theorem grown_drewN {w W : World} {row : Option Nat} (h : w.grownBy W row) (n : Nat) : w.grownBy (W.drewN n) row := ⟨h.os, h.tape, h.output, h.size, h.block⟩
theorem grown_alloc {w W : World} {row : Option Nat} (h : w.grownBy W row) (o : Obj) : w.grownBy (W.alloc o) row :=
  ⟨h.os, h.tape, h.output, by rw [World.size_alloc]; exact Nat.le_succ_of_le h.size, fun k hk hne => (Below.heap_alloc W o k (Nat.lt_of_lt_of_le hk h.size)).trans (h.block k hk hne)⟩
theorem cell_below {w W : World} {p : Addr} {v : Value} (hb : Below w.heap.size w W) (h : w.cell? p = some v) : W.cell? p = some v := (hb.cell (lt_of_cell h)).trans h
theorem frozen_below {w W : World} {p : Addr} {v : Value} {t : Bool} (hb : Below w.heap.size w W) (h : w.cell? p = some v) (hf : w.frozen? p = t) : W.frozen? p = t := (hb.frozen (lt_of_cell h)).trans hf
theorem cell_grown {W W' : World} {r : Nat} {a : Addr} {v : Value} (hg : W.grownBy W' (some r)) (hne : a.block ≠ r) (h : W.cell? a = some v) : W'.cell? a = some v :=
  (World.cell?_of_block (hg.block a.block (lt_of_cell h) (by intro e; cases e; exact hne rfl))).trans h
theorem frozen_grown {W W' : World} {r : Nat} {a : Addr} {v : Value} {t : Bool} (hg : W.grownBy W' (some r)) (hne : a.block ≠ r) (h : W.cell? a = some v) (hf : W.frozen? a = t) : W'.frozen? a = t :=
  (World.frozen?_of_block (hg.block a.block (lt_of_cell h) (by intro e; cases e; exact hne rfl))).trans hf
theorem grown_setCell {w W : World} {row : Option Nat} (h : w.grownBy W row) {a : Addr} (u : Value) (ha : w.heap.size ≤ a.block ∨ row = some a.block) : w.grownBy (W.setCell a u) row := by
  refine ⟨h.os, h.tape, h.output, by rw [show (W.setCell a u).heap.size = W.heap.size by simp [World.setCell]]; exact h.size, fun k hk hne => ?_⟩
  refine (Below.heap_setCell W a u k ?_).trans (h.block k hk hne)
  rintro rfl
  rcases ha with h | h
  · omega
  · exact hne h.symm

theorem ret_int {k : IntKind} {a b : Int} (h : a = b) : Ending.returned (.int k a) = .returned (.int k b) := by rw [h]
/-- What may lie in a slice, one cell each. -/
class Elt (α : Type) where
  gv : α → Value
  z : α
  ty : TypeId
  sl : TypeId
  wide : Nat
  wide_le : wide ≤ 32
  info : (Try.prog.info? ty).map (fun i => (i.zero, i.size, i.bytes)) = some (some (gv z), 1, wide)
  under : Try.prog.underlying sl = some (.slice ty)
  one : ∀ x, (gv x).cells = #[gv x]
  plain : ∀ x, (gv x).oneCell' = true
open Elt

theorem wide_mul (α : Type) [Elt α] (n : Nat) : n * wide α ≤ n * 32 := Nat.mul_le_mul_left _ wide_le
variable {α : Type} [Elt α]
def el (zs : List α) (k : Nat) : α := (zs[k]?).getD z
theorem el_lt {zs : List α} {k : Nat} (h : k < zs.length) : el zs k = zs[k] := by unfold el; rw [List.getElem?_eq_getElem h]; rfl
theorem el_ge {zs : List α} {k : Nat} (h : zs.length ≤ k) : el zs k = z := by unfold el; rw [List.getElem?_eq_none h]; rfl
theorem el_set {zs : List α} {j : Nat} {x : α} (h : j < zs.length) (k : Nat) : el (zs.set j x) k = if k = j then x else el zs k := by
  unfold el
  rw [List.getElem?_set]
  by_cases e : j = k
  · subst e; rw [if_pos rfl, if_pos h, if_pos rfl]; rfl
  · rw [if_neg e, if_neg (fun h => e h.symm)]
theorem el_append (xs ys : List α) (k : Nat) : el (xs ++ ys) k = if k < xs.length then el xs k else el ys (k - xs.length) := by
  unfold el
  by_cases h : k < xs.length
  · rw [if_pos h, List.getElem?_append_left h]
  · rw [if_neg h, List.getElem?_append_right (by omega)]
theorem el_take (zs : List α) (n k : Nat) : el (zs.take n) k = if k < n then el zs k else z := by
  unfold el
  rw [List.getElem?_take]
  split <;> rfl
theorem el_drop (zs : List α) (n k : Nat) : el (zs.drop n) k = el zs (n + k) := by
  unfold el; rw [List.getElem?_drop]
theorem el_ext {xs ys : List α} (hl : xs.length = ys.length) (h : ∀ k, k < xs.length → el xs k = el ys k) : xs = ys := by
  apply List.ext_getElem hl
  intro k h1 h2
  have := h k h1
  rwa [el_lt h1, el_lt h2] at this
theorem el_mem {zs : List α} {k : Nat} (h : k < zs.length) : el zs k ∈ zs := by rw [el_lt h]; exact List.getElem_mem h
/-- The list of the first m values of f. -/
def tab {α : Type} (m : Nat) (f : Nat → α) : List α := (List.range m).map f
omit [Elt α] in
theorem tab_len (m : Nat) (f : Nat → α) : (tab m f).length = m := by simp [tab]
theorem el_tab (m : Nat) (f : Nat → α) (k : Nat) (h : k < m) : el (tab m f) k = f k := by
  rw [el_lt (by rw [tab_len]; exact h)]; simp [tab]
theorem tab_ext {m : Nat} {f g : Nat → α} (h : ∀ k, k < m → f k = g k) : tab m f = tab m g := by
  refine el_ext (by rw [tab_len, tab_len]) (fun k hk => ?_)
  rw [tab_len] at hk
  rw [el_tab _ _ _ hk, el_tab _ _ _ hk, h k hk]
theorem tab_el (zs : List α) : tab zs.length (el zs) = zs := el_ext (tab_len _ _) (fun k hk => el_tab _ _ _ (by rwa [tab_len] at hk))
def upd {α : Type} (f : Nat → α) (j : Nat) (x : α) : Nat → α := fun k => if k = j then x else f k
theorem tab_set (m : Nat) (f : Nat → α) (j : Nat) (x : α) : (tab m f).set j x = tab m (upd f j x) := by
  by_cases hj : j < m
  · refine el_ext (by simp [tab]) (fun k hk => ?_)
    rw [List.length_set, tab_len] at hk
    rw [el_set (by rw [tab_len]; exact hj), el_tab _ _ _ hk, el_tab _ _ _ hk]; rfl
  · rw [List.set_eq_of_length_le (by rw [tab_len]; omega)]
    exact tab_ext (fun k hk => by unfold upd; rw [if_neg (by omega)])
omit [Elt α] in
theorem tab_snoc (m : Nat) (f : Nat → α) : tab m f ++ [f m] = tab (m + 1) f := by simp [tab, List.range_succ]
theorem tab_replicate (m : Nat) (x : α) : List.replicate m x = tab m (fun _ => x) :=
  el_ext (by rw [tab_len, List.length_replicate]) (fun k hk => by
    rw [List.length_replicate] at hk
    rw [el_tab _ _ _ hk, el_lt (by rw [List.length_replicate]; exact hk)]; simp)

/-- The slice at a, of capacity cap, holds zs. -/
structure Row (w : World) (a : Option Addr) (zs : List α) (cap : Nat) : Prop where
  room : zs.length ≤ cap
  most : cap ≤ 9223372036854775807
  el : ∀ j, j < zs.length → ∃ b off, a = some ⟨b, off, none⟩ ∧ w.cell? ⟨b, off + j, none⟩ = some (gv (el zs j))

theorem Row.below {w w' : World} {a : Option Addr} {zs : List α} {cap : Nat} (h : Row w a zs cap) (hb : Below w.heap.size w w') : Row w' a zs cap :=
  ⟨h.room, h.most, fun j hj => by
    obtain ⟨b, off, e, hc⟩ := h.el j hj
    exact ⟨b, off, e, (hb.cell (p := ⟨b, off + j, none⟩) (lt_of_cell hc)).trans hc⟩⟩
theorem Row.grown {w W : World} {a : Option Addr} {zs : List α} {cap : Nat} {row : Option Nat} (h : Row w a zs cap) (hg : w.grownBy W row) (hne : ∀ b off, a = some ⟨b, off, none⟩ → some b ≠ row) : Row W a zs cap :=
  ⟨h.room, h.most, fun j hj => by
    obtain ⟨b, off, e, hc⟩ := h.el j hj
    exact ⟨b, off, e, (World.cell?_of_block (hg.block b (lt_of_cell hc) (hne b off e))).trans hc⟩⟩
theorem Row.alloc {w : World} {a : Option Addr} {zs : List α} {cap : Nat} (h : Row w a zs cap) (o : Obj) : Row (w.alloc o) a zs cap :=
  h.below ((Below.refl _ w).alloc (Nat.le_refl _) _)
theorem Row.drewN {w : World} {a : Option Addr} {zs : List α} {cap : Nat} (h : Row w a zs cap) (n : Nat) : Row (w.drewN n) a zs cap := ⟨h.room, h.most, h.el⟩
theorem Row.nil (w : World) (a : Option Addr) (cap : Nat) (h : cap ≤ 9223372036854775807) : Row (α := α) w a [] cap := ⟨Nat.zero_le _, h, fun j hj => by simp at hj⟩
theorem Row.take {w : World} {a : Option Addr} {zs : List α} {cap : Nat} (h : Row w a zs cap) (n : Nat) : Row w a (zs.take n) cap :=
  ⟨by have := h.room; simp; omega, h.most, fun j hj => by
    rw [List.length_take] at hj
    obtain ⟨b, off, e, hc⟩ := h.el j (by omega)
    exact ⟨b, off, e, by rw [el_take, if_pos (by omega)]; exact hc⟩⟩
/-- A store into another block. -/
theorem Row.other {W : World} {a : Option Addr} {zs : List α} {cap : Nat} (h : Row W a zs cap) {p : Addr} (u : Value) (hp : ∀ b off, a = some ⟨b, off, none⟩ → 0 < zs.length → b ≠ p.block) : Row (W.setCell p u) a zs cap :=
  ⟨h.room, h.most, fun j hj => by
    obtain ⟨b, off, e, hc⟩ := h.el j hj
    exact ⟨b, off, e, (cell_other u (show b ≠ p.block from hp b off e (by omega))).trans hc⟩⟩
theorem Row.lt {w : World} {b off : Nat} {zs : List α} {cap : Nat} (h : Row w (some ⟨b, off, none⟩) zs cap) (h0 : 0 < zs.length) : b < w.heap.size := by
  obtain ⟨b', off', e, hc⟩ := h.el 0 h0
  cases e
  exact lt_of_cell hc

/-- The slice v, made from block B on, holds zs. -/
def Own (W : World) (B : Nat) (v : Value) (zs : List α) : Prop := W.ownsRow B (ty α) 1 v zs.length (zs.map gv)

theorem Own.nil (W : World) (B : Nat) : Own (α := α) W B (.slice none 0 0) [] := World.ownsRow_nil _ _ _ _
theorem Own.below {W W' : World} {B : Nat} {v : Value} {zs : List α} (h : Own W B v zs) (hb : Below W.heap.size W W') : Own W' B v zs :=
  World.ownsRow.kept h (grown_of_below hb) (by cases v.ownBlock with | none => exact .inl rfl | some k => exact .inr (by intro e; cases e))
theorem Own.alloc {W : World} {B : Nat} {v : Value} {zs : List α} (h : Own W B v zs) (o : Obj) : Own (W.alloc o) B v zs :=
  h.below ((Below.refl _ W).alloc (Nat.le_refl _) _)
theorem Own.drewN {W : World} {B : Nat} {v : Value} {zs : List α} (h : Own W B v zs) (n : Nat) : Own (W.drewN n) B v zs := h
theorem Own.grown {W W' : World} {B : Nat} {v : Value} {zs : List α} {row : Option Nat} (h : Own W B v zs) (hg : W.grownBy W' row) (hne : v.ownBlock = none ∨ v.ownBlock ≠ row) : Own W' B v zs :=
  World.ownsRow.kept h hg hne
theorem Own.mono {W : World} {B B' : Nat} {v : Value} {zs : List α} (h : Own W B v zs) (hB : B' ≤ B) : Own W B' v zs := by
  obtain ⟨h1, h2 | ⟨g, cap, cur, hv, hg, r⟩⟩ := h
  · exact ⟨h1, .inl h2⟩
  · exact ⟨h1, .inr ⟨g, cap, cur, hv, Nat.le_trans hB hg, r⟩⟩
/-- What is known of the slice value: its address, its capacity, the cells. -/
theorem Own.parts {W : World} {B : Nat} {v : Value} {zs : List α} (h : Own W B v zs) :
    (v = .slice none 0 0 ∧ zs = []) ∨ ∃ g cap, v = .slice (some ⟨g, 0, none⟩) zs.length cap ∧ B ≤ g ∧ g < W.heap.size ∧ zs.length ≤ cap ∧ cap ≤ 9223372036854775807 ∧
      ∀ j, j < zs.length → W.cell? ⟨g, j, none⟩ = some (gv (el zs j)) ∧ W.frozen? ⟨g, j, none⟩ = false := by
  have h' := h
  obtain ⟨h1, h2 | ⟨g, cap, cur, hv, hg, hh, r1, r2, r3⟩⟩ := h
  · exact .inl ⟨h2.1, List.length_eq_zero_iff.1 h2.2⟩
  · refine .inr ⟨g, cap, hv, hg, (Array.getElem?_eq_some_iff.1 hh).1, r1, r2, fun j hj => ?_⟩
    subst hv
    refine ⟨?_, World.ownsRow.frozenAt h' j⟩
    rw [World.ownsRow.cellAt h' j (by simpa using hj), List.getElem?_map, List.getElem?_eq_getElem hj, el_lt hj]
    rfl
theorem Own.row {W : World} {B : Nat} {v : Value} {zs : List α} (h : Own W B v zs) : ∃ a cap, v = .slice a zs.length cap ∧ Row W a zs cap := by
  rcases h.parts with ⟨rfl, rfl⟩ | ⟨g, cap, rfl, _, _, r1, r2, hc⟩
  · exact ⟨none, 0, rfl, Nat.le_refl _, by omega, fun j hj => by simp at hj⟩
  · exact ⟨_, cap, rfl, r1, r2, fun j hj => ⟨g, 0, rfl, by simpa using (hc j hj).1⟩⟩
theorem Own.len {W : World} {B n cap : Nat} {a : Option Addr} {zs : List α} (h : Own W B (.slice a n cap) zs) : n = zs.length := by
  rcases h.parts with ⟨e, rfl⟩ | ⟨g', cap', e, _⟩
  · cases e; rfl
  · cases e; rfl
theorem Own.rowAt {W : World} {B n cap : Nat} {a : Option Addr} {zs : List α} (h : Own W B (.slice a n cap) zs) : Row W a zs cap := by
  obtain ⟨a', cap', e, r⟩ := h.row
  cases e
  exact r
theorem Own.set {W : World} {B n : Nat} {g cap : Nat} {zs : List α} (h : Own W B (.slice (some ⟨g, 0, none⟩) n cap) zs) (j : Nat) (c : α) : Own (W.setCell ⟨g, j, none⟩ (gv c)) B (.slice (some ⟨g, 0, none⟩) n cap) (zs.set j c) := by
  have e := h.len
  subst e
  unfold Own
  rw [List.length_set, List.map_set]
  exact (World.ownsRow.stored h j (gv c)).1
theorem Own.setBelow {W : World} {B : Nat} {v : Value} {zs : List α} (h : Own W B v zs) {p : Addr} (hp : p.block < B) (u : Value) : Own (W.setCell p u) B v zs :=
  ownsRow_setCell_below h hp u
theorem Own.other {W : World} {B : Nat} {v : Value} {zs : List α} (h : Own W B v zs) {p : Addr} (u : Value) (hp : v.ownBlock ≠ some p.block) : Own (W.setCell p u) B v zs :=
  World.ownsRow.kept h (row := some p.block) ⟨rfl, rfl, rfl, by simp [World.setCell], fun k _ hk => Below.heap_setCell W p u k (fun e => hk (by rw [e]))⟩ (.inr hp)
/-- Element k of a slice that is owned. -/
theorem Own.at {W : World} {B g cap n : Nat} {zs : List α} (h : Own W B (.slice (some ⟨g, 0, none⟩) n cap) zs) (k : Nat) (hk : k < zs.length) : B ≤ g ∧ g < W.heap.size ∧ cap ≤ 9223372036854775807 ∧ zs.length ≤ cap ∧ W.cell? ⟨g, k, none⟩ = some (gv (el zs k)) ∧ W.frozen? ⟨g, k, none⟩ = false := by
  rcases h.parts with ⟨e, rfl⟩ | ⟨g', cap', e, hb, h2, h3, h4, hc⟩
  · simp at hk
  · cases e
    exact ⟨hb, h2, h4, h3, hc k hk⟩
theorem Own.free {W : World} {B g cap n : Nat} {zs : List α} (h : Own W B (.slice (some ⟨g, 0, none⟩) n cap) zs) (k : Nat) (hk : k < zs.length) : W.frozen? ⟨g, k, none⟩ = false := (h.at k hk).2.2.2.2.2
theorem Own.fresh {W : World} {B n cap : Nat} {a : Option Addr} {zs : List α} (h : Own W B (.slice a n cap) zs) (h0 : 0 < zs.length) : ∃ g, a = some ⟨g, 0, none⟩ ∧ B ≤ g ∧ g < W.heap.size := by
  rcases h.parts with ⟨e, rfl⟩ | ⟨g', cap', e, hb, h2, _⟩
  · simp at h0
  · cases e; exact ⟨g', rfl, hb, h2⟩
theorem Own.room {W : World} {B n cap : Nat} {a : Option Addr} {zs : List α} (h : Own W B (.slice a n cap) zs) : n ≤ cap ∧ cap ≤ 9223372036854775807 := by
  have e := h.len
  subst e
  exact ⟨h.rowAt.room, h.rowAt.most⟩

/-- **make([]T, n)** -/
theorem wp_make1 {W : World} {o : Oper} {a : Act} {K : Act → World → Prop} {Q : Exit → Act → World → Prop} (l c : Operand) (hop : o.op = Op.makeSlice (sl α) l c)
    {B : Nat} (n : Nat) {L : Int} (hl : a.eval l = .int .i64 L) (hc : a.eval c = .int .i64 L) (hL : L = (n : Int)) (hn : n < 1000000) (hbase : B ≤ W.heap.size)
    (h : ∀ W', Own (α := α) W' B (.slice (some ⟨W.heap.size, 0, none⟩) n n) (List.replicate n z) → Below B W W' → K (a.put o.dst (.slice (some ⟨W.heap.size, 0, none⟩) n n)) W') : Oper.wp Try.prog o a W K Q := by
  obtain ⟨i0, hi, hz0, hz1, hz2⟩ := info_parts (info (α := α))
  obtain ⟨W', hrun, hown, hgrow⟩ := run_make_full (P := Try.prog) W B (sl α) (ty α) i0 (gv (z : α)) 1 (under (α := α)) hi hz0 hz1 .i64 .i64 n (by rw [hz2, Nat.mul_comm]; exact Nat.le_trans (wide_mul α n) (by omega)) (by unfold maxLen; omega) hbase
  subst hL
  unfold Oper.wp
  simp [execOp, hop, hl, hc, hrun, Result.andThen]
  refine h W' ?_ ((Below.refl B W).grown hgrow hbase (fun k e => by cases e))
  unfold Own
  rw [List.length_replicate, List.map_replicate]
  have e : (madeCells (gv (z : α)).cells (n * 1)).toList = List.replicate n (gv (z : α)) := by
    refine List.eq_replicate_iff.2 ⟨by simp [madeCells, one], fun b hb => ?_⟩
    simp [madeCells, one, Nat.mod_one] at hb
    exact hb.2.symm
  rw [e] at hown
  exact hown
theorem wpList_make1 {W : World} {ops : Array Oper} {rest : List Oper} {o : Oper} {a : Act} {Q : Exit → Act → World → Prop} (hgd : o.guard = none) (l c : Operand) (hop : o.op = Op.makeSlice (sl α) l c)
    {B : Nat} (n : Nat) {L : Int} (hl : a.eval l = .int .i64 L) (hc : a.eval c = .int .i64 L) (hL : L = (n : Int)) (hn : n < 1000000) (hbase : B ≤ W.heap.size)
    (h : ∀ W', Own (α := α) W' B (.slice (some ⟨W.heap.size, 0, none⟩) n n) (List.replicate n z) → Below B W W' → wpList Try.prog ops Q rest (a.put o.dst (.slice (some ⟨W.heap.size, 0, none⟩) n n)) W') : wpList Try.prog ops Q (o :: rest) a W :=
  wpList_plain hgd fun _ hK => wp_make1 (α := α) l c hop n hl hc hL hn hbase fun W' h1 h2 => hK _ _ (h W' h1 h2)

/-- **append(s, x)**, s owned: where the result lies. -/
theorem app_where {W W' : World} {B b : Nat} {v v' : Value} {zs : List α} {c : α} {ty' : TypeId} (hown : Own W B v zs) (hc : W.cell? ⟨b, 0, none⟩ = some (gv c)) (hl : zs.length < 1000000)
    (hr : (Builtin.append_ #[sl α, sl α] ty' #[v, .slice (some ⟨b, 0, none⟩) 1 1]).run Try.prog W = .ok v' W') : v'.ownBlock = v.ownBlock ∨ v'.ownBlock = some W.heap.size := by
  obtain ⟨i0, hi, hz0, hz1, hz2⟩ := info_parts (info (α := α))
  have hnews : ∀ j u, [gv c][j]? = some u → W.cell? ((⟨b, 0, none⟩ : Addr).add j) = some u := by
    intro j u hj
    match j, hj with
    | 0, hj => simp at hj; subst hj; simpa [Addr.add] using hc
  have hown' := hown
  rcases hown.2 with ⟨rfl, _⟩ | ⟨g, cap, cur, rfl, hbg, hg, hnc, hcm, hcs, htake⟩
  · have h := Go.run_append_nil (P := Try.prog) W (sl α) ty' (ty α) i0 (gv (z : α)) (under (α := α)) hi hz0 ⟨b, 0, none⟩ 1 1 [gv c] (by rw [hz1]; rfl) hnews (by decide) (by decide) (by rw [hz2]; exact Nat.le_trans (wide_mul α _) (by decide))
    rw [h] at hr
    injection hr with h1 h2
    subst h1
    exact .inr rfl
  · by_cases hroom : zs.length + 1 ≤ cap
    · have h := Go.run_append_room (P := Try.prog) W (sl α) ty' (ty α) i0 (under (α := α)) hi g zs.length cap cur hg ⟨b, 0, none⟩ 1 1 [gv c] (by rw [hz1]; rfl) hnews (by intro u hu; simp at hu; subst hu; exact plain c) hroom (by rw [hz1, hcs]; simp; omega)
      rw [h] at hr
      injection hr with h1 h2
      subst h1
      exact .inl rfl
    · have holds : ∀ j u, (zs.map gv)[j]? = some u → W.cell? ((⟨g, 0, none⟩ : Addr).add j) = some u := World.ownsRow.cells hown' (g := g) rfl
      have h := Go.run_append_grow (P := Try.prog) W (sl α) ty' (ty α) i0 (gv (z : α)) (under (α := α)) hi hz0 ⟨g, 0, none⟩ zs.length cap (zs.map gv) (by rw [hz1]; simp) holds ⟨b, 0, none⟩ 1 1 [gv c] (by rw [hz1]; rfl) hnews (by omega) (by omega) (growslice_fits (by omega) (by rw [hz2]; exact Nat.le_trans (wide_mul α _) (by omega)))
      rw [h] at hr
      injection hr with h1 h2
      subst h1
      exact .inr rfl
theorem wp_app1 {W : World} {o : Oper} {a : Act} {K : Act → World → Prop} {Q : Exit → Act → World → Prop} (s x : Operand)
    (ho : o.op = .call { callee := .builtin .append, args := #[s, x], argTypes := #[sl α, sl α] }) {B : Nat} {v : Value} {zs : List α} (c : α) (hs : a.eval s = v) (hown : Own W B v zs)
    {b : Nat} (hx : a.eval x = .slice (some ⟨b, 0, none⟩) 1 1) (hc : W.cell? ⟨b, 0, none⟩ = some (gv c)) (hl : zs.length < 1000000) (hbase : B ≤ W.heap.size)
    (h : ∀ a' cap' W', Own W' B (.slice a' (zs.length + 1) cap') (zs ++ [c]) → W.grownBy W' v.ownBlock → Below B W W' → (∀ b' o', a' = some ⟨b', o', none⟩ → v.ownBlock = some b' ∨ b' = W.heap.size) → K (a.put o.dst (.slice a' (zs.length + 1) cap')) W') : Oper.wp Try.prog o a W K Q := by
  obtain ⟨i0, hi, hz0, hz1, hz2⟩ := info_parts (info (α := α))
  have hnews : ∀ j u, [gv c][j]? = some u → W.cell? ((⟨b, 0, none⟩ : Addr).add j) = some u := by
    intro j u hj
    match j, hj with
    | 0, hj => simp at hj; subst hj; simpa [Addr.add] using hc
  obtain ⟨v', W', hr, h2, h3, h4⟩ := run_append_own (P := Try.prog) W B (sl α) o.type (ty α) i0 (gv (z : α)) 1 (wide α) (under (α := α)) hi hz0 hz1 hz2 (by rw [one]; rfl) (by decide) v zs.length (zs.map gv) hown ⟨b, 0, none⟩ 1 1 [gv c] rfl hnews (by intro u hu; simp at hu; subst hu; exact plain c) (by unfold maxLen; omega) (Nat.le_trans (wide_mul α _) (by omega)) hbase
  have hw := app_where hown hc hl hr
  have ho2 : Own W' B v' (zs ++ [c]) := by unfold Own; simpa using h2
  have hB2 : Below B W W' := (Below.refl B W).grown h3 hbase (fun k e => (World.ownsRow.lt hown k e).1)
  obtain ⟨a', cap', rfl, _⟩ := ho2.row
  unfold Oper.wp execOp
  simp only [ho, resolve, invoke, builtin, Sem.run_bind, Sem.run_pure, Result.andThen_ok, List.map_toArray, List.map_cons, List.map_nil, hs, hx, hr]
  have e1 : (zs ++ [c]).length = zs.length + 1 := by rw [List.length_append]; rfl
  rw [e1] at ho2 ⊢
  exact h a' cap' W' ho2 h3 hB2 (fun b' o' e => by
    subst e
    rcases hw with h5 | h5
    · exact .inl (by rw [← h5]; rfl)
    · have : some b' = some W.heap.size := h5
      cases this
      exact .inr rfl)
theorem wpList_app1 {W : World} {ops : Array Oper} {rest : List Oper} {o : Oper} {a : Act} {Q : Exit → Act → World → Prop} (hgd : o.guard = none) (s x : Operand)
    (ho : o.op = .call { callee := .builtin .append, args := #[s, x], argTypes := #[sl α, sl α] }) {B : Nat} {v : Value} {zs : List α} (c : α) (hs : a.eval s = v) (hown : Own W B v zs)
    {b : Nat} (hx : a.eval x = .slice (some ⟨b, 0, none⟩) 1 1) (hc : W.cell? ⟨b, 0, none⟩ = some (gv c)) (hl : zs.length < 1000000) (hbase : B ≤ W.heap.size)
    (h : ∀ a' cap' W', Own W' B (.slice a' (zs.length + 1) cap') (zs ++ [c]) → W.grownBy W' v.ownBlock → Below B W W' → (∀ b' o', a' = some ⟨b', o', none⟩ → v.ownBlock = some b' ∨ b' = W.heap.size) → wpList Try.prog ops Q rest (a.put o.dst (.slice a' (zs.length + 1) cap')) W') : wpList Try.prog ops Q (o :: rest) a W :=
  wpList_plain hgd fun _ hK => wp_app1 s x ho c hs hown hx hc hl hbase fun a' c' W' h1 h2 h3 h4 => hK _ _ (h a' c' W' h1 h2 h3 h4)

theorem run_append_none {P : Program} {w : World} (base : Nat) (t ty e : TypeId) (i : TypeInfo) (size : Nat) (ht : P.underlying t = some (.slice e)) (hi : P.info? e = some i)
    (v : Value) (n : Nat) (xs : List Value) (c : Nat) (hown : w.ownsRow base e size v n xs) :
    (Builtin.append_ #[t, t] ty #[v, .slice none 0 c]).run P w = .ok v w := by
  rcases hown.2 with ⟨rfl, rfl⟩ | ⟨g, cap, cur, rfl, _, _, hnc, _⟩
  · simp [Builtin.append_, run_underlying ht, sizeOf, typeInfo, hi, Builtin.lenOf, Builtin.firstCells]
  · simp [Builtin.append_, run_underlying ht, sizeOf, typeInfo, hi, Builtin.lenOf, Builtin.firstCells, hnc, storeCells]
/-- **append(s, t...)**, s owned, t any slice, nil too. -/
theorem wp_appAny {W : World} {o : Oper} {a : Act} {K : Act → World → Prop} {Q : Exit → Act → World → Prop} (s x : Operand) (ho : o.op = .call { callee := .builtin .append, args := #[s, x], argTypes := #[sl α, sl α] })
    {B : Nat} {v : Value} {zs ys : List α} (hs : a.eval s = v) (hown : Own W B v zs) {ad : Option Addr} {cap : Nat} (hx : a.eval x = .slice ad ys.length cap) (hr : Row W ad ys cap)
    (hl : zs.length + ys.length < 1000000) (hbase : B ≤ W.heap.size)
    (h : ∀ a' cap' W', Own W' B (.slice a' (zs.length + ys.length) cap') (zs ++ ys) → Below B W W' → K (a.put o.dst (.slice a' (zs.length + ys.length) cap')) W') : Oper.wp Try.prog o a W K Q := by
  obtain ⟨i0, hi, hz0, hz1, hz2⟩ := info_parts (info (α := α))
  cases ad with
  | none =>
    have hy : ys = [] := by
      cases ys with
      | nil => rfl
      | cons y ys =>
        obtain ⟨b, off, e, _⟩ := hr.el 0 (by simp)
        cases e
    subst hy
    have hrun := run_append_none (P := Try.prog) B (sl α) o.type (ty α) i0 1 (under (α := α)) hi v zs.length (zs.map gv) cap hown
    obtain ⟨a', cap', rfl, _⟩ := hown.row
    unfold Oper.wp execOp
    simp only [ho, resolve, invoke, builtin, Sem.run_bind, Sem.run_pure, Result.andThen_ok, List.map_toArray, List.map_cons, List.map_nil, hs, hx, List.length_nil, hrun]
    have := h a' cap' W (by simpa using hown) (Below.refl _ _)
    exact (show K (a.put o.dst (.slice a' zs.length cap')) W by simpa using this)
  | some ad =>
    refine wp_append_own W s x (sl α) ho B (ty α) i0 (gv (z : α)) 1 (wide α) (under (α := α)) hi hz0 hz1 hz2 (by rw [one]; rfl) (by decide) v zs.length (zs.map gv) hs hown ad ys.length cap (ys.map gv) hx (by simp) ?_ ?_ (by unfold maxLen; omega) (Nat.le_trans (wide_mul α _) (by omega)) hbase ?_
    · intro j u hj
      rw [List.getElem?_map] at hj
      by_cases hlt : j < ys.length
      · obtain ⟨b, off, e, hc⟩ := hr.el j hlt
        cases e
        rw [List.getElem?_eq_getElem hlt] at hj
        simp only [Option.map_some, Option.some.injEq] at hj
        subst hj
        rw [el_lt hlt] at hc
        by_cases hj0 : j = 0
        · subst hj0; simpa [Addr.add] using hc
        · simpa [Addr.add, hj0] using hc
      · rw [List.getElem?_eq_none (by omega)] at hj; simp at hj
    · intro u hu
      obtain ⟨x, _, rfl⟩ := List.mem_map.1 hu
      exact plain x
    · intro v' W' hown' hgrow _
      have ho2 : Own W' B v' (zs ++ ys) := by unfold Own; rw [List.length_append, List.map_append]; exact hown'
      have hB2 : Below B W W' := (Below.refl B W).grown hgrow hbase (fun k e => (World.ownsRow.lt hown k e).1)
      obtain ⟨a', cap', rfl, _⟩ := ho2.row
      rw [List.length_append] at ho2 ⊢
      exact h a' cap' W' ho2 hB2
theorem wpList_appAny {W : World} {ops : Array Oper} {rest : List Oper} {o : Oper} {a : Act} {Q : Exit → Act → World → Prop} (hgd : o.guard = none) (s x : Operand)
    (ho : o.op = .call { callee := .builtin .append, args := #[s, x], argTypes := #[sl α, sl α] }) {B : Nat} {v : Value} {zs ys : List α} (hs : a.eval s = v) (hown : Own W B v zs)
    {ad : Option Addr} {cap : Nat} (hx : a.eval x = .slice ad ys.length cap) (hr : Row W ad ys cap) (hl : zs.length + ys.length < 1000000) (hbase : B ≤ W.heap.size)
    (h : ∀ a' cap' W', Own W' B (.slice a' (zs.length + ys.length) cap') (zs ++ ys) → Below B W W' → wpList Try.prog ops Q rest (a.put o.dst (.slice a' (zs.length + ys.length) cap')) W') : wpList Try.prog ops Q (o :: rest) a W :=
  wpList_plain hgd fun _ hK => wp_appAny s x ho hs hown hx hr hl hbase fun a' c' W' h1 h2 => hK _ _ (h a' c' W' h1 h2)
theorem own_empty (w : World) (B : Nat) (h : B ≤ w.heap.size) : Own (α := α) (w.alloc (.cells #[] (ty α))) B (.slice (some ⟨w.heap.size, 0, none⟩) 0 0) [] :=
  World.ownsRow_made (base := B) (e := ty α) (size := 1) w #[] 0 h (by unfold maxLen; omega) rfl
end Go.Proofs.Ytjemijjhplajaaa.G
