/- Slices in memory, of any elements that take one cell each (class Elt): what is read, what a call has made itself. The instances: GU8 (bytes), GInt (ints from 0 on), GBool. Slices of bytes (BitVec 8). The columns, the syndrome, decoding: plain mathematics. math/bits.OnesCount8, by the shelf's contract. hamming.columns. slices.Index of a byte in a slice of bytes. hamming.sumOfColumns, bitWith, Column, Check, Syndrome. hamming.bitWith, Column, Check, Syndrome. A block of memory that is known whole (a struct in a box); a slice that was written out. Slices of ints from 0 on. bytes.Clone. hamming.Decode. ref06.weight, Columns. ref06.Column, sum, Check, Syndrome. ref06.Decode. What the functions of hamming and of its reference answer for any bytes and any number: the same. -/
import Derived.Lib.Hide
import Derived.WalkKit
import Derived.LoopTactic
import Derived.BigQuiet
import Derived.IntWalk
import Derived.Deep.QuietTactic
import Derived.Laws.Bits64
import Derived.Laws.OwnMore
import Derived.Laws.CopyOwn
import Derived.Outline
import Derived.Laws.ResultCell
import Derived.WalkSpells
import Derived.Shelf.Abstract
import Derived.Shelf.RegionOpen
import Derived.OwnWalkIn
import Derived.RangeFuncNested
import Derived.RangeFuncBound
import Derived.RangeFuncCalls
import Derived.RangeFuncLeaves
import Derived.TacticsInMore
import Derived.LoopNIn
import Derived.LoopIn
import Derived.Test.YtmejneobfkbgeaaDoorProg
import Derived.Lib.BitFns
import Derived.Shelf.Small.Bits
import Derived.Laws.Rows
import Derived.Laws.Tables
import Derived.Deep.WholeRow
namespace Go.Proofs.YtmejneobfkbgeaaDoor.G
open Go Go.RowKit Go.Shelf

theorem cell_new (w : World) (v : Value) (t : TypeId) : (w.alloc (.cells #[v] t)).cell? ⟨w.heap.size, 0, none⟩ = some v := by
  simp
theorem frozen_new (w : World) (v : Value) (t : TypeId) : (w.alloc (.cells #[v] t)).frozen? ⟨w.heap.size, 0, none⟩ = false := by
  simp
theorem cell_later {w : World} {a : Addr} {v : Value} (o : Obj) (h : w.cell? a = some v) : (w.alloc o).cell? a = some v :=
  cell_kept h (World.grownBy_alloc w o none) (fun r e => by cases e)
theorem frozen_later {w : World} {a : Addr} {v : Value} (o : Obj) (h : w.cell? a = some v) (hf : w.frozen? a = false) : (w.alloc o).frozen? a = false :=
  (frozen_kept h (World.grownBy_alloc w o none) (fun r e => by cases e)).trans hf
theorem lt_of_cell {w : World} {a : Addr} {v : Value} (h : w.cell? a = some v) : a.block < w.heap.size := by
  obtain ⟨o, ho, _⟩ := cells_of_cell h
  exact (Array.getElem?_eq_some_iff.1 ho).1
theorem belowN {B : Nat} {w W : World} (h : Below B w W) (n : Nat) : Below B w (W.drewN n) := ⟨h.os, h.tape, h.output, h.size, h.block⟩
theorem cell_other {W : World} {p a : Addr} (u : Value) (h : a.block ≠ p.block) : (W.setCell p u).cell? a = W.cell? a :=
  World.cell?_of_block (Below.heap_setCell W p u a.block h)
theorem grown_of_below {W W' : World} (h : Below W.heap.size W W') : W.grownBy W' none := ⟨h.os, h.tape, h.output, h.size, fun k hk _ => h.block k hk⟩
theorem below_of_grown {W W' : World} (h : W.grownBy W' none) : Below W.heap.size W W' := ⟨h.os, h.tape, h.output, h.size, fun k hk => h.block k hk (by intro e; cases e)⟩
theorem grown_trans {a b c : World} {row : Option Nat} (h : a.grownBy b row) (k : b.grownBy c row) : a.grownBy c row :=
  ⟨k.os.trans h.os, k.tape.trans h.tape, k.output.trans h.output, Nat.le_trans h.size k.size, fun i hi hne => (k.block i (Nat.lt_of_lt_of_le hi h.size) hne).trans (h.block i hi hne)⟩
theorem grown_drewN {w W : World} {row : Option Nat} (h : w.grownBy W row) (n : Nat) : w.grownBy (W.drewN n) row := ⟨h.os, h.tape, h.output, h.size, h.block⟩
theorem grown_alloc {w W : World} {row : Option Nat} (h : w.grownBy W row) (o : Obj) : w.grownBy (W.alloc o) row :=
  ⟨h.os, h.tape, h.output, by rw [World.size_alloc]; exact Nat.le_succ_of_le h.size, fun k hk hne => (Below.heap_alloc W o k (Nat.lt_of_lt_of_le hk h.size)).trans (h.block k hk hne)⟩
theorem cell_below {w W : World} {p : Addr} {v : Value} (hb : Below w.heap.size w W) (h : w.cell? p = some v) : W.cell? p = some v := (hb.cell (lt_of_cell h)).trans h
theorem frozen_below {w W : World} {p : Addr} {v : Value} {t : Bool} (hb : Below w.heap.size w W) (h : w.cell? p = some v) (hf : w.frozen? p = t) : W.frozen? p = t := (hb.frozen (lt_of_cell h)).trans hf
theorem cell_grown {W W' : World} {r : Nat} {a : Addr} {v : Value} (hg : W.grownBy W' (some r)) (hne : a.block ≠ r) (h : W.cell? a = some v) : W'.cell? a = some v :=
  (World.cell?_of_block (hg.block a.block (lt_of_cell h) (by intro e; cases e; exact hne rfl))).trans h
theorem frozen_grown {W W' : World} {r : Nat} {a : Addr} {v : Value} {t : Bool} (hg : W.grownBy W' (some r)) (hne : a.block ≠ r) (h : W.cell? a = some v) (hf : W.frozen? a = t) : W'.frozen? a = t :=
  (World.frozen?_of_block (hg.block a.block (lt_of_cell h) (by intro e; cases e; exact hne rfl))).trans hf
theorem grown_setCell {w W : World} {row : Option Nat} (h : w.grownBy W row) {a : Addr} (u : Value) (ha : w.heap.size ≤ a.block ∨ row = some a.block) : w.grownBy (W.setCell a u) row := by
  refine ⟨h.os, h.tape, h.output, by rw [show (W.setCell a u).heap.size = W.heap.size by simp [World.setCell]]; exact h.size, fun k hk hne => ?_⟩
  refine (Below.heap_setCell W a u k ?_).trans (h.block k hk hne)
  rintro rfl
  rcases ha with h | h
  · omega
  · exact hne h.symm

theorem ret_int {k : IntKind} {a b : Int} (h : a = b) : Ending.returned (.int k a) = .returned (.int k b) := by rw [h]
/-- What may lie in a slice, one cell each. -/
class Elt (α : Type) where
  gv : α → Value
  z : α
  ty : TypeId
  sl : TypeId
  wide : Nat
  wide_le : wide ≤ 32
  info : (Tryd.prog.info? ty).map (fun i => (i.zero, i.size, i.bytes)) = some (some (gv z), 1, wide)
  under : Tryd.prog.underlying sl = some (.slice ty)
  one : ∀ x, (gv x).cells = #[gv x]
  plain : ∀ x, (gv x).oneCell' = true
open Elt

theorem wide_mul (α : Type) [Elt α] (n : Nat) : n * wide α ≤ n * 32 := Nat.mul_le_mul_left _ wide_le
variable {α : Type} [Elt α]
def el (zs : List α) (k : Nat) : α := (zs[k]?).getD z
theorem el_lt {zs : List α} {k : Nat} (h : k < zs.length) : el zs k = zs[k] := by unfold el; rw [List.getElem?_eq_getElem h]; rfl
theorem el_ge {zs : List α} {k : Nat} (h : zs.length ≤ k) : el zs k = z := by unfold el; rw [List.getElem?_eq_none h]; rfl
theorem el_set {zs : List α} {j : Nat} {x : α} (h : j < zs.length) (k : Nat) : el (zs.set j x) k = if k = j then x else el zs k := by
  unfold el
  rw [List.getElem?_set]
  by_cases e : j = k
  · subst e; rw [if_pos rfl, if_pos h, if_pos rfl]; rfl
  · rw [if_neg e, if_neg (fun h => e h.symm)]
theorem el_append (xs ys : List α) (k : Nat) : el (xs ++ ys) k = if k < xs.length then el xs k else el ys (k - xs.length) := by
  unfold el
  by_cases h : k < xs.length
  · rw [if_pos h, List.getElem?_append_left h]
  · rw [if_neg h, List.getElem?_append_right (by omega)]
theorem el_take (zs : List α) (n k : Nat) : el (zs.take n) k = if k < n then el zs k else z := by
  unfold el
  rw [List.getElem?_take]
  split <;> rfl
theorem el_drop (zs : List α) (n k : Nat) : el (zs.drop n) k = el zs (n + k) := by
  unfold el; rw [List.getElem?_drop]
theorem el_ext {xs ys : List α} (hl : xs.length = ys.length) (h : ∀ k, k < xs.length → el xs k = el ys k) : xs = ys := by
  apply List.ext_getElem hl
  intro k h1 h2
  have := h k h1
  rwa [el_lt h1, el_lt h2] at this
theorem el_mem {zs : List α} {k : Nat} (h : k < zs.length) : el zs k ∈ zs := by rw [el_lt h]; exact List.getElem_mem h
/-- The list of the first m values of f. -/
def tab {α : Type} (m : Nat) (f : Nat → α) : List α := (List.range m).map f
omit [Elt α] in
theorem tab_len (m : Nat) (f : Nat → α) : (tab m f).length = m := by simp [tab]
theorem el_tab (m : Nat) (f : Nat → α) (k : Nat) (h : k < m) : el (tab m f) k = f k := by
  rw [el_lt (by rw [tab_len]; exact h)]; simp [tab]
theorem tab_ext {m : Nat} {f g : Nat → α} (h : ∀ k, k < m → f k = g k) : tab m f = tab m g := by
  refine el_ext (by rw [tab_len, tab_len]) (fun k hk => ?_)
  rw [tab_len] at hk
  rw [el_tab _ _ _ hk, el_tab _ _ _ hk, h k hk]
theorem tab_el (zs : List α) : tab zs.length (el zs) = zs := el_ext (tab_len _ _) (fun k hk => el_tab _ _ _ (by rwa [tab_len] at hk))
def upd {α : Type} (f : Nat → α) (j : Nat) (x : α) : Nat → α := fun k => if k = j then x else f k
theorem tab_set (m : Nat) (f : Nat → α) (j : Nat) (x : α) : (tab m f).set j x = tab m (upd f j x) := by
  by_cases hj : j < m
  · refine el_ext (by simp [tab]) (fun k hk => ?_)
    rw [List.length_set, tab_len] at hk
    rw [el_set (by rw [tab_len]; exact hj), el_tab _ _ _ hk, el_tab _ _ _ hk]; rfl
  · rw [List.set_eq_of_length_le (by rw [tab_len]; omega)]
    exact tab_ext (fun k hk => by unfold upd; rw [if_neg (by omega)])
omit [Elt α] in
theorem tab_snoc (m : Nat) (f : Nat → α) : tab m f ++ [f m] = tab (m + 1) f := by simp [tab, List.range_succ]
theorem tab_replicate (m : Nat) (x : α) : List.replicate m x = tab m (fun _ => x) :=
  el_ext (by rw [tab_len, List.length_replicate]) (fun k hk => by
    rw [List.length_replicate] at hk
    rw [el_tab _ _ _ hk, el_lt (by rw [List.length_replicate]; exact hk)]; simp)

/-- The slice at a, of capacity cap, holds zs. -/
structure Row (w : World) (a : Option Addr) (zs : List α) (cap : Nat) : Prop where
  room : zs.length ≤ cap
  most : cap ≤ 9223372036854775807
  el : ∀ j, j < zs.length → ∃ b off, a = some ⟨b, off, none⟩ ∧ w.cell? ⟨b, off + j, none⟩ = some (gv (el zs j))

theorem Row.below {w w' : World} {a : Option Addr} {zs : List α} {cap : Nat} (h : Row w a zs cap) (hb : Below w.heap.size w w') : Row w' a zs cap :=
  ⟨h.room, h.most, fun j hj => by
    obtain ⟨b, off, e, hc⟩ := h.el j hj
    exact ⟨b, off, e, (hb.cell (p := ⟨b, off + j, none⟩) (lt_of_cell hc)).trans hc⟩⟩
theorem Row.grown {w W : World} {a : Option Addr} {zs : List α} {cap : Nat} {row : Option Nat} (h : Row w a zs cap) (hg : w.grownBy W row) (hne : ∀ b off, a = some ⟨b, off, none⟩ → some b ≠ row) : Row W a zs cap :=
  ⟨h.room, h.most, fun j hj => by
    obtain ⟨b, off, e, hc⟩ := h.el j hj
    exact ⟨b, off, e, (World.cell?_of_block (hg.block b (lt_of_cell hc) (hne b off e))).trans hc⟩⟩
theorem Row.alloc {w : World} {a : Option Addr} {zs : List α} {cap : Nat} (h : Row w a zs cap) (o : Obj) : Row (w.alloc o) a zs cap :=
  h.below ((Below.refl _ w).alloc (Nat.le_refl _) _)
theorem Row.drewN {w : World} {a : Option Addr} {zs : List α} {cap : Nat} (h : Row w a zs cap) (n : Nat) : Row (w.drewN n) a zs cap := ⟨h.room, h.most, h.el⟩
theorem Row.nil (w : World) (a : Option Addr) (cap : Nat) (h : cap ≤ 9223372036854775807) : Row (α := α) w a [] cap := ⟨Nat.zero_le _, h, fun j hj => by simp at hj⟩
theorem Row.take {w : World} {a : Option Addr} {zs : List α} {cap : Nat} (h : Row w a zs cap) (n : Nat) : Row w a (zs.take n) cap :=
  ⟨by have := h.room; simp; omega, h.most, fun j hj => by
    rw [List.length_take] at hj
    obtain ⟨b, off, e, hc⟩ := h.el j (by omega)
    exact ⟨b, off, e, by rw [el_take, if_pos (by omega)]; exact hc⟩⟩
/-- A store into another block. -/
theorem Row.other {W : World} {a : Option Addr} {zs : List α} {cap : Nat} (h : Row W a zs cap) {p : Addr} (u : Value) (hp : ∀ b off, a = some ⟨b, off, none⟩ → 0 < zs.length → b ≠ p.block) : Row (W.setCell p u) a zs cap :=
  ⟨h.room, h.most, fun j hj => by
    obtain ⟨b, off, e, hc⟩ := h.el j hj
    exact ⟨b, off, e, (cell_other u (show b ≠ p.block from hp b off e (by omega))).trans hc⟩⟩
theorem Row.lt {w : World} {b off : Nat} {zs : List α} {cap : Nat} (h : Row w (some ⟨b, off, none⟩) zs cap) (h0 : 0 < zs.length) : b < w.heap.size := by
  obtain ⟨b', off', e, hc⟩ := h.el 0 h0
  cases e
  exact lt_of_cell hc

/-- The slice v, made from block B on, holds zs. -/
def Own (W : World) (B : Nat) (v : Value) (zs : List α) : Prop := W.ownsRow B (ty α) 1 v zs.length (zs.map gv)

theorem Own.nil (W : World) (B : Nat) : Own (α := α) W B (.slice none 0 0) [] := World.ownsRow_nil _ _ _ _
theorem Own.below {W W' : World} {B : Nat} {v : Value} {zs : List α} (h : Own W B v zs) (hb : Below W.heap.size W W') : Own W' B v zs :=
  World.ownsRow.kept h (grown_of_below hb) (by cases v.ownBlock with | none => exact .inl rfl | some k => exact .inr (by intro e; cases e))
theorem Own.alloc {W : World} {B : Nat} {v : Value} {zs : List α} (h : Own W B v zs) (o : Obj) : Own (W.alloc o) B v zs :=
  h.below ((Below.refl _ W).alloc (Nat.le_refl _) _)
theorem Own.drewN {W : World} {B : Nat} {v : Value} {zs : List α} (h : Own W B v zs) (n : Nat) : Own (W.drewN n) B v zs := h
theorem Own.grown {W W' : World} {B : Nat} {v : Value} {zs : List α} {row : Option Nat} (h : Own W B v zs) (hg : W.grownBy W' row) (hne : v.ownBlock = none ∨ v.ownBlock ≠ row) : Own W' B v zs :=
  World.ownsRow.kept h hg hne
theorem Own.mono {W : World} {B B' : Nat} {v : Value} {zs : List α} (h : Own W B v zs) (hB : B' ≤ B) : Own W B' v zs := by
  obtain ⟨h1, h2 | ⟨g, cap, cur, hv, hg, r⟩⟩ := h
  · exact ⟨h1, .inl h2⟩
  · exact ⟨h1, .inr ⟨g, cap, cur, hv, Nat.le_trans hB hg, r⟩⟩
/-- What is known of the slice value: its address, its capacity, the cells. -/
theorem Own.parts {W : World} {B : Nat} {v : Value} {zs : List α} (h : Own W B v zs) :
    (v = .slice none 0 0 ∧ zs = []) ∨ ∃ g cap, v = .slice (some ⟨g, 0, none⟩) zs.length cap ∧ B ≤ g ∧ g < W.heap.size ∧ zs.length ≤ cap ∧ cap ≤ 9223372036854775807 ∧
      ∀ j, j < zs.length → W.cell? ⟨g, j, none⟩ = some (gv (el zs j)) ∧ W.frozen? ⟨g, j, none⟩ = false := by
  have h' := h
  obtain ⟨h1, h2 | ⟨g, cap, cur, hv, hg, hh, r1, r2, r3⟩⟩ := h
  · exact .inl ⟨h2.1, List.length_eq_zero_iff.1 h2.2⟩
  · refine .inr ⟨g, cap, hv, hg, (Array.getElem?_eq_some_iff.1 hh).1, r1, r2, fun j hj => ?_⟩
    subst hv
    refine ⟨?_, World.ownsRow.frozenAt h' j⟩
    rw [World.ownsRow.cellAt h' j (by simpa using hj), List.getElem?_map, List.getElem?_eq_getElem hj, el_lt hj]
    rfl
theorem Own.row {W : World} {B : Nat} {v : Value} {zs : List α} (h : Own W B v zs) : ∃ a cap, v = .slice a zs.length cap ∧ Row W a zs cap := by
  rcases h.parts with ⟨rfl, rfl⟩ | ⟨g, cap, rfl, _, _, r1, r2, hc⟩
  · exact ⟨none, 0, rfl, Nat.le_refl _, by omega, fun j hj => by simp at hj⟩
  · exact ⟨_, cap, rfl, r1, r2, fun j hj => ⟨g, 0, rfl, by simpa using (hc j hj).1⟩⟩
theorem Own.len {W : World} {B n cap : Nat} {a : Option Addr} {zs : List α} (h : Own W B (.slice a n cap) zs) : n = zs.length := by
  rcases h.parts with ⟨e, rfl⟩ | ⟨g', cap', e, _⟩
  · cases e; rfl
  · cases e; rfl
theorem Own.rowAt {W : World} {B n cap : Nat} {a : Option Addr} {zs : List α} (h : Own W B (.slice a n cap) zs) : Row W a zs cap := by
  obtain ⟨a', cap', e, r⟩ := h.row
  cases e
  exact r
theorem Own.set {W : World} {B n : Nat} {g cap : Nat} {zs : List α} (h : Own W B (.slice (some ⟨g, 0, none⟩) n cap) zs) (j : Nat) (c : α) : Own (W.setCell ⟨g, j, none⟩ (gv c)) B (.slice (some ⟨g, 0, none⟩) n cap) (zs.set j c) := by
  have e := h.len
  subst e
  unfold Own
  rw [List.length_set, List.map_set]
  exact (World.ownsRow.stored h j (gv c)).1
theorem Own.setBelow {W : World} {B : Nat} {v : Value} {zs : List α} (h : Own W B v zs) {p : Addr} (hp : p.block < B) (u : Value) : Own (W.setCell p u) B v zs :=
  ownsRow_setCell_below h hp u
theorem Own.other {W : World} {B : Nat} {v : Value} {zs : List α} (h : Own W B v zs) {p : Addr} (u : Value) (hp : v.ownBlock ≠ some p.block) : Own (W.setCell p u) B v zs :=
  World.ownsRow.kept h (row := some p.block) ⟨rfl, rfl, rfl, by simp [World.setCell], fun k _ hk => Below.heap_setCell W p u k (fun e => hk (by rw [e]))⟩ (.inr hp)
/-- Element k of a slice that is owned. -/
theorem Own.at {W : World} {B g cap n : Nat} {zs : List α} (h : Own W B (.slice (some ⟨g, 0, none⟩) n cap) zs) (k : Nat) (hk : k < zs.length) : B ≤ g ∧ g < W.heap.size ∧ cap ≤ 9223372036854775807 ∧ zs.length ≤ cap ∧ W.cell? ⟨g, k, none⟩ = some (gv (el zs k)) ∧ W.frozen? ⟨g, k, none⟩ = false := by
  rcases h.parts with ⟨e, rfl⟩ | ⟨g', cap', e, hb, h2, h3, h4, hc⟩
  · simp at hk
  · cases e
    exact ⟨hb, h2, h4, h3, hc k hk⟩
theorem Own.free {W : World} {B g cap n : Nat} {zs : List α} (h : Own W B (.slice (some ⟨g, 0, none⟩) n cap) zs) (k : Nat) (hk : k < zs.length) : W.frozen? ⟨g, k, none⟩ = false := (h.at k hk).2.2.2.2.2
theorem Own.fresh {W : World} {B n cap : Nat} {a : Option Addr} {zs : List α} (h : Own W B (.slice a n cap) zs) (h0 : 0 < zs.length) : ∃ g, a = some ⟨g, 0, none⟩ ∧ B ≤ g ∧ g < W.heap.size := by
  rcases h.parts with ⟨e, rfl⟩ | ⟨g', cap', e, hb, h2, _⟩
  · simp at h0
  · cases e; exact ⟨g', rfl, hb, h2⟩
theorem Own.room {W : World} {B n cap : Nat} {a : Option Addr} {zs : List α} (h : Own W B (.slice a n cap) zs) : n ≤ cap ∧ cap ≤ 9223372036854775807 := by
  have e := h.len
  subst e
  exact ⟨h.rowAt.room, h.rowAt.most⟩

/-- **make([]T, n)** -/
theorem wp_make1 {W : World} {o : Oper} {a : Act} {K : Act → World → Prop} {Q : Exit → Act → World → Prop} (l c : Operand) (hop : o.op = Op.makeSlice (sl α) l c)
    {B : Nat} (n : Nat) {L : Int} (hl : a.eval l = .int .i64 L) (hc : a.eval c = .int .i64 L) (hL : L = (n : Int)) (hn : n < 1000000) (hbase : B ≤ W.heap.size)
    (h : ∀ W', Own (α := α) W' B (.slice (some ⟨W.heap.size, 0, none⟩) n n) (List.replicate n z) → Below B W W' → K (a.put o.dst (.slice (some ⟨W.heap.size, 0, none⟩) n n)) W') : Oper.wp Tryd.prog o a W K Q := by
  obtain ⟨i0, hi, hz0, hz1, hz2⟩ := info_parts (info (α := α))
  obtain ⟨W', hrun, hown, hgrow⟩ := run_make_full (P := Tryd.prog) W B (sl α) (ty α) i0 (gv (z : α)) 1 (under (α := α)) hi hz0 hz1 .i64 .i64 n (by rw [hz2, Nat.mul_comm]; exact Nat.le_trans (wide_mul α n) (by omega)) (by unfold maxLen; omega) hbase
  subst hL
  unfold Oper.wp
  simp [execOp, hop, hl, hc, hrun, Result.andThen]
  refine h W' ?_ ((Below.refl B W).grown hgrow hbase (fun k e => by cases e))
  unfold Own
  rw [List.length_replicate, List.map_replicate]
  have e : (madeCells (gv (z : α)).cells (n * 1)).toList = List.replicate n (gv (z : α)) := by
    refine List.eq_replicate_iff.2 ⟨by simp [madeCells, one], fun b hb => ?_⟩
    simp [madeCells, one, Nat.mod_one] at hb
    exact hb.2.symm
  rw [e] at hown
  exact hown
theorem wpList_make1 {W : World} {ops : Array Oper} {rest : List Oper} {o : Oper} {a : Act} {Q : Exit → Act → World → Prop} (hgd : o.guard = none) (l c : Operand) (hop : o.op = Op.makeSlice (sl α) l c)
    {B : Nat} (n : Nat) {L : Int} (hl : a.eval l = .int .i64 L) (hc : a.eval c = .int .i64 L) (hL : L = (n : Int)) (hn : n < 1000000) (hbase : B ≤ W.heap.size)
    (h : ∀ W', Own (α := α) W' B (.slice (some ⟨W.heap.size, 0, none⟩) n n) (List.replicate n z) → Below B W W' → wpList Tryd.prog ops Q rest (a.put o.dst (.slice (some ⟨W.heap.size, 0, none⟩) n n)) W') : wpList Tryd.prog ops Q (o :: rest) a W :=
  wpList_plain hgd fun _ hK => wp_make1 (α := α) l c hop n hl hc hL hn hbase fun W' h1 h2 => hK _ _ (h W' h1 h2)

/-- **append(s, x)**, s owned: where the result lies. -/
theorem app_where {W W' : World} {B b : Nat} {v v' : Value} {zs : List α} {c : α} {ty' : TypeId} (hown : Own W B v zs) (hc : W.cell? ⟨b, 0, none⟩ = some (gv c)) (hl : zs.length < 1000000)
    (hr : (Builtin.append_ #[sl α, sl α] ty' #[v, .slice (some ⟨b, 0, none⟩) 1 1]).run Tryd.prog W = .ok v' W') : v'.ownBlock = v.ownBlock ∨ v'.ownBlock = some W.heap.size := by
  obtain ⟨i0, hi, hz0, hz1, hz2⟩ := info_parts (info (α := α))
  have hnews : ∀ j u, [gv c][j]? = some u → W.cell? ((⟨b, 0, none⟩ : Addr).add j) = some u := by
    intro j u hj
    match j, hj with
    | 0, hj => simp at hj; subst hj; simpa [Addr.add] using hc
  have hown' := hown
  rcases hown.2 with ⟨rfl, _⟩ | ⟨g, cap, cur, rfl, hbg, hg, hnc, hcm, hcs, htake⟩
  · have h := Go.run_append_nil (P := Tryd.prog) W (sl α) ty' (ty α) i0 (gv (z : α)) (under (α := α)) hi hz0 ⟨b, 0, none⟩ 1 1 [gv c] (by rw [hz1]; rfl) hnews (by decide) (by decide) (by rw [hz2]; exact Nat.le_trans (wide_mul α _) (by decide))
    rw [h] at hr
    injection hr with h1 h2
    subst h1
    exact .inr rfl
  · by_cases hroom : zs.length + 1 ≤ cap
    · have h := Go.run_append_room (P := Tryd.prog) W (sl α) ty' (ty α) i0 (under (α := α)) hi g zs.length cap cur hg ⟨b, 0, none⟩ 1 1 [gv c] (by rw [hz1]; rfl) hnews (by intro u hu; simp at hu; subst hu; exact plain c) hroom (by rw [hz1, hcs]; simp; omega)
      rw [h] at hr
      injection hr with h1 h2
      subst h1
      exact .inl rfl
    · have holds : ∀ j u, (zs.map gv)[j]? = some u → W.cell? ((⟨g, 0, none⟩ : Addr).add j) = some u := World.ownsRow.cells hown' (g := g) rfl
      have h := Go.run_append_grow (P := Tryd.prog) W (sl α) ty' (ty α) i0 (gv (z : α)) (under (α := α)) hi hz0 ⟨g, 0, none⟩ zs.length cap (zs.map gv) (by rw [hz1]; simp) holds ⟨b, 0, none⟩ 1 1 [gv c] (by rw [hz1]; rfl) hnews (by omega) (by omega) (growslice_fits (by omega) (by rw [hz2]; exact Nat.le_trans (wide_mul α _) (by omega)))
      rw [h] at hr
      injection hr with h1 h2
      subst h1
      exact .inr rfl
theorem wp_app1 {W : World} {o : Oper} {a : Act} {K : Act → World → Prop} {Q : Exit → Act → World → Prop} (s x : Operand)
    (ho : o.op = .call { callee := .builtin .append, args := #[s, x], argTypes := #[sl α, sl α] }) {B : Nat} {v : Value} {zs : List α} (c : α) (hs : a.eval s = v) (hown : Own W B v zs)
    {b : Nat} (hx : a.eval x = .slice (some ⟨b, 0, none⟩) 1 1) (hc : W.cell? ⟨b, 0, none⟩ = some (gv c)) (hl : zs.length < 1000000) (hbase : B ≤ W.heap.size)
    (h : ∀ a' cap' W', Own W' B (.slice a' (zs.length + 1) cap') (zs ++ [c]) → W.grownBy W' v.ownBlock → Below B W W' → (∀ b' o', a' = some ⟨b', o', none⟩ → v.ownBlock = some b' ∨ b' = W.heap.size) → K (a.put o.dst (.slice a' (zs.length + 1) cap')) W') : Oper.wp Tryd.prog o a W K Q := by
  obtain ⟨i0, hi, hz0, hz1, hz2⟩ := info_parts (info (α := α))
  have hnews : ∀ j u, [gv c][j]? = some u → W.cell? ((⟨b, 0, none⟩ : Addr).add j) = some u := by
    intro j u hj
    match j, hj with
    | 0, hj => simp at hj; subst hj; simpa [Addr.add] using hc
  obtain ⟨v', W', hr, h2, h3, h4⟩ := run_append_own (P := Tryd.prog) W B (sl α) o.type (ty α) i0 (gv (z : α)) 1 (wide α) (under (α := α)) hi hz0 hz1 hz2 (by rw [one]; rfl) (by decide) v zs.length (zs.map gv) hown ⟨b, 0, none⟩ 1 1 [gv c] rfl hnews (by intro u hu; simp at hu; subst hu; exact plain c) (by unfold maxLen; omega) (Nat.le_trans (wide_mul α _) (by omega)) hbase
  have hw := app_where hown hc hl hr
  have ho2 : Own W' B v' (zs ++ [c]) := by unfold Own; simpa using h2
  have hB2 : Below B W W' := (Below.refl B W).grown h3 hbase (fun k e => (World.ownsRow.lt hown k e).1)
  obtain ⟨a', cap', rfl, _⟩ := ho2.row
  unfold Oper.wp execOp
  simp only [ho, resolve, invoke, builtin, Sem.run_bind, Sem.run_pure, Result.andThen_ok, List.map_toArray, List.map_cons, List.map_nil, hs, hx, hr]
  have e1 : (zs ++ [c]).length = zs.length + 1 := by rw [List.length_append]; rfl
  rw [e1] at ho2 ⊢
  exact h a' cap' W' ho2 h3 hB2 (fun b' o' e => by
    subst e
    rcases hw with h5 | h5
    · exact .inl (by rw [← h5]; rfl)
    · have : some b' = some W.heap.size := h5
      cases this
      exact .inr rfl)
theorem wpList_app1 {W : World} {ops : Array Oper} {rest : List Oper} {o : Oper} {a : Act} {Q : Exit → Act → World → Prop} (hgd : o.guard = none) (s x : Operand)
    (ho : o.op = .call { callee := .builtin .append, args := #[s, x], argTypes := #[sl α, sl α] }) {B : Nat} {v : Value} {zs : List α} (c : α) (hs : a.eval s = v) (hown : Own W B v zs)
    {b : Nat} (hx : a.eval x = .slice (some ⟨b, 0, none⟩) 1 1) (hc : W.cell? ⟨b, 0, none⟩ = some (gv c)) (hl : zs.length < 1000000) (hbase : B ≤ W.heap.size)
    (h : ∀ a' cap' W', Own W' B (.slice a' (zs.length + 1) cap') (zs ++ [c]) → W.grownBy W' v.ownBlock → Below B W W' → (∀ b' o', a' = some ⟨b', o', none⟩ → v.ownBlock = some b' ∨ b' = W.heap.size) → wpList Tryd.prog ops Q rest (a.put o.dst (.slice a' (zs.length + 1) cap')) W') : wpList Tryd.prog ops Q (o :: rest) a W :=
  wpList_plain hgd fun _ hK => wp_app1 s x ho c hs hown hx hc hl hbase fun a' c' W' h1 h2 h3 h4 => hK _ _ (h a' c' W' h1 h2 h3 h4)

theorem run_append_none {P : Program} {w : World} (base : Nat) (t ty e : TypeId) (i : TypeInfo) (size : Nat) (ht : P.underlying t = some (.slice e)) (hi : P.info? e = some i)
    (v : Value) (n : Nat) (xs : List Value) (c : Nat) (hown : w.ownsRow base e size v n xs) :
    (Builtin.append_ #[t, t] ty #[v, .slice none 0 c]).run P w = .ok v w := by
  rcases hown.2 with ⟨rfl, rfl⟩ | ⟨g, cap, cur, rfl, _, _, hnc, _⟩
  · simp [Builtin.append_, run_underlying ht, sizeOf, typeInfo, hi, Builtin.lenOf, Builtin.firstCells]
  · simp [Builtin.append_, run_underlying ht, sizeOf, typeInfo, hi, Builtin.lenOf, Builtin.firstCells, hnc, storeCells]
/-- **append(s, t...)**, s owned, t any slice, nil too. -/
theorem wp_appAny {W : World} {o : Oper} {a : Act} {K : Act → World → Prop} {Q : Exit → Act → World → Prop} (s x : Operand) (ho : o.op = .call { callee := .builtin .append, args := #[s, x], argTypes := #[sl α, sl α] })
    {B : Nat} {v : Value} {zs ys : List α} (hs : a.eval s = v) (hown : Own W B v zs) {ad : Option Addr} {cap : Nat} (hx : a.eval x = .slice ad ys.length cap) (hr : Row W ad ys cap)
    (hl : zs.length + ys.length < 1000000) (hbase : B ≤ W.heap.size)
    (h : ∀ a' cap' W', Own W' B (.slice a' (zs.length + ys.length) cap') (zs ++ ys) → Below B W W' → K (a.put o.dst (.slice a' (zs.length + ys.length) cap')) W') : Oper.wp Tryd.prog o a W K Q := by
  obtain ⟨i0, hi, hz0, hz1, hz2⟩ := info_parts (info (α := α))
  cases ad with
  | none =>
    have hy : ys = [] := by
      cases ys with
      | nil => rfl
      | cons y ys =>
        obtain ⟨b, off, e, _⟩ := hr.el 0 (by simp)
        cases e
    subst hy
    have hrun := run_append_none (P := Tryd.prog) B (sl α) o.type (ty α) i0 1 (under (α := α)) hi v zs.length (zs.map gv) cap hown
    obtain ⟨a', cap', rfl, _⟩ := hown.row
    unfold Oper.wp execOp
    simp only [ho, resolve, invoke, builtin, Sem.run_bind, Sem.run_pure, Result.andThen_ok, List.map_toArray, List.map_cons, List.map_nil, hs, hx, List.length_nil, hrun]
    have := h a' cap' W (by simpa using hown) (Below.refl _ _)
    exact (show K (a.put o.dst (.slice a' zs.length cap')) W by simpa using this)
  | some ad =>
    refine wp_append_own W s x (sl α) ho B (ty α) i0 (gv (z : α)) 1 (wide α) (under (α := α)) hi hz0 hz1 hz2 (by rw [one]; rfl) (by decide) v zs.length (zs.map gv) hs hown ad ys.length cap (ys.map gv) hx (by simp) ?_ ?_ (by unfold maxLen; omega) (Nat.le_trans (wide_mul α _) (by omega)) hbase ?_
    · intro j u hj
      rw [List.getElem?_map] at hj
      by_cases hlt : j < ys.length
      · obtain ⟨b, off, e, hc⟩ := hr.el j hlt
        cases e
        rw [List.getElem?_eq_getElem hlt] at hj
        simp only [Option.map_some, Option.some.injEq] at hj
        subst hj
        rw [el_lt hlt] at hc
        by_cases hj0 : j = 0
        · subst hj0; simpa [Addr.add] using hc
        · simpa [Addr.add, hj0] using hc
      · rw [List.getElem?_eq_none (by omega)] at hj; simp at hj
    · intro u hu
      obtain ⟨x, _, rfl⟩ := List.mem_map.1 hu
      exact plain x
    · intro v' W' hown' hgrow _
      have ho2 : Own W' B v' (zs ++ ys) := by unfold Own; rw [List.length_append, List.map_append]; exact hown'
      have hB2 : Below B W W' := (Below.refl B W).grown hgrow hbase (fun k e => (World.ownsRow.lt hown k e).1)
      obtain ⟨a', cap', rfl, _⟩ := ho2.row
      rw [List.length_append] at ho2 ⊢
      exact h a' cap' W' ho2 hB2
theorem wpList_appAny {W : World} {ops : Array Oper} {rest : List Oper} {o : Oper} {a : Act} {Q : Exit → Act → World → Prop} (hgd : o.guard = none) (s x : Operand)
    (ho : o.op = .call { callee := .builtin .append, args := #[s, x], argTypes := #[sl α, sl α] }) {B : Nat} {v : Value} {zs ys : List α} (hs : a.eval s = v) (hown : Own W B v zs)
    {ad : Option Addr} {cap : Nat} (hx : a.eval x = .slice ad ys.length cap) (hr : Row W ad ys cap) (hl : zs.length + ys.length < 1000000) (hbase : B ≤ W.heap.size)
    (h : ∀ a' cap' W', Own W' B (.slice a' (zs.length + ys.length) cap') (zs ++ ys) → Below B W W' → wpList Tryd.prog ops Q rest (a.put o.dst (.slice a' (zs.length + ys.length) cap')) W') : wpList Tryd.prog ops Q (o :: rest) a W :=
  wpList_plain hgd fun _ hK => wp_appAny s x ho hs hown hx hr hl hbase fun a' c' W' h1 h2 => hK _ _ (h a' c' W' h1 h2)
theorem own_empty (w : World) (B : Nat) (h : B ≤ w.heap.size) : Own (α := α) (w.alloc (.cells #[] (ty α))) B (.slice (some ⟨w.heap.size, 0, none⟩) 0 0) [] :=
  World.ownsRow_made (base := B) (e := ty α) (size := 1) w #[] 0 h (by unfold maxLen; omega) rfl
end Go.Proofs.YtmejneobfkbgeaaDoor.G

namespace Go.Proofs.YtmejneobfkbgeaaDoor.G
open Go Go.RowKit Go.Shelf
open Elt
abbrev Y := BitVec 8
instance eltY : Elt Y := { gv := fun x => .int .u8 (x.toNat : Int), z := 0, ty := 5, sl := 38, wide := 1, wide_le := by decide, info := by kernel_rfl, under := Tryd.underlying38, one := fun _ => rfl, plain := fun _ => rfl }
theorem Row.elY {w : World} {a : Option Addr} {zs : List Y} {cap : Nat} (h : Row w a zs cap) (j : Nat) (hj : j < zs.length) : ∃ b off, a = some ⟨b, off, none⟩ ∧ w.cell? ⟨b, off + j, none⟩ = some (.int .u8 ((G.el zs j).toNat : Int)) := h.el j hj
theorem Row.cellY {w : World} {b off : Nat} {zs : List Y} {cap : Nat} (h : Row w (some ⟨b, off, none⟩) zs cap) (j : Nat) (hj : j < zs.length) : w.cell? ⟨b, off + j, none⟩ = some (.int .u8 ((G.el zs j).toNat : Int)) := by
  obtain ⟨b', off', e, hc⟩ := h.el j hj
  cases e
  exact hc
theorem Own.setY {W : World} {B n : Nat} {g cap : Nat} {zs : List Y} (h : Own W B (.slice (some ⟨g, 0, none⟩) n cap) zs) (j : Nat) (c : Y) : Own (W.setCell ⟨g, j, none⟩ (.int .u8 (c.toNat : Int))) B (.slice (some ⟨g, 0, none⟩) n cap) (zs.set j c) := h.set j c
theorem Own.cellY {W : World} {B g cap n : Nat} {zs : List Y} (h : Own W B (.slice (some ⟨g, 0, none⟩) n cap) zs) (k : Nat) (hk : k < zs.length) : W.cell? ⟨g, k, none⟩ = some (.int .u8 ((el zs k).toNat : Int)) := (h.at k hk).2.2.2.2.1

theorem u8_wrap (a : Nat) (h : a < 256) : IntKind.u8.wrap (a : Int) = (a : Int) := by
  simp [IntKind.wrap, IntKind.bits, IntKind.signed]; omega
theorem Y.lt (v : Y) : v.toNat < 256 := v.isLt
theorem and_Y (a b : Y) : bits BinOp.and IntKind.u8 (a.toNat : Int) (b.toNat : Int) = ((a &&& b).toNat : Int) := by
  show IntKind.u8.wrap ((BitVec.ofInt 8 a.toNat &&& BitVec.ofInt 8 b.toNat).toNat : Int) = _
  rw [BitVec.ofInt_natCast, BitVec.ofInt_natCast, BitVec.ofNat_toNat, BitVec.ofNat_toNat, BitVec.setWidth_eq, BitVec.setWidth_eq]
  exact u8_wrap _ (a &&& b).isLt
theorem or_Y (a b : Y) : bits BinOp.or IntKind.u8 (a.toNat : Int) (b.toNat : Int) = ((a ||| b).toNat : Int) := by
  show IntKind.u8.wrap ((BitVec.ofInt 8 a.toNat ||| BitVec.ofInt 8 b.toNat).toNat : Int) = _
  rw [BitVec.ofInt_natCast, BitVec.ofInt_natCast, BitVec.ofNat_toNat, BitVec.ofNat_toNat, BitVec.setWidth_eq, BitVec.setWidth_eq]
  exact u8_wrap _ (a ||| b).isLt
theorem xor_Y (a b : Y) : bits BinOp.xor IntKind.u8 (a.toNat : Int) (b.toNat : Int) = ((a ^^^ b).toNat : Int) := by
  show IntKind.u8.wrap ((BitVec.ofInt 8 a.toNat ^^^ BitVec.ofInt 8 b.toNat).toNat : Int) = _
  rw [BitVec.ofInt_natCast, BitVec.ofInt_natCast, BitVec.ofNat_toNat, BitVec.ofNat_toNat, BitVec.setWidth_eq, BitVec.setWidth_eq]
  exact u8_wrap _ (a ^^^ b).isLt
theorem ofNat_Y (n : Nat) (h : n < 256) : ((BitVec.ofNat 8 n).toNat : Int) = (n : Int) := by
  rw [BitVec.toNat_ofNat, Nat.mod_eq_of_lt h]
theorem shr_Y (a : Y) (k : Nat) : (a.toNat : Int) / 2 ^ min k 64 = ((a >>> k).toNat : Int) := by
  rw [BitVec.toNat_ushiftRight, Nat.shiftRight_eq_div_pow]
  have e : ((a.toNat / 2 ^ min k 64 : Nat) : Int) = (a.toNat : Int) / 2 ^ min k 64 := by rw [Int.natCast_ediv, Int.natCast_pow]; rfl
  rw [← e]
  by_cases h : k ≤ 64
  · rw [Nat.min_eq_left h]
  · rw [Nat.min_eq_right (by omega), Nat.div_eq_of_lt (Nat.lt_trans a.isLt (by decide)), Nat.div_eq_of_lt]
    exact Nat.lt_trans a.isLt (Nat.lt_of_lt_of_le (show 2 ^ 8 < 2 ^ 64 by decide) (Nat.pow_le_pow_right (n := 2) (by decide) (show 64 ≤ k by omega)))
/-- One or zero. -/
def y1 (b : Bool) : Y := if b then 1 else 0
theorem y1_inj {a b : Bool} (h : y1 a = y1 b) : a = b := by
  cases a <;> cases b <;> first | rfl | (revert h; decide)
theorem bit_Y' (a : Y) (k : Nat) : (a >>> k) &&& 1 = y1 (a.getLsbD k) := by
  apply BitVec.eq_of_getLsbD_eq
  intro i hi
  rw [BitVec.getLsbD_and, BitVec.getLsbD_ushiftRight]
  unfold y1
  by_cases h : i = 0
  · subst h
    rw [Nat.add_zero]
    cases a.getLsbD k <;> rfl
  · have h1 : BitVec.getLsbD (1 : Y) i = false := by
      show BitVec.getLsbD (1#8) i = false
      rw [BitVec.getLsbD_one]; simp; omega
    rw [h1, Bool.and_false]
    split
    · exact h1.symm
    · exact BitVec.getLsbD_zero.symm
theorem bit_Y (a : Y) (k : Nat) : bits BinOp.and IntKind.u8 ((a.toNat : Int) / 2 ^ min k 64) 1 = ((y1 (a.getLsbD k)).toNat : Int) := by
  rw [shr_Y]
  have := and_Y (a >>> k) 1
  rw [show ((1 : Y).toNat : Int) = 1 from rfl] at this
  rw [this, bit_Y']
/-- Bytes that are equal as numbers are equal. -/
theorem Y.ext {a b : Y} (h : (a.toNat : Int) = (b.toNat : Int)) : a = b := BitVec.eq_of_toNat_eq (by omega)
end Go.Proofs.YtmejneobfkbgeaaDoor.G

namespace Go.Proofs.YtmejneobfkbgeaaDoor.G.H
open Go

theorem Y.xor_zero (a : Y) : a ^^^ 0 = a := BitVec.xor_zero
theorem Y.zero_xor (a : Y) : 0 ^^^ a = a := BitVec.zero_xor
theorem Y.bit_zero (k : Nat) : (0 : Y).getLsbD k = false := BitVec.getLsbD_zero
/-- How many bits a number has. -/
def pc (c : Nat) : Nat := Lib.onesCount c
/-- What the loop over all bytes knows: the list, the three counters. -/
structure Cs where
  l : List Y
  n3 : Nat
  n5 : Nat
  n1 : Nat
def cstep (s : Cs) (c : Nat) : Cs :=
  if pc c = 3 then ⟨s.l.set s.n3 (BitVec.ofNat 8 c), s.n3 + 1, s.n5, s.n1⟩
  else if pc c = 5 then (if s.n5 < 64 then ⟨s.l.set s.n5 (BitVec.ofNat 8 c), s.n3, s.n5 + 1, s.n1⟩ else s)
  else if pc c = 1 then ⟨s.l.set s.n1 (BitVec.ofNat 8 c), s.n3, s.n5, s.n1 + 1⟩ else s
def crun : Nat → Cs
  | 0 => ⟨List.replicate 72 0, 0, 56, 64⟩
  | n + 1 => cstep (crun n) n
def cols : List Y := [7#8, 11#8, 13#8, 14#8, 19#8, 21#8, 22#8, 25#8, 26#8, 28#8, 35#8, 37#8, 38#8, 41#8, 42#8, 44#8, 49#8, 50#8, 52#8, 56#8, 67#8, 69#8, 70#8, 73#8, 74#8, 76#8, 81#8, 82#8, 84#8, 88#8, 97#8, 98#8, 100#8, 104#8, 112#8, 131#8, 133#8, 134#8, 137#8, 138#8, 140#8, 145#8, 146#8, 148#8, 152#8, 161#8, 162#8, 164#8, 168#8, 176#8, 193#8, 194#8, 196#8, 200#8, 208#8, 224#8, 31#8, 47#8, 55#8, 59#8, 61#8, 62#8, 79#8, 87#8, 1#8, 2#8, 4#8, 8#8, 16#8, 32#8, 64#8, 128#8]
theorem cols_len : cols.length = 72 := rfl
theorem crun_l : (crun 256).l = cols := by decide +kernel
theorem crun_n3 : (crun 256).n3 = 56 := by decide +kernel
theorem crun_n1 : (crun 256).n1 = 72 := by decide +kernel
theorem crun_len : ∀ n, (crun n).l.length = 72
  | 0 => by show (List.replicate 72 (0 : Y)).length = 72; rw [List.length_replicate]
  | n + 1 => by
    have h := crun_len n
    show (cstep (crun n) n).l.length = 72
    unfold cstep
    split
    · simpa using h
    · split
      · split
        · simpa using h
        · exact h
      · split
        · simpa using h
        · exact h
theorem cstep_mono (s : Cs) (c : Nat) : s.n3 ≤ (cstep s c).n3 ∧ s.n1 ≤ (cstep s c).n1 := by
  unfold cstep
  split
  · exact ⟨Nat.le_succ _, Nat.le_refl _⟩
  · split
    · split <;> exact ⟨Nat.le_refl _, Nat.le_refl _⟩
    · split
      · exact ⟨Nat.le_refl _, Nat.le_succ _⟩
      · exact ⟨Nat.le_refl _, Nat.le_refl _⟩
theorem crun_mono (n : Nat) : ∀ m, n ≤ m → (crun n).n3 ≤ (crun m).n3 ∧ (crun n).n1 ≤ (crun m).n1 := by
  intro m
  induction m with
  | zero => intro h; rw [show n = 0 by omega]; exact ⟨Nat.le_refl _, Nat.le_refl _⟩
  | succ m ih =>
    intro h
    by_cases e : n = m + 1
    · rw [e]; exact ⟨Nat.le_refl _, Nat.le_refl _⟩
    · have h1 := ih (by omega)
      have h2 := cstep_mono (crun m) m
      exact ⟨Nat.le_trans h1.1 h2.1, Nat.le_trans h1.2 h2.2⟩
theorem crun_3 {n : Nat} (hn : n < 256) (h : pc n = 3) : (crun n).n3 < 56 ∧ crun (n + 1) = ⟨(crun n).l.set (crun n).n3 (BitVec.ofNat 8 n), (crun n).n3 + 1, (crun n).n5, (crun n).n1⟩ := by
  have e : crun (n + 1) = ⟨(crun n).l.set (crun n).n3 (BitVec.ofNat 8 n), (crun n).n3 + 1, (crun n).n5, (crun n).n1⟩ := by
    show cstep (crun n) n = _
    unfold cstep
    rw [if_pos h]
  have h1 := (crun_mono (n + 1) 256 hn).1
  rw [crun_n3, e] at h1
  exact ⟨h1, e⟩
theorem crun_1 {n : Nat} (hn : n < 256) (h : pc n = 1) : (crun n).n1 < 72 ∧ crun (n + 1) = ⟨(crun n).l.set (crun n).n1 (BitVec.ofNat 8 n), (crun n).n3, (crun n).n5, (crun n).n1 + 1⟩ := by
  have e : crun (n + 1) = ⟨(crun n).l.set (crun n).n1 (BitVec.ofNat 8 n), (crun n).n3, (crun n).n5, (crun n).n1 + 1⟩ := by
    show cstep (crun n) n = _
    unfold cstep
    rw [if_neg (by omega), if_neg (by omega), if_pos h]
  have h1 := (crun_mono (n + 1) 256 hn).2
  rw [crun_n1, e] at h1
  exact ⟨h1, e⟩
theorem crun_5 {n : Nat} (h : pc n = 5) (h5 : (crun n).n5 < 64) : crun (n + 1) = ⟨(crun n).l.set (crun n).n5 (BitVec.ofNat 8 n), (crun n).n3, (crun n).n5 + 1, (crun n).n1⟩ := by
  show cstep (crun n) n = _
  unfold cstep
  rw [if_neg (by omega), if_pos h, if_pos h5]
theorem crun_5no {n : Nat} (h : pc n = 5) (h5 : ¬ (crun n).n5 < 64) : crun (n + 1) = crun n := by
  show cstep (crun n) n = _
  unfold cstep
  rw [if_neg (by omega), if_pos h, if_neg h5]
theorem crun_no {n : Nat} (h3 : ¬ pc n = 3) (h5 : ¬ pc n = 5) (h1 : ¬ pc n = 1) : crun (n + 1) = crun n := by
  show cstep (crun n) n = _
  unfold cstep
  rw [if_neg h3, if_neg h5, if_neg h1]

def col (k : Nat) : Y := el cols k
def bitAt (w : List Y) (k : Nat) : Bool := (el w (k / 8)).getLsbD (k % 8)
/-- The exclusive or of the columns of the first n bits that are 1. -/
def syn (w : List Y) : Nat → Y
  | 0 => 0
  | n + 1 => syn w n ^^^ (if bitAt w n then col n else 0)
/-- The bit that has this column, or 72. -/
def idx (s : Y) : Nat := cols.findIdx (· == s)
theorem idx_le (s : Y) : idx s ≤ 72 := by rw [← cols_len]; exact List.findIdx_le_length
theorem col_get {k : Nat} (h : k < 72) : col k = cols[k]'(by rw [cols_len]; exact h) := el_lt (by rw [cols_len]; exact h)
theorem idx_col {s : Y} (h : idx s < 72) : col (idx s) = s := by
  have := List.findIdx_getElem (xs := cols) (p := (· == s)) (w := by rw [cols_len]; exact h)
  rw [col_get h]
  exact eq_of_beq this
theorem idx_not {s : Y} {k : Nat} (h : k < idx s) : col k ≠ s := by
  have hk : k < 72 := Nat.lt_of_lt_of_le h (idx_le s)
  have := List.not_of_lt_findIdx (xs := cols) (p := (· == s)) h
  rw [col_get hk]
  intro e
  rw [e] at this
  simp at this
theorem idx_min {s : Y} {k : Nat} (hk : k < 72) (h : col k = s) (hno : ∀ j, j < k → col j ≠ s) : idx s = k := by
  rcases Nat.lt_trichotomy (idx s) k with h1 | h1 | h1
  · exact absurd (idx_col (by omega)) (hno _ h1)
  · exact h1
  · exact absurd h (idx_not h1)
theorem idx_none {s : Y} (hno : ∀ j, j < 72 → col j ≠ s) : idx s = 72 := by
  have := idx_le s
  rcases Nat.lt_or_ge (idx s) 72 with h | h
  · exact absurd (idx_col h) (hno _ h)
  · omega
theorem cols_nodup : ∀ i, i < 72 → ∀ k, k < 72 → (col i == col k) = (i == k) := by decide +kernel
theorem col_inj {i k : Nat} (hi : i < 72) (hk : k < 72) (h : col i = col k) : i = k := by
  have := cols_nodup i hi k hk
  rw [h] at this
  simp at this
  exact this
theorem idx_of_col {k : Nat} (hk : k < 72) : idx (col k) = k := idx_min hk rfl (fun j hj e => by have := col_inj (by omega) hk e; omega)

/-- Whether a byte has an odd number of bits. -/
def par (v : Y) : Bool := (v.getLsbD 0 ^^ v.getLsbD 1) ^^ (v.getLsbD 2 ^^ v.getLsbD 3) ^^ ((v.getLsbD 4 ^^ v.getLsbD 5) ^^ (v.getLsbD 6 ^^ v.getLsbD 7))
theorem par_xor (a b : Y) : par (a ^^^ b) = (par a ^^ par b) := by
  unfold par
  simp only [BitVec.getLsbD_xor]
  haveI : Std.Commutative (α := Bool) Bool.xor := ⟨Bool.xor_comm⟩
  ac_rfl
theorem par_zero : par 0 = false := by decide
theorem par_col : ∀ k, k < 72 → par (col k) = true := by decide +kernel
theorem col_ne {k : Nat} (h : k < 72) : col k ≠ 0 := fun e => by
  have := par_col k h
  rw [e, par_zero] at this
  cases this

/-- Bit b turned over. -/
def flipAt (w : List Y) (b : Nat) : List Y := w.set (b / 8) (el w (b / 8) ^^^ ((1 : Y) <<< (b % 8)))
theorem flip_len (w : List Y) (b : Nat) : (flipAt w b).length = w.length := List.length_set
theorem one_shl : ∀ m, m < 8 → ∀ j, j < 8 → ((1 : Y) <<< m).getLsbD j = (j == m) := by decide
theorem bit_flip {w : List Y} {b : Nat} (hb : b / 8 < w.length) (k : Nat) : bitAt (flipAt w b) k = (bitAt w k ^^ (k == b)) := by
  unfold bitAt flipAt
  rw [el_set hb]
  by_cases h : k / 8 = b / 8
  · rw [if_pos h, BitVec.getLsbD_xor, h, one_shl _ (Nat.mod_lt _ (by decide)) _ (Nat.mod_lt _ (by decide))]
    congr 1
    rw [Bool.eq_iff_iff, beq_iff_eq, beq_iff_eq]
    omega
  · rw [if_neg h]
    have : (k == b) = false := by rw [beq_eq_false_iff_ne]; rintro rfl; exact h rfl
    rw [this, Bool.xor_false]
theorem ite_xor (p q : Bool) (c : Y) : (if (p ^^ q) = true then c else 0) = (if p = true then c else 0) ^^^ (if q = true then c else 0) := by
  cases p <;> cases q <;> simp
theorem syn_xor {x y z : List Y} (h : ∀ k, bitAt z k = (bitAt x k ^^ bitAt y k)) : ∀ n, syn z n = syn x n ^^^ syn y n
  | 0 => by show (0 : Y) = 0 ^^^ 0; decide
  | n + 1 => by
    show syn z n ^^^ _ = (syn x n ^^^ _) ^^^ (syn y n ^^^ _)
    rw [syn_xor h n, h n, ite_xor]
    ac_rfl
theorem syn_flip {w : List Y} {b : Nat} (hb : b / 8 < w.length) : ∀ n, syn (flipAt w b) n = syn w n ^^^ (if b < n then col b else 0)
  | 0 => by show (0 : Y) = 0 ^^^ (if b < 0 then col b else 0); rw [if_neg (Nat.not_lt_zero b)]; decide
  | n + 1 => by
    show syn (flipAt w b) n ^^^ _ = (syn w n ^^^ _) ^^^ _
    rw [syn_flip hb n, bit_flip hb, ite_xor]
    by_cases e : n = b
    · subst e
      rw [if_neg (Nat.lt_irrefl n), if_pos (Nat.lt_succ_self n), if_pos (show (n == n) = true by simp)]
      simp only [Y.xor_zero]
      ac_rfl
    · rw [if_neg (show ¬ (n == b) = true by simp; exact e)]
      by_cases h : b < n
      · rw [if_pos h, if_pos (show b < n + 1 from Nat.lt_succ_of_lt h)]
        simp only [Y.xor_zero]
        ac_rfl
      · rw [if_neg h, if_neg (show ¬ b < n + 1 from fun h2 => h (Nat.lt_of_le_of_ne (Nat.le_of_lt_succ h2) (fun e2 => e e2.symm)))]
        simp only [Y.xor_zero]
theorem syn_ext {x y : List Y} : ∀ n, (∀ k, k < n → bitAt x k = bitAt y k) → syn x n = syn y n
  | 0, _ => rfl
  | n + 1, h => by
    show syn x n ^^^ _ = syn y n ^^^ _
    rw [syn_ext n (fun k hk => h k (by omega)), h n (by omega)]
theorem syn_check : ∀ c, c < 256 → syn [0, 0, 0, 0, 0, 0, 0, 0, BitVec.ofNat 8 c] 72 = BitVec.ofNat 8 c := by decide +kernel
theorem syn_zero : ∀ n, syn [0, 0, 0, 0, 0, 0, 0, 0, 0] n = 0 := by
  intro n
  induction n with
  | zero => rfl
  | succ n ih =>
    show syn _ n ^^^ _ = 0
    rw [ih]
    have : bitAt [0, 0, 0, 0, 0, 0, 0, 0, 0] n = false := by
      unfold bitAt
      have h0 : el ([0, 0, 0, 0, 0, 0, 0, 0, 0] : List Y) (n / 8) = 0 := by
        by_cases h : n / 8 < 9
        · exact (show ∀ k, k < 9 → el ([0, 0, 0, 0, 0, 0, 0, 0, 0] : List Y) k = 0 by decide) _ h
        · exact el_ge (by show 9 ≤ _; omega)
      rw [h0]; exact Y.bit_zero _
    rw [this, if_neg (by decide)]; exact Y.xor_zero _
/-- Data and the check byte are a code word. -/
theorem syn_word {data : List Y} (hd : data.length = 8) : syn (data ++ [syn data 64]) 72 = 0 := by
  obtain ⟨c, hc⟩ : ∃ c, syn data 64 = c := ⟨_, rfl⟩
  have h1 := syn_xor (x := data ++ [0]) (y := [0, 0, 0, 0, 0, 0, 0, 0, c]) (z := data ++ [c]) (fun k => by
    unfold bitAt
    rw [el_append, el_append, hd]
    by_cases h : k / 8 < 8
    · rw [if_pos h, if_pos h]
      have : el ([0, 0, 0, 0, 0, 0, 0, 0, c] : List Y) (k / 8) = 0 := by
        obtain ⟨m, hm⟩ : ∃ m, k / 8 = m := ⟨_, rfl⟩
        rw [hm] at h ⊢
        match m, h with
        | 0, _ => rfl
        | 1, _ => rfl
        | 2, _ => rfl
        | 3, _ => rfl
        | 4, _ => rfl
        | 5, _ => rfl
        | 6, _ => rfl
        | 7, _ => rfl
      rw [this, Y.bit_zero _, Bool.xor_false]
    · rw [if_neg h, if_neg h]
      by_cases h8 : k / 8 = 8
      · rw [h8]
        show c.getLsbD _ = ((0 : Y).getLsbD _ ^^ c.getLsbD _)
        rw [Y.bit_zero _, Bool.false_xor]
      · rw [el_ge (show ([c] : List Y).length ≤ k / 8 - 8 by show 1 ≤ _; omega), el_ge (show ([0] : List Y).length ≤ k / 8 - 8 by show 1 ≤ _; omega), el_ge (show ([0, 0, 0, 0, 0, 0, 0, 0, c] : List Y).length ≤ k / 8 by show 9 ≤ _; omega)]
        show (0 : Y).getLsbD _ = ((0 : Y).getLsbD _ ^^ (0 : Y).getLsbD _)
        rw [Y.bit_zero _]; rfl) 72
  have h2 : syn (data ++ [0]) 64 = syn data 64 := syn_ext 64 (fun k hk => by
    unfold bitAt
    rw [el_append, hd, if_pos (by omega)])
  have h3 : ∀ m, m ≤ 8 → syn (data ++ [0]) (64 + m) = syn data 64 := by
    intro m
    induction m with
    | zero => intro _; exact h2
    | succ m ih =>
      intro hm
      show syn (data ++ [0]) (64 + m) ^^^ (if bitAt (data ++ [0]) (64 + m) = true then col (64 + m) else 0) = _
      rw [ih (by omega)]
      have : bitAt (data ++ [0]) (64 + m) = false := by
        unfold bitAt
        rw [el_append, hd, if_neg (by omega), show (64 + m) / 8 - 8 = 0 by omega]
        exact Y.bit_zero _
      rw [this, if_neg (by decide)]
      exact Y.xor_zero _
  have h4 : syn [0, 0, 0, 0, 0, 0, 0, 0, c] 72 = c := by
    have := syn_check c.toNat c.isLt
    rwa [BitVec.ofNat_toNat, BitVec.setWidth_eq] at this
  rw [hc]
  rw [h1, h3 8 (Nat.le_refl _), h4, hc, BitVec.xor_self]
  rfl
theorem flip_flip {w : List Y} {b : Nat} (hb : b / 8 < w.length) : flipAt (flipAt w b) b = w := by
  unfold flipAt
  rw [el_set hb, if_pos rfl, List.set_set, BitVec.xor_assoc, BitVec.xor_self]; rw [show (0#8 : Y) = 0 from rfl, Y.xor_zero, el_lt hb]
  exact List.set_getElem_self hb

/-- What decoding answers. -/
def decO (s : Y) : Nat := if s = 0 then 0 else if idx s < 72 then 1 else 2
def decW (w : List Y) (s : Y) : List Y := if s = 0 then w else if idx s < 72 then flipAt w (idx s) else []
def decC (s : Y) : List Nat := if s = 0 then [] else if idx s < 72 then [idx s / 8] else []
def decB (s : Y) : Int := if s = 0 then -1 else if idx s < 72 then (idx s : Int) else -1
/-- The weight by clearing the lowest bit. -/
theorem low_clear : ∀ n, n < 256 → n ≠ 0 → pc (n &&& (n - 1)) + 1 = pc n ∧ (n &&& (n - 1)) < n := by decide +kernel
theorem pc_le : ∀ n, n < 256 → pc n ≤ 8 := by decide +kernel
theorem pc_zero : pc 0 = 0 := by decide
theorem pc_eq (c : Nat) : pc c = Lib.onesCount c := rfl
theorem syn_0 (w : List Y) : syn w 0 = 0 := rfl
theorem syn_succ (w : List Y) (n : Nat) : syn w (n + 1) = syn w n ^^^ (if bitAt w n then col n else 0) := rfl
theorem col_eq (k : Nat) : col k = el cols k := rfl
theorem crun_0 : crun 0 = ⟨List.replicate 72 0, 0, 56, 64⟩ := rfl
theorem dec_0 {w : List Y} {s : Y} (h : s = 0) : decO s = 0 ∧ decW w s = w ∧ decC s = [] ∧ decB s = -1 := by
  unfold decO decW decC decB
  rw [if_pos h, if_pos h, if_pos h, if_pos h]
  exact ⟨rfl, rfl, rfl, rfl⟩
theorem dec_1 {w : List Y} {s : Y} (h : s ≠ 0) (hi : idx s < 72) : decO s = 1 ∧ decW w s = flipAt w (idx s) ∧ decC s = [idx s / 8] ∧ decB s = (idx s : Int) := by
  unfold decO decW decC decB
  rw [if_neg h, if_neg h, if_neg h, if_neg h, if_pos hi, if_pos hi, if_pos hi, if_pos hi]
  exact ⟨rfl, rfl, rfl, rfl⟩
theorem dec_2 {w : List Y} {s : Y} (h : s ≠ 0) (hi : idx s = 72) : decO s = 2 ∧ decW w s = [] ∧ decC s = [] ∧ decB s = -1 := by
  have hi' : ¬ idx s < 72 := by omega
  unfold decO decW decC decB
  rw [if_neg h, if_neg h, if_neg h, if_neg h, if_neg hi', if_neg hi', if_neg hi', if_neg hi']
  exact ⟨rfl, rfl, rfl, rfl⟩
theorem pc_par : ∀ n, n < 256 → (pc n % 2 == 1) = par (BitVec.ofNat 8 n) := by decide +kernel
/-- The bytes below n with this many bits. -/
def rl (m : Nat) : Nat → List Y
  | 0 => []
  | n + 1 => if pc n = m then rl m n ++ [BitVec.ofNat 8 n] else rl m n
theorem rl_0 (m : Nat) : rl m 0 = [] := rfl
theorem rl_yes {m n : Nat} (h : pc n = m) : rl m (n + 1) = rl m n ++ [BitVec.ofNat 8 n] := if_pos h
theorem rl_no {m n : Nat} (h : ¬ pc n = m) : rl m (n + 1) = rl m n := if_neg h
theorem rl_mono (m n : Nat) : ∀ k, n ≤ k → (rl m n).length ≤ (rl m k).length := by
  intro k
  induction k with
  | zero => intro h; rw [show n = 0 by omega]; exact Nat.le_refl _
  | succ k ih =>
    intro h
    by_cases e : n = k + 1
    · rw [e]; exact Nat.le_refl _
    · have h1 := ih (by omega)
      by_cases h2 : pc k = m
      · rw [rl_yes h2, List.length_append]; omega
      · rw [rl_no h2]; exact h1
theorem rl3_len : (rl 3 256).length = 56 := by decide +kernel
theorem rl5_87 : (rl 5 87).length = 7 := by decide +kernel
theorem rl5_88 : (rl 5 88).length = 8 := by decide +kernel
/-- The single bits. -/
def ones (n : Nat) : List Y := (List.range n).map (fun k => (1 : Y) <<< k)
theorem ones_0 : ones 0 = [] := rfl
theorem ones_succ (n : Nat) : ones (n + 1) = ones n ++ [(1 : Y) <<< n] := by simp [ones, List.range_succ]
theorem ones_len (n : Nat) : (ones n).length = n := by simp [ones]
theorem cols_ref : (rl 3 256 ++ rl 5 88) ++ ones 8 = cols := by decide +kernel
attribute [irreducible] rl ones pc crun syn idx col par decO decW decC decB cols
end Go.Proofs.YtmejneobfkbgeaaDoor.G.H

namespace Go.Proofs.YtmejneobfkbgeaaDoor.G.H
open Go Go.RowKit Go.Shelf

def onesRen : Go.Shelf.Ren := ⟨fun | 135 => 23 | n => n, fun | 3 => 3 | 5 => 5 | 9 => 9 | n => n, fun | n => n⟩
theorem onesLays : Go.Proofs.Lays.n135 Tryd.prog onesRen := {
  mixed := by kernel_rfl
  f135 := Tryd.func23.trans (congrArg some (by kernel_rfl))
  t3 := Tryd.underlying3
  a3 := Tryd.isAgg3
  z3 := Tryd.sizeOf3
  v3 := Tryd.zeroValue3
  t5 := Tryd.underlying5
  a5 := Tryd.isAgg5
  z5 := Tryd.sizeOf5
  v5 := Tryd.zeroValue5
  t9 := Tryd.underlying9
  a9 := Tryd.isAgg9
  z9 := Tryd.sizeOf9
  v9 := Tryd.zeroValue9 }
theorem ones_any (n : Nat) (h : n < 256) (w : World) :
    Calls Tryd.prog 23 #[.int .u8 (n : Int)] w fun e w' => e = .returned (.int .i64 (pc n : Int)) ∧ w = w' :=
  (Any.bits_OnesCount8 onesLays (n : Int) w (by omega) (by omega)).mono fun e w' h => ⟨by rw [h.1, pc_eq]; rfl, h.2.symm⟩
end Go.Proofs.YtmejneobfkbgeaaDoor.G.H

namespace Go.Proofs.YtmejneobfkbgeaaDoor.G.H
open Go Go.RowKit Go.Shelf

/-- An array of bytes. -/
def arrV (l : List Y) : Array Value := (l.map (fun y : Y => Value.int .u8 (y.toNat : Int))).toArray
theorem arr_size (l : List Y) : (arrV l).size = l.length := by simp [arrV]
theorem arr_all (l : List Y) : (arrV l).all (·.oneCell') = true := by
  rw [Array.all_eq_true_iff_forall_mem]
  intro v hv
  simp only [arrV, List.mem_toArray, List.mem_map] at hv
  obtain ⟨y, _, rfl⟩ := hv
  rfl
theorem arr_get (l : List Y) (k : Nat) (h : k < l.length) : (arrV l)[k]? = some (.int .u8 ((el l k).toNat : Int)) := by
  simp only [arrV, List.getElem?_toArray, List.getElem?_map, List.getElem?_eq_getElem h, el_lt h]
  rfl
theorem arr_set (l : List Y) (k : Nat) (y : Y) : (arrV l).setIfInBounds k (.int .u8 (y.toNat : Int)) = arrV (l.set k y) := by
  apply Array.ext'
  simp [arrV, List.map_set]

theorem zero_arr : (Tryd.prog.info? 52).map (fun i => (i.zero, i.size)) = some (some (.agg (arrV (List.replicate 72 0))), 72) := by kernel_rfl
theorem size_arr : (Tryd.prog.info? 52).map (·.size) = some 72 := (zero_of_info zero_arr).2
theorem zeroV_arr : ∀ w, Sem.run Tryd.prog (zeroValue 52) w = .ok (.agg (arrV (List.replicate 72 0))) w := (zero_of_info zero_arr).1

/-- The block g holds the array l; nothing that lay before B has changed. -/
structure ArrSt (w W : World) (g0 g : Nat) (l : List Y) : Prop where
  res : W.heap[g0]? = some (.cells (arrV (List.replicate 72 0)) 52 (0, 0))
  arr : W.heap[g]? = some (.cells (arrV l) 52 (0, 0))
  b0 : w.heap.size ≤ g0
  b1 : w.heap.size ≤ g
  ne : g0 ≠ g
  len : l.length = 72
  below : Below w.heap.size w W
theorem ArrSt.cell {w W : World} {g0 g : Nat} {l : List Y} (h : ArrSt w W g0 g l) (k : Nat) (hk : k < 72) : W.cell? ⟨g, k, none⟩ = some (.int .u8 ((el l k).toNat : Int)) := by
  rw [cell_of_row _ _ _ _ _ _ h.arr, arr_get _ _ (by rw [h.len]; exact hk)]
theorem ArrSt.free {w W : World} {g0 g : Nat} {l : List Y} (h : ArrSt w W g0 g l) (k : Nat) : W.frozen? ⟨g, k, none⟩ = false := frozen_of_row _ _ _ _ _ h.arr
theorem ArrSt.set {w W : World} {g0 g : Nat} {l : List Y} (h : ArrSt w W g0 g l) (k n : Nat) (hn : n < 256) : ArrSt w (W.setCell ⟨g, k, none⟩ (.int .u8 (n : Int))) g0 g (l.set k (BitVec.ofNat 8 n)) := by
  refine ⟨?_, ?_, h.b0, h.b1, h.ne, by rw [List.length_set]; exact h.len, h.below.setCell (p := ⟨g, k, none⟩) h.b1 _⟩
  · exact (heap_setCell_other _ _ _ _ h.ne).trans h.res
  · rw [heap_setCell_same _ _ _ _ _ _ h.arr, ← ofNat_Y n hn, arr_set]
theorem ArrSt.drewN {w W : World} {g0 g : Nat} {l : List Y} (h : ArrSt w W g0 g l) (n : Nat) : ArrSt w (W.drewN n) g0 g l := ⟨h.res, h.arr, h.b0, h.b1, h.ne, h.len, belowN h.below n⟩

theorem crun_bounds (k : Nat) (h : k ≤ 256) : (crun k).n3 ≤ 56 ∧ (crun k).n1 ≤ 72 := by
  have := crun_mono k 256 h
  rwa [crun_n3, crun_n1] at this
theorem below_setRow {B : Nat} {w W : World} (h : Below B w W) {g : Nat} (hg : B ≤ g) (cs : Array Value) : Below B w (W.setRow g cs) :=
  ⟨h.os, h.tape, h.output, by rw [size_setRow]; exact h.size, fun k hk => (setRow_other W g k cs (by omega)).trans (h.block k hk)⟩
def ColRel (w : World) (g0 g : Nat) (a b c n : Value) (W : World) : Prop :=
  ∃ k : Nat, n = .int .i64 (k : Int) ∧ k ≤ 256 ∧ a = .int .i64 ((crun k).n3 : Int) ∧ b = .int .i64 ((crun k).n5 : Int) ∧ c = .int .i64 ((crun k).n1 : Int) ∧ ArrSt w W g0 g (crun k).l

set_option maxRecDepth 100000 in
set_option maxHeartbeats 4000000 in
/-- **hamming.columns** -/
theorem columns_any (w : World) :
    Calls Tryd.prog 46 #[] w fun e W => e = .returned (.agg (arrV cols)) ∧ Below w.heap.size w W := by
  have hst : ArrSt w ((w.alloc (.cells (arrV (List.replicate 72 0)) 52)).alloc (.cells (arrV (List.replicate 72 0)) 52)) w.heap.size (w.heap.size + 1) (crun 0).l :=
    ⟨heap_alloc2_old _ _ _, by rw [crun_0]; exact heap_alloc2_new _ _ _, Nat.le_refl _, Nat.le_succ _, by omega, crun_len 0, ((Below.refl _ w).alloc (Nat.le_refl _) _).alloc (by simp) _⟩
  have HST := Lib.hid hst
  have zv := zeroV_arr
  clear hst
  obtain ⟨z72, hz72⟩ : ∃ z, arrV (List.replicate 72 0) = z := ⟨_, rfl⟩
  rw [hz72] at HST zv
  go_enter Tryd.func46, Tryd.ntmps46
  go_wp2_with fail
  have HZ := Lib.hid hz72
  clear hz72
  obtain ⟨wa, hwa⟩ : ∃ wa, (w.alloc (.cells z72 52)).alloc (.cells z72 52) = wa := ⟨_, rfl⟩
  rw [hwa] at HST ⊢
  obtain ⟨g0, hg0⟩ : ∃ g, w.heap.size = g := ⟨_, rfl⟩
  have HST' : Hid (ArrSt w wa g0 (g0 + 1) (crun 0).l) := Lib.hid (by rw [← hg0]; exact HST.out)
  rw [hg0]
  clear hwa HST zv
  have HG := Lib.hid hg0
  clear hg0
  go_loopw [2, 3, 4, 6] (fun a b c n wr => ColRel w g0 (g0 + 1) a b c n wr) (fun _ _ _ n _ => 256 - (intOf n).toNat)
  case atStart => exact ⟨0, rfl, by omega, by rw [crun_0]; rfl, by rw [crun_0]; rfl, by rw [crun_0]; rfl, HST'.out⟩
  case round =>
    clear HST'
    obtain ⟨k, rfl, hk, rfl, rfl, rfl, hs⟩ := hrel
    have HS := Lib.hid hs
    clear hs
    obtain ⟨x3, hx3⟩ : ∃ x, (crun k).n3 = x := ⟨_, rfl⟩
    obtain ⟨x5, hx5⟩ : ∃ x, (crun k).n5 = x := ⟨_, rfl⟩
    obtain ⟨x1, hx1⟩ : ∃ x, (crun k).n1 = x := ⟨_, rfl⟩
    obtain ⟨xl, hxl⟩ : ∃ x, (crun k).l = x := ⟨_, rfl⟩
    rw [hxl] at HS
    have hb := crun_bounds k hk
    rw [hx3, hx1] at hb
    obtain ⟨hb3, hb1⟩ := hb
    have HE := Lib.hid (show crun k = ⟨xl, x3, x5, x1⟩ by rw [← hx3, ← hx5, ← hx1, ← hxl])
    rw [hx3, hx5, hx1]
    clear hx3 hx5 hx1 hxl
    by_cases hlt : k < 256
    · obtain ⟨p, hp⟩ : ∃ p, pc k = p := ⟨_, rfl⟩
      have ho := ones_any k hlt
      rw [hp] at ho
      have HO := Lib.hid ho
      clear ho
      have HP := Lib.hid hp
      clear hp
      by_cases h3 : p = 3
      · subst h3
        obtain ⟨ha, hb⟩ := crun_3 hlt HP.out
        rw [HE.out] at ha hb
        replace ha : x3 < 56 := ha
        have HB := Lib.hid hb
        have c1 := HS.out.cell x3 (by omega)
        have f1 := HS.out.free x3
        have HN := Lib.hid (HS.out.set x3 k hlt)
        clear hb
        go_wp2_with fail
        refine (HO.out _).mono ?_
        rintro e w' ⟨rfl, rfl⟩
        go_wp2_with fail
        go_roundw
        case rel => exact ⟨k + 1, by go_num, hlt, by first | (rw [HB.out]; done) | (rw [HB.out]; go_num), by first | (rw [HB.out]; done) | (rw [HB.out]; go_num), by first | (rw [HB.out]; done) | (rw [HB.out]; go_num), by rw [HB.out]; exact HN.out⟩
        case measure => simp [intOf]; omega
      · by_cases h5 : p = 5
        · subst h5
          by_cases h64 : x5 < 64
          · have hb := crun_5 HP.out (by rw [HE.out]; exact h64)
            rw [HE.out] at hb
            have HB := Lib.hid hb
            have c1 := HS.out.cell x5 (by omega)
            have f1 := HS.out.free x5
            have HN := Lib.hid (HS.out.set x5 k hlt)
            clear hb
            go_wp2_with fail
            refine (HO.out _).mono ?_
            rintro e w' ⟨rfl, rfl⟩
            go_wp2_with fail
            go_roundw
            case rel => exact ⟨k + 1, by go_num, hlt, by first | (rw [HB.out]; done) | (rw [HB.out]; go_num), by first | (rw [HB.out]; done) | (rw [HB.out]; go_num), by first | (rw [HB.out]; done) | (rw [HB.out]; go_num), by rw [HB.out]; exact HN.out⟩
            case measure => simp [intOf]; omega
          · have HB := Lib.hid ((crun_5no HP.out (by rw [HE.out]; exact h64)).trans HE.out)
            have HN := HS
            go_wp2_with fail
            refine (HO.out _).mono ?_
            rintro e w' ⟨rfl, rfl⟩
            go_wp2_with fail
            go_roundw
            case rel => exact ⟨k + 1, by go_num, hlt, by first | (rw [HB.out]; done) | (rw [HB.out]; go_num), by first | (rw [HB.out]; done) | (rw [HB.out]; go_num), by first | (rw [HB.out]; done) | (rw [HB.out]; go_num), by rw [HB.out]; exact HN.out⟩
            case measure => simp [intOf]; omega
        · by_cases h1 : p = 1
          · subst h1
            obtain ⟨ha, hb⟩ := crun_1 hlt HP.out
            rw [HE.out] at ha hb
            replace ha : x1 < 72 := ha
            have HB := Lib.hid hb
            have c1 := HS.out.cell x1 (by omega)
            have f1 := HS.out.free x1
            have HN := Lib.hid (HS.out.set x1 k hlt)
            clear hb
            go_wp2_with fail
            refine (HO.out _).mono ?_
            rintro e w' ⟨rfl, rfl⟩
            go_wp2_with fail
            go_roundw
            case rel => exact ⟨k + 1, by go_num, hlt, by first | (rw [HB.out]; done) | (rw [HB.out]; go_num), by first | (rw [HB.out]; done) | (rw [HB.out]; go_num), by first | (rw [HB.out]; done) | (rw [HB.out]; go_num), by rw [HB.out]; exact HN.out⟩
            case measure => simp [intOf]; omega
          · have HB := Lib.hid ((crun_no (n := k) (by rw [HP.out]; exact h3) (by rw [HP.out]; exact h5) (by rw [HP.out]; exact h1)).trans HE.out)
            have HN := HS
            have q3 : ((p : Int) == 3) = false := by rw [beq_eq_false_iff_ne]; omega
            have q5 : ((p : Int) == 5) = false := by rw [beq_eq_false_iff_ne]; omega
            have q1 : ((p : Int) == 1) = false := by rw [beq_eq_false_iff_ne]; omega
            go_wp2_with fail
            refine (HO.out _).mono ?_
            rintro e w' ⟨rfl, rfl⟩
            go_wp2_with fail
            go_roundw
            case rel => exact ⟨k + 1, by go_num, hlt, by first | (rw [HB.out]; done) | (rw [HB.out]; go_num), by first | (rw [HB.out]; done) | (rw [HB.out]; go_num), by first | (rw [HB.out]; done) | (rw [HB.out]; go_num), by rw [HB.out]; exact HN.out⟩
            case measure => simp [intOf]; omega
    · obtain rfl : k = 256 := by omega
      have hend := HS.out
      rw [show xl = cols by have := crun_l; rw [HE.out] at this; exact this] at hend
      have HEND := Lib.hid hend
      clear hend
      go_wp2_with (first | (refine wpList_load_row rfl 52 _ rfl (g0 + 1) rfl 52 (arrV cols) (0, 0) _ HEND.out.arr Tryd.underlying52 rfl (by rw [size_arr, arr_size, cols_len]) ?_) | (refine wpList_store_row rfl 52 _ _ rfl g0 (arrV cols) rfl rfl 52 (arrV (List.replicate 72 0)) HEND.out.res (by rw [size_arr, arr_size, cols_len]) (by rw [arr_size, arr_size, cols_len, List.length_replicate]) (arr_all _) ?_))
      refine bodyPost_ret (v := .agg (arrV cols)) (results_cell_row rfl _ _ g0 52 (arrV cols) (0, 0) _ rfl (setRow_heap _ _ _ _ _ _ HEND.out.res) Tryd.underlying52 rfl (by rw [size_arr, arr_size, cols_len])) rfl ⟨rfl, below_setRow HEND.out.below HEND.out.b0 _⟩
end Go.Proofs.YtmejneobfkbgeaaDoor.G.H

namespace Go.Proofs.YtmejneobfkbgeaaDoor.G
open Go Go.RowKit Go.Shelf
open Elt

/-- The first place of y, or -1. -/
def ixOf (zs : List Y) (y : Y) : Int := if zs.findIdx (· == y) < zs.length then (zs.findIdx (· == y) : Int) else -1
theorem find_at {zs : List Y} {y : Y} {k : Nat} (hk : k < zs.length) (h : el zs k = y) (hno : ∀ j, j < k → el zs j ≠ y) : zs.findIdx (· == y) = k := by
  rcases Nat.lt_trichotomy (zs.findIdx (· == y)) k with h1 | h1 | h1
  · have := List.findIdx_getElem (xs := zs) (p := (· == y)) (w := by omega)
    refine absurd ?_ (hno _ h1)
    rw [el_lt (by omega)]
    exact eq_of_beq this
  · exact h1
  · have := List.not_of_lt_findIdx (xs := zs) (p := (· == y)) h1
    rw [el_lt hk] at h
    rw [h] at this
    simp at this
theorem ix_at {zs : List Y} {y : Y} {k : Nat} (hk : k < zs.length) (h : el zs k = y) (hno : ∀ j, j < k → el zs j ≠ y) : ixOf zs y = (k : Int) := by
  unfold ixOf
  rw [find_at hk h hno, if_pos hk]
theorem ix_none {zs : List Y} {y : Y} (hno : ∀ j, j < zs.length → el zs j ≠ y) : ixOf zs y = -1 := by
  unfold ixOf
  rw [if_neg]
  intro h
  have := List.findIdx_getElem (xs := zs) (p := (· == y)) (w := h)
  refine hno _ h ?_
  rw [el_lt h]
  exact eq_of_beq this
attribute [irreducible] ixOf

end Go.Proofs.YtmejneobfkbgeaaDoor.G

namespace Go.Proofs.YtmejneobfkbgeaaDoor.G.H
open Go Go.RowKit Go.Shelf

/-- The list of the columns lies in a block of its own. -/
theorem colRow {W : World} {g : Nat} (h : W.heap[g]? = some (.cells (arrV cols) 52 (0, 0))) (n : Nat) (hn : n ≤ 72) : Row W (some ⟨g, 0, none⟩) (cols.take n) 72 := by
  refine ⟨by rw [List.length_take, cols_len]; omega, by omega, fun j hj => ⟨g, 0, rfl, ?_⟩⟩
  rw [List.length_take, cols_len] at hj
  rw [cell_of_row _ _ _ _ _ _ h, Nat.zero_add, arr_get _ _ (by rw [cols_len]; omega), el_take, if_pos (by omega)]
  rfl

theorem arr_u : ∀ w, Sem.run Tryd.prog (underlying 52) w = .ok (.array 72 5) w := run_underlying Tryd.underlying52
theorem slice_arr (g n : Nat) (hn : n ≤ 72) (W : World) : Sem.run Tryd.prog (Instr.sliceAt 52 (.pointer (some ⟨g, 0, none⟩)) none (some (.int .i64 (n : Int))) none) W = .ok (.slice (some ⟨g, 0, none⟩) n 72) W := by
  have h1 : (n : Int) ≤ 72 := by omega
  simp [Instr.sliceAt, Instr.sureAddr, Instr.sliceBounds, run_sliceBound, Tryd.sizeOf5, h1, Addr.add]
theorem slice_all (g : Nat) (W : World) : Sem.run Tryd.prog (Instr.sliceAt 52 (.pointer (some ⟨g, 0, none⟩)) none none none) W = .ok (.slice (some ⟨g, 0, none⟩) 72 72) W := by
  simp [Instr.sliceAt, Instr.sureAddr, Instr.sliceBounds, Tryd.sizeOf5, Addr.add]

end Go.Proofs.YtmejneobfkbgeaaDoor.G.H

namespace Go.Proofs.YtmejneobfkbgeaaDoor.G.H
open Go Go.RowKit Go.Shelf

/-- The bit that has a column, or -1. -/
def bitI (s : Y) : Int := if idx s < 72 then (idx s : Int) else -1
theorem bit_ix (s : Y) : ixOf cols s = bitI s := by
  unfold bitI
  by_cases h : idx s < 72
  · rw [if_pos h]
    refine ix_at (by rw [cols_len]; exact h) ?_ (fun j hj => ?_)
    · rw [← col_eq]; exact idx_col h
    · rw [← col_eq]; exact idx_not hj
  · rw [if_neg h]
    have := idx_le s
    refine ix_none (fun j hj => ?_)
    rw [cols_len] at hj
    rw [← col_eq]; exact idx_not (by omega)
attribute [irreducible] bitI

theorem index_arr (k : Nat) (hk : k < 72) (W : World) : Sem.run Tryd.prog (Instr.index 52 (.agg (arrV cols)) (.int .i64 (k : Int))) W = .ok (.int .u8 ((col k).toNat : Int)) W := by
  have h1 : (0 : Int) ≤ (k : Int) ∧ (k : Int) < 72 := by omega
  have h2 := arr_get cols k (by rw [cols_len]; exact hk)
  rw [← col_eq] at h2
  simp [Instr.index, asIntOf, part, Tryd.sizeOf5, Tryd.isAgg5, h2]
  intro h
  omega

set_option maxRecDepth 100000 in
set_option maxHeartbeats 4000000 in
/-- **hamming.Column** -/
theorem column_yes (k : Nat) (hk : k < 72) (w : World) :
    Calls Tryd.prog 22 #[.int .i64 (k : Int)] w fun e W => e = .returned (.tuple #[.int .u8 ((col k).toNat : Int), .int .i64 0]) ∧ Below w.heap.size w W := by
  have HC := Lib.hid (columns_any w)
  have ix := index_arr k hk
  obtain ⟨av, hav⟩ : ∃ v, arrV cols = v := ⟨_, rfl⟩
  rw [hav] at HC ix
  clear hav
  obtain ⟨c, hc⟩ : ∃ c, col k = c := ⟨_, rfl⟩
  rw [hc] at ix ⊢
  clear hc
  go_enter Tryd.func22, Tryd.ntmps22
  go_wp2_with fail
  refine HC.out.mono ?_
  rintro e w1 ⟨rfl, hb1⟩
  have HB1 := Lib.hid hb1
  clear hb1
  go_wp2_with fail
  go_ret2
  exact ⟨rfl, HB1.out⟩
set_option maxRecDepth 100000 in
theorem column_no (k : Int) (hk : k < 0 ∨ 72 ≤ k) (w : World) :
    Calls Tryd.prog 22 #[.int .i64 k] w fun e W => e = .returned (.tuple #[.int .u8 0, .int .i64 2]) ∧ Below w.heap.size w W := by
  by_cases h : k < 0
  · go_enter Tryd.func22, Tryd.ntmps22
    go_wp2_with fail
    go_ret2
    exact ⟨rfl, Below.refl _ _⟩
  · have h2 : 72 ≤ k := by omega
    clear hk
    go_enter Tryd.func22, Tryd.ntmps22
    go_wp2_with fail
    go_ret2
    exact ⟨rfl, Below.refl _ _⟩

end Go.Proofs.YtmejneobfkbgeaaDoor.G.H

namespace Go.Proofs.YtmejneobfkbgeaaDoor.G
open Go Go.RowKit Go.Shelf
open Elt

/-- Block p holds the cells vs. -/
def Box (W : World) (p : Nat) (t : TypeId) (vs : List Value) : Prop := W.heap[p]? = some (.cells vs.toArray t (0, 0))
section
variable {W : World} {p : Nat} {t : TypeId} {vs : List Value}
theorem Box.cell (h : Box W p t vs) (k : Nat) {v : Value} (hv : vs[k]? = some v) : W.cell? ⟨p, k, none⟩ = some v := by
  rw [cell_of_row _ _ _ _ _ _ h]
  simpa using hv
theorem Box.free (h : Box W p t vs) (k : Nat) : W.frozen? ⟨p, k, none⟩ = false := frozen_of_row _ _ _ _ _ h
theorem Box.lt (h : Box W p t vs) : p < W.heap.size := (Array.getElem?_eq_some_iff.1 h).1
theorem Box.below {W' : World} (h : Box W p t vs) (hb : Below W.heap.size W W') : Box W' p t vs := (hb.block p h.lt).trans h
theorem Box.belowAt {W' : World} {B : Nat} (h : Box W p t vs) (hb : Below B W W') (hp : p < B) : Box W' p t vs := (hb.block p hp).trans h
theorem Box.grown {W' : World} {row : Option Nat} (h : Box W p t vs) (hg : W.grownBy W' row) (hne : some p ≠ row) : Box W' p t vs := (hg.block p h.lt hne).trans h
theorem Box.alloc (h : Box W p t vs) (o : Obj) : Box (W.alloc o) p t vs := h.below ((Below.refl _ W).alloc (Nat.le_refl _) _)
theorem Box.drewN (h : Box W p t vs) (n : Nat) : Box (W.drewN n) p t vs := h
theorem Box.new (w : World) (t : TypeId) (vs : List Value) : Box (w.alloc (.cells vs.toArray t)) w.heap.size t vs := heap_alloc_new _ _
theorem Box.other (h : Box W p t vs) {q : Addr} (hq : q.block ≠ p) (u : Value) : Box (W.setCell q u) p t vs :=
  (heap_setCell_other _ _ _ _ (fun e => hq e.symm)).trans h
theorem Box.set (h : Box W p t vs) (k : Nat) (u : Value) : Box (W.setCell ⟨p, k, none⟩ u) p t (vs.set k u) := by
  unfold Box
  rw [heap_setCell_same _ _ _ _ _ _ h]
  simp
end
/-- A slice that was written out is memory of the call's own. -/
theorem own_list {α : Type} [Elt α] (w : World) (B : Nat) (zs : List α) (h : B ≤ w.heap.size) (hl : zs.length ≤ 1000000) :
    Own (w.alloc (.cells (zs.map gv).toArray (ty α))) B (.slice (some ⟨w.heap.size, 0, none⟩) zs.length zs.length) zs := by
  refine ⟨by simp, .inr ⟨w.heap.size, zs.length, (zs.map gv).toArray, rfl, h, heap_alloc_new w _, Nat.le_refl _, by unfold maxLen; omega, by simp, ?_⟩⟩
  rw [List.take_of_length_le (by simp)]
theorem row_list {α : Type} [Elt α] (w : World) (zs : List α) (t : TypeId) (hl : zs.length ≤ 1000000) :
    Row (w.alloc (.cells (zs.map gv).toArray t)) (some ⟨w.heap.size, 0, none⟩) zs zs.length := by
  refine ⟨Nat.le_refl _, by omega, fun j hj => ⟨w.heap.size, 0, rfl, ?_⟩⟩
  rw [cell_of_row _ _ _ _ _ _ (heap_alloc_new w _), Nat.zero_add]
  simp [List.getElem?_eq_getElem hj, el_lt hj]
end Go.Proofs.YtmejneobfkbgeaaDoor.G

namespace Go.Proofs.YtmejneobfkbgeaaDoor.G
open Go Go.RowKit Go.Shelf
open Elt
instance eltN : Elt Nat := { gv := fun x => .int .i64 (x : Int), z := 0, ty := 3, sl := 22, wide := 8, wide_le := by decide, info := by kernel_rfl, under := Tryd.underlying22, one := fun _ => rfl, plain := fun _ => rfl }
theorem Row.elN {w : World} {a : Option Addr} {zs : List Nat} {cap : Nat} (h : Row w a zs cap) (j : Nat) (hj : j < zs.length) : ∃ b off, a = some ⟨b, off, none⟩ ∧ w.cell? ⟨b, off + j, none⟩ = some (.int .i64 ((G.el zs j : Nat) : Int)) := h.el j hj
theorem Own.setN {W : World} {B n : Nat} {g cap : Nat} {zs : List Nat} (h : Own W B (.slice (some ⟨g, 0, none⟩) n cap) zs) (j : Nat) (c : Nat) : Own (W.setCell ⟨g, j, none⟩ (.int .i64 (c : Int))) B (.slice (some ⟨g, 0, none⟩) n cap) (zs.set j c) := h.set j c
theorem Own.cellN {W : World} {B g cap n : Nat} {zs : List Nat} (h : Own W B (.slice (some ⟨g, 0, none⟩) n cap) zs) (k : Nat) (hk : k < zs.length) : W.cell? ⟨g, k, none⟩ = some (.int .i64 ((el zs k : Nat) : Int)) := (h.at k hk).2.2.2.2.1
end Go.Proofs.YtmejneobfkbgeaaDoor.G

namespace Go.Proofs.YtmejneobfkbgeaaDoor.G
open Go Go.RowKit Go.Shelf
open Elt

end Go.Proofs.YtmejneobfkbgeaaDoor.G

namespace Go.Proofs.YtmejneobfkbgeaaDoor.G.H
open Go Go.RowKit Go.Shelf

theorem box3_set {W : World} {p : Nat} {t : TypeId} {v0 v1 v2 : Value} (h : Box W p t [v0, v1, v2]) (u0 u1 u2 : Value) : Box (((W.setCell ⟨p, 0, none⟩ u0).setCell ⟨p, 1, none⟩ u1).setCell ⟨p, 2, none⟩ u2) p t [u0, u1, u2] :=
  ((h.set 0 u0).set 1 u1).set 2 u2
theorem below3 {w W : World} {B p : Nat} (h : Below B w W) (hp : B ≤ p) (u0 u1 u2 : Value) : Below B w (((W.setCell ⟨p, 0, none⟩ u0).setCell ⟨p, 1, none⟩ u1).setCell ⟨p, 2, none⟩ u2) :=
  ((h.setCell (p := ⟨p, 0, none⟩) hp _).setCell (p := ⟨p, 1, none⟩) hp _).setCell (p := ⟨p, 2, none⟩) hp _
theorem own3 {α : Type} [Elt α] {W : World} {B p : Nat} {v : Value} {zs : List α} (h : Own W B v zs) (hp : p < B) (u0 u1 u2 : Value) : Own (((W.setCell ⟨p, 0, none⟩ u0).setCell ⟨p, 1, none⟩ u1).setCell ⟨p, 2, none⟩ u2) B v zs :=
  ((h.setBelow (p := ⟨p, 0, none⟩) hp _).setBelow (p := ⟨p, 1, none⟩) hp _).setBelow (p := ⟨p, 2, none⟩) hp _
/-- What Decode answers for a word whose syndrome is s. -/
def DecR (w : World) (zs : List Y) (s : Y) (e : Ending) (W : World) : Prop :=
  ∃ (a : Option Addr) (c : Nat) (a2 : Option Addr) (c2 : Nat), e = .returned (.tuple #[.agg #[.int .i64 (decO s : Int), .slice a (decW zs s).length c, .slice a2 (decC s).length c2], .int .i64 (decB s), .int .i64 0]) ∧
    Own W w.heap.size (.slice a (decW zs s).length c) (decW zs s) ∧ Own W w.heap.size (.slice a2 (decC s).length c2) (decC s) ∧ Below w.heap.size w W
def DecNo (w : World) (e : Ending) (W : World) : Prop :=
  e = .returned (.tuple #[.agg #[.int .i64 0, .slice none 0 0, .slice none 0 0], .int .i64 0, .int .i64 7]) ∧ Below w.heap.size w W

theorem bitI_yes {s : Y} (h : idx s < 72) : bitI s = (idx s : Int) := by unfold bitI; rw [if_pos h]
theorem bitI_no {s : Y} (h : ¬ idx s < 72) : bitI s = -1 := by unfold bitI; rw [if_neg h]
theorem beq_Y (a b : Y) : ((a.toNat : Int) == (b.toNat : Int)) = decide (a = b) := by
  rw [Bool.eq_iff_iff, beq_iff_eq, decide_eq_true_iff]
  exact ⟨Y.ext, fun h => by rw [h]⟩
theorem shl_Y {r : Nat} (h : r < 8) : IntKind.u8.wrap ((2 : Int) ^ r) = (((1 : Y) <<< r).toNat : Int) := by
  have h2 : 2 ^ r < 256 := Nat.pow_lt_pow_right (a := 2) (by decide) h
  rw [BitVec.toNat_shiftLeft, show (1 : Y).toNat = 1 from rfl, Nat.shiftLeft_eq, Nat.one_mul, Nat.mod_eq_of_lt h2]
  have := u8_wrap (2 ^ r) h2
  rwa [Int.natCast_pow] at this

end Go.Proofs.YtmejneobfkbgeaaDoor.G.H

namespace Go.Proofs.YtmejneobfkbgeaaDoor.G.H
open Go Go.RowKit Go.Shelf

theorem i64_wrap (a : Nat) (h : a < 9223372036854775808) : IntKind.i64.wrap (a : Int) = (a : Int) := by
  simp [IntKind.wrap, IntKind.bits, IntKind.signed]; omega
theorem and_i64 (a b : Nat) (ha : a < 9223372036854775808) (hb : b < 9223372036854775808) : bits BinOp.and IntKind.i64 (a : Int) (b : Int) = ((a &&& b : Nat) : Int) := by
  show IntKind.i64.wrap ((BitVec.ofInt 64 a &&& BitVec.ofInt 64 b).toNat : Int) = _
  rw [BitVec.toNat_and, BitVec.ofInt_natCast, BitVec.ofInt_natCast, BitVec.toNat_ofNat, BitVec.toNat_ofNat, Nat.mod_eq_of_lt (by omega), Nat.mod_eq_of_lt (by omega)]
  exact i64_wrap _ (Nat.lt_of_le_of_lt Nat.and_le_left ha)

set_option maxRecDepth 100000 in
set_option maxHeartbeats 1000000 in
/-- **ref06.weight** -/
theorem weight_any (b : Nat) (hb : b < 256) (w : World) :
    Calls Tryd.prog 31 #[.int .i64 (b : Int)] w fun e W => e = .returned (.int .i64 (pc b : Int)) ∧ w = W := by
  obtain ⟨q, hq⟩ : ∃ q, pc b = q := ⟨_, rfl⟩
  have HQ := Lib.hid hq
  rw [hq]
  clear hq
  go_enter Tryd.func31, Tryd.ntmps31
  go_wp2_with fail
  have hq8 : q ≤ 8 := by rw [← HQ.out]; exact pc_le b hb
  go_loop [0, 3] (fun x n => ∃ m k : Nat, x = .int .i64 (m : Int) ∧ n = .int .i64 (k : Int) ∧ m < 256 ∧ k ≤ 8 ∧ Hid (k + pc m = q)) (fun x _ => (intOf x).toNat)
  case atStart => exact ⟨b, 0, rfl, rfl, hb, by decide, Lib.hid (by rw [HQ.out]; exact Nat.zero_add q)⟩
  case round =>
    clear HQ hb
    obtain ⟨m, k, rfl, rfl, hm, hk, HK⟩ := hrel
    by_cases h0 : m = 0
    · subst h0
      have HE := Lib.hid (show k = q by have := HK.out; rw [pc_zero] at this; omega)
      go_wp2_with fail
      go_ret
      exact ⟨ret_int (by rw [HE.out]), rfl⟩
    · obtain ⟨h1, h2⟩ := low_clear m hm h0
      have ha := and_i64 m (m - 1) (by omega) (by omega)
      obtain ⟨x, hx⟩ : ∃ x, m &&& (m - 1) = x := ⟨_, rfl⟩
      rw [hx] at h1 h2 ha
      rw [show ((m - 1 : Nat) : Int) = (m : Int) - 1 by omega] at ha
      have hb : ((m : Int) != 0) = true := by simp; exact h0
      have hkq := HK.out
      have HK2 : Hid (k + 1 + pc x = q) := Lib.hid (by omega)
      have hk8 : k + 1 ≤ 8 := by omega
      clear h1 hx hkq HK
      go_wp2_with fail
      go_round
      case rel => exact ⟨x, k + 1, rfl, by go_num, by omega, hk8, HK2⟩
      case measure => simp [intOf]; omega

def RColPost (w : World) (e : Ending) (W : World) : Prop := ∃ (a : Option Addr) (c : Nat), e = .returned (.slice a 72 c) ∧ Own W w.heap.size (.slice a 72 c) cols ∧ Below w.heap.size w W
/-- The list that is being made. -/
def LSt (w : World) (v : Value) (l : List Y) (W : World) : Prop := ∃ (a : Option Addr) (c : Nat), v = .slice a l.length c ∧ Own W w.heap.size (.slice a l.length c) l ∧ Below w.heap.size w W
theorem l_as {w W : World} {v : Value} {l l' : List Y} (h : LSt w v l W) (e : l = l') : LSt w v l' W := e ▸ h

set_option maxRecDepth 100000 in
set_option maxHeartbeats 4000000 in
/-- **ref06.Columns** -/
theorem rcolumns_any (w : World) :
    Calls Tryd.prog 14 #[] w (RColPost w) := by
  go_enter Tryd.func14, Tryd.ntmps14
  go_wp2_with fail
  go_loopw [1, 2] (fun v i wr => ∃ k : Nat, i = .int .i64 (k : Int) ∧ k ≤ 256 ∧ LSt w v (rl 3 k) wr) (fun _ i _ => 256 - (intOf i).toNat)
  case atStart => exact ⟨0, rfl, by decide, none, 0, by rw [rl_0]; rfl, by rw [rl_0]; exact Own.nil _ _, Below.refl _ _⟩
  case round =>
    obtain ⟨k, rfl, hk, a, c, rfl, ho, hb⟩ := hrel
    obtain ⟨l, hl⟩ : ∃ l, rl 3 k = l := ⟨_, rfl⟩
    rw [hl] at ho ⊢
    have hll : l.length ≤ 56 := by rw [← hl, ← rl3_len]; exact rl_mono 3 k 256 hk
    have HL := Lib.hid hl
    have HO := Lib.hid ho
    have HB := Lib.hid hb
    have hrm := ho.room
    clear hl ho hb
    by_cases hlt : k < 256
    · obtain ⟨p, hp⟩ : ∃ p, pc k = p := ⟨_, rfl⟩
      have hw := weight_any k hlt wr
      rw [hp] at hw
      have HW := Lib.hid hw
      have HP := Lib.hid hp
      clear hw hp
      by_cases h3 : p = 3
      · subst h3
        obtain ⟨y, hy⟩ : ∃ y : Y, k = y.toNat := ⟨BitVec.ofNat 8 k, by rw [BitVec.toNat_ofNat, Nat.mod_eq_of_lt hlt]⟩
        have HN : Hid (rl 3 (k + 1) = l ++ [y]) := Lib.hid (by rw [rl_yes HP.out, HL.out, hy, BitVec.ofNat_toNat, BitVec.setWidth_eq])
        subst hy
        go_wp2_with fail
        refine HW.out.mono ?_
        rintro e w1 ⟨rfl, rfl⟩
        go_wp2_with (at_builtin; refine wpList_app1 rfl _ _ rfl y rfl (HO.out.alloc _) rfl (cell_new _ _ _) (by omega) (by rw [World.size_alloc]; exact Nat.le_succ_of_le HB.out.size) ?_; intro a3 cap3 w3 hown3 hg3 hb3 _)
        have HO3 := Lib.hid hown3
        have HB3 := Lib.hid ((HB.out.alloc HB.out.size _).trans hb3)
        clear hown3 hg3 hb3
        go_roundw
        case rel => exact ⟨y.toNat + 1, by go_num, hlt, a3, cap3, by rw [HN.out, List.length_append]; rfl, by rw [HN.out, List.length_append]; exact HO3.out, HB3.out⟩
        case measure => simp [intOf]; omega
      · have hp3 : ((p : Int) == 3) = false := by rw [beq_eq_false_iff_ne]; omega
        have HN := Lib.hid ((rl_no (m := 3) (n := k) (by rw [HP.out]; exact h3)).trans HL.out)
        go_wp2_with fail
        refine HW.out.mono ?_
        rintro e w1 ⟨rfl, rfl⟩
        go_wp2_with fail
        go_roundw
        case rel => exact ⟨k + 1, by go_num, hlt, a, c, by rw [HN.out], by rw [HN.out]; exact HO.out, HB.out⟩
        case measure => simp [intOf]; omega
    · obtain rfl : k = 256 := by omega
      have HL56 := Lib.hid (show l.length = 56 by rw [← HL.out]; exact rl3_len)
      clear hrm hlt hk hll
      rw [show ((256 : Nat) : Int) = 256 from rfl]
      go_wp2_with fail
      go_loopw [1, 3] (fun v i wr => ∃ k : Nat, i = .int .i64 (k : Int) ∧ k ≤ 88 ∧ LSt w v (l ++ rl 5 k) wr) (fun _ i _ => 88 - (intOf i).toNat)
      case atStart => exact ⟨0, rfl, by decide, a, c, by rw [rl_0, List.append_nil], by rw [rl_0, List.append_nil]; exact HO.out, HB.out⟩
      case round =>
        clear HO HB
        obtain ⟨k, rfl, hk, a, c, rfl, ho, hb⟩ := hrel
        obtain ⟨l2, hl2⟩ : ∃ x, l ++ rl 5 k = x := ⟨_, rfl⟩
        have hlen : l2.length = 56 + (rl 5 k).length := by rw [← hl2, List.length_append, HL56.out]
        rw [hl2] at ho ⊢
        have HL2 := Lib.hid hl2
        have HO := Lib.hid ho
        have HB := Lib.hid hb
        have hrm := ho.room
        clear ho hb hl2
        by_cases hlt : k < 88
        · have hl64 : l2.length < 64 := by
            have := rl_mono 5 k 87 (by omega)
            rw [rl5_87] at this
            omega
          clear hlen
          obtain ⟨p, hp⟩ : ∃ p, pc k = p := ⟨_, rfl⟩
          have hw := weight_any k (by omega) wr
          rw [hp] at hw
          have HW := Lib.hid hw
          have HP := Lib.hid hp
          clear hw hp
          by_cases h3 : p = 5
          · subst h3
            obtain ⟨y, hy⟩ : ∃ y : Y, k = y.toNat := ⟨BitVec.ofNat 8 k, by rw [BitVec.toNat_ofNat, Nat.mod_eq_of_lt (by omega)]⟩
            have HN : Hid (l ++ rl 5 (k + 1) = l2 ++ [y]) := Lib.hid (by rw [rl_yes HP.out, ← List.append_assoc, HL2.out, hy, BitVec.ofNat_toNat, BitVec.setWidth_eq])
            subst hy
            go_wp2_with fail
            refine HW.out.mono ?_
            rintro e w1 ⟨rfl, rfl⟩
            go_wp2_with (at_builtin; refine wpList_app1 rfl _ _ rfl y rfl (HO.out.alloc _) rfl (cell_new _ _ _) (by omega) (by rw [World.size_alloc]; exact Nat.le_succ_of_le HB.out.size) ?_; intro a3 cap3 w3 hown3 hg3 hb3 _)
            have HO3 := Lib.hid hown3
            have HB3 := Lib.hid ((HB.out.alloc HB.out.size _).trans hb3)
            clear hown3 hg3 hb3
            go_roundw
            case rel => exact ⟨y.toNat + 1, by go_num, hlt, a3, cap3, by rw [HN.out, List.length_append]; rfl, by rw [HN.out, List.length_append]; exact HO3.out, HB3.out⟩
            case measure => simp [intOf]; omega
          · have hp3 : ((p : Int) == 5) = false := by rw [beq_eq_false_iff_ne]; omega
            have HN := Lib.hid (show l ++ rl 5 (k + 1) = l2 by rw [rl_no (m := 5) (n := k) (by rw [HP.out]; exact h3)]; exact HL2.out)
            go_wp2_with fail
            refine HW.out.mono ?_
            rintro e w1 ⟨rfl, rfl⟩
            go_wp2_with fail
            go_roundw
            case rel => exact ⟨k + 1, by go_num, hlt, a, c, by rw [HN.out], by rw [HN.out]; exact HO.out, HB.out⟩
            case measure => simp [intOf]; omega
        · obtain rfl : k = 88 := by omega
          have hl64 : l2.length = 64 := by rw [hlen, rl5_88]
          have HL3 := Lib.hid hl64
          have hge : 64 ≤ l2.length := by omega
          clear hlen hl64 hlt hk
          rw [show ((88 : Nat) : Int) = 88 from rfl]
          go_wp2_with fail
          go_loopw [1, 4] (fun v i wr => ∃ k : Nat, i = .int .i64 (k : Int) ∧ k ≤ 8 ∧ LSt w v (l2 ++ ones k) wr) (fun _ i _ => 8 - (intOf i).toNat)
          case atStart => exact ⟨0, rfl, by decide, a, c, by rw [ones_0, List.append_nil], by rw [ones_0, List.append_nil]; exact HO.out, HB.out⟩
          case round =>
            clear HO HB hrm hge
            obtain ⟨k, rfl, hk, a, c, rfl, ho, hb⟩ := hrel
            obtain ⟨l3, hl3⟩ : ∃ x, l2 ++ ones k = x := ⟨_, rfl⟩
            have hlen : l3.length = 64 + k := by rw [← hl3, List.length_append, HL3.out, ones_len]
            rw [hl3] at ho ⊢
            have HL4 := Lib.hid hl3
            have HO := Lib.hid ho
            have HB := Lib.hid hb
            have hrm := ho.room
            have hl72 : l3.length ≤ 72 := by omega
            have HLN := Lib.hid hlen
            clear ho hb hl3 hlen
            by_cases hlt : k < 8
            · have hsh := shl_Y hlt
              have HN : Hid (l2 ++ ones (k + 1) = l3 ++ [(1 : Y) <<< k]) := Lib.hid (by rw [ones_succ, ← List.append_assoc, HL4.out])
              obtain ⟨y, hy⟩ : ∃ y, (1 : Y) <<< k = y := ⟨_, rfl⟩
              rw [hy] at hsh HN
              clear hy
              go_wp2_with (at_builtin; refine wpList_app1 rfl _ _ rfl y rfl (HO.out.alloc _) rfl (cell_new _ _ _) (by omega) (by rw [World.size_alloc]; exact Nat.le_succ_of_le HB.out.size) ?_; intro a3 cap3 w3 hown3 hg3 hb3 _)
              have HO3 := Lib.hid hown3
              have HB3 := Lib.hid ((HB.out.alloc HB.out.size _).trans hb3)
              clear hown3 hg3 hb3 hsh
              go_roundw
              case rel => exact ⟨k + 1, by go_num, hlt, a3, cap3, by rw [HN.out, List.length_append]; rfl, by rw [HN.out, List.length_append]; exact HO3.out, HB3.out⟩
              case measure => simp [intOf]; omega
            · obtain rfl : k = 8 := by omega
              have HE := Lib.hid (show l3 = cols by rw [← HL4.out, ← HL2.out, ← HL.out]; exact cols_ref)
              go_wp2_with fail
              go_ret
              exact ⟨a, c, by show Ending.returned (Value.slice a l3.length c) = _; rw [HLN.out], by have := HO.out; rw [HE.out, cols_len] at this; exact this, HB.out⟩
end Go.Proofs.YtmejneobfkbgeaaDoor.G.H

namespace Go.Proofs.YtmejneobfkbgeaaDoor.G.H
open Go Go.RowKit Go.Shelf

end Go.Proofs.YtmejneobfkbgeaaDoor.G.H

namespace Go.Proofs.YtmejneobfkbgeaaDoor.G.H
open Go Go.RowKit Go.Shelf

end Go.Proofs.YtmejneobfkbgeaaDoor.G.H

namespace Go.Proofs.YtmejneobfkbgeaaDoor.G.H
open Go Go.RowKit Go.Shelf

def chkV (zs : List Y) : Int := if zs.length = 8 then ((syn zs 64).toNat : Int) else 0
def chkE (zs : List Y) : Int := if zs.length = 8 then 0 else 7
def synV (zs : List Y) : Int := if zs.length = 9 then ((syn zs 72).toNat : Int) else 0
def synE (zs : List Y) : Int := if zs.length = 9 then 0 else 7
def colV (k : Int) : Int := if 0 ≤ k ∧ k < 72 then ((col k.toNat).toNat : Int) else 0
def colE (k : Int) : Int := if 0 ≤ k ∧ k < 72 then 0 else 2
def dOut (zs : List Y) : Int := if zs.length = 9 then (decO (syn zs 72) : Int) else 0
def dWord (zs : List Y) : List Y := if zs.length = 9 then decW zs (syn zs 72) else []
def dChips (zs : List Y) : List Nat := if zs.length = 9 then decC (syn zs 72) else []
def dBit (zs : List Y) : Int := if zs.length = 9 then decB (syn zs 72) else 0
def dErr (zs : List Y) : Int := if zs.length = 9 then 0 else 7
theorem dChips_le (zs : List Y) : (dChips zs).length ≤ 1 := by
  unfold dChips
  split
  · unfold decC
    split
    · exact Nat.zero_le _
    · split
      · exact Nat.le_refl _
      · exact Nat.zero_le _
  · exact Nat.zero_le _
/-- What Decode answers. -/
def DecA (w : World) (zs : List Y) (e : Ending) (W : World) : Prop :=
  ∃ (a : Option Addr) (c : Nat) (a2 : Option Addr) (c2 : Nat), e = .returned (.tuple #[.agg #[.int .i64 (dOut zs), .slice a (dWord zs).length c, .slice a2 (dChips zs).length c2], .int .i64 (dBit zs), .int .i64 (dErr zs)]) ∧
    Row W a (dWord zs) c ∧ Row W a2 (dChips zs) c2 ∧ Below w.heap.size w W
theorem decA_yes {w W : World} {zs : List Y} {e : Ending} (hl : zs.length = 9) (h : DecR w zs (syn zs 72) e W) : DecA w zs e W := by
  obtain ⟨a, c, a2, c2, rfl, h1, h2, h3⟩ := h
  have e1 : dOut zs = (decO (syn zs 72) : Int) := if_pos hl
  have e2 : dWord zs = decW zs (syn zs 72) := if_pos hl
  have e3 : dChips zs = decC (syn zs 72) := if_pos hl
  have e4 : dBit zs = decB (syn zs 72) := if_pos hl
  have e5 : dErr zs = 0 := if_pos hl
  unfold DecA
  rw [e1, e2, e3, e4, e5]
  exact ⟨a, c, a2, c2, rfl, h1.rowAt, h2.rowAt, h3⟩
theorem decA_no {w W : World} {zs : List Y} {e : Ending} (hl : ¬ zs.length = 9) (h : DecNo w e W) : DecA w zs e W := by
  obtain ⟨rfl, h3⟩ := h
  have e1 : dOut zs = 0 := if_neg hl
  have e2 : dWord zs = [] := if_neg hl
  have e3 : dChips zs = [] := if_neg hl
  have e4 : dBit zs = 0 := if_neg hl
  have e5 : dErr zs = 7 := if_neg hl
  unfold DecA
  rw [e1, e2, e3, e4, e5]
  exact ⟨none, 0, none, 0, rfl, Row.nil _ _ _ (by omega), Row.nil _ _ _ (by omega), h3⟩
section
variable (a : Option Addr) (zs : List Y) (cap : Nat) (w : World) (hR : Row w a zs cap)
include hR
end
theorem column_any (k : Int) (w : World) : Calls Tryd.prog 22 #[.int .i64 k] w fun e W => e = .returned (.tuple #[.int .u8 (colV k), .int .i64 (colE k)]) ∧ Below w.heap.size w W := by
  by_cases h : 0 ≤ k ∧ k < 72
  · unfold colV colE
    rw [if_pos h, if_pos h]
    have := column_yes k.toNat (by omega) w
    rwa [Int.toNat_of_nonneg h.1] at this
  · unfold colV colE; rw [if_neg h, if_neg h]; exact column_no k (by omega) w
attribute [irreducible] chkV chkE synV synE colV colE dOut dWord dChips dBit dErr
end Go.Proofs.YtmejneobfkbgeaaDoor.G.H
