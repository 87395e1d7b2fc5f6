/- append of any slice of bytes to one of the call's own; slices.Clone. Slices in memory, of any elements that take one cell each (class Elt): what is read, what a call has made itself. The instances: GU8 (bytes), GInt (ints from 0 on), GBool. The reference's field: Mul, Inverse, Power, Exp. Codes of symbols, plain mathematics: sums over places, Vandermonde's argument, the locator of the wrong places. Equations over the field: elimination with pivots, the one solution. Plain mathematics. Decoding beside erased places, plain mathematics: the elements of the places, what Encode and Decode look for, the wrong places found by their locator. Bytes as elements of the field; a matrix in memory: a slice of slices, each row in a block of its own. append as a step of a region that draws its order. Slices of ints from 0 on. A block of memory that is known whole (a struct in a box); a slice that was written out. symbol's codes: isWithin, ValidCode, isSymbolCode, length. slices.Reverse at bytes, by the shelf's contract; poly.Trim; symbol.polynomial. field.Exp (of field's texts). symbol.roots. Euclid's algorithm, stopped halfway: the factor's roots are the elements of the wrong places. Plain mathematics. -/
import Derived.Test.YtijkgplglfmfnaaK1
import Derived.Lib.Hide
import Derived.WalkKit
import Derived.LoopTactic
import Derived.BigQuiet
import Derived.IntWalk
import Derived.Deep.QuietTactic
import Derived.Laws.Bits64
import Derived.Laws.OwnMore
import Derived.Laws.CopyOwn
import Derived.Outline
import Derived.Laws.ResultCell
import Derived.WalkSpells
import Derived.Shelf.Abstract
import Derived.Shelf.RegionOpen
import Derived.OwnWalkIn
import Derived.RangeFuncNested
import Derived.RangeFuncBound
import Derived.RangeFuncCalls
import Derived.RangeFuncLeaves
import Derived.TacticsInMore
import Derived.LoopNIn
import Derived.LoopIn
import Derived.Test.YtijkgplglfmfnaaProg
import Derived.Laws.Rows
import Derived.Laws.Tables
import Derived.Shelf.SlicesE.Reverse
namespace Go.Proofs.Ytijkgplglfmfnaa.P
open Go Go.RowKit Go.Shelf

theorem run_append_nil {P : Program} {w : World} (base : Nat) (t ty e : TypeId) (i : TypeInfo) (size : Nat) (ht : P.underlying t = some (.slice e)) (hi : P.info? e = some i)
    (v : Value) (n : Nat) (xs : List Value) (c : Nat) (hown : w.ownsRow base e size v n xs) :
    (Builtin.append_ #[t, t] ty #[v, .slice none 0 c]).run P w = .ok v w := by
  rcases hown.2 with ⟨rfl, rfl⟩ | ⟨g, cap, cur, rfl, _, _, hnc, _⟩
  · simp [Builtin.append_, run_underlying ht, sizeOf, typeInfo, hi, Builtin.lenOf, Builtin.firstCells]
  · simp [Builtin.append_, run_underlying ht, sizeOf, typeInfo, hi, Builtin.lenOf, Builtin.firstCells, hnc, storeCells]

theorem wp_appAny {W : World} {o : Oper} {a : Act} {K : Act → World → Prop} {Q : Exit → Act → World → Prop} (s x : Operand) (ho : o.op = .call { callee := .builtin .append, args := #[s, x], argTypes := #[30, 30] })
    {B : Nat} {v : Value} {zs ys : List PM.G} (hs : a.eval s = v) (hown : Own W B v zs) {ad : Option Addr} {cap : Nat} (hx : a.eval x = .slice ad ys.length cap) (hr : Row W ad ys cap)
    (hl : zs.length + ys.length < 1000000) (hbase : B ≤ W.heap.size)
    (h : ∀ a' cap' W', Own W' B (.slice a' (zs ++ ys).length cap') (zs ++ ys) → Below B W W' → K (a.put o.dst (.slice a' (zs.length + ys.length) cap')) W') : Oper.wp Try.prog o a W K Q := by
  obtain ⟨i0, hi, hz0, hz1, hz2⟩ := info_parts info_byte
  cases ad with
  | none =>
    have hy : ys = [] := by
      cases ys with
      | nil => rfl
      | cons y ys =>
        obtain ⟨b, off, e, _⟩ := hr.el 0 (by simp)
        cases e
    subst hy
    have hrun := run_append_nil (P := Try.prog) B 30 o.type 5 i0 1 Try.underlying30 hi v zs.length (zs.map gv) cap hown
    obtain ⟨a', cap', rfl, _⟩ := hown.row
    unfold Oper.wp execOp
    simp only [ho, resolve, invoke, builtin, Sem.run_bind, Sem.run_pure, Result.andThen_ok, List.map_toArray, List.map_cons, List.map_nil, hs, hx, List.length_nil, hrun]
    have := h a' cap' W (by simpa using hown) (Below.refl _ _)
    exact (show K (a.put o.dst (.slice a' zs.length cap')) W by simpa using this)
  | some ad =>
    refine wp_append_own W s x 30 ho B 5 i0 (.int .u8 0) 1 1 Try.underlying30 hi hz0 hz1 hz2 rfl (by decide) v zs.length (zs.map gv) hs hown ad ys.length cap (ys.map gv) hx (by simp) ?_ ?_ (by unfold maxLen; omega) (by omega) hbase ?_
    · intro j u hj
      rw [List.getElem?_map] at hj
      by_cases hlt : j < ys.length
      · obtain ⟨b, off, e, hc⟩ := hr.el j hlt
        cases e
        rw [List.getElem?_eq_getElem hlt] at hj
        simp only [Option.map_some, Option.some.injEq] at hj
        subst hj
        rw [PM.el_lt hlt] at hc
        by_cases hj0 : j = 0
        · subst hj0; simpa [Addr.add, gv] using hc
        · simpa [Addr.add, hj0, gv] using hc
      · rw [List.getElem?_eq_none (by omega)] at hj; simp at hj
    · intro u hu
      obtain ⟨z, _, rfl⟩ := List.mem_map.1 hu
      rfl
    · intro v' W' hown' hgrow _
      have ho2 : Own W' B v' (zs ++ ys) := by unfold Own; rw [List.length_append, List.map_append]; exact hown'
      have hB2 : Below B W W' := (Below.refl B W).grown hgrow hbase (fun k e => (World.ownsRow.lt hown k e).1)
      obtain ⟨a', cap', rfl, _⟩ := ho2.row
      have := h a' cap' W' ho2 hB2
      simpa using this

/-- **append(s, t...)**, s owned, t any slice, nil too. -/
theorem wpList_appAny {W : World} {ops : Array Oper} {rest : List Oper} {o : Oper} {a : Act} {Q : Exit → Act → World → Prop} (hgd : o.guard = none) (s x : Operand)
    (ho : o.op = .call { callee := .builtin .append, args := #[s, x], argTypes := #[30, 30] }) {B : Nat} {v : Value} {zs ys : List PM.G} (hs : a.eval s = v) (hown : Own W B v zs)
    {ad : Option Addr} {cap : Nat} (hx : a.eval x = .slice ad ys.length cap) (hr : Row W ad ys cap) (hl : zs.length + ys.length < 1000000) (hbase : B ≤ W.heap.size)
    (h : ∀ a' cap' W', Own W' B (.slice a' (zs ++ ys).length cap') (zs ++ ys) → Below B W W' → wpList Try.prog ops Q rest (a.put o.dst (.slice a' (zs.length + ys.length) cap')) W') : wpList Try.prog ops Q (o :: rest) a W :=
  wpList_plain hgd fun _ hK => wp_appAny s x ho hs hown hx hr hl hbase fun a' c' W' h1 h2 => hK _ _ (h a' c' W' h1 h2)

/-- .. as a step of a region that draws its order. -/
theorem step_appAny {W : World} {ops : Array Oper} {o : Oper} {a : Act} {K : Act → World → Prop} {Q : Exit → Act → World → Prop} {E : Prop} (hgd : o.guard = none) (s x : Operand)
    (ho : o.op = .call { callee := .builtin .append, args := #[s, x], argTypes := #[30, 30] }) {B : Nat} {v : Value} {zs ys : List PM.G} (hs : a.eval s = v) (hown : Own W B v zs)
    {ad : Option Addr} {cap : Nat} (hx : a.eval x = .slice ad ys.length cap) (hr : Row W ad ys cap) (hl : zs.length + ys.length < 1000000) (hbase : B ≤ W.heap.size)
    (h : ∀ a' cap' W', Own W' B (.slice a' (zs ++ ys).length cap') (zs ++ ys) → Below B W W' → K (a.put o.dst (.slice a' (zs.length + ys.length) cap')) W') :
    if Region.wanted o (yielded ops a.tmps) = true then Oper.wp Try.prog o a W K Q else E := by
  have hw : Region.wanted o (yielded ops a.tmps) = true := by simp [Region.wanted, hgd]
  rw [if_pos hw]
  exact wp_appAny s x ho hs hown hx hr hl hbase h

set_option maxRecDepth 100000 in
set_option maxHeartbeats 1000000 in
/-- **slices.Clone** of any slice of bytes. -/
theorem clone_any (a : Option Addr) (zs : List PM.G) (cap : Nat) (w : World) (hR : Row w a zs cap) (hl : zs.length < 100000) :
    Calls Try.prog 58 #[.slice a zs.length cap] w fun e W' => ∃ a' cap', e = .returned (.slice a' zs.length cap') ∧ Own W' w.heap.size (.slice a' zs.length cap') zs ∧ Below w.heap.size w W' := by
  have HR := Lib.hid (hR.alloc (.cells #[] 5))
  have HO := Lib.hid (own_empty w w.heap.size (Nat.le_refl _))
  have q22 : ∀ (w : World) (a : Option Addr) (n c n' c' : Nat), (binOp .eql 30 (.slice a n c) (.slice none n' c')).run Try.prog w = .ok (.bool a.isNone) w := fun w a n c n' c' => Lib.run_eql_slice_nil w _ _ a n c n' c' Try.underlying30
  cases a with
  | none =>
    have hy : zs = [] := by
      cases zs with
      | nil => rfl
      | cons y ys =>
        obtain ⟨b, off, e, _⟩ := hR.el 0 (by simp)
        cases e
    subst hy
    clear hR
    go_enter Try.func58, Try.ntmps58
    go_wp2_with fail
    go_ret
    exact ⟨none, 0, rfl, Own.nil _ _, Below.refl _ _⟩
  | some ad =>
    clear hR
    go_enter Try.func58, Try.ntmps58
    go_wp2_with (at_builtin; refine wpList_appAny rfl _ _ rfl rfl HO.out rfl HR.out (by simp; omega) (by simp) ?_; intro a' cap' W' hown' hb')
    go_ret
    exact ⟨a', cap', rfl, by simpa using hown', ((Below.refl _ w).alloc (Nat.le_refl _) _).trans hb'⟩
end Go.Proofs.Ytijkgplglfmfnaa.P

namespace Go.Proofs.Ytijkgplglfmfnaa.G
open Go Go.RowKit Go.Shelf

theorem cell_new (w : World) (v : Value) (t : TypeId) : (w.alloc (.cells #[v] t)).cell? ⟨w.heap.size, 0, none⟩ = some v := by
  simp
theorem frozen_new (w : World) (v : Value) (t : TypeId) : (w.alloc (.cells #[v] t)).frozen? ⟨w.heap.size, 0, none⟩ = false := by
  simp
theorem cell_later {w : World} {a : Addr} {v : Value} (o : Obj) (h : w.cell? a = some v) : (w.alloc o).cell? a = some v :=
  cell_kept h (World.grownBy_alloc w o none) (fun r e => by cases e)
theorem frozen_later {w : World} {a : Addr} {v : Value} (o : Obj) (h : w.cell? a = some v) (hf : w.frozen? a = false) : (w.alloc o).frozen? a = false :=
  (frozen_kept h (World.grownBy_alloc w o none) (fun r e => by cases e)).trans hf
theorem lt_of_cell {w : World} {a : Addr} {v : Value} (h : w.cell? a = some v) : a.block < w.heap.size := by
  obtain ⟨o, ho, _⟩ := cells_of_cell h
  exact (Array.getElem?_eq_some_iff.1 ho).1
theorem belowN {B : Nat} {w W : World} (h : Below B w W) (n : Nat) : Below B w (W.drewN n) := ⟨h.os, h.tape, h.output, h.size, h.block⟩
theorem cell_other {W : World} {p a : Addr} (u : Value) (h : a.block ≠ p.block) : (W.setCell p u).cell? a = W.cell? a :=
  World.cell?_of_block (Below.heap_setCell W p u a.block h)
theorem grown_of_below {W W' : World} (h : Below W.heap.size W W') : W.grownBy W' none := ⟨h.os, h.tape, h.output, h.size, fun k hk _ => h.block k hk⟩
theorem below_of_grown {W W' : World} (h : W.grownBy W' none) : Below W.heap.size W W' := ⟨h.os, h.tape, h.output, h.size, fun k hk => h.block k hk (by intro e; cases e)⟩
theorem grown_trans {a b c : World} {row : Option Nat} (h : a.grownBy b row) (k : b.grownBy c row) : a.grownBy c row :=
  ⟨k.os.trans h.os, k.tape.trans h.tape, k.output.trans h.output, Nat.le_trans h.size k.size, fun i hi hne => (k.block i (Nat.lt_of_lt_of_le hi h.size) hne).trans (h.block i hi hne)⟩
theorem grown_drewN {w W : World} {row : Option Nat} (h : w.grownBy W row) (n : Nat) : w.grownBy (W.drewN n) row := ⟨h.os, h.tape, h.output, h.size, h.block⟩
theorem grown_alloc {w W : World} {row : Option Nat} (h : w.grownBy W row) (o : Obj) : w.grownBy (W.alloc o) row :=
  ⟨h.os, h.tape, h.output, by rw [World.size_alloc]; exact Nat.le_succ_of_le h.size, fun k hk hne => (Below.heap_alloc W o k (Nat.lt_of_lt_of_le hk h.size)).trans (h.block k hk hne)⟩
theorem cell_below {w W : World} {p : Addr} {v : Value} (hb : Below w.heap.size w W) (h : w.cell? p = some v) : W.cell? p = some v := (hb.cell (lt_of_cell h)).trans h
theorem frozen_below {w W : World} {p : Addr} {v : Value} {t : Bool} (hb : Below w.heap.size w W) (h : w.cell? p = some v) (hf : w.frozen? p = t) : W.frozen? p = t := (hb.frozen (lt_of_cell h)).trans hf
theorem cell_grown {W W' : World} {r : Nat} {a : Addr} {v : Value} (hg : W.grownBy W' (some r)) (hne : a.block ≠ r) (h : W.cell? a = some v) : W'.cell? a = some v :=
  (World.cell?_of_block (hg.block a.block (lt_of_cell h) (by intro e; cases e; exact hne rfl))).trans h
theorem frozen_grown {W W' : World} {r : Nat} {a : Addr} {v : Value} {t : Bool} (hg : W.grownBy W' (some r)) (hne : a.block ≠ r) (h : W.cell? a = some v) (hf : W.frozen? a = t) : W'.frozen? a = t :=
  (World.frozen?_of_block (hg.block a.block (lt_of_cell h) (by intro e; cases e; exact hne rfl))).trans hf
theorem grown_setCell {w W : World} {row : Option Nat} (h : w.grownBy W row) {a : Addr} (u : Value) (ha : w.heap.size ≤ a.block ∨ row = some a.block) : w.grownBy (W.setCell a u) row := by
  refine ⟨h.os, h.tape, h.output, by rw [show (W.setCell a u).heap.size = W.heap.size by simp [World.setCell]]; exact h.size, fun k hk hne => ?_⟩
  refine (Below.heap_setCell W a u k ?_).trans (h.block k hk hne)
  rintro rfl
  rcases ha with h | h
  · omega
  · exact hne h.symm

theorem ret_int {k : IntKind} {a b : Int} (h : a = b) : Ending.returned (.int k a) = .returned (.int k b) := by rw [h]
/-- What may lie in a slice, one cell each. -/
class Elt (α : Type) where
  gv : α → Value
  z : α
  ty : TypeId
  sl : TypeId
  wide : Nat
  wide_le : wide ≤ 32
  info : (Try.prog.info? ty).map (fun i => (i.zero, i.size, i.bytes)) = some (some (gv z), 1, wide)
  under : Try.prog.underlying sl = some (.slice ty)
  one : ∀ x, (gv x).cells = #[gv x]
  plain : ∀ x, (gv x).oneCell' = true
open Elt

theorem wide_mul (α : Type) [Elt α] (n : Nat) : n * wide α ≤ n * 32 := Nat.mul_le_mul_left _ wide_le
variable {α : Type} [Elt α]
def el (zs : List α) (k : Nat) : α := (zs[k]?).getD z
theorem el_lt {zs : List α} {k : Nat} (h : k < zs.length) : el zs k = zs[k] := by unfold el; rw [List.getElem?_eq_getElem h]; rfl
theorem el_ge {zs : List α} {k : Nat} (h : zs.length ≤ k) : el zs k = z := by unfold el; rw [List.getElem?_eq_none h]; rfl
theorem el_set {zs : List α} {j : Nat} {x : α} (h : j < zs.length) (k : Nat) : el (zs.set j x) k = if k = j then x else el zs k := by
  unfold el
  rw [List.getElem?_set]
  by_cases e : j = k
  · subst e; rw [if_pos rfl, if_pos h, if_pos rfl]; rfl
  · rw [if_neg e, if_neg (fun h => e h.symm)]
theorem el_append (xs ys : List α) (k : Nat) : el (xs ++ ys) k = if k < xs.length then el xs k else el ys (k - xs.length) := by
  unfold el
  by_cases h : k < xs.length
  · rw [if_pos h, List.getElem?_append_left h]
  · rw [if_neg h, List.getElem?_append_right (by omega)]
theorem el_take (zs : List α) (n k : Nat) : el (zs.take n) k = if k < n then el zs k else z := by
  unfold el
  rw [List.getElem?_take]
  split <;> rfl
theorem el_drop (zs : List α) (n k : Nat) : el (zs.drop n) k = el zs (n + k) := by
  unfold el; rw [List.getElem?_drop]
theorem el_ext {xs ys : List α} (hl : xs.length = ys.length) (h : ∀ k, k < xs.length → el xs k = el ys k) : xs = ys := by
  apply List.ext_getElem hl
  intro k h1 h2
  have := h k h1
  rwa [el_lt h1, el_lt h2] at this
theorem el_mem {zs : List α} {k : Nat} (h : k < zs.length) : el zs k ∈ zs := by rw [el_lt h]; exact List.getElem_mem h
/-- The list of the first m values of f. -/
def tab {α : Type} (m : Nat) (f : Nat → α) : List α := (List.range m).map f
omit [Elt α] in
theorem tab_len (m : Nat) (f : Nat → α) : (tab m f).length = m := by simp [tab]
theorem el_tab (m : Nat) (f : Nat → α) (k : Nat) (h : k < m) : el (tab m f) k = f k := by
  rw [el_lt (by rw [tab_len]; exact h)]; simp [tab]
theorem tab_ext {m : Nat} {f g : Nat → α} (h : ∀ k, k < m → f k = g k) : tab m f = tab m g := by
  refine el_ext (by rw [tab_len, tab_len]) (fun k hk => ?_)
  rw [tab_len] at hk
  rw [el_tab _ _ _ hk, el_tab _ _ _ hk, h k hk]
theorem tab_el (zs : List α) : tab zs.length (el zs) = zs := el_ext (tab_len _ _) (fun k hk => el_tab _ _ _ (by rwa [tab_len] at hk))
def upd {α : Type} (f : Nat → α) (j : Nat) (x : α) : Nat → α := fun k => if k = j then x else f k
theorem tab_set (m : Nat) (f : Nat → α) (j : Nat) (x : α) : (tab m f).set j x = tab m (upd f j x) := by
  by_cases hj : j < m
  · refine el_ext (by simp [tab]) (fun k hk => ?_)
    rw [List.length_set, tab_len] at hk
    rw [el_set (by rw [tab_len]; exact hj), el_tab _ _ _ hk, el_tab _ _ _ hk]; rfl
  · rw [List.set_eq_of_length_le (by rw [tab_len]; omega)]
    exact tab_ext (fun k hk => by unfold upd; rw [if_neg (by omega)])
omit [Elt α] in
theorem tab_snoc (m : Nat) (f : Nat → α) : tab m f ++ [f m] = tab (m + 1) f := by simp [tab, List.range_succ]
theorem tab_replicate (m : Nat) (x : α) : List.replicate m x = tab m (fun _ => x) :=
  el_ext (by rw [tab_len, List.length_replicate]) (fun k hk => by
    rw [List.length_replicate] at hk
    rw [el_tab _ _ _ hk, el_lt (by rw [List.length_replicate]; exact hk)]; simp)

/-- The slice at a, of capacity cap, holds zs. -/
structure Row (w : World) (a : Option Addr) (zs : List α) (cap : Nat) : Prop where
  room : zs.length ≤ cap
  most : cap ≤ 9223372036854775807
  el : ∀ j, j < zs.length → ∃ b off, a = some ⟨b, off, none⟩ ∧ w.cell? ⟨b, off + j, none⟩ = some (gv (el zs j))

theorem Row.below {w w' : World} {a : Option Addr} {zs : List α} {cap : Nat} (h : Row w a zs cap) (hb : Below w.heap.size w w') : Row w' a zs cap :=
  ⟨h.room, h.most, fun j hj => by
    obtain ⟨b, off, e, hc⟩ := h.el j hj
    exact ⟨b, off, e, (hb.cell (p := ⟨b, off + j, none⟩) (lt_of_cell hc)).trans hc⟩⟩
theorem Row.grown {w W : World} {a : Option Addr} {zs : List α} {cap : Nat} {row : Option Nat} (h : Row w a zs cap) (hg : w.grownBy W row) (hne : ∀ b off, a = some ⟨b, off, none⟩ → some b ≠ row) : Row W a zs cap :=
  ⟨h.room, h.most, fun j hj => by
    obtain ⟨b, off, e, hc⟩ := h.el j hj
    exact ⟨b, off, e, (World.cell?_of_block (hg.block b (lt_of_cell hc) (hne b off e))).trans hc⟩⟩
theorem Row.alloc {w : World} {a : Option Addr} {zs : List α} {cap : Nat} (h : Row w a zs cap) (o : Obj) : Row (w.alloc o) a zs cap :=
  h.below ((Below.refl _ w).alloc (Nat.le_refl _) _)
theorem Row.drewN {w : World} {a : Option Addr} {zs : List α} {cap : Nat} (h : Row w a zs cap) (n : Nat) : Row (w.drewN n) a zs cap := ⟨h.room, h.most, h.el⟩
theorem Row.nil (w : World) (a : Option Addr) (cap : Nat) (h : cap ≤ 9223372036854775807) : Row (α := α) w a [] cap := ⟨Nat.zero_le _, h, fun j hj => by simp at hj⟩
theorem Row.take {w : World} {a : Option Addr} {zs : List α} {cap : Nat} (h : Row w a zs cap) (n : Nat) : Row w a (zs.take n) cap :=
  ⟨by have := h.room; simp; omega, h.most, fun j hj => by
    rw [List.length_take] at hj
    obtain ⟨b, off, e, hc⟩ := h.el j (by omega)
    exact ⟨b, off, e, by rw [el_take, if_pos (by omega)]; exact hc⟩⟩
/-- A store into another block. -/
theorem Row.other {W : World} {a : Option Addr} {zs : List α} {cap : Nat} (h : Row W a zs cap) {p : Addr} (u : Value) (hp : ∀ b off, a = some ⟨b, off, none⟩ → 0 < zs.length → b ≠ p.block) : Row (W.setCell p u) a zs cap :=
  ⟨h.room, h.most, fun j hj => by
    obtain ⟨b, off, e, hc⟩ := h.el j hj
    exact ⟨b, off, e, (cell_other u (show b ≠ p.block from hp b off e (by omega))).trans hc⟩⟩
theorem Row.lt {w : World} {b off : Nat} {zs : List α} {cap : Nat} (h : Row w (some ⟨b, off, none⟩) zs cap) (h0 : 0 < zs.length) : b < w.heap.size := by
  obtain ⟨b', off', e, hc⟩ := h.el 0 h0
  cases e
  exact lt_of_cell hc

/-- The slice v, made from block B on, holds zs. -/
def Own (W : World) (B : Nat) (v : Value) (zs : List α) : Prop := W.ownsRow B (ty α) 1 v zs.length (zs.map gv)

theorem Own.nil (W : World) (B : Nat) : Own (α := α) W B (.slice none 0 0) [] := World.ownsRow_nil _ _ _ _
theorem Own.below {W W' : World} {B : Nat} {v : Value} {zs : List α} (h : Own W B v zs) (hb : Below W.heap.size W W') : Own W' B v zs :=
  World.ownsRow.kept h (grown_of_below hb) (by cases v.ownBlock with | none => exact .inl rfl | some k => exact .inr (by intro e; cases e))
theorem Own.alloc {W : World} {B : Nat} {v : Value} {zs : List α} (h : Own W B v zs) (o : Obj) : Own (W.alloc o) B v zs :=
  h.below ((Below.refl _ W).alloc (Nat.le_refl _) _)
theorem Own.drewN {W : World} {B : Nat} {v : Value} {zs : List α} (h : Own W B v zs) (n : Nat) : Own (W.drewN n) B v zs := h
theorem Own.grown {W W' : World} {B : Nat} {v : Value} {zs : List α} {row : Option Nat} (h : Own W B v zs) (hg : W.grownBy W' row) (hne : v.ownBlock = none ∨ v.ownBlock ≠ row) : Own W' B v zs :=
  World.ownsRow.kept h hg hne
theorem Own.mono {W : World} {B B' : Nat} {v : Value} {zs : List α} (h : Own W B v zs) (hB : B' ≤ B) : Own W B' v zs := by
  obtain ⟨h1, h2 | ⟨g, cap, cur, hv, hg, r⟩⟩ := h
  · exact ⟨h1, .inl h2⟩
  · exact ⟨h1, .inr ⟨g, cap, cur, hv, Nat.le_trans hB hg, r⟩⟩
/-- What is known of the slice value: its address, its capacity, the cells. -/
theorem Own.parts {W : World} {B : Nat} {v : Value} {zs : List α} (h : Own W B v zs) :
    (v = .slice none 0 0 ∧ zs = []) ∨ ∃ g cap, v = .slice (some ⟨g, 0, none⟩) zs.length cap ∧ B ≤ g ∧ g < W.heap.size ∧ zs.length ≤ cap ∧ cap ≤ 9223372036854775807 ∧
      ∀ j, j < zs.length → W.cell? ⟨g, j, none⟩ = some (gv (el zs j)) ∧ W.frozen? ⟨g, j, none⟩ = false := by
  have h' := h
  obtain ⟨h1, h2 | ⟨g, cap, cur, hv, hg, hh, r1, r2, r3⟩⟩ := h
  · exact .inl ⟨h2.1, List.length_eq_zero_iff.1 h2.2⟩
  · refine .inr ⟨g, cap, hv, hg, (Array.getElem?_eq_some_iff.1 hh).1, r1, r2, fun j hj => ?_⟩
    subst hv
    refine ⟨?_, World.ownsRow.frozenAt h' j⟩
    rw [World.ownsRow.cellAt h' j (by simpa using hj), List.getElem?_map, List.getElem?_eq_getElem hj, el_lt hj]
    rfl
theorem Own.row {W : World} {B : Nat} {v : Value} {zs : List α} (h : Own W B v zs) : ∃ a cap, v = .slice a zs.length cap ∧ Row W a zs cap := by
  rcases h.parts with ⟨rfl, rfl⟩ | ⟨g, cap, rfl, _, _, r1, r2, hc⟩
  · exact ⟨none, 0, rfl, Nat.le_refl _, by omega, fun j hj => by simp at hj⟩
  · exact ⟨_, cap, rfl, r1, r2, fun j hj => ⟨g, 0, rfl, by simpa using (hc j hj).1⟩⟩
theorem Own.len {W : World} {B n cap : Nat} {a : Option Addr} {zs : List α} (h : Own W B (.slice a n cap) zs) : n = zs.length := by
  rcases h.parts with ⟨e, rfl⟩ | ⟨g', cap', e, _⟩
  · cases e; rfl
  · cases e; rfl
theorem Own.rowAt {W : World} {B n cap : Nat} {a : Option Addr} {zs : List α} (h : Own W B (.slice a n cap) zs) : Row W a zs cap := by
  obtain ⟨a', cap', e, r⟩ := h.row
  cases e
  exact r
theorem Own.set {W : World} {B n : Nat} {g cap : Nat} {zs : List α} (h : Own W B (.slice (some ⟨g, 0, none⟩) n cap) zs) (j : Nat) (c : α) : Own (W.setCell ⟨g, j, none⟩ (gv c)) B (.slice (some ⟨g, 0, none⟩) n cap) (zs.set j c) := by
  have e := h.len
  subst e
  unfold Own
  rw [List.length_set, List.map_set]
  exact (World.ownsRow.stored h j (gv c)).1
theorem Own.setBelow {W : World} {B : Nat} {v : Value} {zs : List α} (h : Own W B v zs) {p : Addr} (hp : p.block < B) (u : Value) : Own (W.setCell p u) B v zs :=
  ownsRow_setCell_below h hp u
theorem Own.other {W : World} {B : Nat} {v : Value} {zs : List α} (h : Own W B v zs) {p : Addr} (u : Value) (hp : v.ownBlock ≠ some p.block) : Own (W.setCell p u) B v zs :=
  World.ownsRow.kept h (row := some p.block) ⟨rfl, rfl, rfl, by simp [World.setCell], fun k _ hk => Below.heap_setCell W p u k (fun e => hk (by rw [e]))⟩ (.inr hp)
/-- Element k of a slice that is owned. -/
theorem Own.at {W : World} {B g cap n : Nat} {zs : List α} (h : Own W B (.slice (some ⟨g, 0, none⟩) n cap) zs) (k : Nat) (hk : k < zs.length) : B ≤ g ∧ g < W.heap.size ∧ cap ≤ 9223372036854775807 ∧ zs.length ≤ cap ∧ W.cell? ⟨g, k, none⟩ = some (gv (el zs k)) ∧ W.frozen? ⟨g, k, none⟩ = false := by
  rcases h.parts with ⟨e, rfl⟩ | ⟨g', cap', e, hb, h2, h3, h4, hc⟩
  · simp at hk
  · cases e
    exact ⟨hb, h2, h4, h3, hc k hk⟩
theorem Own.free {W : World} {B g cap n : Nat} {zs : List α} (h : Own W B (.slice (some ⟨g, 0, none⟩) n cap) zs) (k : Nat) (hk : k < zs.length) : W.frozen? ⟨g, k, none⟩ = false := (h.at k hk).2.2.2.2.2
theorem Own.fresh {W : World} {B n cap : Nat} {a : Option Addr} {zs : List α} (h : Own W B (.slice a n cap) zs) (h0 : 0 < zs.length) : ∃ g, a = some ⟨g, 0, none⟩ ∧ B ≤ g ∧ g < W.heap.size := by
  rcases h.parts with ⟨e, rfl⟩ | ⟨g', cap', e, hb, h2, _⟩
  · simp at h0
  · cases e; exact ⟨g', rfl, hb, h2⟩
theorem Own.room {W : World} {B n cap : Nat} {a : Option Addr} {zs : List α} (h : Own W B (.slice a n cap) zs) : n ≤ cap ∧ cap ≤ 9223372036854775807 := by
  have e := h.len
  subst e
  exact ⟨h.rowAt.room, h.rowAt.most⟩

/-- **make([]T, n)** -/
theorem wp_make1 {W : World} {o : Oper} {a : Act} {K : Act → World → Prop} {Q : Exit → Act → World → Prop} (l c : Operand) (hop : o.op = Op.makeSlice (sl α) l c)
    {B : Nat} (n : Nat) {L : Int} (hl : a.eval l = .int .i64 L) (hc : a.eval c = .int .i64 L) (hL : L = (n : Int)) (hn : n < 1000000) (hbase : B ≤ W.heap.size)
    (h : ∀ W', Own (α := α) W' B (.slice (some ⟨W.heap.size, 0, none⟩) n n) (List.replicate n z) → Below B W W' → K (a.put o.dst (.slice (some ⟨W.heap.size, 0, none⟩) n n)) W') : Oper.wp Try.prog o a W K Q := by
  obtain ⟨i0, hi, hz0, hz1, hz2⟩ := info_parts (info (α := α))
  obtain ⟨W', hrun, hown, hgrow⟩ := run_make_full (P := Try.prog) W B (sl α) (ty α) i0 (gv (z : α)) 1 (under (α := α)) hi hz0 hz1 .i64 .i64 n (by rw [hz2, Nat.mul_comm]; exact Nat.le_trans (wide_mul α n) (by omega)) (by unfold maxLen; omega) hbase
  subst hL
  unfold Oper.wp
  simp [execOp, hop, hl, hc, hrun, Result.andThen]
  refine h W' ?_ ((Below.refl B W).grown hgrow hbase (fun k e => by cases e))
  unfold Own
  rw [List.length_replicate, List.map_replicate]
  have e : (madeCells (gv (z : α)).cells (n * 1)).toList = List.replicate n (gv (z : α)) := by
    refine List.eq_replicate_iff.2 ⟨by simp [madeCells, one], fun b hb => ?_⟩
    simp [madeCells, one, Nat.mod_one] at hb
    exact hb.2.symm
  rw [e] at hown
  exact hown
theorem wpList_make1 {W : World} {ops : Array Oper} {rest : List Oper} {o : Oper} {a : Act} {Q : Exit → Act → World → Prop} (hgd : o.guard = none) (l c : Operand) (hop : o.op = Op.makeSlice (sl α) l c)
    {B : Nat} (n : Nat) {L : Int} (hl : a.eval l = .int .i64 L) (hc : a.eval c = .int .i64 L) (hL : L = (n : Int)) (hn : n < 1000000) (hbase : B ≤ W.heap.size)
    (h : ∀ W', Own (α := α) W' B (.slice (some ⟨W.heap.size, 0, none⟩) n n) (List.replicate n z) → Below B W W' → wpList Try.prog ops Q rest (a.put o.dst (.slice (some ⟨W.heap.size, 0, none⟩) n n)) W') : wpList Try.prog ops Q (o :: rest) a W :=
  wpList_plain hgd fun _ hK => wp_make1 (α := α) l c hop n hl hc hL hn hbase fun W' h1 h2 => hK _ _ (h W' h1 h2)

/-- **append(s, x)**, s owned: where the result lies. -/
theorem app_where {W W' : World} {B b : Nat} {v v' : Value} {zs : List α} {c : α} {ty' : TypeId} (hown : Own W B v zs) (hc : W.cell? ⟨b, 0, none⟩ = some (gv c)) (hl : zs.length < 1000000)
    (hr : (Builtin.append_ #[sl α, sl α] ty' #[v, .slice (some ⟨b, 0, none⟩) 1 1]).run Try.prog W = .ok v' W') : v'.ownBlock = v.ownBlock ∨ v'.ownBlock = some W.heap.size := by
  obtain ⟨i0, hi, hz0, hz1, hz2⟩ := info_parts (info (α := α))
  have hnews : ∀ j u, [gv c][j]? = some u → W.cell? ((⟨b, 0, none⟩ : Addr).add j) = some u := by
    intro j u hj
    match j, hj with
    | 0, hj => simp at hj; subst hj; simpa [Addr.add] using hc
  have hown' := hown
  rcases hown.2 with ⟨rfl, _⟩ | ⟨g, cap, cur, rfl, hbg, hg, hnc, hcm, hcs, htake⟩
  · have h := Go.run_append_nil (P := Try.prog) W (sl α) ty' (ty α) i0 (gv (z : α)) (under (α := α)) hi hz0 ⟨b, 0, none⟩ 1 1 [gv c] (by rw [hz1]; rfl) hnews (by decide) (by decide) (by rw [hz2]; exact Nat.le_trans (wide_mul α _) (by decide))
    rw [h] at hr
    injection hr with h1 h2
    subst h1
    exact .inr rfl
  · by_cases hroom : zs.length + 1 ≤ cap
    · have h := Go.run_append_room (P := Try.prog) W (sl α) ty' (ty α) i0 (under (α := α)) hi g zs.length cap cur hg ⟨b, 0, none⟩ 1 1 [gv c] (by rw [hz1]; rfl) hnews (by intro u hu; simp at hu; subst hu; exact plain c) hroom (by rw [hz1, hcs]; simp; omega)
      rw [h] at hr
      injection hr with h1 h2
      subst h1
      exact .inl rfl
    · have holds : ∀ j u, (zs.map gv)[j]? = some u → W.cell? ((⟨g, 0, none⟩ : Addr).add j) = some u := World.ownsRow.cells hown' (g := g) rfl
      have h := Go.run_append_grow (P := Try.prog) W (sl α) ty' (ty α) i0 (gv (z : α)) (under (α := α)) hi hz0 ⟨g, 0, none⟩ zs.length cap (zs.map gv) (by rw [hz1]; simp) holds ⟨b, 0, none⟩ 1 1 [gv c] (by rw [hz1]; rfl) hnews (by omega) (by omega) (growslice_fits (by omega) (by rw [hz2]; exact Nat.le_trans (wide_mul α _) (by omega)))
      rw [h] at hr
      injection hr with h1 h2
      subst h1
      exact .inr rfl
theorem wp_app1 {W : World} {o : Oper} {a : Act} {K : Act → World → Prop} {Q : Exit → Act → World → Prop} (s x : Operand)
    (ho : o.op = .call { callee := .builtin .append, args := #[s, x], argTypes := #[sl α, sl α] }) {B : Nat} {v : Value} {zs : List α} (c : α) (hs : a.eval s = v) (hown : Own W B v zs)
    {b : Nat} (hx : a.eval x = .slice (some ⟨b, 0, none⟩) 1 1) (hc : W.cell? ⟨b, 0, none⟩ = some (gv c)) (hl : zs.length < 1000000) (hbase : B ≤ W.heap.size)
    (h : ∀ a' cap' W', Own W' B (.slice a' (zs.length + 1) cap') (zs ++ [c]) → W.grownBy W' v.ownBlock → Below B W W' → (∀ b' o', a' = some ⟨b', o', none⟩ → v.ownBlock = some b' ∨ b' = W.heap.size) → K (a.put o.dst (.slice a' (zs.length + 1) cap')) W') : Oper.wp Try.prog o a W K Q := by
  obtain ⟨i0, hi, hz0, hz1, hz2⟩ := info_parts (info (α := α))
  have hnews : ∀ j u, [gv c][j]? = some u → W.cell? ((⟨b, 0, none⟩ : Addr).add j) = some u := by
    intro j u hj
    match j, hj with
    | 0, hj => simp at hj; subst hj; simpa [Addr.add] using hc
  obtain ⟨v', W', hr, h2, h3, h4⟩ := run_append_own (P := Try.prog) W B (sl α) o.type (ty α) i0 (gv (z : α)) 1 (wide α) (under (α := α)) hi hz0 hz1 hz2 (by rw [one]; rfl) (by decide) v zs.length (zs.map gv) hown ⟨b, 0, none⟩ 1 1 [gv c] rfl hnews (by intro u hu; simp at hu; subst hu; exact plain c) (by unfold maxLen; omega) (Nat.le_trans (wide_mul α _) (by omega)) hbase
  have hw := app_where hown hc hl hr
  have ho2 : Own W' B v' (zs ++ [c]) := by unfold Own; simpa using h2
  have hB2 : Below B W W' := (Below.refl B W).grown h3 hbase (fun k e => (World.ownsRow.lt hown k e).1)
  obtain ⟨a', cap', rfl, _⟩ := ho2.row
  unfold Oper.wp execOp
  simp only [ho, resolve, invoke, builtin, Sem.run_bind, Sem.run_pure, Result.andThen_ok, List.map_toArray, List.map_cons, List.map_nil, hs, hx, hr]
  have e1 : (zs ++ [c]).length = zs.length + 1 := by rw [List.length_append]; rfl
  rw [e1] at ho2 ⊢
  exact h a' cap' W' ho2 h3 hB2 (fun b' o' e => by
    subst e
    rcases hw with h5 | h5
    · exact .inl (by rw [← h5]; rfl)
    · have : some b' = some W.heap.size := h5
      cases this
      exact .inr rfl)
theorem wpList_app1 {W : World} {ops : Array Oper} {rest : List Oper} {o : Oper} {a : Act} {Q : Exit → Act → World → Prop} (hgd : o.guard = none) (s x : Operand)
    (ho : o.op = .call { callee := .builtin .append, args := #[s, x], argTypes := #[sl α, sl α] }) {B : Nat} {v : Value} {zs : List α} (c : α) (hs : a.eval s = v) (hown : Own W B v zs)
    {b : Nat} (hx : a.eval x = .slice (some ⟨b, 0, none⟩) 1 1) (hc : W.cell? ⟨b, 0, none⟩ = some (gv c)) (hl : zs.length < 1000000) (hbase : B ≤ W.heap.size)
    (h : ∀ a' cap' W', Own W' B (.slice a' (zs.length + 1) cap') (zs ++ [c]) → W.grownBy W' v.ownBlock → Below B W W' → (∀ b' o', a' = some ⟨b', o', none⟩ → v.ownBlock = some b' ∨ b' = W.heap.size) → wpList Try.prog ops Q rest (a.put o.dst (.slice a' (zs.length + 1) cap')) W') : wpList Try.prog ops Q (o :: rest) a W :=
  wpList_plain hgd fun _ hK => wp_app1 s x ho c hs hown hx hc hl hbase fun a' c' W' h1 h2 h3 h4 => hK _ _ (h a' c' W' h1 h2 h3 h4)

theorem run_append_none {P : Program} {w : World} (base : Nat) (t ty e : TypeId) (i : TypeInfo) (size : Nat) (ht : P.underlying t = some (.slice e)) (hi : P.info? e = some i)
    (v : Value) (n : Nat) (xs : List Value) (c : Nat) (hown : w.ownsRow base e size v n xs) :
    (Builtin.append_ #[t, t] ty #[v, .slice none 0 c]).run P w = .ok v w := by
  rcases hown.2 with ⟨rfl, rfl⟩ | ⟨g, cap, cur, rfl, _, _, hnc, _⟩
  · simp [Builtin.append_, run_underlying ht, sizeOf, typeInfo, hi, Builtin.lenOf, Builtin.firstCells]
  · simp [Builtin.append_, run_underlying ht, sizeOf, typeInfo, hi, Builtin.lenOf, Builtin.firstCells, hnc, storeCells]
/-- **append(s, t...)**, s owned, t any slice, nil too. -/
theorem wp_appAny {W : World} {o : Oper} {a : Act} {K : Act → World → Prop} {Q : Exit → Act → World → Prop} (s x : Operand) (ho : o.op = .call { callee := .builtin .append, args := #[s, x], argTypes := #[sl α, sl α] })
    {B : Nat} {v : Value} {zs ys : List α} (hs : a.eval s = v) (hown : Own W B v zs) {ad : Option Addr} {cap : Nat} (hx : a.eval x = .slice ad ys.length cap) (hr : Row W ad ys cap)
    (hl : zs.length + ys.length < 1000000) (hbase : B ≤ W.heap.size)
    (h : ∀ a' cap' W', Own W' B (.slice a' (zs.length + ys.length) cap') (zs ++ ys) → Below B W W' → K (a.put o.dst (.slice a' (zs.length + ys.length) cap')) W') : Oper.wp Try.prog o a W K Q := by
  obtain ⟨i0, hi, hz0, hz1, hz2⟩ := info_parts (info (α := α))
  cases ad with
  | none =>
    have hy : ys = [] := by
      cases ys with
      | nil => rfl
      | cons y ys =>
        obtain ⟨b, off, e, _⟩ := hr.el 0 (by simp)
        cases e
    subst hy
    have hrun := run_append_none (P := Try.prog) B (sl α) o.type (ty α) i0 1 (under (α := α)) hi v zs.length (zs.map gv) cap hown
    obtain ⟨a', cap', rfl, _⟩ := hown.row
    unfold Oper.wp execOp
    simp only [ho, resolve, invoke, builtin, Sem.run_bind, Sem.run_pure, Result.andThen_ok, List.map_toArray, List.map_cons, List.map_nil, hs, hx, List.length_nil, hrun]
    have := h a' cap' W (by simpa using hown) (Below.refl _ _)
    exact (show K (a.put o.dst (.slice a' zs.length cap')) W by simpa using this)
  | some ad =>
    refine wp_append_own W s x (sl α) ho B (ty α) i0 (gv (z : α)) 1 (wide α) (under (α := α)) hi hz0 hz1 hz2 (by rw [one]; rfl) (by decide) v zs.length (zs.map gv) hs hown ad ys.length cap (ys.map gv) hx (by simp) ?_ ?_ (by unfold maxLen; omega) (Nat.le_trans (wide_mul α _) (by omega)) hbase ?_
    · intro j u hj
      rw [List.getElem?_map] at hj
      by_cases hlt : j < ys.length
      · obtain ⟨b, off, e, hc⟩ := hr.el j hlt
        cases e
        rw [List.getElem?_eq_getElem hlt] at hj
        simp only [Option.map_some, Option.some.injEq] at hj
        subst hj
        rw [el_lt hlt] at hc
        by_cases hj0 : j = 0
        · subst hj0; simpa [Addr.add] using hc
        · simpa [Addr.add, hj0] using hc
      · rw [List.getElem?_eq_none (by omega)] at hj; simp at hj
    · intro u hu
      obtain ⟨x, _, rfl⟩ := List.mem_map.1 hu
      exact plain x
    · intro v' W' hown' hgrow _
      have ho2 : Own W' B v' (zs ++ ys) := by unfold Own; rw [List.length_append, List.map_append]; exact hown'
      have hB2 : Below B W W' := (Below.refl B W).grown hgrow hbase (fun k e => (World.ownsRow.lt hown k e).1)
      obtain ⟨a', cap', rfl, _⟩ := ho2.row
      rw [List.length_append] at ho2 ⊢
      exact h a' cap' W' ho2 hB2
theorem wpList_appAny {W : World} {ops : Array Oper} {rest : List Oper} {o : Oper} {a : Act} {Q : Exit → Act → World → Prop} (hgd : o.guard = none) (s x : Operand)
    (ho : o.op = .call { callee := .builtin .append, args := #[s, x], argTypes := #[sl α, sl α] }) {B : Nat} {v : Value} {zs ys : List α} (hs : a.eval s = v) (hown : Own W B v zs)
    {ad : Option Addr} {cap : Nat} (hx : a.eval x = .slice ad ys.length cap) (hr : Row W ad ys cap) (hl : zs.length + ys.length < 1000000) (hbase : B ≤ W.heap.size)
    (h : ∀ a' cap' W', Own W' B (.slice a' (zs.length + ys.length) cap') (zs ++ ys) → Below B W W' → wpList Try.prog ops Q rest (a.put o.dst (.slice a' (zs.length + ys.length) cap')) W') : wpList Try.prog ops Q (o :: rest) a W :=
  wpList_plain hgd fun _ hK => wp_appAny s x ho hs hown hx hr hl hbase fun a' c' W' h1 h2 => hK _ _ (h a' c' W' h1 h2)
theorem own_empty (w : World) (B : Nat) (h : B ≤ w.heap.size) : Own (α := α) (w.alloc (.cells #[] (ty α))) B (.slice (some ⟨w.heap.size, 0, none⟩) 0 0) [] :=
  World.ownsRow_made (base := B) (e := ty α) (size := 1) w #[] 0 h (by unfold maxLen; omega) rfl
end Go.Proofs.Ytijkgplglfmfnaa.G

namespace Go.Proofs.Ytijkgplglfmfnaa.RF
open Go Go.RowKit Go.Shelf

theorem mask_u8 (x : Nat) (hx : x < 256) : bits BinOp.and IntKind.u8 (x : Int) 1 = ((x % 2 : Nat) : Int) := by
  have h : ∀ n : Fin 256, bits BinOp.and IntKind.u8 (n.val : Int) 1 = ((n.val % 2 : Nat) : Int) := by decide +kernel
  exact h ⟨x, hx⟩
theorem ret_int {k : IntKind} {a b : Int} (h : a = b) : Ending.returned (.int k a) = .returned (.int k b) := by rw [h]
theorem ret_pair {k l : IntKind} {a b c d : Int} (h : a = b) (g : c = d) : Ending.returned (.tuple #[.int k a, .int l c]) = .returned (.tuple #[.int k b, .int l d]) := by rw [h, g]
theorem invE_zero {a : Nat} (h : a ≠ 0) : FM.errZ a = 0 := by unfold FM.errZ; rw [if_neg h]
theorem xor_i64 (a b : Nat) (ha : a < 65536) (hb : b < 65536) : bits BinOp.xor IntKind.i64 (a : Int) (b : Int) = ((a ^^^ b : Nat) : Int) := by
  show IntKind.i64.wrap ((BitVec.ofInt 64 a ^^^ BitVec.ofInt 64 b).toNat : Int) = _
  rw [BitVec.toNat_xor, BitVec.ofInt_natCast, BitVec.ofInt_natCast, BitVec.toNat_ofNat, BitVec.toNat_ofNat, Nat.mod_eq_of_lt (by omega), Nat.mod_eq_of_lt (by omega)]
  have : a ^^^ b < 65536 := Nat.xor_lt_two_pow (n := 16) ha hb
  have e : IntKind.i64.wrap ((a ^^^ b : Nat) : Int) = (((a ^^^ b : Nat) : Int) + 9223372036854775808) % 18446744073709551616 - 9223372036854775808 := IntKind.wrap_i64 _
  rw [e]
  omega
theorem dbl_hi : ∀ x : Fin 256, 128 ≤ x.val → (x.val * 2) ^^^ 285 = FM.dbl x.val := by decide +kernel
theorem dbl_lo : ∀ x : Fin 256, x.val < 128 → x.val * 2 = FM.dbl x.val := by decide +kernel
theorem rmulTo_lt {a b : Nat} (ha : a < 256) : ∀ k, FM.rmulTo a b k < 256
  | 0 => by simp [FM.rmulTo]
  | k + 1 => FM.xor_lt (rmulTo_lt ha k) (FM.bitOf_lt (FM.dblN_lt ha k))
theorem rx_hi (a k : Nat) (ha : a < 256) (h : 256 ≤ (FM.dblN k a : Int) * 2) : bits BinOp.xor IntKind.i64 ((FM.dblN k a : Int) * 2) 285 = (FM.dblN (k + 1) a : Int) := by
  have hl := FM.dblN_lt ha k
  have := dbl_hi ⟨_, hl⟩ (by simp only; omega)
  have e := xor_i64 (FM.dblN k a * 2) 285 (by omega) (by decide)
  rw [show ((FM.dblN k a * 2 : Nat) : Int) = (FM.dblN k a : Int) * 2 by omega] at e
  simp only at this
  rw [this] at e
  exact e
theorem rx_lo (a k : Nat) (ha : a < 256) (h : (FM.dblN k a : Int) * 2 < 256) : (FM.dblN k a : Int) * 2 = (FM.dblN (k + 1) a : Int) := by
  have := dbl_lo ⟨_, FM.dblN_lt ha k⟩ (by simp only; omega)
  simp only at this
  show _ = (FM.dbl (FM.dblN k a) : Int)
  rw [← this]; omega
theorem rv_bit (b k : Nat) (hb : b < 256) : bits BinOp.and IntKind.u8 ((b : Int) / 2 ^ k) 1 = ((b / 2 ^ k % 2 : Nat) : Int) := by
  have hd : b / 2 ^ k ≤ b := Nat.div_le_self _ _
  rw [show (b : Int) / 2 ^ k = ((b / 2 ^ k : Nat) : Int) by rw [Int.natCast_ediv, Int.natCast_pow]; rfl, mask_u8 _ (by omega)]
theorem rv_one (a b k : Nat) (ha : a < 256) (h : b / 2 ^ k % 2 = 1) : bits BinOp.xor IntKind.i64 (FM.rmulTo a b k : Int) (FM.dblN k a : Int) = (FM.rmulTo a b (k + 1) : Int) := by
  have h1 := rmulTo_lt (b := b) ha k
  have h2 := FM.dblN_lt ha k
  rw [xor_i64 _ _ (by omega) (by omega)]
  have e : FM.bitOf b k (FM.dblN k a) = FM.dblN k a := by unfold FM.bitOf; rw [Nat.testBit_eq_decide_div_mod_eq, h]; simp
  show _ = ((FM.rmulTo a b k ^^^ FM.bitOf b k (FM.dblN k a) : Nat) : Int)
  rw [e]
theorem rv_zero (a b k : Nat) (h : b / 2 ^ k % 2 ≠ 1) : (FM.rmulTo a b k : Int) = (FM.rmulTo a b (k + 1) : Int) := by
  have e : FM.bitOf b k (FM.dblN k a) = 0 := by unfold FM.bitOf; rw [Nat.testBit_eq_decide_div_mod_eq]; simp [h]
  show _ = ((FM.rmulTo a b k ^^^ FM.bitOf b k (FM.dblN k a) : Nat) : Int)
  rw [e, Nat.xor_zero]
theorem npow_step (a k : Nat) (ha : a < 256) (h0 : a ≠ 0) : FM.mul (FM.pw a k) a = FM.pw a (k + 1) := by
  show FM.mul (FM.E (FM.lg a * k)) a = FM.E (FM.lg a * (k + 1))
  conv => lhs; arg 2; rw [← FM.E_lg ha h0]
  rw [FM.E_mul, Nat.mul_succ]
theorem pw_zero (a : Nat) : FM.pw a 0 = 1 := rfl
theorem dblN_zero (a : Nat) : FM.dblN 0 a = a := rfl
theorem rmulTo_zero (a b : Nat) : FM.rmulTo a b 0 = 0 := rfl
attribute [local irreducible] FM.mul FM.pw FM.dblN FM.rmulTo FM.E FM.lg
set_option maxRecDepth 100000 in
theorem rmul_any (a b : Nat) (ha : a < 256) (hb : b < 256) (w : World) :
    Calls Try.prog 22 #[.int .u8 (a : Int), .int .u8 (b : Int)] w fun e w' => e = .returned (.int .u8 (FM.mul a b : Int)) ∧ w = w' := by
  have hl8 := FM.mul_lt (b := b) ha
  obtain ⟨R, hR⟩ : ∃ R, R = FM.mul a b := ⟨_, rfl⟩
  rw [← hR] at hl8 ⊢
  rw [← FM.rmul_eq ha hb] at hR
  have HR := Lib.hid hR
  clear hR
  go_enter Try.func22, Try.ntmps22
  go_wp2_with fail
  go_loop [5, 6, 7] (fun v x i => ∃ k : Nat, k ≤ 8 ∧ i = .int .i64 (k : Int) ∧ x = .int .i64 (FM.dblN k a : Int) ∧ v = .int .i64 (FM.rmulTo a b k : Int)) (fun _ _ i => 8 - (intOf i).toNat)
  case atStart => exact ⟨0, Nat.zero_le _, rfl, by rw [dblN_zero], by rw [rmulTo_zero]; rfl⟩
  case round =>
    obtain ⟨k, hk, rfl, rfl, rfl⟩ := hrel
    have hl := FM.dblN_lt ha k
    by_cases hlt : k < 8
    · have hbit := rv_bit b k hb
      by_cases h1 : b / 2 ^ k % 2 = 1
      · have HV := Lib.hid (rv_one a b k ha h1)
        have ht : (bits BinOp.and IntKind.u8 ((b : Int) / 2 ^ k) 1 == 1) = true := by rw [hbit, h1]; rfl
        clear hbit h1
        go_wp2_with fail
        · have HX := rx_hi a k ha (by assumption)
          go_round
          case rel => exact ⟨k + 1, by omega, by go_num, by rw [HX], by rw [HV.out]⟩
          case measure => simp [intOf]; omega
        · have HX := rx_lo a k ha (by assumption)
          go_round
          case rel => exact ⟨k + 1, by omega, by go_num, by rw [HX], by rw [HV.out]⟩
          case measure => simp [intOf]; omega
      · have HV := Lib.hid (rv_zero a b k h1)
        have ht : (bits BinOp.and IntKind.u8 ((b : Int) / 2 ^ k) 1 == 1) = false := by
          rw [hbit]
          have : b / 2 ^ k % 2 = 0 := by omega
          rw [this]; rfl
        clear hbit h1
        go_wp2_with fail
        · have HX := rx_hi a k ha (by assumption)
          go_round
          case rel => exact ⟨k + 1, by omega, by go_num, by rw [HX], by rw [← HV.out]⟩
          case measure => simp [intOf]; omega
        · have HX := rx_lo a k ha (by assumption)
          go_round
          case rel => exact ⟨k + 1, by omega, by go_num, by rw [HX], by rw [← HV.out]⟩
          case measure => simp [intOf]; omega
    · obtain rfl : k = 8 := by omega
      go_wp2_with fail
      go_ret
      rw [HR.out]
      rw [HR.out] at hl8
      exact ⟨ret_int (by omega), rfl⟩

set_option maxRecDepth 100000 in
theorem rinverse_any (a : Nat) (ha : a < 256) (w : World) :
    Calls Try.prog 51 #[.int .u8 (a : Int)] w fun e w' => e = .returned (.tuple #[.int .u8 (FM.invV a : Int), .int .i64 (FM.errZ a)]) ∧ w = w' := by
  by_cases h0 : a = 0
  · subst h0
    go_enter Try.func51, Try.ntmps51
    go_wp2
    go_ret2
    exact ⟨rfl, rfl⟩
  · have ht : ((a : Int) == 0) = false := by simp; omega
    have hi : FM.invV a = FM.pw a 254 := by unfold FM.invV; rw [if_neg h0]
    obtain ⟨R, hR⟩ : ∃ R, R = FM.pw a 254 := ⟨_, rfl⟩
    rw [hi, invE_zero h0, ← hR]
    have HR := Lib.hid hR
    clear hi hR
    go_enter Try.func51, Try.ntmps51
    go_wp2_with fail
    go_loop [4, 5] (fun v i => ∃ k : Nat, k ≤ 254 ∧ i = .int .i64 (k : Int) ∧ v = .int .u8 (FM.pw a k : Int)) (fun _ i => 254 - (intOf i).toNat)
    case atStart => exact ⟨0, Nat.zero_le _, rfl, by rw [pw_zero]; rfl⟩
    case round =>
      obtain ⟨k, hk, rfl, rfl⟩ := hrel
      have hl := FM.pw_lt a k
      have HS := Lib.hid (npow_step a k ha h0)
      by_cases hlt : k < 254
      · go_wp2_with (go_at_call 22; refine (rmul_any _ _ hl ha _).mono ?_; rintro e w1 ⟨rfl, rfl⟩)
        go_round
        case rel => exact ⟨k + 1, by omega, by go_num, by rw [HS.out]⟩
        case measure => simp [intOf]; omega
      · obtain rfl : k = 254 := by omega
        go_wp2_with fail
        go_ret2
        rw [HR.out]
        exact ⟨rfl, rfl⟩
theorem pw_split (a n k : Nat) (ha : a < 256) (h0 : a ≠ 0) (h : k < n) : FM.mul (FM.pw a (n - (k + 1))) a = FM.pw a (n - k) := by
  rw [npow_step a _ ha h0, show n - (k + 1) + 1 = n - k by omega]
theorem powV_zero (n : Int) : FM.powV 0 n = if n = 0 then 1 else 0 := by unfold FM.powV; rw [if_pos rfl]
theorem powE_zero (n : Int) : FM.powE 0 n = if n < 0 then 4 else 0 := by unfold FM.powE; rw [if_pos rfl]
theorem tmod_cyc (n : Int) (h : ¬ n.tmod 255 < 0) : n.tmod 255 = (FM.cyc n : Int) := by
  rw [FM.cyc_int]
  rcases Int.le_total 0 n with hn | hn
  · rw [Int.tmod_eq_emod_of_nonneg hn]
  · have := Int.neg_tmod (a := -n) (b := 255)
    rw [Int.neg_neg, Int.tmod_eq_emod_of_nonneg (by omega : 0 ≤ -n)] at this
    omega
theorem tmod_cyc' (n : Int) (h : n.tmod 255 < 0) : n.tmod 255 + 255 = (FM.cyc n : Int) ∧ -255 < n.tmod 255 := by
  rw [FM.cyc_int]
  rcases Int.le_total 0 n with hn | hn
  · rw [Int.tmod_eq_emod_of_nonneg hn] at h; omega
  · have := Int.neg_tmod (a := -n) (b := 255)
    rw [Int.neg_neg, Int.tmod_eq_emod_of_nonneg (by omega : 0 ≤ -n)] at this
    omega
set_option maxRecDepth 100000 in
theorem rpow_any (a : Nat) (n : Int) (ha : a < 256) (w : World) :
    Calls Try.prog 50 #[.int .u8 (a : Int), .int .i64 n] w fun e w' => e = .returned (.tuple #[.int .u8 (FM.powV a n : Int), .int .i64 (FM.powE a n)]) ∧ w = w' := by
  by_cases h0 : a = 0
  · subst h0
    rw [powV_zero, powE_zero]
    by_cases hn : n < 0
    · rw [if_neg (by omega), if_pos hn]
      go_enter Try.func50, Try.ntmps50
      go_wp2
      go_ret2
      exact ⟨rfl, rfl⟩
    · rw [if_neg hn]
      by_cases hz : n = 0
      · subst hz
        go_enter Try.func50, Try.ntmps50
        go_wp2
        go_ret2
        exact ⟨rfl, rfl⟩
      · rw [if_neg hz]
        have ht : (n == 0) = false := by simpa using hz
        go_enter Try.func50, Try.ntmps50
        go_wp2
        go_ret2
        exact ⟨rfl, rfl⟩
  · have ht : ((a : Int) == 0) = false := by simp; omega
    have hv : FM.powV a n = FM.pw a (FM.cyc n) := by unfold FM.powV; rw [if_neg h0]
    have he : FM.powE a n = 0 := by unfold FM.powE; rw [if_neg h0]
    rw [hv, he]
    clear hv he
    have hc := FM.cyc_lt n
    have h0' := Lib.hid h0
    clear h0
    by_cases hs : n.tmod 255 < 0
    · have hT := (tmod_cyc' n hs).1
      have hb := (tmod_cyc' n hs).2
      generalize FM.cyc n = c at hT hc ⊢
      have HT := Lib.hid hT
      clear hT
      go_enter Try.func50, Try.ntmps50
      go_wp2_with fail
      rw [HT.out]
      go_loop [1, 6] (fun n v => ∃ k : Nat, k ≤ c ∧ n = .int .i64 (k : Int) ∧ v = .int .u8 (FM.pw a (c - k) : Int)) (fun n _ => (intOf n).toNat)
      case atStart => exact ⟨c, Nat.le_refl _, rfl, by rw [Nat.sub_self, pw_zero]; rfl⟩
      case round =>
        obtain ⟨k, hk, rfl, rfl⟩ := hrel
        have hl := FM.pw_lt a (c - k)
        rcases Nat.eq_zero_or_pos k with hz | hz
        · subst hz
          go_wp2_with fail
          go_ret2
          exact ⟨rfl, rfl⟩
        · obtain ⟨j, rfl⟩ : ∃ j, k = j + 1 := ⟨k - 1, by omega⟩
          have HS := Lib.hid (pw_split a c j ha h0'.out (by omega))
          go_wp2_with (go_at_call 22; refine (rmul_any _ _ hl ha _).mono ?_; rintro e w1 ⟨rfl, rfl⟩)
          go_round
          case rel => exact ⟨j, by omega, by go_num, by rw [HS.out]⟩
          case measure => simp [intOf]
    · have hT := tmod_cyc n hs
      generalize FM.cyc n = c at hT hc ⊢
      have HT := Lib.hid hT
      clear hT
      have hs' : 0 ≤ n.tmod 255 := by omega
      go_enter Try.func50, Try.ntmps50
      go_wp2_with fail
      rw [HT.out]
      go_loop [1, 6] (fun n v => ∃ k : Nat, k ≤ c ∧ n = .int .i64 (k : Int) ∧ v = .int .u8 (FM.pw a (c - k) : Int)) (fun n _ => (intOf n).toNat)
      case atStart => exact ⟨c, Nat.le_refl _, rfl, by rw [Nat.sub_self, pw_zero]; rfl⟩
      case round =>
        obtain ⟨k, hk, rfl, rfl⟩ := hrel
        have hl := FM.pw_lt a (c - k)
        rcases Nat.eq_zero_or_pos k with hz | hz
        · subst hz
          go_wp2_with fail
          go_ret2
          exact ⟨rfl, rfl⟩
        · obtain ⟨j, rfl⟩ : ∃ j, k = j + 1 := ⟨k - 1, by omega⟩
          have HS := Lib.hid (pw_split a c j ha h0'.out (by omega))
          go_wp2_with (go_at_call 22; refine (rmul_any _ _ hl ha _).mono ?_; rintro e w1 ⟨rfl, rfl⟩)
          go_round
          case rel => exact ⟨j, by omega, by go_num, by rw [HS.out]⟩
          case measure => simp [intOf]
theorem powV_two (n : Int) : FM.powV 2 n = FM.E (FM.cyc n) := by
  unfold FM.powV
  rw [if_neg (by decide)]
  show FM.pw 2 _ = _
  unfold FM.pw
  rw [FM.lg_two, Nat.one_mul]
theorem rexp_any (n : Int) (w : World) :
    Calls Try.prog 27 #[.int .i64 n] w fun e w' => e = .returned (.int .u8 (FM.E (FM.cyc n) : Int)) ∧ w = w' := by
  have hp := rpow_any 2 n (by decide)
  rw [powV_two] at hp
  have HP := Lib.hid hp
  clear hp
  go_enter Try.func27, Try.ntmps27
  go_wp2_with (go_at_call 50; refine (HP.out _).mono ?_; rintro e w1 ⟨rfl, rfl⟩)
  go_ret
  exact ⟨rfl, rfl⟩

end Go.Proofs.Ytijkgplglfmfnaa.RF

namespace Go.Proofs.Ytijkgplglfmfnaa.SM
open PM (G)

def pw (x : G) : Nat → G
  | 0 => G.one
  | n + 1 => pw x n * x
theorem pw_0 (x : G) : pw x 0 = G.one := rfl
theorem pw_succ (x : G) (n : Nat) : pw x (n + 1) = pw x n * x := rfl
theorem pw_add (x : G) (m : Nat) : ∀ n, pw x (m + n) = pw x m * pw x n
  | 0 => by rw [pw_0, G.mul_one]; rfl
  | n + 1 => by rw [show m + (n + 1) = (m + n) + 1 from rfl, pw_succ, pw_succ, pw_add x m n, G.mul_assoc]
theorem pw_ne {x : G} (h : x ≠ 0) : ∀ n, pw x n ≠ 0
  | 0 => G.one_ne
  | n + 1 => G.mul_ne (pw_ne h n) h

/-- The sum over a list of places. -/
def lsum {α : Type} : List α → (α → G) → G
  | [], _ => 0
  | i :: S, f => f i + lsum S f
section
variable {α : Type}
theorem lsum_nil (f : α → G) : lsum [] f = 0 := rfl
theorem lsum_cons (i : α) (S : List α) (f : α → G) : lsum (i :: S) f = f i + lsum S f := rfl
theorem lsum_ext {f g : α → G} : ∀ {S : List α}, (∀ i ∈ S, f i = g i) → lsum S f = lsum S g
  | [], _ => rfl
  | i :: S, h => by rw [lsum_cons, lsum_cons, h i List.mem_cons_self, lsum_ext (fun k hk => h k (List.mem_cons_of_mem _ hk))]
theorem lsum_add (f g : α → G) : ∀ S : List α, lsum S (fun i => f i + g i) = lsum S f + lsum S g
  | [] => by rw [lsum_nil, lsum_nil, lsum_nil, G.add_zero]
  | i :: S => by rw [lsum_cons, lsum_cons, lsum_cons, lsum_add f g S, G.add4]
theorem lsum_smul (c : G) (f : α → G) : ∀ S : List α, lsum S (fun i => c * f i) = c * lsum S f
  | [] => by rw [lsum_nil, lsum_nil, G.mul_zero]
  | i :: S => by rw [lsum_cons, lsum_cons, lsum_smul c f S, G.mul_add]
theorem lsum_zero {f : α → G} : ∀ {S : List α}, (∀ i ∈ S, f i = 0) → lsum S f = 0
  | [], _ => rfl
  | i :: S, h => by rw [lsum_cons, h i List.mem_cons_self, lsum_zero (fun k hk => h k (List.mem_cons_of_mem _ hk)), G.add_zero]
theorem lsum_append (f : α → G) : ∀ S T : List α, lsum (S ++ T) f = lsum S f + lsum T f
  | [], T => by rw [lsum_nil, G.zero_add]; rfl
  | i :: S, T => by rw [List.cons_append, lsum_cons, lsum_cons, lsum_append f S T, G.add_assoc]
theorem lsum_filter (f : α → G) (p : α → Bool) (h : ∀ i, p i = false → f i = 0) : ∀ S : List α, lsum (S.filter p) f = lsum S f
  | [] => rfl
  | i :: S => by
    cases hp : p i with
    | true => rw [List.filter_cons_of_pos hp, lsum_cons, lsum_cons, lsum_filter f p h S]
    | false => rw [List.filter_cons_of_neg (by rw [hp]; decide), lsum_cons, h i hp, G.zero_add, lsum_filter f p h S]

/-- **Vandermonde**: amounts at different places whose first power sums vanish, as many as there are places, are all 0. -/
theorem van (X : α → G) : ∀ (S : List α) (e : α → G), S.Pairwise (fun i k => X i ≠ X k) → (∀ j, j < S.length → lsum S (fun i => e i * pw (X i) j) = 0) → ∀ i ∈ S, e i = 0
  | [], _, _, _ => fun i hi => absurd hi (List.not_mem_nil)
  | i0 :: S, e, hX, hs => by
    rw [List.pairwise_cons] at hX
    have step : ∀ j, j < S.length → lsum S (fun i => (e i * (X i + X i0)) * pw (X i) j) = 0 := fun j hj => by
      have h1 := hs (j + 1) (by rw [List.length_cons]; omega)
      have h0 := hs j (by rw [List.length_cons]; omega)
      have hc : lsum (i0 :: S) (fun i => (e i * (X i + X i0)) * pw (X i) j) = 0 := by
        rw [lsum_ext (g := fun i => e i * pw (X i) (j + 1) + X i0 * (e i * pw (X i) j)) (fun i _ => by
          rw [pw_succ, G.mul_add, G.add_mul, G.mul_assoc, G.mul_assoc, G.mul_comm (X i) (pw (X i) j), G.mul_left_comm (X i0), G.mul_comm (X i0) (pw (X i) j)])]
        rw [lsum_add, lsum_smul, h1, h0, G.mul_zero, G.add_zero]
      rw [lsum_cons, G.add_self, G.mul_zero, G.zero_mul, G.zero_add] at hc
      exact hc
    have hrest : ∀ i ∈ S, e i = 0 := fun i hi => by
      have := van X S (fun i => e i * (X i + X i0)) hX.2 step i hi
      rcases G.mul_eq_zero.1 this with h | h
      · exact h
      · exact absurd (G.add_eq_zero.1 h).symm (hX.1 i hi)
    intro i hi
    rcases List.mem_cons.1 hi with rfl | h
    · have h0 := hs 0 (by rw [List.length_cons]; omega)
      rw [lsum_cons, pw_0, G.mul_one, lsum_zero (fun k hk => by rw [hrest k hk, G.zero_mul]), G.add_zero] at h0
      exact h0
    · exact hrest i h
end

/-- The syndrome j of the amounts d at the places 0 .. n - 1, whose elements are X. -/
def syn (n : Nat) (X : Nat → G) (d : Nat → G) (j : Nat) : G := lsum (List.range n) (fun i => d i * pw (X i) j)
theorem syn_add (n : Nat) (X d d' : Nat → G) (j : Nat) : syn n X (fun i => d i + d' i) j = syn n X d j + syn n X d' j := by
  unfold syn
  rw [← lsum_add]
  exact lsum_ext (fun i _ => G.add_mul _ _ _)
theorem syn_smul (n : Nat) (X d : Nat → G) (c : G) (j : Nat) : syn n X (fun i => c * d i) j = c * syn n X d j := by
  unfold syn
  rw [← lsum_smul]
  exact lsum_ext (fun i _ => G.mul_assoc _ _ _)
/-- The places below n where d is not 0. -/
def supp (n : Nat) (d : Nat → G) : List Nat := (List.range n).filter (fun i => decide (d i ≠ 0))
theorem mem_supp {n : Nat} {d : Nat → G} {i : Nat} : i ∈ supp n d ↔ i < n ∧ d i ≠ 0 := by
  unfold supp
  rw [List.mem_filter, List.mem_range, decide_eq_true_iff]
theorem supp_nodup (n : Nat) (d : Nat → G) : (supp n d).Nodup := List.Pairwise.filter _ List.nodup_range
theorem syn_supp (n : Nat) (X d : Nat → G) (j : Nat) : syn n X d j = lsum (supp n d) (fun i => d i * pw (X i) j) := by
  unfold syn supp
  rw [lsum_filter]
  intro i hi
  have : d i = 0 := by
    by_cases h : d i = 0
    · exact h
    · rw [decide_eq_true h] at hi; cases hi
  rw [this, G.zero_mul]
/-- Different places have different elements. -/
def Inj (n : Nat) (X : Nat → G) : Prop := ∀ i, i < n → ∀ k, k < n → X i = X k → i = k
theorem pair_of {n : Nat} {X : Nat → G} (hX : Inj n X) {S : List Nat} (hS : S.Nodup) (hn : ∀ i ∈ S, i < n) : S.Pairwise (fun i k => X i ≠ X k) := by
  refine List.Pairwise.imp_of_mem ?_ hS
  intro i k hi hk hne e
  exact hne (hX i (hn i hi) k (hn k hk) e)
/-- A code word that is not 0 has more than m places that are not. -/
theorem mds {n m : Nat} {X d : Nat → G} (hX : Inj n X) (h : ∀ j, j < m → syn n X d j = 0) (hs : (supp n d).length ≤ m) : ∀ i, i < n → d i = 0 := by
  have hv := van X (supp n d) d (pair_of hX (supp_nodup n d) (fun i hi => (mem_supp.1 hi).1)) (fun j hj => by rw [← syn_supp]; exact h j (by omega))
  intro i hi
  by_cases h0 : d i = 0
  · exact h0
  · exact hv i (mem_supp.2 ⟨hi, h0⟩)
/-- What lies within a list has at most as many places. -/
theorem supp_le {n : Nat} {d : Nat → G} {S : List Nat} (h : ∀ i, i < n → d i ≠ 0 → i ∈ S) : (supp n d).length ≤ S.length := by
  have : ∀ (A B : List Nat), A.Nodup → (∀ i ∈ A, i ∈ B) → A.length ≤ B.length := by
    intro A
    induction A with
    | nil => intro B _ _; exact Nat.zero_le _
    | cons a A ih =>
      intro B hA hB
      rw [List.nodup_cons] at hA
      have ha := hB a List.mem_cons_self
      have h2 := ih (B.erase a) hA.2 (fun i hi => (List.mem_erase_of_ne (by rintro rfl; exact hA.1 hi)).2 (hB i (List.mem_cons_of_mem _ hi)))
      rw [List.length_erase_of_mem ha] at h2
      have := List.length_pos_of_mem ha
      rw [List.length_cons]
      omega
  exact this _ _ (supp_nodup n d) (fun i hi => h i (mem_supp.1 hi).1 (mem_supp.1 hi).2)
/-- **There is at most one code word so near**: two that differ from w at places of E and at few others are equal. -/
theorem near_one {n m : Nat} {X c c' w : Nat → G} {E O O' : List Nat} (hX : Inj n X) (h : ∀ j, j < m → syn n X c j = 0) (h' : ∀ j, j < m → syn n X c' j = 0)
    (hO : ∀ i, i < n → c i ≠ w i → i ∈ E ∨ i ∈ O) (hO' : ∀ i, i < n → c' i ≠ w i → i ∈ E ∨ i ∈ O') (hm : E.length + O.length + O'.length ≤ m) : ∀ i, i < n → c i = c' i := by
  have hd := mds (d := fun i => c i + c' i) hX (fun j hj => by rw [syn_add, h j hj, h' j hj, G.add_zero]) (Nat.le_trans (supp_le (S := E ++ (O ++ O')) (fun i hi hne => by
    by_cases e1 : c i = w i
    · have e2 : c' i ≠ w i := fun e2 => hne (by show c i + c' i = 0; rw [e1, e2, G.add_self])
      rcases hO' i hi e2 with h1 | h1
      · exact List.mem_append_left _ h1
      · exact List.mem_append_right _ (List.mem_append_right _ h1)
    · rcases hO i hi e1 with h1 | h1
      · exact List.mem_append_left _ h1
      · exact List.mem_append_right _ (List.mem_append_left _ h1))) (by rw [List.length_append, List.length_append]; omega))
  intro i hi
  exact G.add_eq_zero.1 (hd i hi)

/-- The erased place with the element y is taken out of the sequence. -/
def out (y : G) (u : Nat → G) (j : Nat) : G := u (j + 1) + y * u j
theorem out_lsum {α : Type} (X a : α → G) (y : G) (S : List α) (j : Nat) : out y (fun j => lsum S (fun i => a i * pw (X i) j)) j = lsum S (fun i => (a i * (X i + y)) * pw (X i) j) := by
  unfold out
  rw [← lsum_smul, ← lsum_add]
  exact lsum_ext (fun i _ => by
    rw [pw_succ, G.mul_add, G.add_mul, G.mul_assoc, G.mul_assoc, G.mul_comm (X i) (pw (X i) j), G.mul_left_comm y, G.mul_comm y (pw (X i) j)])
/-- The monic polynomial x^v + l_(v-1) x^(v-1) + .. + l_0 at x. -/
def loc (l : Nat → G) (v : Nat) (x : G) : G := pw x v + lsum (List.range v) (fun k => l k * pw x k)
/-- The equations of the sequence u for the locator l. -/
def Eqs (L v : Nat) (u l : Nat → G) : Prop := ∀ i, i + v < L → lsum (List.range v) (fun k => l k * u (i + k)) = u (i + v)
theorem lsum_swap {α β : Type} (f : α → β → G) : ∀ (S : List α) (T : List β), lsum S (fun i => lsum T (fun k => f i k)) = lsum T (fun k => lsum S (fun i => f i k))
  | [], T => by rw [lsum_nil]; exact (lsum_zero (fun k _ => lsum_nil _)).symm
  | i :: S, T => by
    rw [lsum_cons, lsum_swap f S T, ← lsum_add]
    exact lsum_ext (fun k _ => (lsum_cons i S (fun i => f i k)).symm)
/-- What the equations say of a sum of powers. -/
theorem eqs_pow {α : Type} (X a : α → G) (S : List α) (l : Nat → G) (v i : Nat) :
    lsum (List.range v) (fun k => l k * lsum S (fun o => a o * pw (X o) (i + k))) + lsum S (fun o => a o * pw (X o) (i + v)) = lsum S (fun o => (a o * loc l v (X o)) * pw (X o) i) := by
  have h1 : lsum (List.range v) (fun k => l k * lsum S (fun o => a o * pw (X o) (i + k))) = lsum S (fun o => lsum (List.range v) (fun k => l k * (a o * pw (X o) (i + k)))) := by
    rw [← lsum_swap]
    exact lsum_ext (fun k _ => (lsum_smul _ _ _).symm)
  rw [h1, ← lsum_add]
  refine lsum_ext (fun o _ => ?_)
  unfold loc
  rw [G.mul_add, G.add_mul, G.add_comm, pw_add, G.mul_assoc, G.mul_comm (pw (X o) v)]
  congr 1
  rw [G.mul_assoc, G.mul_comm _ (pw (X o) i), ← lsum_smul, ← lsum_smul]
  exact lsum_ext (fun k _ => by
    rw [pw_add, G.mul_left_comm (l k), G.mul_left_comm (l k)])
/-- **The locator vanishes at the wrong places**: u is the sum of powers of the places S, none of whose amounts is 0, and has at least twice as many elements. -/
theorem loc_zero {α : Type} {X a : α → G} {S : List α} {l u : Nat → G} {L : Nat} (hX : S.Pairwise (fun i k => X i ≠ X k)) (ha : ∀ o ∈ S, a o ≠ 0) (hu : ∀ j, j < L → u j = lsum S (fun o => a o * pw (X o) j))
    {v : Nat} (hL : S.length + v ≤ L) (he : Eqs L v u l) : ∀ o ∈ S, loc l v (X o) = 0 := by
  have hz := van X S (fun o => a o * loc l v (X o)) hX (fun i hi => by
    rw [← eqs_pow]
    have h1 := he i (by omega)
    rw [hu (i + v) (by omega)] at h1
    rw [lsum_ext (g := fun k => l k * u (i + k)) (fun k hk => by rw [hu (i + k) (by rw [List.mem_range] at hk; omega)]), h1, G.add_self])
  intro o ho
  rcases G.mul_eq_zero.1 (hz o ho) with h | h
  · exact absurd h (ha o ho)
  · exact h
/-- .. and if it vanishes there, it obeys the equations. -/
theorem eqs_of_zero {α : Type} {X a : α → G} {S : List α} {l u : Nat → G} {L v : Nat} (hu : ∀ j, j < L → u j = lsum S (fun o => a o * pw (X o) j)) (hz : ∀ o ∈ S, loc l v (X o) = 0) : Eqs L v u l := by
  intro i hi
  have h := eqs_pow X a S l v i
  rw [lsum_zero (f := fun o => (a o * loc l v (X o)) * pw (X o) i) (fun o ho => by rw [hz o ho, G.mul_zero, G.zero_mul])] at h
  rw [lsum_ext (g := fun k => l k * lsum S (fun o => a o * pw (X o) (i + k))) (fun k hk => by rw [hu (i + k) (by rw [List.mem_range] at hk; omega)]), hu (i + v) hi]
  exact G.add_eq_zero.1 h

theorem range_succ_sum (f : Nat → G) (n : Nat) : lsum (List.range (n + 1)) f = lsum (List.range n) f + f n := by
  rw [List.range_succ, lsum_append, lsum_cons, lsum_nil, G.add_zero]
theorem range_shift (f : Nat → G) : ∀ n, lsum (List.range (n + 1)) f = f 0 + lsum (List.range n) (fun k => f (k + 1))
  | 0 => by rw [range_succ_sum]; rw [show List.range 0 = [] from rfl, lsum_nil, lsum_nil, G.zero_add, G.add_zero]
  | n + 1 => by rw [range_succ_sum, range_shift f n, range_succ_sum (fun k => f (k + 1)) n, G.add_assoc]
/-- The values of coefficients, by poly's evn. -/
theorem evn_sum (x : G) : ∀ (n : Nat) (f : PM.Co), PM.evn n f x = lsum (List.range n) (fun k => f k * pw x k)
  | 0, f => by rw [PM.evn]; rfl
  | n + 1, f => by
    rw [PM.evn_succ, evn_sum x n, range_shift, pw_0, G.mul_one, ← lsum_smul]
    congr 1
    exact lsum_ext (fun k _ => by
      show x * (f (k + 1) * pw x k) = f (k + 1) * (pw x k * x)
      rw [G.mul_left_comm, G.mul_comm x])
/-- Coefficients below n that vanish at n different elements are 0. -/
theorem few_roots {n : Nat} {d : Nat → G} {xs : List G} (hx : xs.Nodup) (hn : n ≤ xs.length) (hz : ∀ x ∈ xs, lsum (List.range n) (fun k => d k * pw x k) = 0) : ∀ k, k < n → d k = 0 := by
  have hv : PM.Van (fun k => if k < n then d k else 0) n := fun k hk => if_neg (by omega)
  rcases PM.top_or _ n hv with h | ⟨m, hm, hmv⟩
  · intro k hk
    have := congrFun h k
    rw [if_pos hk] at this
    exact this
  · exfalso
    have hmn : m < n := by
      by_cases h : m < n
      · exact h
      · exact absurd (hv m (by omega)) hm
    have := PM.roots_le m _ hmv hm xs hx (fun x hxm => by
      rw [← PM.evn_van x (m + 1) n _ hmv (by omega), evn_sum, lsum_ext (g := fun k => d k * pw x k) (fun k hk => by rw [List.mem_range] at hk; rw [if_pos hk])]
      exact hz x hxm)
    omega
/-- The locator of degree v has at most v roots. -/
theorem loc_few {l : Nat → G} {v : Nat} {xs : List G} (hx : xs.Nodup) (hz : ∀ x ∈ xs, loc l v x = 0) : xs.length ≤ v := by
  rcases Nat.lt_or_ge v xs.length with h | h
  · exfalso
    have := few_roots (n := v + 1) (d := fun k => if k < v then l k else G.one) hx h (fun x hxm => by
      rw [range_succ_sum, lsum_ext (g := fun k => l k * pw x k) (fun k hk => by rw [List.mem_range] at hk; rw [if_pos hk])]
      rw [show (if v < v then l v else G.one) = G.one from if_neg (Nat.lt_irrefl v), G.one_mul, G.add_comm]
      exact hz x hxm) v (Nat.lt_succ_self v)
    rw [show (if v < v then l v else G.one) = G.one from if_neg (Nat.lt_irrefl v)] at this
    exact G.one_ne this
  · exact h
/-- There is one locator of degree v for v elements. -/
theorem loc_one {l l' : Nat → G} {v : Nat} {xs : List G} (hx : xs.Nodup) (hv : v ≤ xs.length) (hz : ∀ x ∈ xs, loc l v x = 0) (hz' : ∀ x ∈ xs, loc l' v x = 0) : ∀ k, k < v → l k = l' k := by
  have := few_roots (n := v) (d := fun k => l k + l' k) hx hv (fun x hxm => by
    have h1 := hz x hxm
    have h2 := hz' x hxm
    unfold loc at h1 h2
    rw [lsum_ext (g := fun k => l k * pw x k + l' k * pw x k) (fun k _ => G.add_mul _ _ _), lsum_add]
    rw [← G.add_eq_zero.1 h1, ← G.add_eq_zero.1 h2, G.add_self])
  intro k hk
  exact G.add_eq_zero.1 (this k hk)
/-- The locator of some elements: the product of x + y. -/
def locOf : List G → Nat → G
  | [], _ => 0
  | y :: ys, k => (if k = 0 then 0 else if k - 1 < ys.length then locOf ys (k - 1) else if k - 1 = ys.length then G.one else 0) + y * (if k < ys.length then locOf ys k else if k = ys.length then G.one else 0)
/-- All coefficients, the highest one too. -/
def full (l : Nat → G) (v k : Nat) : G := if k < v then l k else if k = v then G.one else 0
theorem loc_full (l : Nat → G) (v : Nat) (x : G) : loc l v x = lsum (List.range (v + 1)) (fun k => full l v k * pw x k) := by
  rw [range_succ_sum, lsum_ext (g := fun k => l k * pw x k) (fun k hk => by rw [List.mem_range] at hk; unfold full; rw [if_pos hk])]
  unfold loc full
  rw [if_neg (Nat.lt_irrefl v), if_pos rfl, G.one_mul, G.add_comm]
theorem locOf_step (y : G) (ys : List G) (x : G) : loc (locOf (y :: ys)) (ys.length + 1) x = (x + y) * loc (locOf ys) ys.length x := by
  have e : ∀ k, k < ys.length + 2 → full (locOf (y :: ys)) (ys.length + 1) k = (if k = 0 then 0 else full (locOf ys) ys.length (k - 1)) + y * full (locOf ys) ys.length k := by
    intro k hk
    unfold full
    by_cases h : k < ys.length + 1
    · rw [if_pos h]; rfl
    · have hk2 : k = ys.length + 1 := by omega
      subst hk2
      rw [if_neg (by omega), if_pos rfl, if_neg (by omega), if_neg (by omega), if_pos (by omega), if_neg (by omega), if_neg (by omega), G.mul_zero, G.add_zero]
  rw [loc_full, loc_full, lsum_ext (g := fun k => (if k = 0 then 0 else full (locOf ys) ys.length (k - 1)) * pw x k + y * (full (locOf ys) ys.length k * pw x k)) (fun k hk => by
    rw [List.mem_range] at hk
    rw [e k (by omega), G.add_mul, G.mul_assoc])]
  rw [lsum_add, lsum_smul, G.add_mul]
  congr 1
  · rw [range_shift, if_pos rfl, G.zero_mul, G.zero_add, ← lsum_smul]
    exact lsum_ext (fun k _ => by
      rw [if_neg (by omega), Nat.add_sub_cancel, pw_succ, ← G.mul_assoc, G.mul_comm _ x])
  · congr 1
    rw [range_succ_sum, show full (locOf ys) ys.length (ys.length + 1) = 0 by unfold full; rw [if_neg (by omega), if_neg (by omega)], G.zero_mul, G.add_zero]
theorem locOf_zero : ∀ (ys : List G), ∀ x ∈ ys, loc (locOf ys) ys.length x = 0
  | [], _, h => absurd h List.not_mem_nil
  | y :: ys, x, h => by
    rw [List.length_cons, locOf_step]
    rcases List.mem_cons.1 h with rfl | h
    · rw [G.add_self, G.zero_mul]
    · rw [locOf_zero ys x h, G.mul_zero]
end Go.Proofs.Ytijkgplglfmfnaa.SM

namespace Go.Proofs.Ytijkgplglfmfnaa.SM
open PM (G)

/-- x solves the first R rows with U unknowns; the right sides stand in column U. -/
def Sol (R U : Nat) (M : Nat → Nat → G) (x : Nat → G) : Prop := ∀ r, r < R → lsum (List.range U) (fun c => M r c * x c) = M r U
/-- There is just one solution. -/
def One (R U : Nat) (M : Nat → Nat → G) (x : Nat → G) : Prop := Sol R U M x ∧ ∀ y, Sol R U M y → ∀ c, c < U → y c = x c
/-- Rows k and p change places. -/
def swapR (M : Nat → Nat → G) (k p : Nat) : Nat → Nat → G := fun r => if r = k then M p else if r = p then M k else M r
/-- Row k times f. -/
def scaleR (M : Nat → Nat → G) (k : Nat) (f : G) : Nat → Nat → G := fun r c => if r = k then M k c * f else M r c
/-- f times row k is added to row r0. -/
def addR (M : Nat → Nat → G) (k r0 : Nat) (f : G) : Nat → Nat → G := fun r c => if r = r0 then M r0 c + f * M k c else M r c

theorem rowsum_scale (U : Nat) (m x : Nat → G) (f : G) : lsum (List.range U) (fun c => (m c * f) * x c) = f * lsum (List.range U) (fun c => m c * x c) := by
  rw [← lsum_smul]
  exact lsum_ext (fun c _ => by rw [G.mul_comm (m c) f, G.mul_assoc])
theorem rowsum_add (U : Nat) (m m' x : Nat → G) (f : G) : lsum (List.range U) (fun c => (m c + f * m' c) * x c) = lsum (List.range U) (fun c => m c * x c) + f * lsum (List.range U) (fun c => m' c * x c) := by
  rw [← lsum_smul, ← lsum_add]
  exact lsum_ext (fun c _ => by rw [G.add_mul, G.mul_assoc])
theorem sol_swap {R U k p : Nat} {M : Nat → Nat → G} {x : Nat → G} (hk : k < R) (hp : p < R) : Sol R U (swapR M k p) x ↔ Sol R U M x := by
  have one : ∀ M : Nat → Nat → G, Sol R U M x → Sol R U (swapR M k p) x := fun M h r hr => by
    unfold swapR
    by_cases e : r = k
    · simp only [if_pos e]; exact h p hp
    · by_cases e2 : r = p
      · simp only [if_neg e, if_pos e2]; exact h k hk
      · simp only [if_neg e, if_neg e2]; exact h r hr
  refine ⟨fun h => ?_, one M⟩
  have h2 := one _ h
  have e : swapR (swapR M k p) k p = M := by
    funext r
    unfold swapR
    by_cases e : r = k
    · subst e
      rw [if_pos rfl]
      by_cases e2 : p = r
      · subst e2; rw [if_pos rfl]
      · rw [if_neg e2, if_pos rfl]
    · rw [if_neg e]
      by_cases e2 : r = p
      · subst e2; rw [if_pos rfl, if_pos rfl]
      · rw [if_neg e2, if_neg e, if_neg e2]
  rwa [e] at h2
theorem sol_scale {R U k : Nat} {M : Nat → Nat → G} {x : Nat → G} {f : G} (hk : k < R) (hf : f ≠ 0) : Sol R U (scaleR M k f) x ↔ Sol R U M x := by
  constructor
  · intro h r hr
    have := h r hr
    unfold scaleR at this
    by_cases e : r = k
    · subst e
      simp only [if_pos] at this
      rw [rowsum_scale, G.mul_comm (M r U)] at this
      have h2 : f.inv * (f * lsum (List.range U) (fun c => M r c * x c)) = f.inv * (f * M r U) := by rw [this]
      rwa [← G.mul_assoc, ← G.mul_assoc, G.mul_comm f.inv f, G.mul_inv hf, G.one_mul, G.one_mul] at h2
    · simp only [if_neg e] at this; exact this
  · intro h r hr
    unfold scaleR
    by_cases e : r = k
    · subst e
      simp only [if_pos]
      rw [rowsum_scale, h r hr, G.mul_comm]
    · simp only [if_neg e]; exact h r hr
theorem sol_add {R U k r0 : Nat} {M : Nat → Nat → G} {x : Nat → G} {f : G} (hk : k < R) (hne : r0 ≠ k) : Sol R U (addR M k r0 f) x ↔ Sol R U M x := by
  constructor
  · intro h r hr
    have := h r hr
    unfold addR at this
    by_cases e : r = r0
    · subst e
      simp only [if_pos] at this
      have h2 := h k hk
      unfold addR at h2
      simp only [if_neg (show ¬ k = r from fun e => hne e.symm)] at h2
      rw [rowsum_add, h2] at this
      have h3 : (lsum (List.range U) (fun c => M r c * x c) + f * M k U) + f * M k U = (M r U + f * M k U) + f * M k U := by rw [this]
      rwa [G.add_assoc, G.add_assoc, G.add_self, G.add_zero, G.add_zero] at h3
    · simp only [if_neg e] at this; exact this
  · intro h r hr
    unfold addR
    by_cases e : r = r0
    · subst e
      simp only [if_pos]
      rw [rowsum_add, h r hr, h k hk]
    · simp only [if_neg e]; exact h r hr
/-- The first k columns are those of the unit matrix. -/
def Unit (R k : Nat) (M : Nat → Nat → G) : Prop := ∀ r, r < R → ∀ c, c < k → M r c = if r = c then G.one else 0
/-- A column without a pivot: there is not just one solution. -/
theorem no_pivot {R U k : Nat} {M : Nat → Nat → G} (hU : Unit R k M) (hk : k < U) (h0 : ∀ r, k ≤ r → r < R → M r k = 0) (x : Nat → G) : ¬ One R U M x := by
  rintro ⟨hs, hone⟩
  have hz := hone (fun c => x c + (if c < k then M c k else if c = k then G.one else 0)) (fun r hr => by
    rw [lsum_ext (g := fun c => M r c * x c + M r c * (if c < k then M c k else if c = k then G.one else 0)) (fun c _ => G.mul_add _ _ _), lsum_add, hs r hr]
    suffices h : lsum (List.range U) (fun c => M r c * (if c < k then M c k else if c = k then G.one else 0)) = 0 by rw [h, G.add_zero]
    -- only the columns up to k count
    have hcut : ∀ n, k + 1 ≤ n → lsum (List.range n) (fun c => M r c * (if c < k then M c k else if c = k then G.one else 0)) = lsum (List.range (k + 1)) (fun c => M r c * (if c < k then M c k else if c = k then G.one else 0)) := by
      intro n
      induction n with
      | zero => intro h; omega
      | succ n ih =>
        intro h
        by_cases e : n + 1 = k + 1
        · rw [e]
        · rw [range_succ_sum, ih (by omega), if_neg (by omega), if_neg (by omega), G.mul_zero, G.add_zero]
    rw [hcut U hk, range_succ_sum, if_neg (Nat.lt_irrefl k), if_pos rfl, G.mul_one]
    have hlow : ∀ n, n ≤ k → lsum (List.range n) (fun c => M r c * (if c < k then M c k else if c = k then G.one else 0)) = if r < n then M r k else 0 := by
      intro n
      induction n with
      | zero => intro _; rw [if_neg (Nat.not_lt_zero r)]; rfl
      | succ n ih =>
        intro h
        rw [range_succ_sum, ih (by omega), if_pos (show n < k by omega), hU r hr n (by omega)]
        by_cases e : r = n
        · subst e; rw [if_neg (Nat.lt_irrefl r), if_pos rfl, if_pos (Nat.lt_succ_self r), G.one_mul, G.zero_add]
        · rw [if_neg e, G.zero_mul, G.add_zero]
          by_cases h2 : r < n
          · rw [if_pos h2, if_pos (by omega)]
          · rw [if_neg h2, if_neg (by omega)]
    rw [hlow k (Nat.le_refl k)]
    by_cases e : r < k
    · rw [if_pos e, G.add_self]
    · rw [if_neg e, G.zero_add]; exact h0 r (by omega) hr) k hk
  simp only [if_neg (Nat.lt_irrefl k), if_pos] at hz
  have h2 : x k + (x k + G.one) = 0 := by
    have : x k + G.one = x k := hz
    rw [this, G.add_self]
  rw [G.add_cancel] at h2
  exact G.one_ne h2
/-- All columns are cleared: the solution is the last column, if the other rows say 0 = 0. -/
theorem end_sum {R U : Nat} {M : Nat → Nat → G} (hU : Unit R U M) (x : Nat → G) (r : Nat) (hr : r < R) : lsum (List.range U) (fun c => M r c * x c) = if r < U then x r else 0 := by
  have : ∀ n, n ≤ U → lsum (List.range n) (fun c => M r c * x c) = if r < n then x r else 0 := by
    intro n
    induction n with
    | zero => intro _; rw [if_neg (Nat.not_lt_zero r)]; rfl
    | succ n ih =>
      intro h
      rw [range_succ_sum, ih (by omega), hU r hr n (by omega)]
      by_cases e : r = n
      · subst e; rw [if_neg (Nat.lt_irrefl r), if_pos rfl, if_pos (Nat.lt_succ_self r), G.one_mul, G.zero_add]
      · rw [if_neg e, G.zero_mul, G.add_zero]
        by_cases h2 : r < n
        · rw [if_pos h2, if_pos (by omega)]
        · rw [if_neg h2, if_neg (by omega)]
  exact this U (Nat.le_refl U)
theorem end_yes {R U : Nat} {M : Nat → Nat → G} (hU : Unit R U M) (hR : U ≤ R) (h0 : ∀ r, U ≤ r → r < R → M r U = 0) : One R U M (fun c => M c U) := by
  refine ⟨fun r hr => ?_, fun y hy c hc => ?_⟩
  · rw [end_sum hU _ r hr]
    by_cases h : r < U
    · rw [if_pos h]
    · rw [if_neg h]; exact (h0 r (by omega) hr).symm
  · have := hy c (by omega)
    rw [end_sum hU y c (by omega), if_pos hc] at this
    exact this
theorem end_no {R U r : Nat} {M : Nat → Nat → G} (hU : Unit R U M) (hr : U ≤ r) (hr2 : r < R) (h0 : M r U ≠ 0) (x : Nat → G) : ¬ Sol R U M x := by
  intro hs
  have := hs r hr2
  rw [end_sum hU x r hr2, if_neg (by omega)] at this
  exact h0 this.symm
theorem one_congr {R U : Nat} {M M' : Nat → Nat → G} (h : ∀ x, Sol R U M' x ↔ Sol R U M x) (x : Nat → G) : One R U M' x ↔ One R U M x :=
  ⟨fun ⟨h1, h2⟩ => ⟨(h x).1 h1, fun y hy => h2 y ((h y).2 hy)⟩, fun ⟨h1, h2⟩ => ⟨(h x).2 h1, fun y hy => h2 y ((h y).1 hy)⟩⟩
/-- Column k is cleared by the pivot row p. -/
def pivoted (M : Nat → Nat → G) (k p : Nat) : Nat → Nat → G := fun r c =>
  let S := swapR M k p
  let f := (S k k).inv
  if r = k then S k c * f else S r c + S r k * (S k c * f)
theorem pivot_unit {R k p : Nat} {M : Nat → Nat → G} (hU : Unit R k M) (hk : k ≤ p) (hp : p < R) (hne : M p k ≠ 0) : Unit R (k + 1) (pivoted M k p) := by
  have hkk : swapR M k p k = M p := by unfold swapR; rw [if_pos rfl]
  intro r hr c hc
  unfold pivoted
  simp only [hkk]
  by_cases e : r = k
  · subst e
    rw [if_pos rfl]
    by_cases hc2 : c = r
    · subst hc2; rw [if_pos rfl, G.mul_inv hne]
    · rw [if_neg (fun h => hc2 h.symm), hU p hp c (by omega), if_neg (by omega), G.zero_mul]
  · rw [if_neg e]
    by_cases hc2 : c = k
    · subst hc2
      rw [G.mul_inv hne, G.mul_one, G.add_self, if_neg e]
    · have hc3 : c < k := by omega
      rw [hU p hp c hc3, if_neg (show ¬ p = c by omega), G.zero_mul, G.mul_zero, G.add_zero]
      unfold swapR
      rw [if_neg e]
      by_cases e2 : r = p
      · subst e2
        rw [if_pos rfl, hU k (by omega) c hc3, if_neg (by omega), if_neg (by omega)]
      · rw [if_neg e2, hU r hr c hc3]
theorem pivot_sol {R U k p : Nat} {M : Nat → Nat → G} {x : Nat → G} (hk : k < R) (hp : p < R) (hne : M p k ≠ 0) : Sol R U (pivoted M k p) x ↔ Sol R U M x := by
  have hkk : swapR M k p k = M p := by unfold swapR; rw [if_pos rfl]
  rw [← sol_swap (M := M) hk hp, ← sol_scale (M := swapR M k p) (f := (M p k).inv) hk (G.inv_ne hne)]
  obtain ⟨S, hS⟩ : ∃ S, scaleR (swapR M k p) k (M p k).inv = S := ⟨_, rfl⟩
  have hSk : ∀ c, S k c = M p c * (M p k).inv := fun c => by rw [← hS]; unfold scaleR; rw [if_pos rfl, hkk]
  have hSr : ∀ r c, r ≠ k → S r c = swapR M k p r c := fun r c h => by rw [← hS]; unfold scaleR; rw [if_neg h]
  have hP : ∀ r c, pivoted M k p r c = if r = k then S k c else S r c + S r k * S k c := fun r c => by
    unfold pivoted
    simp only [hkk]
    by_cases e : r = k
    · rw [if_pos e, if_pos e, hSk]
    · rw [if_neg e, if_neg e, hSk, hSr r c e, hSr r k e]
  rw [hS]
  constructor
  · intro h r hr
    have hk2 := h k hk
    simp only [hP, if_pos] at hk2
    by_cases e : r = k
    · subst e; exact hk2
    · have h1 := h r hr
      simp only [hP, if_neg e] at h1
      rw [rowsum_add, hk2] at h1
      have h3 : (lsum (List.range U) (fun c => S r c * x c) + S r k * S k U) + S r k * S k U = (S r U + S r k * S k U) + S r k * S k U := by rw [h1]
      rwa [G.add_assoc, G.add_assoc, G.add_self, G.add_zero, G.add_zero] at h3
  · intro h r hr
    simp only [hP]
    by_cases e : r = k
    · simp only [if_pos e]; exact h k hk
    · simp only [if_neg e]
      rw [rowsum_add, h r hr, h k hk]
end Go.Proofs.Ytijkgplglfmfnaa.SM

namespace Go.Proofs.Ytijkgplglfmfnaa.SM
open PM (G)

/-- The element of place i of n. -/
def XE (n i : Nat) : G := ⟨FM.E (n - 1 - i), FM.E_lt _⟩
theorem xe_inj {n : Nat} (hn : n ≤ 255) : Inj n (XE n) := fun i hi k hk h => by
  have h1 := FM.E_inj (congrArg G.v h)
  rw [Nat.mod_eq_of_lt (by omega), Nat.mod_eq_of_lt (by omega)] at h1
  omega
theorem xe_ne (n i : Nat) : XE n i ≠ 0 := fun h => FM.E_ne _ (congrArg G.v h)
/-- **Data determine the code word.** -/
theorem enc_one {n m : Nat} {X c c' : Nat → G} (hX : Inj n X) (h : ∀ j, j < m → syn n X c j = 0) (h' : ∀ j, j < m → syn n X c' j = 0) (hd : ∀ i, i + m < n → c i = c' i) : ∀ i, i < n → c i = c' i :=
  near_one (w := c') (E := (List.range m).map (fun k => k + (n - m))) (O := []) (O' := []) hX h h' (fun i hi hne => .inl (by
    rw [List.mem_map]
    exact ⟨i - (n - m), by rw [List.mem_range]; have : ¬ i + m < n := fun h => hne (hd i h); omega, by have : ¬ i + m < n := fun h => hne (hd i h); omega⟩)) (fun i hi hne => absurd rfl hne) (by simp)

/-- c is a code word that differs from w at places of E and at most t others. -/
def Near (n m t : Nat) (X : Nat → G) (E : List Nat) (w c : Nat → G) : Prop :=
  (∀ j, j < m → syn n X c j = 0) ∧ ∃ O : List Nat, O.length ≤ t ∧ ∀ i, i < n → c i ≠ w i → i ∈ E ∨ i ∈ O
theorem Near.one {n m t : Nat} {X w c c' : Nat → G} {E : List Nat} (hX : Inj n X) (ht : E.length + 2 * t ≤ m) (h : Near n m t X E w c) (h' : Near n m t X E w c') : ∀ i, i < n → c i = c' i := by
  obtain ⟨h1, O, hO, h2⟩ := h
  obtain ⟨h1', O', hO', h2'⟩ := h'
  exact near_one hX h1 h1' h2 h2' (by omega)

/-- The erased places are taken out of the sequence, one after the other. -/
def outs : List G → (Nat → G) → Nat → G
  | [], u => u
  | y :: ys, u => outs ys (out y u)
def prodY : List G → G → G
  | [], _ => G.one
  | y :: ys, x => (x + y) * prodY ys x
theorem prodY_zero : ∀ {ys : List G} {x : G}, x ∈ ys → prodY ys x = 0
  | [], _, h => absurd h List.not_mem_nil
  | y :: ys, x, h => by
    show (x + y) * prodY ys x = 0
    rcases List.mem_cons.1 h with rfl | h
    · rw [G.add_self, G.zero_mul]
    · rw [prodY_zero h, G.mul_zero]
theorem prodY_ne : ∀ {ys : List G} {x : G}, x ∉ ys → prodY ys x ≠ 0
  | [], _, _ => G.one_ne
  | y :: ys, x, h => by
    rw [List.mem_cons] at h
    exact G.mul_ne (fun e => h (.inl (G.add_eq_zero.1 e))) (prodY_ne (fun e => h (.inr e)))
theorem outs_lsum {α : Type} (X : α → G) (S : List α) : ∀ (ys : List G) (a : α → G), outs ys (fun j => lsum S (fun i => a i * pw (X i) j)) = fun j => lsum S (fun i => (a i * prodY ys (X i)) * pw (X i) j)
  | [], a => by
    funext j
    exact lsum_ext (fun i _ => by rw [show prodY [] (X i) = G.one from rfl, G.mul_one])
  | y :: ys, a => by
    show outs ys (out y _) = _
    rw [show out y (fun j => lsum S (fun i => a i * pw (X i) j)) = fun j => lsum S (fun i => (a i * (X i + y)) * pw (X i) j) from funext (out_lsum X a y S), outs_lsum X S ys]
    funext j
    exact lsum_ext (fun i _ => by rw [show prodY (y :: ys) (X i) = (X i + y) * prodY ys (X i) from rfl, G.mul_assoc (a i)])
/-- out looks at one element more. -/
theorem out_ext {u u' : Nat → G} {y : G} {L : Nat} (h : ∀ j, j < L + 1 → u j = u' j) : ∀ j, j < L → out y u j = out y u' j := fun j hj => by
  unfold out
  rw [h (j + 1) (by omega), h j (by omega)]
theorem outs_ext : ∀ {ys : List G} {u u' : Nat → G} {L : Nat}, (∀ j, j < L + ys.length → u j = u' j) → ∀ j, j < L → outs ys u j = outs ys u' j
  | [], _, _, _, h => fun j hj => h j hj
  | y :: ys, u, u', L, h => outs_ext (ys := ys) (fun j hj => out_ext (L := L + ys.length) (fun j hj => h j (by rw [List.length_cons]; omega)) j hj)

/-- The places that are not erased and differ. -/
def wrong (n : Nat) (E : List Nat) (w c : Nat → G) : List Nat := (List.range n).filter (fun i => decide (c i ≠ w i) && !E.contains i)
theorem mem_wrong {n : Nat} {E : List Nat} {w c : Nat → G} {i : Nat} : i ∈ wrong n E w c ↔ i < n ∧ c i ≠ w i ∧ i ∉ E := by
  unfold wrong
  rw [List.mem_filter, List.mem_range, Bool.and_eq_true, decide_eq_true_iff, Bool.not_eq_true', List.contains_eq_mem, decide_eq_false_iff_not]
theorem wrong_nodup (n : Nat) (E : List Nat) (w c : Nat → G) : (wrong n E w c).Nodup := List.Pairwise.filter _ List.nodup_range
/-- The sequence without the erased places is the sum of powers of the wrong ones. -/
theorem seq_wrong {n m : Nat} {X w c : Nat → G} {E : List Nat} (hX : Inj n X) (hE : ∀ i ∈ E, i < n) (hc : ∀ j, j < m → syn n X c j = 0) {L : Nat} (hL : L + E.length ≤ m) :
    ∃ a : Nat → G, (∀ o ∈ wrong n E w c, a o ≠ 0) ∧ ∀ j, j < L → outs (E.map X) (syn n X w) j = lsum (wrong n E w c) (fun o => a o * pw (X o) j) := by
  refine ⟨fun i => (w i + c i) * prodY (E.map X) (X i), fun o ho => ?_, fun j hj => ?_⟩
  · obtain ⟨h1, h2, h3⟩ := mem_wrong.1 ho
    refine G.mul_ne (fun e => h2 (G.add_eq_zero.1 e).symm) (prodY_ne (fun h => ?_))
    obtain ⟨k, hk, e⟩ := List.mem_map.1 h
    exact h3 ((hX k (hE k hk) o h1 e) ▸ hk)
  · have h1 := outs_ext (ys := E.map X) (u := syn n X w) (u' := syn n X (fun i => w i + c i)) (L := L) (fun j hj => by
      rw [List.length_map] at hj
      rw [syn_add, hc j (by omega), G.add_zero]) j hj
    rw [h1]
    show outs (E.map X) (fun j => lsum (List.range n) (fun i => (w i + c i) * pw (X i) j)) j = _
    rw [outs_lsum]
    unfold wrong
    refine (lsum_filter (fun i => ((w i + c i) * prodY (E.map X) (X i)) * pw (X i) j) (fun i => decide (c i ≠ w i) && !E.contains i) (fun i hi => by
      by_cases h : c i = w i
      · rw [h, G.add_self, G.zero_mul, G.zero_mul]
      · rw [show decide (c i ≠ w i) = true from decide_eq_true h, Bool.true_and, Bool.not_eq_false', List.contains_eq_mem, decide_eq_true_iff] at hi
        rw [prodY_zero (List.mem_map.2 ⟨i, hi, rfl⟩), G.mul_zero, G.zero_mul]) (List.range n)).symm
/-- **The wrong places are found**: there is just one locator of their number, and its roots among the places are they. -/
theorem found {n m t : Nat} {X w c : Nat → G} {E : List Nat} (hX : Inj n X) (hE : ∀ i ∈ E, i < n) (hc : ∀ j, j < m → syn n X c j = 0) (hw : (wrong n E w c).length ≤ t) {L : Nat} (hL : L + E.length = m) (ht : 2 * t ≤ L) :
    ∃ l : Nat → G, Eqs L (wrong n E w c).length (outs (E.map X) (syn n X w)) l ∧ (∀ l', Eqs L (wrong n E w c).length (outs (E.map X) (syn n X w)) l' → ∀ k, k < (wrong n E w c).length → l' k = l k) ∧
      ∀ i, i < n → (loc l (wrong n E w c).length (X i) = 0 ↔ i ∈ wrong n E w c) := by
  obtain ⟨a, ha, hu⟩ := seq_wrong (w := w) hX hE hc (L := L) (by omega)
  obtain ⟨S, hS⟩ : ∃ S, wrong n E w c = S := ⟨_, rfl⟩
  have hnd : S.Nodup := by rw [← hS]; exact wrong_nodup n E w c
  have hlt : ∀ i ∈ S, i < n := fun i hi => by rw [← hS] at hi; exact (mem_wrong.1 hi).1
  rw [hS] at ha hu hw ⊢
  have hp := pair_of hX hnd hlt
  have hxn : (S.map X).Nodup := by
    rw [List.nodup_iff_pairwise_ne, List.pairwise_map]
    exact hp
  have hxl : (S.map X).length = S.length := List.length_map ..
  have hz0 : ∀ o ∈ S, loc (locOf (S.map X)) S.length (X o) = 0 := fun o ho => by
    have := locOf_zero (S.map X) (X o) (List.mem_map.2 ⟨o, ho, rfl⟩)
    rwa [hxl] at this
  refine ⟨locOf (S.map X), eqs_of_zero hu hz0, fun l' hl' => ?_, fun i hi => ⟨fun h => ?_, fun h => hz0 i h⟩⟩
  · have hz1 := loc_zero hp ha hu (v := S.length) (by omega) hl'
    exact loc_one hxn (by omega) (fun x hx => by
      obtain ⟨o, ho, rfl⟩ := List.mem_map.1 hx
      exact hz1 o ho) (fun x hx => by
      obtain ⟨o, ho, rfl⟩ := List.mem_map.1 hx
      exact hz0 o ho)
  · by_cases hin : i ∈ S
    · exact hin
    · exfalso
      have := loc_few (l := locOf (S.map X)) (v := S.length) (xs := X i :: S.map X) (by
        rw [List.nodup_cons]
        refine ⟨fun h2 => ?_, hxn⟩
        obtain ⟨k, hk, e⟩ := List.mem_map.1 h2
        exact hin ((hX k (hlt k hk) i hi e) ▸ hk)) (fun x hx => by
        rcases List.mem_cons.1 hx with rfl | hx
        · exact h
        · obtain ⟨o, ho, rfl⟩ := List.mem_map.1 hx
          exact hz0 o ho)
      rw [List.length_cons, hxl] at this
      omega
end Go.Proofs.Ytijkgplglfmfnaa.SM

namespace Go.Proofs.Ytijkgplglfmfnaa.G
open Go Go.RowKit Go.Shelf
open Elt
instance eltG : Elt PM.G := { gv := fun x => .int .u8 (x.v : Int), z := 0, ty := 5, sl := 30, wide := 1, wide_le := by decide, info := by kernel_rfl, under := Try.underlying30, one := fun _ => rfl, plain := fun _ => rfl }
theorem Row.elG {w : World} {a : Option Addr} {zs : List PM.G} {cap : Nat} (h : Row w a zs cap) (j : Nat) (hj : j < zs.length) : ∃ b off, a = some ⟨b, off, none⟩ ∧ w.cell? ⟨b, off + j, none⟩ = some (.int .u8 ((G.el zs j).v : Int)) := h.el j hj
theorem Own.setG {W : World} {B n : Nat} {g cap : Nat} {zs : List PM.G} (h : Own W B (.slice (some ⟨g, 0, none⟩) n cap) zs) (j : Nat) (c : PM.G) : Own (W.setCell ⟨g, j, none⟩ (.int .u8 (c.v : Int))) B (.slice (some ⟨g, 0, none⟩) n cap) (zs.set j c) := h.set j c
theorem Own.cellG {W : World} {B g cap n : Nat} {zs : List PM.G} (h : Own W B (.slice (some ⟨g, 0, none⟩) n cap) zs) (k : Nat) (hk : k < zs.length) : W.cell? ⟨g, k, none⟩ = some (.int .u8 ((el zs k).v : Int)) := (h.at k hk).2.2.2.2.1
end Go.Proofs.Ytijkgplglfmfnaa.G
namespace Go.Proofs.Ytijkgplglfmfnaa.G.S
open Go Go.RowKit Go.Shelf
open PM (G)
open RF (rmul_any rinverse_any)

theorem fmul (a b : G) (w : World) : Calls Try.prog 22 #[.int .u8 (a.v : Int), .int .u8 (b.v : Int)] w fun e w' => e = .returned (.int .u8 ((a * b).v : Int)) ∧ w = w' := rmul_any a.v b.v a.lt b.lt w
theorem finv {a : G} (h : a ≠ 0) (w : World) : Calls Try.prog 51 #[.int .u8 (a.v : Int)] w fun e w' => e = .returned (.tuple #[.int .u8 (a.inv.v : Int), .int .i64 0]) ∧ w = w' := by
  have := rinverse_any a.v a.lt w
  rwa [RF.invE_zero (fun e => h (G.v_zero.1 e))] at this
theorem xor_u8n (a b : Nat) (ha : a < 256) (hb : b < 256) : bits BinOp.xor IntKind.u8 (a : Int) (b : Int) = ((a ^^^ b : Nat) : Int) := by
  show IntKind.u8.wrap ((BitVec.ofInt 8 a ^^^ BitVec.ofInt 8 b).toNat : Int) = _
  rw [BitVec.toNat_xor, BitVec.ofInt_natCast, BitVec.ofInt_natCast, BitVec.toNat_ofNat, BitVec.toNat_ofNat, Nat.mod_eq_of_lt (by omega), Nat.mod_eq_of_lt (by omega)]
  have : a ^^^ b < 256 := Nat.xor_lt_two_pow (n := 8) ha hb
  simp [IntKind.wrap, IntKind.bits, IntKind.signed]; omega
theorem xor_G (a b : G) : bits BinOp.xor IntKind.u8 (a.v : Int) (b.v : Int) = ((a + b).v : Int) := xor_u8n _ _ a.lt b.lt
theorem eq0_G (a : G) : ((a.v : Int) == 0) = decide (a = 0) := by
  rw [Bool.eq_iff_iff, beq_iff_eq, decide_eq_true_iff]
  exact ⟨fun h => G.v_zero.1 (by omega), fun h => by rw [h]; rfl⟩
theorem ne0_G (a : G) : ((a.v : Int) != 0) = !decide (a = 0) := by
  unfold bne; rw [eq0_G]

/-- Element (r0, c0) is x. -/
def updM (M : Nat → Nat → G) (r0 c0 : Nat) (x : G) : Nat → Nat → G := fun r c => if r = r0 ∧ c = c0 then x else M r c
/-- R rows of U + 1 elements. -/
structure Mat (W : World) (B go R U : Nat) (blk cp : Nat → Nat) (M : Nat → Nat → G) : Prop where
  out : ∀ r, r < R → W.cell? ⟨go, r, none⟩ = some (.slice (some ⟨blk r, 0, none⟩) (U + 1) (cp r))
  fout : ∀ r, r < R → W.frozen? ⟨go, r, none⟩ = false
  el : ∀ r, r < R → ∀ c, c ≤ U → W.cell? ⟨blk r, c, none⟩ = some (.int .u8 ((M r c).v : Int))
  fel : ∀ r, r < R → ∀ c, c ≤ U → W.frozen? ⟨blk r, c, none⟩ = false
  cap : ∀ r, r < R → U + 1 ≤ cp r ∧ cp r ≤ 9223372036854775807
  ne : ∀ r, r < R → blk r ≠ go
  inj : ∀ r, r < R → ∀ s, s < R → blk r = blk s → r = s
  base : ∀ r, r < R → B ≤ blk r
  bgo : 0 < R → B ≤ go
section
variable {W : World} {B go R U : Nat} {blk cp : Nat → Nat} {M : Nat → Nat → G}
theorem Mat.below {W' : World} (h : Mat W B go R U blk cp M) (hb : Below W.heap.size W W') : Mat W' B go R U blk cp M :=
  ⟨fun r hr => cell_below hb (h.out r hr), fun r hr => frozen_below hb (h.out r hr) (h.fout r hr), fun r hr c hc => cell_below hb (h.el r hr c hc), fun r hr c hc => frozen_below hb (h.el r hr c hc) (h.fel r hr c hc), h.cap, h.ne, h.inj, h.base, h.bgo⟩
theorem Mat.drewN (h : Mat W B go R U blk cp M) (n : Nat) : Mat (W.drewN n) B go R U blk cp M := ⟨h.out, h.fout, h.el, h.fel, h.cap, h.ne, h.inj, h.base, h.bgo⟩
theorem Mat.as {M' : Nat → Nat → G} (h : Mat W B go R U blk cp M) (e : ∀ r, r < R → ∀ c, c ≤ U → M r c = M' r c) : Mat W B go R U blk cp M' :=
  ⟨h.out, h.fout, fun r hr c hc => by rw [← e r hr c hc]; exact h.el r hr c hc, h.fel, h.cap, h.ne, h.inj, h.base, h.bgo⟩
theorem Mat.put (h : Mat W B go R U blk cp M) {r0 c0 : Nat} (hr0 : r0 < R) (hc0 : c0 ≤ U) (x : G) : Mat (W.setCell ⟨blk r0, c0, none⟩ (.int .u8 (x.v : Int))) B go R U blk cp (updM M r0 c0 x) := by
  refine ⟨fun r hr => (cell_other _ (show go ≠ blk r0 from fun e => h.ne r0 hr0 e.symm)).trans (h.out r hr), fun r hr => (World.frozen?_setCell _ _ _ _).trans (h.fout r hr), fun r hr c hc => ?_, fun r hr c hc => (World.frozen?_setCell _ _ _ _).trans (h.fel r hr c hc), h.cap, h.ne, h.inj, h.base, h.bgo⟩
  unfold updM
  by_cases e : r = r0 ∧ c = c0
  · obtain ⟨rfl, rfl⟩ := e
    rw [if_pos ⟨rfl, rfl⟩]
    exact World.cell?_setCell_same' _ _ _ (by rw [h.el r hr c hc]; rfl)
  · rw [if_neg e]
    refine (World.cell?_setCell_other _ _ _ _ ?_).trans (h.el r hr c hc)
    intro e2
    have e3 := congrArg Addr.block e2
    have e4 := congrArg Addr.off e2
    exact e ⟨h.inj r hr r0 hr0 e3.symm, e4.symm⟩
/-- Rows k and p have changed places. -/
theorem Mat.swapped (h : Mat W B go R U blk cp M) {k p : Nat} (hk : k < R) (hp : p < R) :
    Mat ((W.setCell ⟨go, k, none⟩ (.slice (some ⟨blk p, 0, none⟩) (U + 1) (cp p))).setCell ⟨go, p, none⟩ (.slice (some ⟨blk k, 0, none⟩) (U + 1) (cp k))) B go R U (fun r => if r = k then blk p else if r = p then blk k else blk r) (fun r => if r = k then cp p else if r = p then cp k else cp r) (SM.swapR M k p) := by
  have h1 : ∀ r, r < R → (W.setCell ⟨go, k, none⟩ (.slice (some ⟨blk p, 0, none⟩) (U + 1) (cp p))).cell? ⟨go, r, none⟩ = some (.slice (some ⟨if r = k then blk p else blk r, 0, none⟩) (U + 1) (if r = k then cp p else cp r)) := fun r hr => by
    by_cases e : r = k
    · subst e
      rw [if_pos rfl, if_pos rfl]
      exact World.cell?_setCell_same' _ _ _ (by rw [h.out r hr]; rfl)
    · rw [if_neg e, if_neg e]
      exact (World.cell?_setCell_other _ _ _ _ (by intro e2; exact e (congrArg Addr.off e2).symm)).trans (h.out r hr)
  have pick : ∀ r, r < R → ∃ s, s < R ∧ (if r = k then blk p else if r = p then blk k else blk r) = blk s ∧ (if r = k then cp p else if r = p then cp k else cp r) = cp s ∧ SM.swapR M k p r = M s ∧ s = (if r = k then p else if r = p then k else r) := fun r hr => by
    unfold SM.swapR
    by_cases e : r = k
    · exact ⟨p, hp, if_pos e, if_pos e, if_pos e, (if_pos e).symm⟩
    · rw [if_neg e, if_neg e, if_neg e, if_neg e]
      by_cases e2 : r = p
      · exact ⟨k, hk, if_pos e2, if_pos e2, if_pos e2, (if_pos e2).symm⟩
      · exact ⟨r, hr, if_neg e2, if_neg e2, if_neg e2, (if_neg e2).symm⟩
  refine ⟨fun r hr => ?_, fun r hr => ?_, fun r hr c hc => ?_, fun r hr c hc => ?_, fun r hr => ?_, fun r hr => ?_, fun r hr s hs e => ?_, fun r hr => ?_, h.bgo⟩
  · by_cases e : r = p
    · subst e
      rw [World.cell?_setCell_same' _ _ _ (by rw [h1 r hr]; rfl)]
      by_cases e2 : r = k
      · subst e2; rw [if_pos rfl, if_pos rfl]
      · rw [if_neg e2, if_pos rfl, if_neg e2, if_pos rfl]
    · rw [World.cell?_setCell_other _ _ _ _ (by intro e2; exact e (congrArg Addr.off e2).symm), h1 r hr]
      by_cases e2 : r = k
      · rw [if_pos e2, if_pos e2, if_pos e2, if_pos e2]
      · rw [if_neg e2, if_neg e2, if_neg e2, if_neg e2, if_neg e, if_neg e]
  · rw [World.frozen?_setCell, World.frozen?_setCell]; exact h.fout r hr
  · obtain ⟨s, hs, e1, _, e3, _⟩ := pick r hr
    rw [e1, e3]
    have hne := h.ne s hs
    exact (cell_other _ (show blk s ≠ go from hne)).trans ((cell_other _ (show blk s ≠ go from hne)).trans (h.el s hs c hc))
  · obtain ⟨s, hs, e1, _, e3, _⟩ := pick r hr
    rw [e1, World.frozen?_setCell, World.frozen?_setCell]
    exact h.fel s hs c hc
  · obtain ⟨s, hs, _, e2, _⟩ := pick r hr
    show U + 1 ≤ (if r = k then cp p else if r = p then cp k else cp r) ∧ _
    rw [e2]; exact h.cap s hs
  · obtain ⟨s, hs, e1, _⟩ := pick r hr
    show (if r = k then blk p else if r = p then blk k else blk r) ≠ go
    rw [e1]; exact h.ne s hs
  · obtain ⟨r', hr', e1, _, _, f1⟩ := pick r hr
    obtain ⟨s', hs', e2, _, _, f2⟩ := pick s hs
    have e' : blk r' = blk s' := by rw [← e1, ← e2]; exact e
    have := h.inj r' hr' s' hs' e'
    rw [f1, f2] at this
    split at this <;> split at this <;> (try split at this) <;> (try split at this) <;> omega
  · obtain ⟨s, hs, e1, _⟩ := pick r hr
    show B ≤ (if r = k then blk p else if r = p then blk k else blk r)
    rw [e1]; exact h.base s hs
end
end Go.Proofs.Ytijkgplglfmfnaa.G.S

namespace Go.Proofs.Ytijkgplglfmfnaa.G
open Go Go.RowKit Go.Shelf

theorem step_app1 {α : Type} [Elt α] {W : World} {ops : Array Oper} {o : Oper} {a : Act} {K : Act → World → Prop} {Q : Exit → Act → World → Prop} {E : Prop} (hgd : o.guard = none) (s x : Operand)
    (ho : o.op = .call { callee := .builtin .append, args := #[s, x], argTypes := #[Elt.sl α, Elt.sl α] }) {B : Nat} {v : Value} {zs : List α} (c : α) (hs : a.eval s = v) (hown : Own W B v zs)
    {b : Nat} (hx : a.eval x = .slice (some ⟨b, 0, none⟩) 1 1) (hc : W.cell? ⟨b, 0, none⟩ = some (Elt.gv c)) (hl : zs.length < 1000000) (hbase : B ≤ W.heap.size)
    (h : ∀ a' cap' W', Own W' B (.slice a' (zs.length + 1) cap') (zs ++ [c]) → W.grownBy W' v.ownBlock → Below B W W' → (∀ b' o', a' = some ⟨b', o', none⟩ → v.ownBlock = some b' ∨ b' = W.heap.size) → K (a.put o.dst (.slice a' (zs.length + 1) cap')) W') :
    if Region.wanted o (yielded ops a.tmps) = true then Oper.wp Try.prog o a W K Q else E := by
  have hw : Region.wanted o (yielded ops a.tmps) = true := by simp [Region.wanted, hgd]
  rw [if_pos hw]
  exact wp_app1 s x ho c hs hown hx hc hl hbase h
/-- A slice that a call has made does not lie in an older block. -/
theorem own_ne {α : Type} [Elt α] {W : World} {B p : Nat} {v : Value} {zs : List α} (h : Own W B v zs) (hp : p < B) : v.ownBlock ≠ some p := fun e => by
  have := (World.ownsRow.lt h _ e).1
  omega
end Go.Proofs.Ytijkgplglfmfnaa.G

namespace Go.Proofs.Ytijkgplglfmfnaa.G
open Go Go.RowKit Go.Shelf
open Elt
instance eltN : Elt Nat := { gv := fun x => .int .i64 (x : Int), z := 0, ty := 3, sl := 22, wide := 8, wide_le := by decide, info := by kernel_rfl, under := Try.underlying22, one := fun _ => rfl, plain := fun _ => rfl }
theorem Row.elN {w : World} {a : Option Addr} {zs : List Nat} {cap : Nat} (h : Row w a zs cap) (j : Nat) (hj : j < zs.length) : ∃ b off, a = some ⟨b, off, none⟩ ∧ w.cell? ⟨b, off + j, none⟩ = some (.int .i64 ((G.el zs j : Nat) : Int)) := h.el j hj
theorem Own.setN {W : World} {B n : Nat} {g cap : Nat} {zs : List Nat} (h : Own W B (.slice (some ⟨g, 0, none⟩) n cap) zs) (j : Nat) (c : Nat) : Own (W.setCell ⟨g, j, none⟩ (.int .i64 (c : Int))) B (.slice (some ⟨g, 0, none⟩) n cap) (zs.set j c) := h.set j c
theorem Own.cellN {W : World} {B g cap n : Nat} {zs : List Nat} (h : Own W B (.slice (some ⟨g, 0, none⟩) n cap) zs) (k : Nat) (hk : k < zs.length) : W.cell? ⟨g, k, none⟩ = some (.int .i64 ((el zs k : Nat) : Int)) := (h.at k hk).2.2.2.2.1
end Go.Proofs.Ytijkgplglfmfnaa.G

namespace Go.Proofs.Ytijkgplglfmfnaa.G
open Go Go.RowKit Go.Shelf
open Elt

/-- Block p holds the cells vs. -/
def Box (W : World) (p : Nat) (t : TypeId) (vs : List Value) : Prop := W.heap[p]? = some (.cells vs.toArray t (0, 0))
section
variable {W : World} {p : Nat} {t : TypeId} {vs : List Value}
theorem Box.cell (h : Box W p t vs) (k : Nat) {v : Value} (hv : vs[k]? = some v) : W.cell? ⟨p, k, none⟩ = some v := by
  rw [cell_of_row _ _ _ _ _ _ h]
  simpa using hv
theorem Box.free (h : Box W p t vs) (k : Nat) : W.frozen? ⟨p, k, none⟩ = false := frozen_of_row _ _ _ _ _ h
theorem Box.lt (h : Box W p t vs) : p < W.heap.size := (Array.getElem?_eq_some_iff.1 h).1
theorem Box.below {W' : World} (h : Box W p t vs) (hb : Below W.heap.size W W') : Box W' p t vs := (hb.block p h.lt).trans h
theorem Box.belowAt {W' : World} {B : Nat} (h : Box W p t vs) (hb : Below B W W') (hp : p < B) : Box W' p t vs := (hb.block p hp).trans h
theorem Box.grown {W' : World} {row : Option Nat} (h : Box W p t vs) (hg : W.grownBy W' row) (hne : some p ≠ row) : Box W' p t vs := (hg.block p h.lt hne).trans h
theorem Box.alloc (h : Box W p t vs) (o : Obj) : Box (W.alloc o) p t vs := h.below ((Below.refl _ W).alloc (Nat.le_refl _) _)
theorem Box.drewN (h : Box W p t vs) (n : Nat) : Box (W.drewN n) p t vs := h
theorem Box.new (w : World) (t : TypeId) (vs : List Value) : Box (w.alloc (.cells vs.toArray t)) w.heap.size t vs := heap_alloc_new _ _
theorem Box.other (h : Box W p t vs) {q : Addr} (hq : q.block ≠ p) (u : Value) : Box (W.setCell q u) p t vs :=
  (heap_setCell_other _ _ _ _ (fun e => hq e.symm)).trans h
theorem Box.set (h : Box W p t vs) (k : Nat) (u : Value) : Box (W.setCell ⟨p, k, none⟩ u) p t (vs.set k u) := by
  unfold Box
  rw [heap_setCell_same _ _ _ _ _ _ h]
  simp
end
/-- A slice that was written out is memory of the call's own. -/
theorem own_list {α : Type} [Elt α] (w : World) (B : Nat) (zs : List α) (h : B ≤ w.heap.size) (hl : zs.length ≤ 1000000) :
    Own (w.alloc (.cells (zs.map gv).toArray (ty α))) B (.slice (some ⟨w.heap.size, 0, none⟩) zs.length zs.length) zs := by
  refine ⟨by simp, .inr ⟨w.heap.size, zs.length, (zs.map gv).toArray, rfl, h, heap_alloc_new w _, Nat.le_refl _, by unfold maxLen; omega, by simp, ?_⟩⟩
  rw [List.take_of_length_le (by simp)]
theorem row_list {α : Type} [Elt α] (w : World) (zs : List α) (t : TypeId) (hl : zs.length ≤ 1000000) :
    Row (w.alloc (.cells (zs.map gv).toArray t)) (some ⟨w.heap.size, 0, none⟩) zs zs.length := by
  refine ⟨Nat.le_refl _, by omega, fun j hj => ⟨w.heap.size, 0, rfl, ?_⟩⟩
  rw [cell_of_row _ _ _ _ _ _ (heap_alloc_new w _), Nat.zero_add]
  simp [List.getElem?_eq_getElem hj, el_lt hj]
end Go.Proofs.Ytijkgplglfmfnaa.G

namespace Go.Proofs.Ytijkgplglfmfnaa.G.S
open Go Go.RowKit Go.Shelf

/-- A code of symbols. -/
def codeV (D C F : Nat) : Value := .agg #[.int .i64 2, .int .i64 (D : Int), .int .i64 (C : Int), .int .i64 (F : Int)]
/-- The sizes that the statements give codes. -/
structure Cd (D C F : Nat) : Prop where
  d1 : 1 ≤ D
  d2 : D ≤ 32
  c1 : 1 ≤ C
  c2 : C ≤ 8
  f2 : F ≤ 100

theorem within_yes (n l h : Int) (h1 : l ≤ n) (h2 : n ≤ h) (w : World) : Calls Try.prog 55 #[.int .i64 n, .int .i64 l, .int .i64 h] w fun e w' => e = .returned (.bool true) ∧ w = w' := by
  go_enter Try.func55, Try.ntmps55
  go_wp2_with fail
  go_ret
  exact ⟨rfl, rfl⟩
theorem within_no (n l h : Int) (h1 : l ≤ n) (h2 : ¬ n ≤ h) (w : World) : Calls Try.prog 55 #[.int .i64 n, .int .i64 l, .int .i64 h] w fun e w' => e = .returned (.bool false) ∧ w = w' := by
  go_enter Try.func55, Try.ntmps55
  go_wp2_with fail
  go_ret
  exact ⟨rfl, rfl⟩
theorem within_low (n l h : Int) (h1 : ¬ l ≤ n) (w : World) : Calls Try.prog 55 #[.int .i64 n, .int .i64 l, .int .i64 h] w fun e w' => e = .returned (.bool false) ∧ w = w' := by
  go_enter Try.func55, Try.ntmps55
  go_wp2_with fail
  go_ret
  exact ⟨rfl, rfl⟩
theorem box4_at {W : World} {p : Nat} {t : TypeId} {v0 v1 v2 v3 : Value} (h : Box W p t [v0, v1, v2, v3]) : W.cell? ⟨p, 0, none⟩ = some v0 ∧ W.cell? ⟨p, 1, none⟩ = some v1 ∧ W.cell? ⟨p, 2, none⟩ = some v2 ∧ W.cell? ⟨p, 3, none⟩ = some v3 :=
  ⟨h.cell 0 rfl, h.cell 1 rfl, h.cell 2 rfl, h.cell 3 rfl⟩
/-- The box of a parameter that is a code. -/
theorem code_box (w : World) (D C F : Nat) (t : TypeId) : ∃ w1, w.alloc (.cells #[.int .i64 2, .int .i64 (D : Int), .int .i64 (C : Int), .int .i64 (F : Int)] t) = w1 ∧ w1.cell? ⟨w.heap.size, 0, none⟩ = some (.int .i64 2) ∧ w1.cell? ⟨w.heap.size, 1, none⟩ = some (.int .i64 (D : Int)) ∧
    w1.cell? ⟨w.heap.size, 2, none⟩ = some (.int .i64 (C : Int)) ∧ w1.cell? ⟨w.heap.size, 3, none⟩ = some (.int .i64 (F : Int)) ∧ Below w.heap.size w w1 ∧ Box w1 w.heap.size t [.int .i64 2, .int .i64 (D : Int), .int .i64 (C : Int), .int .i64 (F : Int)] := by
  have hb := Box.new w t [.int .i64 2, .int .i64 (D : Int), .int .i64 (C : Int), .int .i64 (F : Int)]
  obtain ⟨h0, h1, h2, h3⟩ := box4_at hb
  exact ⟨_, rfl, h0, h1, h2, h3, (Below.refl _ w).alloc (Nat.le_refl _) _, hb⟩

theorem validCode_any {D C F : Nat} (hc : Cd D C F) (t : Bool) (ht : decide (F ≤ C / 2) = t) (w : World) : Calls Try.prog 32 #[codeV D C F] w fun e w' => e = .returned (.bool t) ∧ Below w.heap.size w w' := by
  unfold codeV
  obtain ⟨h1, h2, h3, h4, h5⟩ := hc
  obtain ⟨w1, hw1, c0, c1, c2, c3, hB, _⟩ := code_box w D C F 28
  have HB := Lib.hid hB
  have a1 : (1 : Int) ≤ (D : Int) := by omega
  have a2 : (D : Int) ≤ 32 := by omega
  have a3 : (1 : Int) ≤ (C : Int) := by omega
  have a4 : (C : Int) ≤ 8 := by omega
  have a5 : (0 : Int) ≤ (F : Int) := by omega
  have hw : Calls Try.prog 55 #[.int .i64 (F : Int), .int .i64 0, .int .i64 ((C : Int) / 2)] w1 fun e w' => e = .returned (.bool t) ∧ w1 = w' := by
    cases t with
    | true => exact within_yes _ _ _ a5 (by have := of_decide_eq_true ht; omega) w1
    | false => exact within_no _ _ _ a5 (by have := of_decide_eq_false ht; omega) w1
  have HW := Lib.hid hw
  clear hB ht hw
  go_enter Try.func32, Try.ntmps32
  go_wp2_with (go_at_call 55; (first | (with_reducible refine (within_yes _ _ _ (by assumption) (by assumption) _).mono ?_; rintro e w2 ⟨rfl, rfl⟩) | (with_reducible refine HW.out.mono ?_; rintro e w2 ⟨rfl, rfl⟩)))
  go_ret
  exact ⟨rfl, HB.out⟩
theorem isSymbol_any {D C F : Nat} (hc : Cd D C F) (t : Bool) (ht : decide (F ≤ C / 2) = t) (w : World) : Calls Try.prog 35 #[codeV D C F] w fun e w' => e = .returned (.bool t) ∧ Below w.heap.size w w' := by
  have hv := fun W => validCode_any hc t ht W
  unfold codeV at *
  obtain ⟨w1, hw1, c0, c1, c2, c3, hB, _⟩ := code_box w D C F 28
  have HB := Lib.hid hB
  have HV := Lib.hid hv
  clear hB ht hv
  go_enter Try.func35, Try.ntmps35
  go_wp2_with fail
  (with_reducible refine (HV.out _).mono ?_)
  rintro e w2 ⟨rfl, hb2⟩
  go_wp2_with fail
  go_ret
  exact ⟨rfl, HB.out.trans (hb2.mono HB.out.size)⟩
theorem length_any {D C F : Nat} (hc : Cd D C F) (w : World) : Calls Try.prog 36 #[codeV D C F] w fun e w' => e = .returned (.int .i64 ((D + C : Nat) : Int)) ∧ Below w.heap.size w w' := by
  obtain ⟨h1, h2, h3, h4, h5⟩ := hc
  unfold codeV at *
  obtain ⟨w1, hw1, c0, c1, c2, c3, hB, _⟩ := code_box w D C F 28
  have HB := Lib.hid hB
  clear hB
  go_enter Try.func36, Try.ntmps36
  go_wp2_with fail
  go_ret
  exact ⟨ret_int (by omega), HB.out⟩
end Go.Proofs.Ytijkgplglfmfnaa.G.S

namespace Go.Proofs.Ytijkgplglfmfnaa.P
open Go Go.RowKit Go.Shelf Go.Sort

def revRen : Go.Shelf.Ren := ⟨fun | 35 => 59 | n => n, fun | 0 => 0 | 3 => 3 | 4 => 4 | 22 => 30 | 23 => 5 | n => n, fun | n => n⟩
theorem revLays : Go.Proofs.SlLaysE.n35 Try.prog revRen := {
  mixed := by kernel_rfl
  f35 := ⟨Try.f59.name, by decide, Try.func59.trans (congrArg some (by kernel_rfl))⟩
  t0 := Try.underlying0
  a0 := Try.isAgg0
  z0 := Try.sizeOf0
  v0 := Try.zeroValue0
  t3 := Try.underlying3
  a3 := Try.isAgg3
  z3 := Try.sizeOf3
  v3 := Try.zeroValue3
  t4 := Try.underlying4
  a4 := Try.isAgg4
  z4 := Try.sizeOf4
  v4 := Try.zeroValue4
  t22 := Try.underlying30
  a22 := Try.isAgg30
  z22 := Try.sizeOf30
  v22 := Try.zeroValue30
  a23 := Try.isAgg5
  z23 := Try.sizeOf5 }

/-- **slices.Reverse** of a slice that is owned. -/
theorem reverse_any (a : Option Addr) (cap B : Nat) (zs : List PM.G) (w : World) (hO : Own w B (.slice a zs.length cap) zs) (hB : B ≤ w.heap.size) (hl : zs.length ≤ 100000) :
    Calls Try.prog 59 #[.slice a zs.length cap] w fun e w' => e = .returned (.tuple #[]) ∧ Row w' a zs.reverse cap ∧ Below B w w' := by
  rcases hO.parts with ⟨hv, rfl⟩ | ⟨g, cap', hv, hg, hgs, h1, h2, hc⟩
  · cases hv
    refine (AnyE.slices_Reverse_empty revLays none 0 w).mono ?_
    rintro e w' ⟨rfl, rfl⟩
    exact ⟨rfl, Row.nil _ _ _ (by omega), Below.refl _ _⟩
  · cases hv
    have hH : Holds gv w g 0 zs.toArray := fun j hj => by
      have hj' : j < zs.length := by simpa using hj
      obtain ⟨h1, h2⟩ := hc j hj'
      rw [Nat.zero_add]
      refine ⟨?_, h2⟩
      rw [h1, PM.el_lt hj']
      simp [getElem!_pos, hj', gv]
    refine (AnyE.slices_Reverse revLays gv (fun _ => rfl) g 0 cap zs w hH (by omega)).mono ?_
    rintro e w' ⟨he, n, rfl⟩
    refine ⟨he, ⟨by rw [List.length_reverse]; exact h1, h2, fun j hj => ⟨g, 0, rfl, ?_⟩⟩, ?_⟩
    · have h := (holds_putRow gv _ g 0 zs.toArray zs.reverse.toArray (holds_ahead _ w n g 0 _ hH) (by simp) j (by simpa using hj)).1
      rw [h, PM.el_lt hj]
      simp only [List.length_reverse] at hj
      simp [getElem!_pos, hj, gv]
    · refine ⟨rfl, rfl, rfl, by simp [putRow, mapBlock], fun k hk => ?_⟩
      simp only [putRow, mapBlock, Array.getElem?_modify]
      rw [if_neg (by omega)]
      rfl

set_option maxHeartbeats 400000 in
/-- **poly.Trim** -/
theorem ptrim_any (a : Option Addr) (zs : List PM.G) (cap : Nat) (w : World) (hR : Row w a zs cap) (hl : zs.length < 100000) :
    Calls Try.prog 60 #[.slice a zs.length cap] w fun e W' => (∃ a' cap', e = .returned (.slice a' (PM.trimL zs).length cap') ∧ Row W' a' (PM.trimL zs) cap') ∧ Below w.heap.size w W' := by
  obtain ⟨a2, c2, hc, hr, _⟩ := hR.cut
  have ht := trimmed_any a zs cap w hR
  rw [hc] at ht
  have HT := Lib.hid ht
  have HR2 := Lib.hid hr
  have hlt := PM.trimL_len zs
  clear ht hc hr hR
  go_enter Try.func60, Try.ntmps60
  go_wp2_with fail
  (with_reducible refine HT.out.mono ?_)
  rintro e w1 ⟨rfl, hb1⟩
  have HC := Lib.hid (clone_any a2 (PM.trimL zs) c2 w1 (HR2.out.below hb1) (by omega))
  have HB1 := Lib.hid hb1
  clear hb1
  go_wp2_with fail
  (with_reducible refine HC.out.mono ?_)
  rintro e w2 ⟨a3, c3, rfl, ho, hb2⟩
  go_wp2_with fail
  go_ret
  exact ⟨⟨a3, c3, rfl, ho.rowAt⟩, HB1.out.trans (hb2.mono HB1.out.size)⟩

/-- The polynomial whose highest coefficient comes first in the list. -/
def pol (zs : List PM.G) : List PM.G := PM.trimL zs.reverse
theorem pol_pol (zs : List PM.G) (hl : zs.length ≤ 255) : Pol (pol zs) := ⟨PM.can_trimL _, by have := PM.trimL_len zs.reverse; rw [List.length_reverse] at this; unfold pol; omega⟩
theorem pol_el (zs : List PM.G) (k : Nat) : PM.el (pol zs) k = if k < zs.length then PM.el zs (zs.length - 1 - k) else 0 := by
  unfold pol
  rw [PM.el_trimL]
  by_cases h : k < zs.length
  · rw [if_pos h, PM.el_lt (by rw [List.length_reverse]; exact h), PM.el_lt (by omega), List.getElem_reverse]
  · rw [if_neg h, PM.el_ge (by rw [List.length_reverse]; omega)]
attribute [irreducible] pol

set_option maxHeartbeats 400000 in
/-- **symbol.polynomial** -/
theorem polynomial_any (a : Option Addr) (zs : List PM.G) (cap : Nat) (w : World) (hR : Row w a zs cap) (hl : zs.length ≤ 255) :
    Calls Try.prog 38 #[.slice a zs.length cap] w fun e W' => (∃ a' cap', e = .returned (.slice a' (pol zs).length cap') ∧ Row W' a' (pol zs) cap') ∧ Below w.heap.size w W' := by
  have HC := Lib.hid (clone_any a zs cap w hR (by omega))
  clear hR
  go_enter Try.func38, Try.ntmps38
  go_wp2_with fail
  (with_reducible refine HC.out.mono ?_)
  rintro e w1 ⟨a1, c1, rfl, ho, hb1⟩
  have HR1 := Lib.hid (reverse_any a1 c1 w.heap.size zs w1 ho hb1.size (by omega))
  have HB1 := Lib.hid hb1
  clear hb1 ho HC
  go_wp2_with fail
  (with_reducible refine HR1.out.mono ?_)
  rintro e w2 ⟨rfl, hr2, hb2⟩
  have ht := ptrim_any a1 zs.reverse c1 w2 hr2 (by rw [List.length_reverse]; omega)
  rw [List.length_reverse, show PM.trimL zs.reverse = pol zs by unfold pol; rfl] at ht
  have HT := Lib.hid ht
  have HB2 := Lib.hid (HB1.out.trans hb2)
  clear ht hr2 hb2 HR1 HB1
  go_wp2_with fail
  (with_reducible refine HT.out.mono ?_)
  rintro e w3 ⟨⟨a3, c3, rfl, hr3⟩, hb3⟩
  go_wp2_with fail
  go_ret
  exact ⟨⟨a3, c3, rfl, hr3⟩, HB2.out.trans (hb3.mono HB2.out.size)⟩
end Go.Proofs.Ytijkgplglfmfnaa.P

namespace Go.Proofs.Ytijkgplglfmfnaa
open Go Go.RowKit Go.Shelf

theorem cyc_wrap (n : Int) (h0 : -9223372036854775808 ≤ n) (h1 : n ≤ 9223372036854775807) : (wrap64 (n.tmod 255 + 255)).tmod 255 = (FM.cyc n : Int) := by
  rw [FM.cyc_int]
  have hw : wrap64 (n.tmod 255 + 255) = n.tmod 255 + 255 := by
    rcases Int.le_total 0 n with h | h
    · rw [Int.tmod_eq_emod_of_nonneg h]; unfold wrap64; omega
    · have := Int.neg_tmod (a := -n) (b := 255)
      rw [Int.neg_neg, Int.tmod_eq_emod_of_nonneg (by omega : 0 ≤ -n)] at this
      rw [this]; unfold wrap64; omega
  rw [hw]
  rcases Int.le_total 0 n with h | h
  · rw [Int.tmod_eq_emod_of_nonneg h, Int.tmod_eq_emod_of_nonneg (by omega)]; omega
  · have := Int.neg_tmod (a := -n) (b := 255)
    rw [Int.neg_neg, Int.tmod_eq_emod_of_nonneg (by omega : 0 ≤ -n)] at this
    rw [this, Int.tmod_eq_emod_of_nonneg (by omega)]; omega
theorem cycle_any (n : Int) (h0 : -9223372036854775808 ≤ n) (h1 : n ≤ 9223372036854775807) (w : World) :
    Calls Try.prog 83 #[.int .i64 n] w fun e w' => e = .returned (.int .i64 (FM.cyc n : Int)) ∧ w = w' := by
  go_enter Try.func83, Try.ntmps83
  go_wp2
  go_ret
  exact ⟨ret_int (cyc_wrap n h0 h1), rfl⟩

theorem exp_any (n : Int) (hn0 : -9223372036854775808 ≤ n) (hn1 : n ≤ 9223372036854775807) (w : World) :
    Calls Try.prog 62 #[.int .i64 n] w fun e w' => e = .returned (.int .u8 (FM.E (FM.cyc n) : Int)) ∧ Dr w w' := by
  have hp := power_E 1 (FM.cyc n) (by have := FM.cyc_lt n; omega)
  rw [Nat.one_mul] at hp
  have HP := Lib.hid hp
  clear hp
  go_enter Try.func62, Try.ntmps62
  go_wp2_with (first | (go_at_call 83; refine (cycle_any _ hn0 hn1 _).mono ?_; rintro e w1 ⟨rfl, rfl⟩) | (go_at_call 82; refine (HP.out _).mono ?_; rintro e w2 ⟨rfl, hd⟩))
  go_ret
  exact ⟨rfl, hd⟩
end Go.Proofs.Ytijkgplglfmfnaa

namespace Go.Proofs.Ytijkgplglfmfnaa.P
open Go Go.RowKit Go.Shelf
open G.S (codeV Cd code_box)

/-- 2 to the power of k. -/
def EE (k : Nat) : PM.G := ⟨FM.E k, FM.E_lt k⟩
theorem cyc_nat (k : Nat) : FM.E (FM.cyc (k : Int)) = FM.E k := by
  rw [← FM.E_mod k]
  congr 1
theorem gexp (k : Nat) (hk : k ≤ 100000) (W : World) : Calls Try.prog 62 #[.int .i64 (k : Int)] W fun e w' => e = .returned (.int .u8 ((EE k).v : Int)) ∧ Dr W w' := by
  have := exp_any (k : Int) (by omega) (by omega) W
  rwa [cyc_nat] at this
/-- The list of the first m values of f. -/
def tab (m : Nat) (f : Nat → PM.G) : List PM.G := (List.range m).map f
theorem tab_len (m : Nat) (f : Nat → PM.G) : (tab m f).length = m := by simp [tab]
theorem el_tab (m : Nat) (f : Nat → PM.G) (k : Nat) (h : k < m) : PM.el (tab m f) k = f k := by
  rw [PM.el_lt (by rw [tab_len]; exact h)]; simp [tab]
theorem tab_ext {m : Nat} {f g : Nat → PM.G} (h : ∀ k, k < m → f k = g k) : tab m f = tab m g := by
  refine PM.ext_el (by rw [tab_len, tab_len]) (fun k hk => ?_)
  rw [tab_len] at hk
  rw [el_tab _ _ _ hk, el_tab _ _ _ hk, h k hk]
def upd (f : Nat → PM.G) (j : Nat) (x : PM.G) : Nat → PM.G := fun k => if k = j then x else f k
theorem tab_set (m : Nat) (f : Nat → PM.G) (j : Nat) (x : PM.G) (hj : j < m) : (tab m f).set j x = tab m (upd f j x) := by
  refine PM.ext_el (by rw [List.length_set, tab_len, tab_len]) (fun k hk => ?_)
  rw [List.length_set, tab_len] at hk
  rw [PM.el_set (by rw [tab_len]; exact hj), el_tab _ _ _ hk, el_tab _ _ _ hk]; rfl
theorem tab_replicate (m : Nat) (x : PM.G) : List.replicate m x = tab m (fun _ => x) :=
  PM.ext_el (by rw [tab_len, List.length_replicate]) (fun k hk => by
    rw [List.length_replicate] at hk
    rw [el_tab _ _ _ hk, PM.el_lt (by rw [List.length_replicate]; exact hk)]; simp)
theorem tab_el (zs : List PM.G) : tab zs.length (PM.el zs) = zs := PM.ext_el (tab_len _ _) (fun k hk => el_tab _ _ _ (by rwa [tab_len] at hk))
/-- The first k values are there, then others. -/
def part2 (f g : Nat → PM.G) (k : Nat) : Nat → PM.G := fun j => if j < k then f j else g j
theorem part2_step (m : Nat) (f g : Nat → PM.G) (k : Nat) (hk : k < m) : (tab m (part2 f g k)).set k (f k) = tab m (part2 f g (k + 1)) := by
  rw [tab_set _ _ _ _ hk]
  refine tab_ext (fun j _ => ?_)
  unfold upd part2
  by_cases e : j = k
  · subst e; rw [if_pos rfl, if_pos (by omega)]
  · rw [if_neg e]
    by_cases h : j < k
    · rw [if_pos h, if_pos (by omega)]
    · rw [if_neg h, if_neg (by omega)]
theorem part2_0 (m : Nat) (f g : Nat → PM.G) : tab m (part2 f g 0) = tab m g := tab_ext (fun j _ => by unfold part2; rw [if_neg (Nat.not_lt_zero j)])
theorem part2_all (m : Nat) (f g : Nat → PM.G) : tab m (part2 f g m) = tab m f := tab_ext (fun j h => by unfold part2; rw [if_pos h])

set_option maxRecDepth 100000 in
set_option maxHeartbeats 1000000 in
/-- **symbol.roots** -/
theorem roots_any {D C F : Nat} (hc : Cd D C F) (w : World) :
    Calls Try.prog 40 #[codeV D C F] w fun e W => ∃ g, e = .returned (.slice (some ⟨g, 0, none⟩) C C) ∧ w.heap.size ≤ g ∧ Own W w.heap.size (.slice (some ⟨g, 0, none⟩) C C) (tab C EE) ∧ Below w.heap.size w W := by
  obtain ⟨h1, h2, h3, h4, h5⟩ := hc
  unfold codeV
  obtain ⟨w1, hw1, c0, c1, c2, c3, hB, _⟩ := code_box w D C F 28
  have HB := Lib.hid hB
  clear hB
  go_enter Try.func40, Try.ntmps40
  go_wp2_with (at_make; refine wpList_make1 rfl _ _ rfl C rfl rfl (by omega) (by omega) (B := w.heap.size) HB.out.size ?_; intro w2 ho2 hb2)
  obtain ⟨g, hg⟩ : ∃ g, w1.heap.size = g := ⟨_, rfl⟩
  rw [hg] at ho2 ⊢
  have hgw : w.heap.size ≤ g := by have := HB.out.size; omega
  have HB2 := Lib.hid (HB.out.trans hb2)
  rw [List.length_replicate, tab_replicate, ← part2_0 C EE] at ho2
  have HO2 := Lib.hid ho2
  clear ho2 hb2 c0 c1 c2 c3 hw1 HB hg
  go_loopw [10] (fun k wr => ∃ i : Nat, k = .int .i64 (i : Int) ∧ i ≤ C ∧ Own wr w.heap.size (.slice (some ⟨g, 0, none⟩) C C) (tab C (part2 EE (fun _ => 0) i)) ∧ Below w.heap.size w wr) (fun k _ => C - (intOf k).toNat)
  case atStart => exact ⟨0, rfl, by omega, HO2.out, HB2.out⟩
  case round =>
    clear HO2 HB2
    obtain ⟨i, rfl, hi, ho, hb⟩ := hrel
    have HO := Lib.hid ho
    have HB := Lib.hid hb
    clear ho hb
    by_cases hlt : i < C
    · have HE := Lib.hid (fun W => gexp i (by omega) W)
      have ha := (HO.out.at i (by rw [tab_len]; exact hlt)).2.2.2.2
      obtain ⟨ha1, ha2⟩ := ha
      go_wp2_with fail
      refine (HE.out _).mono ?_
      rintro e w2 ⟨rfl, m, rfl⟩
      have hst := (HO.out.drewN m)
      have hst2 : Own ((wr.drewN m).setCell ⟨g, i, none⟩ (.int .u8 ((EE i).v : Int))) w.heap.size (.slice (some ⟨g, 0, none⟩) C C) ((tab C (part2 EE (fun _ => 0) i)).set i (EE i)) := by
        have := Own.set (zs := tab C (part2 EE (fun _ => 0) i)) (cap := C) (g := g) (by rw [tab_len]; exact hst) i (EE i)
        rwa [tab_len] at this
      rw [part2_step _ _ _ _ hlt] at hst2
      have HST := Lib.hid hst2
      have HBT := Lib.hid ((belowN HB.out m).setCell (p := ⟨g, i, none⟩) hgw (.int .u8 ((EE i).v : Int)))
      clear hst hst2 HO HB
      go_wp2_with fail
      go_roundw
      case rel => exact ⟨i + 1, by go_num, hlt, HST.out, HBT.out⟩
      case measure => simp [intOf]; omega
    · obtain rfl : i = C := by omega
      rw [part2_all] at HO
      go_wp2_with fail
      go_ret
      exact ⟨g, rfl, hgw, HO.out, HB.out⟩
end Go.Proofs.Ytijkgplglfmfnaa.P

namespace Go.Proofs.Ytijkgplglfmfnaa.SM
open PM (G Co Van conv evn el ev addC smul)

theorem conv_ext_r {g g' : Co} : ∀ (k : Nat) (f : Co), (∀ j, j ≤ k → g j = g' j) → conv f g k = conv f g' k
  | 0, f, h => by rw [PM.conv_zero, PM.conv_zero, h 0 (Nat.le_refl 0)]
  | k + 1, f, h => by rw [PM.conv_succ, PM.conv_succ, h (k + 1) (Nat.le_refl _), conv_ext_r k (PM.sh f) (fun j hj => h j (by omega))]
theorem conv_ext_l {f f' g : Co} (k : Nat) (h : ∀ j, j ≤ k → f j = f' j) : conv f g k = conv f' g k := by
  rw [PM.conv_comm f, PM.conv_comm f', conv_ext_r k g h]
theorem evn_ext {f g : Co} (x : G) : ∀ n, (∀ k, k < n → f k = g k) → evn n f x = evn n g x := fun n h => by
  rw [evn_sum, evn_sum]
  exact lsum_ext (fun k hk => by rw [List.mem_range] at hk; rw [h k hk])
theorem evn_mono (x c : G) (L : Nat) : evn (L + 1) (PM.mono c L) x = c * pw x L := by
  rw [evn_sum, range_succ_sum, lsum_zero, G.zero_add]
  · unfold PM.mono; rw [if_pos rfl]
  · intro k hk
    rw [List.mem_range] at hk
    unfold PM.mono
    rw [if_neg (by omega), G.zero_mul]
/-- The value does not depend on the bound. -/
theorem evn_at {f : Co} {n N : Nat} (x : G) (h : Van f n) (hN : n ≤ N) : evn N f x = evn n f x := PM.evn_van x n N f h hN
theorem evn_conv' {f g : Co} {m n N : Nat} (x : G) (hf : Van f m) (hg : Van g n) (hN : m + n ≤ N) : evn N (conv f g) x = evn m f x * evn n g x := by
  cases n with
  | zero =>
    have h0 : ∀ k, conv f g k = 0 := fun k => by rw [PM.conv_comm, PM.van_zero hg, PM.conv_zeroC_l]
    rw [evn_sum, lsum_zero (fun k _ => by rw [h0, G.zero_mul]), show evn 0 g x = 0 from rfl, G.mul_zero]
  | succ n =>
    rw [evn_at (n := m + n) x (PM.conv_van f g m n hf hg) (by omega), ← PM.evn_conv x g (n + 1) hg m f hf]
    exact (evn_at x (PM.conv_van f g m n hf hg) (by omega)).symm
theorem conv_van' {f g : Co} {m n N : Nat} (hf : Van f m) (hg : Van g n) (hN : m + n ≤ N + 1) (hm : 0 < m ∨ 0 < n) : Van (conv f g) N := by
  cases n with
  | zero =>
    have h0 : ∀ k, conv f g k = 0 := fun k => by rw [PM.conv_comm, PM.van_zero hg, PM.conv_zeroC_l]
    exact fun k _ => h0 k
  | succ n => exact (PM.conv_van f g m n hf hg).mono (by omega)

/-- The sequence as a polynomial, its last element first. -/
def turned (L : Nat) (u : Nat → G) : Co := fun k => if k < L then u (L - 1 - k) else 0
theorem geo_lin (r : G) (L k : Nat) (hk : k < L) : conv (PM.lin r) (turned L (fun j => pw r j)) k = PM.mono (pw r L) 0 k := by
  rw [PM.conv_lin]
  unfold turned PM.mono
  rw [if_pos hk]
  cases k with
  | zero =>
    rw [if_pos rfl]
    show r * pw r (L - 1 - 0) + 0 = _
    rw [G.add_zero, G.mul_comm, ← pw_succ]
    congr 1; omega
  | succ k =>
    rw [if_neg (by omega)]
    show r * pw r (L - 1 - (k + 1)) + (if k < L then pw r (L - 1 - k) else 0) = 0
    rw [if_pos (by omega), G.mul_comm, ← pw_succ, show L - 1 - (k + 1) + 1 = L - 1 - k by omega, G.add_self]
theorem lin_conv_van {r : G} {f : Co} {n : Nat} (h : Van f n) : Van (conv (PM.lin r) f) (n + 1) := fun k hk => by
  rw [PM.conv_lin, h k (by omega), G.mul_zero, G.zero_add]
  cases k with
  | zero => rfl
  | succ k => exact h k (by omega)
theorem lin_evn (r x : G) {f : Co} {n N : Nat} (h : Van f n) (hN : n + 1 ≤ N) : evn N (conv (PM.lin r) f) x = (r + x) * evn n f x := by
  rw [evn_at x (lin_conv_van h) hN, ← evn_at (N := n + 2) x (lin_conv_van h) (by omega), evn_conv' x (PM.lin_van r) h (by omega), PM.evn_lin]
/-- The locator of the places, and what is left of its product with the sequence. -/
theorem lam_om {α : Type} (X a : α → G) (L : Nat) : ∀ (S : List α), S.Pairwise (fun i k => X i ≠ X k) → (∀ o ∈ S, a o ≠ 0) → (∀ o ∈ S, X o ≠ 0) →
    ∃ Lam Om : Co, Van Lam (S.length + 1) ∧ Van Om S.length ∧ (∀ k, k < L → conv Lam (turned L (fun j => lsum S (fun o => a o * pw (X o) j))) k = Om k) ∧
      (∀ y, evn (S.length + 1) Lam y = 0 ↔ ∃ o ∈ S, X o = y) ∧ ∀ o ∈ S, evn S.length Om (X o) ≠ 0
  | [], _, _, _ => by
    refine ⟨PM.oneC, PM.zeroC, fun k hk => by show (if k = 0 then G.one else 0) = 0; rw [if_neg (show ¬ k = 0 from fun h => by rw [h] at hk; exact absurd hk (by simp))], fun _ _ => rfl, fun k hk => ?_, fun y => ?_, fun o ho => absurd ho List.not_mem_nil⟩
    · rw [PM.conv_oneC]; unfold turned; rw [if_pos hk]; rfl
    · refine ⟨fun h => ?_, fun ⟨o, ho, _⟩ => absurd ho List.not_mem_nil⟩
      have : evn 1 PM.oneC y = G.one := by
        rw [show PM.oneC = PM.mono G.one 0 from rfl, evn_mono, pw_0, G.mul_one]
      rw [show ([] : List α).length + 1 = 1 from rfl, this] at h
      exact absurd h G.one_ne
  | o :: T, hX, ha, hne => by
    rw [List.pairwise_cons] at hX
    obtain ⟨Lam, Om, h1, h2, h3, h4, h5⟩ := lam_om X a L T hX.2 (fun o h => ha o (List.mem_cons_of_mem _ h)) (fun o h => hne o (List.mem_cons_of_mem _ h))
    have hL : Van (conv (PM.lin (X o)) Lam) (T.length + 1 + 1) := lin_conv_van h1
    have e1 : Van (conv (PM.lin (X o)) Om) (T.length + 1) := lin_conv_van h2
    have e2 : Van (smul (a o * pw (X o) L) Lam) (T.length + 1) := h1.smul _
    have hval : ∀ y, evn (T.length + 1) (addC (conv (PM.lin (X o)) Om) (smul (a o * pw (X o) L) Lam)) y = (X o + y) * evn T.length Om y + (a o * pw (X o) L) * evn (T.length + 1) Lam y := fun y => by
      rw [PM.evn_addC, PM.evn_smul, lin_evn _ _ h2 (by omega)]
    refine ⟨conv (PM.lin (X o)) Lam, addC (conv (PM.lin (X o)) Om) (smul (a o * pw (X o) L) Lam), by rw [List.length_cons]; exact hL, by rw [List.length_cons]; exact e1.addC e2, fun k hk => ?_, fun y => ?_, fun o' ho' => ?_⟩
    · have hs : turned L (fun j => lsum (o :: T) (fun o => a o * pw (X o) j)) = addC (turned L (fun j => lsum T (fun o => a o * pw (X o) j))) (smul (a o) (turned L (fun j => pw (X o) j))) := by
        funext j
        unfold turned addC smul
        by_cases h : j < L
        · simp only [if_pos h]; rw [lsum_cons, G.add_comm]
        · simp only [if_neg h]; rw [G.mul_zero, G.add_zero]
      rw [hs, PM.conv_add_r, PM.conv_smul_r, PM.conv_assoc]
      show _ = conv (PM.lin (X o)) Om k + (a o * pw (X o) L) * Lam k
      congr 1
      · exact conv_ext_r k _ (fun j hj => h3 j (by omega))
      · rw [conv_ext_l (f' := conv Lam (PM.lin (X o))) k (fun j _ => PM.conv_comm _ _ j), PM.conv_assoc, conv_ext_r (g' := PM.mono (pw (X o) L) 0) k Lam (fun j hj => geo_lin _ _ _ (by omega)), PM.conv_comm, PM.conv_mono, if_neg (Nat.not_lt_zero k), Nat.sub_zero, G.mul_assoc]
    · rw [List.length_cons, lin_evn _ _ h1 (by omega), G.mul_eq_zero, G.add_eq_zero, h4]
      constructor
      · rintro (h | ⟨o', h, e⟩)
        · exact ⟨o, List.mem_cons_self, h⟩
        · exact ⟨o', List.mem_cons_of_mem _ h, e⟩
      · rintro ⟨o', h, e⟩
        rcases List.mem_cons.1 h with rfl | h
        · exact .inl e
        · exact .inr ⟨o', h, e⟩
    · rw [List.length_cons, hval]
      rcases List.mem_cons.1 ho' with rfl | ho'
      · rw [G.add_self, G.zero_mul, G.zero_add]
        refine G.mul_ne (G.mul_ne (ha o' List.mem_cons_self) (pw_ne (hne o' List.mem_cons_self) L)) (fun h => ?_)
        obtain ⟨o2, h6, e⟩ := (h4 _).1 h
        exact hX.1 o2 h6 e.symm
      · rw [(h4 _).2 ⟨o', ho', rfl⟩, G.mul_zero, G.add_zero]
        exact G.mul_ne (fun h => hX.1 o' ho' (G.add_eq_zero.1 h)) (h5 o' ho')

/-- What Euclid's loop keeps. -/
structure Euc (L : Nat) (S : Co) (last next lf f : List G) : Prop where
  cl : PM.Can last
  cn : PM.Can next
  clf : PM.Can lf
  cf : PM.Can f
  less : next.length < last.length
  lessf : lf.length < f.length
  sum : last.length + f.length = L + 2
  det : ∀ k, conv (el f) (el last) k + conv (el lf) (el next) k = PM.mono G.one L k
  ln : ∀ k, k < L → el next k = conv (el f) S k
  ll : ∀ k, k < L → el last k = conv (el lf) S k
theorem can_top {p : List G} {n : Nat} (h : PM.Can p) (hp : p.length = n + 1) : el p n ≠ 0 := by
  have := h (by omega)
  rwa [show p.length - 1 = n by omega] at this
theorem len_of {p : List G} {f : Co} {n : Nat} (h : PM.Can p) (he : ∀ k, el p k = f k) (hv : Van f (n + 1)) (ht : f n ≠ 0) : p.length = n + 1 := by
  have h1 := PM.can_len h (n := n + 1) (fun k hk => by rw [he]; exact hv k hk)
  rcases Nat.lt_or_ge n p.length with h2 | h2
  · omega
  · exact absurd (PM.el_ge h2) (by rw [he]; exact ht)
theorem Euc.step {L : Nat} {S : Co} {last next lf f A r P s : List G} (h : Euc L S last next lf f) (heq : ∀ j, el last j = conv (el A) (el next) j + el r j) (hless : r.length < next.length) (hr : PM.Can r) (hA : PM.Can A)
    (hAl : A.length = last.length + 1 - next.length) (hP : ∀ k, el P k = conv (el A) (el f) k) (hs : PM.Can s) (hsum : ∀ k, el s k = addC (el lf) (el P) k) : Euc L S next r f s ∧ s.length = A.length + f.length - 1 := by
  have hl := h.less
  have hlf := h.lessf
  have hsu := h.sum
  have hs' : ∀ k, el s k = el lf k + conv (el A) (el f) k := fun k => by rw [hsum]; unfold addC; rw [hP]
  obtain ⟨m, hm⟩ : ∃ m, A.length = m + 1 := ⟨A.length - 1, by omega⟩
  obtain ⟨n, hn⟩ : ∃ n, f.length = n + 1 := ⟨f.length - 1, by omega⟩
  have hm1 : 1 ≤ m := by omega
  have htop := PM.conv_top (el A) (el f) m n (by rw [← hm]; exact PM.el_van A) (by rw [← hn]; exact PM.el_van f)
  have hsl : s.length = m + n + 1 := by
    refine len_of hs (f := fun k => el lf k + conv (el A) (el f) k) hs' (fun k hk => ?_) ?_
    · show el lf k + conv (el A) (el f) k = 0
      rw [PM.el_ge (by omega), htop.2 k hk, G.add_zero]
    · show el lf (m + n) + conv (el A) (el f) (m + n) ≠ 0
      rw [PM.el_ge (by omega), htop.1, G.zero_add]
      exact G.mul_ne (can_top hA hm) (can_top h.cf hn)
  have hrr : ∀ k, el r k = el last k + conv (el A) (el next) k := fun k => by
    rw [heq, G.add_comm (conv _ _ _), G.add_assoc, G.add_self, G.add_zero]
  refine ⟨⟨h.cn, hr, h.cf, hs, hless, by omega, by omega, fun k => ?_, fun k hk => ?_, h.ln⟩, by omega⟩
  · rw [← h.det k]
    have e1 : conv (el s) (el next) k = conv (el lf) (el next) k + conv (conv (el A) (el f)) (el next) k := by
      rw [conv_ext_l (f' := addC (el lf) (conv (el A) (el f))) k (fun j _ => hs' j), PM.conv_add_l]
    have e2 : conv (el f) (el r) k = conv (el f) (el last) k + conv (el f) (conv (el A) (el next)) k := by
      rw [conv_ext_r (g' := addC (el last) (conv (el A) (el next))) k _ (fun j _ => hrr j), PM.conv_add_r]
    have e3 : conv (conv (el A) (el f)) (el next) k = conv (el f) (conv (el A) (el next)) k := by
      rw [← PM.conv_assoc]
      exact conv_ext_l k (fun j _ => PM.conv_comm _ _ j)
    rw [e1, e2, e3, G.add_comm (conv (el f) (el last) k), ← G.add_assoc, G.add_assoc (conv (el lf) (el next) k), G.add_self, G.add_zero, G.add_comm]
  · rw [hrr, h.ll k hk, conv_ext_l (f' := addC (el lf) (conv (el A) (el f))) k (fun j _ => hs' j), PM.conv_add_l, PM.conv_assoc]
    congr 1
    exact conv_ext_r k _ (fun j hj => h.ln j (by omega))
/-- **The roots of the factor** that is left halfway are the elements of the wrong places. -/
theorem Euc.roots {α : Type} {X a : α → G} {W : List α} {L : Nat} {last next lf f : List G} {u : Nat → G} (h : Euc L (turned L u) last next lf f) (hstop : 2 * next.length < L + 2) (hgo : L + 2 ≤ 2 * last.length)
    (hX : W.Pairwise (fun i k => X i ≠ X k)) (ha : ∀ o ∈ W, a o ≠ 0) (hne : ∀ o ∈ W, X o ≠ 0) (hu : ∀ j, j < L → u j = lsum W (fun o => a o * pw (X o) j)) (hW : 2 * W.length ≤ L) (y : G) (hy : y ≠ 0) :
    ev f y = 0 ↔ ∃ o ∈ W, X o = y := by
  obtain ⟨Lam, Om, h1, h2, h3, h4, h5⟩ := lam_om X a L W hX ha hne
  have hsu := h.sum
  have hl := h.less
  have hlf := h.lessf
  have htu : turned L u = turned L (fun j => lsum W (fun o => a o * pw (X o) j)) := by
    funext k
    unfold turned
    by_cases hk : k < L
    · rw [if_pos hk, if_pos hk, hu _ (by omega)]
    · rw [if_neg hk, if_neg hk]
  rw [← htu] at h3
  have hv1 : Van (conv Lam (el next)) L := conv_van' h1 (PM.el_van next) (by omega) (.inl (by omega))
  have hv2 : Van (conv (el f) Om) L := conv_van' (PM.el_van f) h2 (by omega) (.inl (by omega))
  have hid : ∀ k, conv Lam (el next) k = conv (el f) Om k := fun k => by
    by_cases hk : k < L
    · rw [conv_ext_r (g' := conv (el f) (turned L u)) k Lam (fun j hj => h.ln j (by omega)), ← PM.conv_assoc, conv_ext_l (f' := conv (el f) Lam) k (fun j _ => PM.conv_comm _ _ j), PM.conv_assoc]
      exact conv_ext_r k _ (fun j hj => h3 j (by omega))
    · rw [hv1 k (by omega), hv2 k (by omega)]
  have hid' : ∀ y, evn (W.length + 1) Lam y * ev next y = ev f y * evn W.length Om y := fun y => by
    have e1 := evn_conv' (N := W.length + 1 + next.length + f.length + W.length) y h1 (PM.el_van next) (by omega)
    have e2 := evn_conv' (N := W.length + 1 + next.length + f.length + W.length) y (PM.el_van f) h2 (by omega)
    rw [show conv Lam (el next) = conv (el f) Om from funext hid] at e1
    exact e1.symm.trans e2
  constructor
  · intro h0
    have hd : ev f y * ev last y + ev lf y * ev next y = pw y L := by
      have e1 := evn_conv' (N := f.length + last.length + lf.length + next.length) y (PM.el_van f) (PM.el_van last) (by omega)
      have e2 := evn_conv' (N := f.length + last.length + lf.length + next.length) y (PM.el_van lf) (PM.el_van next) (by omega)
      have e3 : evn (f.length + last.length + lf.length + next.length) (PM.mono G.one L) y = pw y L := by
        rw [evn_at (n := L + 1) y (fun k hk => by unfold PM.mono; rw [if_neg (by omega)]) (by omega), evn_mono, G.one_mul]
      rw [show ev f y = evn f.length (el f) y from rfl, show ev last y = evn last.length (el last) y from rfl, show ev lf y = evn lf.length (el lf) y from rfl, show ev next y = evn next.length (el next) y from rfl, ← e1, ← e2, ← PM.evn_addC, ← e3]
      exact congrArg (fun g => evn _ g y) (funext h.det)
    rw [h0, G.zero_mul, G.zero_add] at hd
    have hn : ev next y ≠ 0 := fun e => pw_ne hy L (by rw [← hd, e, G.mul_zero])
    have := hid' y
    rw [h0, G.zero_mul] at this
    exact (h4 y).1 ((G.mul_eq_zero.1 this).resolve_right hn)
  · rintro ⟨o, ho, rfl⟩
    have := hid' (X o)
    rw [(h4 _).2 ⟨o, ho, rfl⟩, G.zero_mul] at this
    exact (G.mul_eq_zero.1 this.symm).resolve_right (h5 o ho)
/-- Where it begins. -/
theorem Euc.start {L : Nat} {u : Nat → G} {p0 p1 f0 : List G} (h0 : p0.length = L + 1) (h1 : ∀ k, el p0 k = PM.mono G.one L k) (hc1 : PM.Can p1) (h2 : ∀ k, el p1 k = turned L u k) (h3 : f0 = [G.one]) : Euc L (turned L u) p0 p1 [] f0 := by
  subst h3
  have hone : ∀ g k, conv (el [G.one]) g k = g k := fun g k => by
    rw [show el [G.one] = PM.oneC from funext (fun k => by cases k with | zero => rfl | succ k => rfl), PM.conv_oneC]
  have hl1 : p1.length ≤ L := PM.can_len hc1 (fun k hk => by rw [h2]; unfold turned; rw [if_neg (by omega)])
  refine ⟨fun _ => ?_, hc1, PM.can_nil, fun _ => by show G.one ≠ 0; exact G.one_ne, by omega, by simp, by simp; omega, fun k => ?_, fun k _ => ?_, fun k hk => ?_⟩
  · rw [h1, h0]; unfold PM.mono; rw [if_pos (by omega)]; exact G.one_ne
  · rw [hone, h1, show el ([] : List G) = PM.zeroC from rfl, PM.conv_zeroC_l, G.add_zero]
  · rw [hone, h2]
  · rw [h1, show el ([] : List G) = PM.zeroC from rfl, PM.conv_zeroC_l]; unfold PM.mono; rw [if_neg (by omega)]
end Go.Proofs.Ytijkgplglfmfnaa.SM
