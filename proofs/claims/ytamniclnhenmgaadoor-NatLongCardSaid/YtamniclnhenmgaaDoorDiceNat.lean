/- Dice.Nat of the statements. -/
import Derived.Test.YtamniclnhenmgaaDoorDice
import Derived.Deep.RegionLaw
import Derived.Deep.AppendLies
import Derived.Deep.DeepCutAuto
namespace Go.Proofs.YtamniclnhenmgaaDoor
open Go Go.RowKit Go.Shelf

theorem Dice.far {w : World} {dp : Nat} {a : Option Addr} {cap : Nat} {ts : List Int} {k : Nat} (h : Dice w dp a cap ts k) : ∀ b off, a = some ⟨b, off, none⟩ → 0 < ts.length → b < w.heap.size := by
  intro b off e hl
  obtain ⟨b', off', e', hc⟩ := h.row.el 0 hl
  rw [e] at e'; cases e'
  exact lt_of_cell hc
theorem Dice.grown {W W' : World} {dp : Nat} {a : Option Addr} {cap : Nat} {ts : List Int} {k : Nat} {row : Option Nat} (h : Dice W dp a cap ts k) (hg : W.grownBy W' row) (hne : some dp ≠ row) (hf : ∀ b off, a = some ⟨b, off, none⟩ → 0 < ts.length → some b ≠ row) : Dice W' dp a cap ts k :=
  ⟨(World.cell?_of_block (hg.block dp h.lt hne)).trans h.list, (World.cell?_of_block (hg.block dp h.lt hne)).trans h.at', (World.frozen?_of_block (hg.block dp h.lt hne)).trans h.free,
    ⟨h.row.room, h.row.most, fun j hj => by
      obtain ⟨b, off, e, hc⟩ := h.row.el j hj
      exact ⟨b, off, e, (World.cell?_of_block (hg.block b (lt_of_cell hc) (hf b off e (by omega)))).trans hc⟩⟩, h.least, h.few, h.other⟩

/-- The state of Dice.Nat: the dice; the number's slice in block A, owned; nothing else that lay before has turned. -/
structure NSt (w : World) (dp : Nat) (a : Option Addr) (cap : Nat) (ts : List Int) (A B : Nat) (la : Option Addr) (zs : List Int) (lc : Nat) (W : World) : Prop where
  dice : ∃ k, Dice W dp a cap ts k
  cell : W.cell? ⟨A, 0, none⟩ = some (.slice la zs.length lc)
  free : W.frozen? ⟨A, 0, none⟩ = false
  own : Own W B (.slice la zs.length lc) zs
  grown : w.grownBy W (some dp)
  bnd : dp < w.heap.size ∧ w.heap.size < A ∧ A < B ∧ B ≤ W.heap.size
  res : W.cell? ⟨w.heap.size, 0, none⟩ = some (.slice none 0 0) ∧ W.frozen? ⟨w.heap.size, 0, none⟩ = false
  far : ∀ b off, a = some ⟨b, off, none⟩ → 0 < ts.length → b < w.heap.size

section
variable {w : World} {dp : Nat} {a : Option Addr} {cap : Nat} {ts : List Int} {A B : Nat} {la : Option Addr} {zs : List Int} {lc : Nat} {W : World}
theorem NSt.drewN (h : NSt w dp a cap ts A B la zs lc W) (n : Nat) : NSt w dp a cap ts A B la zs lc (W.drewN n) :=
  ⟨h.dice.imp fun _ d => d.drewN n, h.cell, h.free, h.own.drewN n, grown_drewN h.grown n, h.bnd, h.res, h.far⟩
theorem NSt.drew (h : NSt w dp a cap ts A B la zs lc W) : NSt w dp a cap ts A B la zs lc W.drew := h.drewN 1
theorem NSt.alloc (h : NSt w dp a cap ts A B la zs lc W) (o : Obj) : NSt w dp a cap ts A B la zs lc (W.alloc o) :=
  ⟨h.dice.imp fun _ d => d.alloc o, cell_later o h.cell, frozen_later o h.cell h.free, h.own.alloc o, grown_alloc h.grown o, ⟨h.bnd.1, h.bnd.2.1, h.bnd.2.2.1, by have := h.bnd.2.2.2; simp; omega⟩, ⟨cell_later o h.res.1, frozen_later o h.res.1 h.res.2⟩, h.far⟩
theorem NSt.next (h : NSt w dp a cap ts A B la zs lc W) {W' : World} {k : Nat} (hd : Dice W' dp a cap ts k) (hg : W.grownBy W' (some dp)) : NSt w dp a cap ts A B la zs lc W' := by
  have hb := h.bnd
  have cA : some A ≠ some dp := by intro e; cases e; omega
  have cR : some w.heap.size ≠ some dp := by intro e; cases e; omega
  refine ⟨⟨k, hd⟩, hg.cell h.cell cA, (World.frozen?_of_block (hg.block A (lt_of_cell h.cell) cA)).trans h.free, World.ownsRow.kept h.own hg ?_, ⟨hg.os.trans h.grown.os, hg.tape.trans h.grown.tape, hg.output.trans h.grown.output, Nat.le_trans h.grown.size hg.size, fun x hx hne => (hg.block x (Nat.lt_of_lt_of_le hx h.grown.size) hne).trans (h.grown.block x hx hne)⟩,
    ⟨hb.1, hb.2.1, hb.2.2.1, Nat.le_trans hb.2.2.2 hg.size⟩, ⟨hg.cell h.res.1 cR, (World.frozen?_of_block (hg.block _ (lt_of_cell h.res.1) cR)).trans h.res.2⟩, h.far⟩
  cases hv : (Value.slice la zs.length lc).ownBlock with
  | none => exact .inl rfl
  | some k => exact .inr (by intro e; cases e; have := (World.ownsRow.lt h.own _ hv).1; omega)
end

/-- A throw in that state. -/
theorem throw_any {w : World} {dp : Nat} {a : Option Addr} {cap : Nat} {ts : List Int} {A B : Nat} {la : Option Addr} {zs : List Int} {lc : Nat} {W : World} (h : NSt w dp a cap ts A B la zs lc W) (n : Nat) (hn : 0 < n) (hn2 : n ≤ 4611686018427387904) :
    Calls Tryd.prog 50 #[.pointer (some ⟨dp, 0, none⟩), .int .i64 (n : Int)] W fun e W' => ∃ r : Nat, r < n ∧ e = .returned (.int .i64 (r : Int)) ∧ NSt w dp a cap ts A B la zs lc W' := by
  obtain ⟨k, hd⟩ := h.dice
  refine (next_any W dp a cap ts k n hn hn2 hd).mono ?_
  rintro e W' ⟨r, k', hr, he, hd', hg⟩
  exact ⟨r, hr, he, h.next hd' hg⟩

theorem throw_int {w : World} {dp : Nat} {a : Option Addr} {cap : Nat} {ts : List Int} {A B : Nat} {la : Option Addr} {zs : List Int} {lc : Nat} {W : World} (h : NSt w dp a cap ts A B la zs lc W) (n : Int) (hn : 0 < n) (hn2 : n ≤ 4611686018427387904) :
    Calls Tryd.prog 50 #[.pointer (some ⟨dp, 0, none⟩), .int .i64 n] W fun e W' => ∃ r : Nat, (r : Int) < n ∧ e = .returned (.int .i64 (r : Int)) ∧ NSt w dp a cap ts A B la zs lc W' ∧
      (∀ b o, b < W.heap.size → ¬ b = dp → W'.cell? ⟨b, o, none⟩ = W.cell? ⟨b, o, none⟩) ∧ W.heap.size ≤ W'.heap.size := by
  obtain ⟨m, rfl⟩ := Int.eq_ofNat_of_zero_le (Int.le_of_lt hn)
  obtain ⟨k, hd⟩ := h.dice
  refine (next_any W dp a cap ts k m (by omega) (by omega) hd).mono ?_
  rintro e W' ⟨r, k', hr, he, hd', hg⟩
  exact ⟨r, by omega, he, h.next hd' hg, fun b o hb hne => World.cell?_of_block (hg.block b hb (by intro e; cases e; exact hne rfl)), hg.size⟩

/-- Behind an append to the number's slice, and the store of what it gave. -/
theorem NSt.appended {w : World} {dp : Nat} {a : Option Addr} {cap : Nat} {ts : List Int} {A B : Nat} {la : Option Addr} {zs : List Int} {lc : Nat} {W W' : World} (h : NSt w dp a cap ts A B la zs lc W) {la' : Option Addr} {lc' : Nat} {ys : List Int} (hown : Own W' B (.slice la' ys.length lc') ys) (hg : W.grownBy W' (Value.slice la zs.length lc).ownBlock) :
    NSt w dp a cap ts A B la' ys lc' (W'.setCell ⟨A, 0, none⟩ (.slice la' ys.length lc')) ∧ W'.cell? ⟨A, 0, none⟩ = some (.slice la zs.length lc) ∧ W'.frozen? ⟨A, 0, none⟩ = false := by
  have hb := h.bnd
  have hrow : ∀ x, x < B → some x ≠ (Value.slice la zs.length lc).ownBlock := by
    intro x hx e
    have := (World.ownsRow.lt h.own x e.symm).1
    omega
  have hcA : W'.cell? ⟨A, 0, none⟩ = some (.slice la zs.length lc) := (World.cell?_of_block (hg.block A (lt_of_cell h.cell) (hrow A hb.2.2.1))).trans h.cell
  have hfA : W'.frozen? ⟨A, 0, none⟩ = false := (World.frozen?_of_block (hg.block A (lt_of_cell h.cell) (hrow A hb.2.2.1))).trans h.free
  refine ⟨⟨?_, World.cell?_setCell_same _ _ _ hcA, (World.frozen?_setCell _ _ _ _).trans hfA, hown.setBelow hb.2.2.1 _, ?_, ⟨hb.1, hb.2.1, hb.2.2.1, ?_⟩, ⟨?_, ?_⟩, h.far⟩, hcA, hfA⟩
  · obtain ⟨k, d⟩ := h.dice
    exact ⟨k, (d.grown hg (hrow dp (by omega)) fun b off e hl => hrow b (by have := h.far b off e hl; omega)).store hcA (show A ≠ dp by omega) _⟩
  · refine grown_setCell ⟨hg.os.trans h.grown.os, hg.tape.trans h.grown.tape, hg.output.trans h.grown.output, Nat.le_trans h.grown.size hg.size, fun x hx hne => (hg.block x (Nat.lt_of_lt_of_le hx h.grown.size) (hrow x (by omega))).trans (h.grown.block x hx hne)⟩ _ (.inl (show w.heap.size ≤ A by omega))
  · rw [show (W'.setCell ⟨A, 0, none⟩ (.slice la' ys.length lc')).heap.size = W'.heap.size by simp [World.setCell]]
    exact Nat.le_trans hb.2.2.2 hg.size
  · rw [cell_other _ (show w.heap.size ≠ A by omega)]
    exact (World.cell?_of_block (hg.block w.heap.size (lt_of_cell h.res.1) (hrow w.heap.size (by omega)))).trans h.res.1
  · rw [World.frozen?_setCell]
    exact (World.frozen?_of_block (hg.block w.heap.size (lt_of_cell h.res.1) (hrow w.heap.size (by omega)))).trans h.res.2

theorem Own.cutTo {W : World} {B : Nat} {a : Option Addr} {cap : Nat} {zs : List Int} (h : Own W B (.slice a zs.length cap) zs) (k : Nat) (hk : k ≤ zs.length) (h0 : 0 < zs.length) : Own W B (.slice a k cap) (zs.take k) := by
  have e1 : (zs.take k).length = k := by simp [hk]
  obtain ⟨h1, h2 | ⟨g, cap', cur, hv, hg, hh, r1, r2, r3, r4⟩⟩ := h
  · have := h2.2
    omega
  · cases hv
    unfold Own
    rw [e1]
    refine ⟨by simp [hk], .inr ⟨g, cap, cur, rfl, hg, hh, by omega, r2, r3, ?_⟩⟩
    rw [List.map_take, ← r4, List.take_take]
    congr 1; omega

/-- Behind z.Limbs = z.Limbs[:k]. -/
theorem NSt.cut {w : World} {dp : Nat} {a : Option Addr} {cap : Nat} {ts : List Int} {A B : Nat} {la : Option Addr} {zs : List Int} {lc : Nat} {W : World} (h : NSt w dp a cap ts A B la zs lc W) {k : Nat} (hk : k ≤ zs.length) (h0 : 0 < zs.length) :
    NSt w dp a cap ts A B la (zs.take k) lc (W.setCell ⟨A, 0, none⟩ (.slice la k lc)) := by
  have hb := h.bnd
  have e1 : (zs.take k).length = k := by simp [hk]
  have ho := h.own.cutTo k hk h0
  refine ⟨?_, ?_, (World.frozen?_setCell _ _ _ _).trans h.free, ?_, grown_setCell h.grown _ (.inl (show w.heap.size ≤ A by omega)), ⟨hb.1, hb.2.1, hb.2.2.1, ?_⟩, ⟨?_, ?_⟩, h.far⟩
  · obtain ⟨k', d⟩ := h.dice
    exact ⟨k', d.store h.cell (show A ≠ dp by omega) _⟩
  · rw [e1]; exact World.cell?_setCell_same _ _ _ h.cell
  · rw [e1]; exact ho.setBelow hb.2.2.1 _
  · rw [show (W.setCell ⟨A, 0, none⟩ (.slice la k lc)).heap.size = W.heap.size by simp [World.setCell]]
    exact hb.2.2.2
  · rw [cell_other _ (show w.heap.size ≠ A by omega)]; exact h.res.1
  · rw [World.frozen?_setCell]; exact h.res.2

/-- The number is done. -/
theorem NSt.done {w : World} {dp : Nat} {a : Option Addr} {cap : Nat} {ts : List Int} {A B : Nat} {la : Option Addr} {zs : List Int} {lc : Nat} {W : World} (h : NSt w dp a cap ts A B la zs lc W) (hl : M.Lim zs) {most : Nat} (hm : zs.length ≤ most) (hz : zs = [] ∨ M.el zs (zs.length - 1) ≠ 0) :
    ∃ (v : Value) (x k' : Nat), Ending.returned (.agg #[.slice la zs.length lc]) = Ending.returned v ∧ Num (W.setCell ⟨w.heap.size, 0, none⟩ (.slice la zs.length lc)) v x ∧ (M.dig x).length ≤ most ∧ Dice (W.setCell ⟨w.heap.size, 0, none⟩ (.slice la zs.length lc)) dp a cap ts k' ∧ w.grownBy (W.setCell ⟨w.heap.size, 0, none⟩ (.slice la zs.length lc)) (some dp) ∧ ∀ W', (W.setCell ⟨w.heap.size, 0, none⟩ (.slice la zs.length lc)).grownBy W' (some dp) → Num W' v x := by
  have hb := h.bnd
  obtain ⟨k', d⟩ := h.dice
  have hd : M.dig (M.val zs).toNat = zs := by
    rw [← M.trimL_dig hl]
    refine M.trimL_last (hz.imp id fun hne e => hne ?_)
    rw [List.getLast?_eq_getElem?] at e
    unfold M.el
    rw [e]; rfl
  refine ⟨_, (M.val zs).toNat, k', rfl, ⟨la, lc, by rw [hd], ?_⟩, by rw [hd]; exact hm, d.store h.res.1 (show w.heap.size ≠ dp by omega) _, grown_setCell h.grown _ (.inl (Nat.le_refl _)), fun W' hg => ⟨la, lc, by rw [hd], ?_⟩⟩
  · rw [hd]
    exact h.own.rowAt.store h.res.1 _
  · rw [hd]
    refine Own.rowAt (B := B) (World.ownsRow.kept (h.own.setBelow (p := ⟨w.heap.size, 0, none⟩) (show w.heap.size < B by omega) _) hg ?_)
    cases hv : (Value.slice la zs.length lc).ownBlock with
    | none => exact .inl rfl
    | some k => exact .inr (by intro e; cases e; have := (World.ownsRow.lt h.own _ hv).1; omega)

/-- append(z.Limbs, y), at a step of a region that draws its order. -/
theorem step_append_n {ops : Array Oper} {o : Oper} {x : Act} {K : Act → World → Prop} {Q : Exit → Act → World → Prop} {E : Prop} (hgd : o.guard = none) (s y : Operand)
    (ho : o.op = .call { callee := .builtin .append, args := #[s, y], argTypes := #[22, 22] })
    {w : World} {dp : Nat} {a : Option Addr} {cap : Nat} {ts : List Int} {A B : Nat} {la : Option Addr} {zs : List Int} {lc : Nat} {W : World} (h : NSt w dp a cap ts A B la zs lc W) (hlen : zs.length < 1000)
    (hs : x.eval s = .slice la zs.length lc) {b : Nat} (hx : x.eval y = .slice (some ⟨b, 0, none⟩) 1 1) {z : Int} (hz : W.cell? ⟨b, 0, none⟩ = some (.int .i64 z))
    (hK : ∀ la' lc' W', NSt w dp a cap ts A B la' (zs ++ [z]) lc' (W'.setCell ⟨A, 0, none⟩ (.slice la' (zs.length + 1) lc')) → W'.cell? ⟨A, 0, none⟩ = some (.slice la zs.length lc) → W'.frozen? ⟨A, 0, none⟩ = false → K (x.put o.dst (.slice la' (zs.length + 1) lc')) W') :
    if Region.wanted o (yielded ops x.tmps) = true then Oper.wp Tryd.prog o x W K Q else E := by
  obtain ⟨i0, hi, hz0, hz1, hz2⟩ := info_parts info_int
  refine step_append_lies W hgd s y 22 ho B 3 i0 (.int .i64 0) 1 8 Tryd.underlying22 hi hz0 hz1 hz2 rfl (by decide) _ zs.length (zs.map (Value.int .i64)) hs h.own ⟨b, 0, none⟩ 1 1 [.int .i64 z] hx rfl ?_ ?_ (by decide) (by unfold maxLen; omega) (by omega) h.bnd.2.2.2 _ rfl ?_
  · intro j u hj
    match j, hj with
    | 0, hj => simp at hj; subst hj; simpa [Addr.add] using hz
  · intro u hu; simp at hu; subst hu; rfl
  · intro g lc' W' hown' hgrow _ _
    have ho2 : Own W' B (.slice (some ⟨g, 0, none⟩) (zs ++ [z]).length lc') (zs ++ [z]) := by unfold Own; simpa using hown'
    obtain ⟨h1, h2, h3⟩ := h.appended ho2 hgrow
    rw [show (zs ++ [z]).length = zs.length + 1 by simp] at h1
    exact hK _ lc' W' h1 h2 h3

theorem cell_of_new2 (w : World) (o : Obj) (v : Value) (t : TypeId) : ((w.alloc o).alloc (.cells #[v] t)).cell? ⟨w.heap.size + 1, 0, none⟩ = some v := by
  have := (cell_of_new (w.alloc o) v t).1
  rwa [World.size_alloc] at this

/-- The limb that a throw below 4 picks. -/
def pk (x y : Nat) (r : Nat) : Nat := if r = 0 then x else if r = 1 then 0 else if r = 2 then 16777215 else y
theorem pk_lim {x y r : Nat} (hx : (x : Int) < 16777216) (hy : (y : Int) < 10) : (pk x y r : Int) < 16777216 := by
  unfold pk; split
  · exact hx
  · split
    · omega
    · split
      · omega
      · omega
/-- The picked cell of the four that have just been laid. -/
theorem pick_now (W : World) (r : Nat) (hr : (r : Int) < 4) (x y : Nat) (t : TypeId) : (W.alloc (.cells #[.int .i64 (x : Int), .int .i64 0, .int .i64 16777215, .int .i64 (y : Int)] t)).cell? ⟨W.heap.size, r, none⟩ = some (.int .i64 (pk x y r : Int)) := by
  have hb : (W.alloc (.cells #[.int .i64 (x : Int), .int .i64 0, .int .i64 16777215, .int .i64 (y : Int)] t)).heap[W.heap.size]? = some (.cells #[.int .i64 (x : Int), .int .i64 0, .int .i64 16777215, .int .i64 (y : Int)] t) := Array.getElem?_push_size
  rw [cell_of_row _ _ r _ _ _ hb]
  match r, hr with
  | 0, _ => rfl
  | 1, _ => rfl
  | 2, _ => rfl
  | 3, _ => rfl
  | r + 4, h => omega
/-- Behind a throw the picked cell stands. -/
theorem pick_behind {W W' : World} {dp : Nat} {x y : Nat} {t : TypeId} (hdp : dp < W.heap.size)
    (hk : ∀ b o, b < (W.alloc (.cells #[.int .i64 (x : Int), .int .i64 0, .int .i64 16777215, .int .i64 (y : Int)] t)).heap.size → ¬ b = dp → W'.cell? ⟨b, o, none⟩ = (W.alloc (.cells #[.int .i64 (x : Int), .int .i64 0, .int .i64 16777215, .int .i64 (y : Int)] t)).cell? ⟨b, o, none⟩) (r : Nat) (hr : (r : Int) < 4) :
    W'.cell? ⟨W.heap.size, r, none⟩ = some (.int .i64 (pk x y r : Int)) :=
  (hk _ _ (by rw [World.size_alloc]; omega) (by omega)).trans (pick_now W r hr x y t)

/-- What holds in Dice.Nat's first loop. -/
def DnRel (w : World) (dp : Nat) (a : Option Addr) (cap : Nat) (ts : List Int) (most : Nat) (i : Value) (W : World) : Prop :=
  ∃ (m : Nat) (la : Option Addr) (zs : List Int) (lc : Nat), i = .int .i64 (m : Int) ∧ zs.length + m ≤ most ∧ M.Lim zs ∧ NSt w dp a cap ts (w.heap.size + 1) (w.heap.size + 2) la zs lc W

/-- What holds in Dice.Nat's second loop. -/
def DnTrim (w : World) (dp : Nat) (a : Option Addr) (cap : Nat) (ts : List Int) (most : Nat) (i : Value) (W : World) : Prop :=
  ∃ (la : Option Addr) (zs : List Int) (lc : Nat), i = .int .i64 (zs.length : Int) ∧ zs.length ≤ most ∧ M.Lim zs ∧ NSt w dp a cap ts (w.heap.size + 1) (w.heap.size + 2) la zs lc W

/-- Behind one throw of the loop: one limb more. -/
def DnMid (w : World) (dp : Nat) (a : Option Addr) (cap : Nat) (ts : List Int) (n : Nat) (W : World) : Prop :=
  ∃ (la : Option Addr) (zs : List Int) (lc : Nat), zs.length = n + 1 ∧ M.Lim zs ∧ NSt w dp a cap ts (w.heap.size + 1) (w.heap.size + 2) la zs lc W

set_option maxRecDepth 100000 in
set_option maxHeartbeats 3000000 in
theorem diceNat_keep (w : World) (dp : Nat) (a : Option Addr) (cap : Nat) (ts : List Int) (k most : Nat) (hm : most ≤ 40) (hD : Dice w dp a cap ts k) :
    Calls Tryd.prog 22 #[.pointer (some ⟨dp, 0, none⟩), .int .i64 (most : Int)] w fun e W => ∃ (v : Value) (x k' : Nat), e = .returned v ∧ Num W v x ∧ (M.dig x).length ≤ most ∧ Dice W dp a cap ts k' ∧ w.grownBy W (some dp) ∧ ∀ W', W.grownBy W' (some dp) → Num W' v x := by
  have hlt := hD.lt
  have c0 := cell_of_new w (.slice none 0 0) 24
  have c1 := cell_of_new (w.alloc (.cells #[.slice none 0 0] 24)) (.slice none 0 0) 24
  simp only [World.size_alloc] at c1
  have hst : NSt w dp a cap ts (w.heap.size + 1) (w.heap.size + 2) none [] 0 ((w.alloc (.cells #[.slice none 0 0] 24)).alloc (.cells #[.slice none 0 0] 24)) :=
    ⟨⟨k, (hD.alloc _).alloc _⟩, c1.1, c1.2, Own.nil _ _, grown_alloc (grown_alloc (World.grownBy.refl w _) _) _, ⟨hlt, by omega, by omega, by simp⟩, ⟨cell_later _ c0.1, frozen_later _ c0.1 c0.2⟩, hD.far⟩
  have HST := Lib.hid hst
  have hth := throw_any hst (most + 1) (by omega) (by omega)
  rw [show ((most + 1 : Nat) : Int) = (most : Int) + 1 from rfl] at hth
  have HTH := Lib.hid hth
  clear hth hst c0 c1
  go_enter Tryd.func22, Tryd.ntmps22
  go_wp2_with fail
  refine HTH.out.mono ?_
  rintro e w1 ⟨r, hr, rfl, hst1⟩
  have HS1 := Lib.hid hst1
  clear hst1 HTH HST
  go_wp2_with fail
  go_loopw [6] (fun i wr => DnRel w dp a cap ts most i wr) (fun i _ => (intOf i).toNat)
  case atStart => exact ⟨r, none, [], 0, rfl, by simp; omega, M.Lim.nil, HS1.out⟩
  case round =>
    obtain ⟨m, la, zs, lc, rfl, hzm, hlim, hst⟩ := hrel
    have hcA := hst.cell
    have hfA := hst.free
    by_cases h0 : 0 < m
    · go_wp2_with fail
      have hdpA : ¬ w.heap.size + 1 = dp := by omega
      have HST2 := Lib.hid hst
      go_region_law (first
        | (refine step_append_n (w := w) (a := a) (cap := cap) (ts := ts) rfl (.tmp 17) (.tmp 27) rfl (by first | exact hst.alloc _ | exact (hst.alloc _).alloc _ | exact hst) (by omega) (by rfl) (by rfl) (by first | exact (cell_of_new _ _ _).1 | exact cell_of_new2 _ _ _ _) ?_; intro la' lc' w' hst hcA hfA)
        | (go_simp; go_at_call 50; with_reducible refine (throw_int (w := w) (a := a) (cap := cap) (ts := ts) (by first | exact hst | exact hst.drew | exact hst.alloc _ | exact hst.drew.alloc _ | exact (hst.alloc _).drew) _ (by decide) (by decide)).mono ?_; rintro e w' ⟨r1, hr1, rfl, hst, hkp, hsz⟩; have hcA := hst.cell; have hfA := hst.free; have hbd := hst.bnd; have hcL := fun o => cell_later o hst.cell; have hcLL := fun o p => cell_later p (cell_later o hst.cell); (first | have hcB := pick_behind (by omega) hkp _ hr1 | have hcB := fun (x y : Nat) (t : TypeId) => pick_now w' r1 hr1 x y t | skip); have HK := Lib.hid hkp; clear hkp; go_simp))
      all_goals (
        have HH := Lib.hid hst
        clear hst hcA hfA hcL hcLL hcB
        go_wp2_with fail
        go_roundw
        case rel =>
          refine ⟨m - 1, _, _, _, congrArg (Value.int .i64) (by omega), ?_, ?_, HH.out⟩
          · rw [List.length_append]; simp only [List.length_cons, List.length_nil]; omega
          · exact hlim.append (M.Lim.cons (Int.natCast_nonneg _) (pk_lim (by omega) (by omega)) M.Lim.nil)
        case measure => simp [intOf]; omega)
    · have hm0 : m = 0 := by omega
      subst hm0
      have HST := Lib.hid hst
      have HL := Lib.hid hlim
      clear hst hlim
      go_wp2_with fail
      go_loopw [7] (fun i wr => DnTrim w dp a cap ts most i wr) (fun i _ => (intOf i).toNat)
      case atStart => exact ⟨la, zs, lc, by simp, by omega, HL.out, HST.out⟩
      case round =>
        clear hcA hfA
        obtain ⟨la, zs, lc, rfl, hzm, hlim, hst⟩ := hrel
        have hcA := hst.cell
        have hfA := hst.free
        have hr := hst.res
        have HS := Lib.hid hst
        have HL := Lib.hid hlim
        by_cases h0 : 0 < zs.length
        · obtain ⟨g, c, hv, hBg, hgW, hroom, hmost, hel⟩ : ∃ g cap, Value.slice la zs.length lc = .slice (some ⟨g, 0, none⟩) zs.length cap ∧ w.heap.size + 2 ≤ g ∧ g < wr.heap.size ∧ zs.length ≤ cap ∧ cap ≤ 9223372036854775807 ∧ ∀ j, j < zs.length → wr.cell? ⟨g, j, none⟩ = some (.int .i64 (M.el zs j)) ∧ wr.frozen? ⟨g, j, none⟩ = false := by
            rcases hst.own.parts with ⟨_, e⟩ | h
            · rw [e] at h0; simp at h0
            · exact h
          cases hv
          have hlast := (hel (zs.length - 1) (by omega)).1
          have hi : ((zs.length : Int) - 1).toNat = zs.length - 1 := by omega
          clear hst hlim
          by_cases hz : M.el zs (zs.length - 1) = 0
          · have HZ := Lib.hid hz
            rw [hz] at hlast
            clear hel
            go_wp2_with fail
            go_roundw
            case rel => exact ⟨some ⟨g, 0, none⟩, zs.take (zs.length - 1), lc, by rw [List.length_take]; exact congrArg (Value.int .i64) (by omega), by rw [List.length_take]; omega, HL.out.take _, HS.out.cut (by omega) (by omega)⟩
            case measure => simp [intOf]; omega
          · have hzb : (M.el zs (zs.length - 1) == 0) = false := by rw [beq_eq_false_iff_ne]; exact hz
            clear hel
            go_wp2_with fail
            refine bodyPost_ret (v := .agg #[.slice (some ⟨g, 0, none⟩) zs.length lc]) (by simp [results, Tryd.results22, go_sem, hr.1]) rfl (HS.out.done HL.out hzm (.inr hz))
        · clear hst hlim
          go_wp2_with fail
          refine bodyPost_ret (v := .agg #[.slice la zs.length lc]) (by simp [results, Tryd.results22, go_sem, hr.1]) rfl (HS.out.done HL.out hzm (.inl (List.length_eq_zero_iff.1 (by omega))))

theorem diceNat_any (w : World) (dp : Nat) (a : Option Addr) (cap : Nat) (ts : List Int) (k most : Nat) (hm : most ≤ 40) (hD : Dice w dp a cap ts k) :
    Calls Tryd.prog 22 #[.pointer (some ⟨dp, 0, none⟩), .int .i64 (most : Int)] w fun e W => ∃ (v : Value) (x k' : Nat), e = .returned v ∧ Num W v x ∧ (M.dig x).length ≤ most ∧ Dice W dp a cap ts k' ∧ w.grownBy W (some dp) := by
  refine (diceNat_keep w dp a cap ts k most hm hD).mono ?_
  rintro e W ⟨v, x, k', h1, h2, h3, h4, h5, _⟩
  exact ⟨v, x, k', h1, h2, h3, h4, h5⟩
end Go.Proofs.YtamniclnhenmgaaDoor
