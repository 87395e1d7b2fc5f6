/- Dice.Nat of the statements. law01.long: a number of a given number of limbs. The walk of NatPowers; made.Light, made.Roll. -/
import Derived.Test.YtfaggdjoogpmmaaDoorB8
import Derived.Deep.RegionLaw
import Derived.Deep.AppendLies
import Derived.Deep.DeepCutAuto
namespace Go.Proofs.YtfaggdjoogpmmaaDoor
open Go Go.RowKit Go.Shelf

theorem Dice.far {w : World} {dp : Nat} {a : Option Addr} {cap : Nat} {ts : List Int} {k : Nat} (h : Dice w dp a cap ts k) : ∀ b off, a = some ⟨b, off, none⟩ → 0 < ts.length → b < w.heap.size := by
  intro b off e hl
  obtain ⟨b', off', e', hc⟩ := h.row.el 0 hl
  rw [e] at e'; cases e'
  exact lt_of_cell hc
theorem Dice.grown {W W' : World} {dp : Nat} {a : Option Addr} {cap : Nat} {ts : List Int} {k : Nat} {row : Option Nat} (h : Dice W dp a cap ts k) (hg : W.grownBy W' row) (hne : some dp ≠ row) (hf : ∀ b off, a = some ⟨b, off, none⟩ → 0 < ts.length → some b ≠ row) : Dice W' dp a cap ts k :=
  ⟨(World.cell?_of_block (hg.block dp h.lt hne)).trans h.list, (World.cell?_of_block (hg.block dp h.lt hne)).trans h.at', (World.frozen?_of_block (hg.block dp h.lt hne)).trans h.free,
    ⟨h.row.room, h.row.most, fun j hj => by
      obtain ⟨b, off, e, hc⟩ := h.row.el j hj
      exact ⟨b, off, e, (World.cell?_of_block (hg.block b (lt_of_cell hc) (hf b off e (by omega)))).trans hc⟩⟩, h.least, h.few, h.other⟩

/-- The state of Dice.Nat: the dice; the number's slice in block A, owned; nothing else that lay before has turned. -/
structure NSt (w : World) (dp : Nat) (a : Option Addr) (cap : Nat) (ts : List Int) (A B : Nat) (la : Option Addr) (zs : List Int) (lc : Nat) (W : World) : Prop where
  dice : ∃ k, Dice W dp a cap ts k
  cell : W.cell? ⟨A, 0, none⟩ = some (.slice la zs.length lc)
  free : W.frozen? ⟨A, 0, none⟩ = false
  own : Own W B (.slice la zs.length lc) zs
  grown : w.grownBy W (some dp)
  bnd : dp < w.heap.size ∧ w.heap.size < A ∧ A < B ∧ B ≤ W.heap.size
  res : W.cell? ⟨w.heap.size, 0, none⟩ = some (.slice none 0 0) ∧ W.frozen? ⟨w.heap.size, 0, none⟩ = false
  far : ∀ b off, a = some ⟨b, off, none⟩ → 0 < ts.length → b < w.heap.size

section
variable {w : World} {dp : Nat} {a : Option Addr} {cap : Nat} {ts : List Int} {A B : Nat} {la : Option Addr} {zs : List Int} {lc : Nat} {W : World}
theorem NSt.drewN (h : NSt w dp a cap ts A B la zs lc W) (n : Nat) : NSt w dp a cap ts A B la zs lc (W.drewN n) :=
  ⟨h.dice.imp fun _ d => d.drewN n, h.cell, h.free, h.own.drewN n, grown_drewN h.grown n, h.bnd, h.res, h.far⟩
theorem NSt.drew (h : NSt w dp a cap ts A B la zs lc W) : NSt w dp a cap ts A B la zs lc W.drew := h.drewN 1
theorem NSt.alloc (h : NSt w dp a cap ts A B la zs lc W) (o : Obj) : NSt w dp a cap ts A B la zs lc (W.alloc o) :=
  ⟨h.dice.imp fun _ d => d.alloc o, cell_later o h.cell, frozen_later o h.cell h.free, h.own.alloc o, grown_alloc h.grown o, ⟨h.bnd.1, h.bnd.2.1, h.bnd.2.2.1, by have := h.bnd.2.2.2; simp; omega⟩, ⟨cell_later o h.res.1, frozen_later o h.res.1 h.res.2⟩, h.far⟩
theorem NSt.next (h : NSt w dp a cap ts A B la zs lc W) {W' : World} {k : Nat} (hd : Dice W' dp a cap ts k) (hg : W.grownBy W' (some dp)) : NSt w dp a cap ts A B la zs lc W' := by
  have hb := h.bnd
  have cA : some A ≠ some dp := by intro e; cases e; omega
  have cR : some w.heap.size ≠ some dp := by intro e; cases e; omega
  refine ⟨⟨k, hd⟩, hg.cell h.cell cA, (World.frozen?_of_block (hg.block A (lt_of_cell h.cell) cA)).trans h.free, World.ownsRow.kept h.own hg ?_, ⟨hg.os.trans h.grown.os, hg.tape.trans h.grown.tape, hg.output.trans h.grown.output, Nat.le_trans h.grown.size hg.size, fun x hx hne => (hg.block x (Nat.lt_of_lt_of_le hx h.grown.size) hne).trans (h.grown.block x hx hne)⟩,
    ⟨hb.1, hb.2.1, hb.2.2.1, Nat.le_trans hb.2.2.2 hg.size⟩, ⟨hg.cell h.res.1 cR, (World.frozen?_of_block (hg.block _ (lt_of_cell h.res.1) cR)).trans h.res.2⟩, h.far⟩
  cases hv : (Value.slice la zs.length lc).ownBlock with
  | none => exact .inl rfl
  | some k => exact .inr (by intro e; cases e; have := (World.ownsRow.lt h.own _ hv).1; omega)
end

/-- A throw in that state. -/
theorem throw_any {w : World} {dp : Nat} {a : Option Addr} {cap : Nat} {ts : List Int} {A B : Nat} {la : Option Addr} {zs : List Int} {lc : Nat} {W : World} (h : NSt w dp a cap ts A B la zs lc W) (n : Nat) (hn : 0 < n) (hn2 : n ≤ 4611686018427387904) :
    Calls Tryd.prog 50 #[.pointer (some ⟨dp, 0, none⟩), .int .i64 (n : Int)] W fun e W' => ∃ r : Nat, r < n ∧ e = .returned (.int .i64 (r : Int)) ∧ NSt w dp a cap ts A B la zs lc W' := by
  obtain ⟨k, hd⟩ := h.dice
  refine (next_any W dp a cap ts k n hn hn2 hd).mono ?_
  rintro e W' ⟨r, k', hr, he, hd', hg⟩
  exact ⟨r, hr, he, h.next hd' hg⟩

theorem throw_int {w : World} {dp : Nat} {a : Option Addr} {cap : Nat} {ts : List Int} {A B : Nat} {la : Option Addr} {zs : List Int} {lc : Nat} {W : World} (h : NSt w dp a cap ts A B la zs lc W) (n : Int) (hn : 0 < n) (hn2 : n ≤ 4611686018427387904) :
    Calls Tryd.prog 50 #[.pointer (some ⟨dp, 0, none⟩), .int .i64 n] W fun e W' => ∃ r : Nat, (r : Int) < n ∧ e = .returned (.int .i64 (r : Int)) ∧ NSt w dp a cap ts A B la zs lc W' ∧
      (∀ b o, b < W.heap.size → ¬ b = dp → W'.cell? ⟨b, o, none⟩ = W.cell? ⟨b, o, none⟩) ∧ W.heap.size ≤ W'.heap.size := by
  obtain ⟨m, rfl⟩ := Int.eq_ofNat_of_zero_le (Int.le_of_lt hn)
  obtain ⟨k, hd⟩ := h.dice
  refine (next_any W dp a cap ts k m (by omega) (by omega) hd).mono ?_
  rintro e W' ⟨r, k', hr, he, hd', hg⟩
  exact ⟨r, by omega, he, h.next hd' hg, fun b o hb hne => World.cell?_of_block (hg.block b hb (by intro e; cases e; exact hne rfl)), hg.size⟩

/-- Behind an append to the number's slice, and the store of what it gave. -/
theorem NSt.appended {w : World} {dp : Nat} {a : Option Addr} {cap : Nat} {ts : List Int} {A B : Nat} {la : Option Addr} {zs : List Int} {lc : Nat} {W W' : World} (h : NSt w dp a cap ts A B la zs lc W) {la' : Option Addr} {lc' : Nat} {ys : List Int} (hown : Own W' B (.slice la' ys.length lc') ys) (hg : W.grownBy W' (Value.slice la zs.length lc).ownBlock) :
    NSt w dp a cap ts A B la' ys lc' (W'.setCell ⟨A, 0, none⟩ (.slice la' ys.length lc')) ∧ W'.cell? ⟨A, 0, none⟩ = some (.slice la zs.length lc) ∧ W'.frozen? ⟨A, 0, none⟩ = false := by
  have hb := h.bnd
  have hrow : ∀ x, x < B → some x ≠ (Value.slice la zs.length lc).ownBlock := by
    intro x hx e
    have := (World.ownsRow.lt h.own x e.symm).1
    omega
  have hcA : W'.cell? ⟨A, 0, none⟩ = some (.slice la zs.length lc) := (World.cell?_of_block (hg.block A (lt_of_cell h.cell) (hrow A hb.2.2.1))).trans h.cell
  have hfA : W'.frozen? ⟨A, 0, none⟩ = false := (World.frozen?_of_block (hg.block A (lt_of_cell h.cell) (hrow A hb.2.2.1))).trans h.free
  refine ⟨⟨?_, World.cell?_setCell_same _ _ _ hcA, (World.frozen?_setCell _ _ _ _).trans hfA, hown.setBelow hb.2.2.1 _, ?_, ⟨hb.1, hb.2.1, hb.2.2.1, ?_⟩, ⟨?_, ?_⟩, h.far⟩, hcA, hfA⟩
  · obtain ⟨k, d⟩ := h.dice
    exact ⟨k, (d.grown hg (hrow dp (by omega)) fun b off e hl => hrow b (by have := h.far b off e hl; omega)).store hcA (show A ≠ dp by omega) _⟩
  · refine grown_setCell ⟨hg.os.trans h.grown.os, hg.tape.trans h.grown.tape, hg.output.trans h.grown.output, Nat.le_trans h.grown.size hg.size, fun x hx hne => (hg.block x (Nat.lt_of_lt_of_le hx h.grown.size) (hrow x (by omega))).trans (h.grown.block x hx hne)⟩ _ (.inl (show w.heap.size ≤ A by omega))
  · rw [show (W'.setCell ⟨A, 0, none⟩ (.slice la' ys.length lc')).heap.size = W'.heap.size by simp [World.setCell]]
    exact Nat.le_trans hb.2.2.2 hg.size
  · rw [cell_other _ (show w.heap.size ≠ A by omega)]
    exact (World.cell?_of_block (hg.block w.heap.size (lt_of_cell h.res.1) (hrow w.heap.size (by omega)))).trans h.res.1
  · rw [World.frozen?_setCell]
    exact (World.frozen?_of_block (hg.block w.heap.size (lt_of_cell h.res.1) (hrow w.heap.size (by omega)))).trans h.res.2

theorem Own.cutTo {W : World} {B : Nat} {a : Option Addr} {cap : Nat} {zs : List Int} (h : Own W B (.slice a zs.length cap) zs) (k : Nat) (hk : k ≤ zs.length) (h0 : 0 < zs.length) : Own W B (.slice a k cap) (zs.take k) := by
  have e1 : (zs.take k).length = k := by simp [hk]
  obtain ⟨h1, h2 | ⟨g, cap', cur, hv, hg, hh, r1, r2, r3, r4⟩⟩ := h
  · have := h2.2
    omega
  · cases hv
    unfold Own
    rw [e1]
    refine ⟨by simp [hk], .inr ⟨g, cap, cur, rfl, hg, hh, by omega, r2, r3, ?_⟩⟩
    rw [List.map_take, ← r4, List.take_take]
    congr 1; omega

/-- Behind z.Limbs = z.Limbs[:k]. -/
theorem NSt.cut {w : World} {dp : Nat} {a : Option Addr} {cap : Nat} {ts : List Int} {A B : Nat} {la : Option Addr} {zs : List Int} {lc : Nat} {W : World} (h : NSt w dp a cap ts A B la zs lc W) {k : Nat} (hk : k ≤ zs.length) (h0 : 0 < zs.length) :
    NSt w dp a cap ts A B la (zs.take k) lc (W.setCell ⟨A, 0, none⟩ (.slice la k lc)) := by
  have hb := h.bnd
  have e1 : (zs.take k).length = k := by simp [hk]
  have ho := h.own.cutTo k hk h0
  refine ⟨?_, ?_, (World.frozen?_setCell _ _ _ _).trans h.free, ?_, grown_setCell h.grown _ (.inl (show w.heap.size ≤ A by omega)), ⟨hb.1, hb.2.1, hb.2.2.1, ?_⟩, ⟨?_, ?_⟩, h.far⟩
  · obtain ⟨k', d⟩ := h.dice
    exact ⟨k', d.store h.cell (show A ≠ dp by omega) _⟩
  · rw [e1]; exact World.cell?_setCell_same _ _ _ h.cell
  · rw [e1]; exact ho.setBelow hb.2.2.1 _
  · rw [show (W.setCell ⟨A, 0, none⟩ (.slice la k lc)).heap.size = W.heap.size by simp [World.setCell]]
    exact hb.2.2.2
  · rw [cell_other _ (show w.heap.size ≠ A by omega)]; exact h.res.1
  · rw [World.frozen?_setCell]; exact h.res.2

/-- The number is done. -/
theorem NSt.done {w : World} {dp : Nat} {a : Option Addr} {cap : Nat} {ts : List Int} {A B : Nat} {la : Option Addr} {zs : List Int} {lc : Nat} {W : World} (h : NSt w dp a cap ts A B la zs lc W) (hl : M.Lim zs) {most : Nat} (hm : zs.length ≤ most) (hz : zs = [] ∨ M.el zs (zs.length - 1) ≠ 0) :
    ∃ (v : Value) (x k' : Nat), Ending.returned (.agg #[.slice la zs.length lc]) = Ending.returned v ∧ Num (W.setCell ⟨w.heap.size, 0, none⟩ (.slice la zs.length lc)) v x ∧ (M.dig x).length ≤ most ∧ Dice (W.setCell ⟨w.heap.size, 0, none⟩ (.slice la zs.length lc)) dp a cap ts k' ∧ w.grownBy (W.setCell ⟨w.heap.size, 0, none⟩ (.slice la zs.length lc)) (some dp) ∧ ∀ W', (W.setCell ⟨w.heap.size, 0, none⟩ (.slice la zs.length lc)).grownBy W' (some dp) → Num W' v x := by
  have hb := h.bnd
  obtain ⟨k', d⟩ := h.dice
  have hd : M.dig (M.val zs).toNat = zs := by
    rw [← M.trimL_dig hl]
    refine M.trimL_last (hz.imp id fun hne e => hne ?_)
    rw [List.getLast?_eq_getElem?] at e
    unfold M.el
    rw [e]; rfl
  refine ⟨_, (M.val zs).toNat, k', rfl, ⟨la, lc, by rw [hd], ?_⟩, by rw [hd]; exact hm, d.store h.res.1 (show w.heap.size ≠ dp by omega) _, grown_setCell h.grown _ (.inl (Nat.le_refl _)), fun W' hg => ⟨la, lc, by rw [hd], ?_⟩⟩
  · rw [hd]
    exact h.own.rowAt.store h.res.1 _
  · rw [hd]
    refine Own.rowAt (B := B) (World.ownsRow.kept (h.own.setBelow (p := ⟨w.heap.size, 0, none⟩) (show w.heap.size < B by omega) _) hg ?_)
    cases hv : (Value.slice la zs.length lc).ownBlock with
    | none => exact .inl rfl
    | some k => exact .inr (by intro e; cases e; have := (World.ownsRow.lt h.own _ hv).1; omega)

/-- append(z.Limbs, y), at a step of a region that draws its order. -/
theorem step_append_n {ops : Array Oper} {o : Oper} {x : Act} {K : Act → World → Prop} {Q : Exit → Act → World → Prop} {E : Prop} (hgd : o.guard = none) (s y : Operand)
    (ho : o.op = .call { callee := .builtin .append, args := #[s, y], argTypes := #[22, 22] })
    {w : World} {dp : Nat} {a : Option Addr} {cap : Nat} {ts : List Int} {A B : Nat} {la : Option Addr} {zs : List Int} {lc : Nat} {W : World} (h : NSt w dp a cap ts A B la zs lc W) (hlen : zs.length < 1000)
    (hs : x.eval s = .slice la zs.length lc) {b : Nat} (hx : x.eval y = .slice (some ⟨b, 0, none⟩) 1 1) {z : Int} (hz : W.cell? ⟨b, 0, none⟩ = some (.int .i64 z))
    (hK : ∀ la' lc' W', NSt w dp a cap ts A B la' (zs ++ [z]) lc' (W'.setCell ⟨A, 0, none⟩ (.slice la' (zs.length + 1) lc')) → W'.cell? ⟨A, 0, none⟩ = some (.slice la zs.length lc) → W'.frozen? ⟨A, 0, none⟩ = false → K (x.put o.dst (.slice la' (zs.length + 1) lc')) W') :
    if Region.wanted o (yielded ops x.tmps) = true then Oper.wp Tryd.prog o x W K Q else E := by
  obtain ⟨i0, hi, hz0, hz1, hz2⟩ := info_parts info_int
  refine step_append_lies W hgd s y 22 ho B 3 i0 (.int .i64 0) 1 8 Tryd.underlying22 hi hz0 hz1 hz2 rfl (by decide) _ zs.length (zs.map (Value.int .i64)) hs h.own ⟨b, 0, none⟩ 1 1 [.int .i64 z] hx rfl ?_ ?_ (by decide) (by unfold maxLen; omega) (by omega) h.bnd.2.2.2 _ rfl ?_
  · intro j u hj
    match j, hj with
    | 0, hj => simp at hj; subst hj; simpa [Addr.add] using hz
  · intro u hu; simp at hu; subst hu; rfl
  · intro g lc' W' hown' hgrow _ _
    have ho2 : Own W' B (.slice (some ⟨g, 0, none⟩) (zs ++ [z]).length lc') (zs ++ [z]) := by unfold Own; simpa using hown'
    obtain ⟨h1, h2, h3⟩ := h.appended ho2 hgrow
    rw [show (zs ++ [z]).length = zs.length + 1 by simp] at h1
    exact hK _ lc' W' h1 h2 h3

theorem cell_of_new2 (w : World) (o : Obj) (v : Value) (t : TypeId) : ((w.alloc o).alloc (.cells #[v] t)).cell? ⟨w.heap.size + 1, 0, none⟩ = some v := by
  have := (cell_of_new (w.alloc o) v t).1
  rwa [World.size_alloc] at this

/-- The limb that a throw below 4 picks. -/
def pk (x y : Nat) (r : Nat) : Nat := if r = 0 then x else if r = 1 then 0 else if r = 2 then 16777215 else y
theorem pk_lim {x y r : Nat} (hx : (x : Int) < 16777216) (hy : (y : Int) < 10) : (pk x y r : Int) < 16777216 := by
  unfold pk; split
  · exact hx
  · split
    · omega
    · split
      · omega
      · omega
/-- The picked cell of the four that have just been laid. -/
theorem pick_now (W : World) (r : Nat) (hr : (r : Int) < 4) (x y : Nat) (t : TypeId) : (W.alloc (.cells #[.int .i64 (x : Int), .int .i64 0, .int .i64 16777215, .int .i64 (y : Int)] t)).cell? ⟨W.heap.size, r, none⟩ = some (.int .i64 (pk x y r : Int)) := by
  have hb : (W.alloc (.cells #[.int .i64 (x : Int), .int .i64 0, .int .i64 16777215, .int .i64 (y : Int)] t)).heap[W.heap.size]? = some (.cells #[.int .i64 (x : Int), .int .i64 0, .int .i64 16777215, .int .i64 (y : Int)] t) := Array.getElem?_push_size
  rw [cell_of_row _ _ r _ _ _ hb]
  match r, hr with
  | 0, _ => rfl
  | 1, _ => rfl
  | 2, _ => rfl
  | 3, _ => rfl
  | r + 4, h => omega
/-- Behind a throw the picked cell stands. -/
theorem pick_behind {W W' : World} {dp : Nat} {x y : Nat} {t : TypeId} (hdp : dp < W.heap.size)
    (hk : ∀ b o, b < (W.alloc (.cells #[.int .i64 (x : Int), .int .i64 0, .int .i64 16777215, .int .i64 (y : Int)] t)).heap.size → ¬ b = dp → W'.cell? ⟨b, o, none⟩ = (W.alloc (.cells #[.int .i64 (x : Int), .int .i64 0, .int .i64 16777215, .int .i64 (y : Int)] t)).cell? ⟨b, o, none⟩) (r : Nat) (hr : (r : Int) < 4) :
    W'.cell? ⟨W.heap.size, r, none⟩ = some (.int .i64 (pk x y r : Int)) :=
  (hk _ _ (by rw [World.size_alloc]; omega) (by omega)).trans (pick_now W r hr x y t)

/-- What holds in Dice.Nat's first loop. -/
def DnRel (w : World) (dp : Nat) (a : Option Addr) (cap : Nat) (ts : List Int) (most : Nat) (i : Value) (W : World) : Prop :=
  ∃ (m : Nat) (la : Option Addr) (zs : List Int) (lc : Nat), i = .int .i64 (m : Int) ∧ zs.length + m ≤ most ∧ M.Lim zs ∧ NSt w dp a cap ts (w.heap.size + 1) (w.heap.size + 2) la zs lc W

/-- What holds in Dice.Nat's second loop. -/
def DnTrim (w : World) (dp : Nat) (a : Option Addr) (cap : Nat) (ts : List Int) (most : Nat) (i : Value) (W : World) : Prop :=
  ∃ (la : Option Addr) (zs : List Int) (lc : Nat), i = .int .i64 (zs.length : Int) ∧ zs.length ≤ most ∧ M.Lim zs ∧ NSt w dp a cap ts (w.heap.size + 1) (w.heap.size + 2) la zs lc W

/-- Behind one throw of the loop: one limb more. -/
def DnMid (w : World) (dp : Nat) (a : Option Addr) (cap : Nat) (ts : List Int) (n : Nat) (W : World) : Prop :=
  ∃ (la : Option Addr) (zs : List Int) (lc : Nat), zs.length = n + 1 ∧ M.Lim zs ∧ NSt w dp a cap ts (w.heap.size + 1) (w.heap.size + 2) la zs lc W

set_option maxRecDepth 100000 in
set_option maxHeartbeats 3000000 in
theorem diceNat_keep (w : World) (dp : Nat) (a : Option Addr) (cap : Nat) (ts : List Int) (k most : Nat) (hm : most ≤ 40) (hD : Dice w dp a cap ts k) :
    Calls Tryd.prog 22 #[.pointer (some ⟨dp, 0, none⟩), .int .i64 (most : Int)] w fun e W => ∃ (v : Value) (x k' : Nat), e = .returned v ∧ Num W v x ∧ (M.dig x).length ≤ most ∧ Dice W dp a cap ts k' ∧ w.grownBy W (some dp) ∧ ∀ W', W.grownBy W' (some dp) → Num W' v x := by
  have hlt := hD.lt
  have c0 := cell_of_new w (.slice none 0 0) 24
  have c1 := cell_of_new (w.alloc (.cells #[.slice none 0 0] 24)) (.slice none 0 0) 24
  simp only [World.size_alloc] at c1
  have hst : NSt w dp a cap ts (w.heap.size + 1) (w.heap.size + 2) none [] 0 ((w.alloc (.cells #[.slice none 0 0] 24)).alloc (.cells #[.slice none 0 0] 24)) :=
    ⟨⟨k, (hD.alloc _).alloc _⟩, c1.1, c1.2, Own.nil _ _, grown_alloc (grown_alloc (World.grownBy.refl w _) _) _, ⟨hlt, by omega, by omega, by simp⟩, ⟨cell_later _ c0.1, frozen_later _ c0.1 c0.2⟩, hD.far⟩
  have HST := Lib.hid hst
  have hth := throw_any hst (most + 1) (by omega) (by omega)
  rw [show ((most + 1 : Nat) : Int) = (most : Int) + 1 from rfl] at hth
  have HTH := Lib.hid hth
  clear hth hst c0 c1
  go_enter Tryd.func22, Tryd.ntmps22
  go_wp2_with fail
  refine HTH.out.mono ?_
  rintro e w1 ⟨r, hr, rfl, hst1⟩
  have HS1 := Lib.hid hst1
  clear hst1 HTH HST
  go_wp2_with fail
  go_loopw [6] (fun i wr => DnRel w dp a cap ts most i wr) (fun i _ => (intOf i).toNat)
  case atStart => exact ⟨r, none, [], 0, rfl, by simp; omega, M.Lim.nil, HS1.out⟩
  case round =>
    obtain ⟨m, la, zs, lc, rfl, hzm, hlim, hst⟩ := hrel
    have hcA := hst.cell
    have hfA := hst.free
    by_cases h0 : 0 < m
    · go_wp2_with fail
      have hdpA : ¬ w.heap.size + 1 = dp := by omega
      have HST2 := Lib.hid hst
      go_region_law (first
        | (refine step_append_n (w := w) (a := a) (cap := cap) (ts := ts) rfl (.tmp 17) (.tmp 27) rfl (by first | exact hst.alloc _ | exact (hst.alloc _).alloc _ | exact hst) (by omega) (by rfl) (by rfl) (by first | exact (cell_of_new _ _ _).1 | exact cell_of_new2 _ _ _ _) ?_; intro la' lc' w' hst hcA hfA)
        | (go_simp; go_at_call 50; with_reducible refine (throw_int (w := w) (a := a) (cap := cap) (ts := ts) (by first | exact hst | exact hst.drew | exact hst.alloc _ | exact hst.drew.alloc _ | exact (hst.alloc _).drew) _ (by decide) (by decide)).mono ?_; rintro e w' ⟨r1, hr1, rfl, hst, hkp, hsz⟩; have hcA := hst.cell; have hfA := hst.free; have hbd := hst.bnd; have hcL := fun o => cell_later o hst.cell; have hcLL := fun o p => cell_later p (cell_later o hst.cell); (first | have hcB := pick_behind (by omega) hkp _ hr1 | have hcB := fun (x y : Nat) (t : TypeId) => pick_now w' r1 hr1 x y t | skip); have HK := Lib.hid hkp; clear hkp; go_simp))
      all_goals (
        have HH := Lib.hid hst
        clear hst hcA hfA hcL hcLL hcB
        go_wp2_with fail
        go_roundw
        case rel =>
          refine ⟨m - 1, _, _, _, congrArg (Value.int .i64) (by omega), ?_, ?_, HH.out⟩
          · rw [List.length_append]; simp only [List.length_cons, List.length_nil]; omega
          · exact hlim.append (M.Lim.cons (Int.natCast_nonneg _) (pk_lim (by omega) (by omega)) M.Lim.nil)
        case measure => simp [intOf]; omega)
    · have hm0 : m = 0 := by omega
      subst hm0
      have HST := Lib.hid hst
      have HL := Lib.hid hlim
      clear hst hlim
      go_wp2_with fail
      go_loopw [7] (fun i wr => DnTrim w dp a cap ts most i wr) (fun i _ => (intOf i).toNat)
      case atStart => exact ⟨la, zs, lc, by simp, by omega, HL.out, HST.out⟩
      case round =>
        clear hcA hfA
        obtain ⟨la, zs, lc, rfl, hzm, hlim, hst⟩ := hrel
        have hcA := hst.cell
        have hfA := hst.free
        have hr := hst.res
        have HS := Lib.hid hst
        have HL := Lib.hid hlim
        by_cases h0 : 0 < zs.length
        · obtain ⟨g, c, hv, hBg, hgW, hroom, hmost, hel⟩ : ∃ g cap, Value.slice la zs.length lc = .slice (some ⟨g, 0, none⟩) zs.length cap ∧ w.heap.size + 2 ≤ g ∧ g < wr.heap.size ∧ zs.length ≤ cap ∧ cap ≤ 9223372036854775807 ∧ ∀ j, j < zs.length → wr.cell? ⟨g, j, none⟩ = some (.int .i64 (M.el zs j)) ∧ wr.frozen? ⟨g, j, none⟩ = false := by
            rcases hst.own.parts with ⟨_, e⟩ | h
            · rw [e] at h0; simp at h0
            · exact h
          cases hv
          have hlast := (hel (zs.length - 1) (by omega)).1
          have hi : ((zs.length : Int) - 1).toNat = zs.length - 1 := by omega
          clear hst hlim
          by_cases hz : M.el zs (zs.length - 1) = 0
          · have HZ := Lib.hid hz
            rw [hz] at hlast
            clear hel
            go_wp2_with fail
            go_roundw
            case rel => exact ⟨some ⟨g, 0, none⟩, zs.take (zs.length - 1), lc, by rw [List.length_take]; exact congrArg (Value.int .i64) (by omega), by rw [List.length_take]; omega, HL.out.take _, HS.out.cut (by omega) (by omega)⟩
            case measure => simp [intOf]; omega
          · have hzb : (M.el zs (zs.length - 1) == 0) = false := by rw [beq_eq_false_iff_ne]; exact hz
            clear hel
            go_wp2_with fail
            refine bodyPost_ret (v := .agg #[.slice (some ⟨g, 0, none⟩) zs.length lc]) (by simp [results, Tryd.results22, go_sem, hr.1]) rfl (HS.out.done HL.out hzm (.inr hz))
        · clear hst hlim
          go_wp2_with fail
          refine bodyPost_ret (v := .agg #[.slice la zs.length lc]) (by simp [results, Tryd.results22, go_sem, hr.1]) rfl (HS.out.done HL.out hzm (.inl (List.length_eq_zero_iff.1 (by omega))))

theorem diceNat_any (w : World) (dp : Nat) (a : Option Addr) (cap : Nat) (ts : List Int) (k most : Nat) (hm : most ≤ 40) (hD : Dice w dp a cap ts k) :
    Calls Tryd.prog 22 #[.pointer (some ⟨dp, 0, none⟩), .int .i64 (most : Int)] w fun e W => ∃ (v : Value) (x k' : Nat), e = .returned v ∧ Num W v x ∧ (M.dig x).length ≤ most ∧ Dice W dp a cap ts k' ∧ w.grownBy W (some dp) := by
  refine (diceNat_keep w dp a cap ts k most hm hD).mono ?_
  rintro e W ⟨v, x, k', h1, h2, h3, h4, h5, _⟩
  exact ⟨v, x, k', h1, h2, h3, h4, h5⟩
end Go.Proofs.YtfaggdjoogpmmaaDoor

namespace Go.Proofs.YtfaggdjoogpmmaaDoor
open Go Go.RowKit Go.Shelf

/-- The state of law01.long: the dice; the list of the limbs in block g, owned; nothing else that lay before has turned. -/
structure LgSt (w : World) (dp : Nat) (a : Option Addr) (cap : Nat) (ts : List Int) (g L lc : Nat) (zs : List Int) (W : World) : Prop where
  dice : ∃ k, Dice W dp a cap ts k
  own : Own W (w.heap.size + 1) (.slice (some ⟨g, 0, none⟩) L lc) zs
  len : zs.length = L
  grown : w.grownBy W (some dp)
  bnd : dp < w.heap.size ∧ w.heap.size < g ∧ w.heap.size < W.heap.size
  res : W.cell? ⟨w.heap.size, 0, none⟩ = some (.slice none 0 0) ∧ W.frozen? ⟨w.heap.size, 0, none⟩ = false
  far : ∀ b off, a = some ⟨b, off, none⟩ → 0 < ts.length → b < w.heap.size
  lim : M.Lim zs

section
variable {w : World} {dp : Nat} {a : Option Addr} {cap : Nat} {ts : List Int} {g L lc : Nat} {zs : List Int} {W : World}
theorem LgSt.set (h : LgSt w dp a cap ts g L lc zs W) (j : Nat) {u : Int} (h0 : 0 ≤ u) (h1 : u < 16777216) : LgSt w dp a cap ts g L lc (zs.set j u) (W.setCell ⟨g, j, none⟩ (.int .i64 u)) := by
  have hb := h.bnd
  have hg : W.grownBy (W.setCell ⟨g, j, none⟩ (.int .i64 u)) (some g) := grown_setCell (World.grownBy.refl W _) _ (.inr rfl)
  have ho := h.own
  have hl := h.len
  refine ⟨?_, ?_, by rw [List.length_set]; exact hl, grown_setCell h.grown _ (.inl (show w.heap.size ≤ g by omega)), ⟨hb.1, hb.2.1, ?_⟩, ⟨?_, ?_⟩, h.far, h.lim.set j h0 h1⟩
  · obtain ⟨k, d⟩ := h.dice
    exact ⟨k, d.grown hg (by intro e; cases e; omega) fun b off e hl => by intro e2; cases e2; have := h.far _ off e hl; omega⟩
  · subst hl
    exact ho.set j u
  · rw [show (W.setCell ⟨g, j, none⟩ (.int .i64 u)).heap.size = W.heap.size by simp [World.setCell]]
    exact hb.2.2
  · rw [cell_other _ (show w.heap.size ≠ g by omega)]; exact h.res.1
  · rw [World.frozen?_setCell]; exact h.res.2
theorem LgSt.drewN (h : LgSt w dp a cap ts g L lc zs W) (n : Nat) : LgSt w dp a cap ts g L lc zs (W.drewN n) :=
  ⟨h.dice.imp fun _ d => d.drewN n, h.own.drewN n, h.len, grown_drewN h.grown n, h.bnd, h.res, h.far, h.lim⟩
theorem LgSt.next (h : LgSt w dp a cap ts g L lc zs W) {W' : World} {k : Nat} (hd : Dice W' dp a cap ts k) (hg : W.grownBy W' (some dp)) : LgSt w dp a cap ts g L lc zs W' := by
  have hb := h.bnd
  have cR : some w.heap.size ≠ some dp := by intro e; cases e; omega
  refine ⟨⟨k, hd⟩, World.ownsRow.kept h.own hg (.inr ?_), h.len, ⟨hg.os.trans h.grown.os, hg.tape.trans h.grown.tape, hg.output.trans h.grown.output, Nat.le_trans h.grown.size hg.size, fun x hx hne => (hg.block x (Nat.lt_of_lt_of_le hx h.grown.size) hne).trans (h.grown.block x hx hne)⟩,
    ⟨hb.1, hb.2.1, Nat.lt_of_lt_of_le hb.2.2 hg.size⟩, ⟨hg.cell h.res.1 cR, (World.frozen?_of_block (hg.block _ (lt_of_cell h.res.1) cR)).trans h.res.2⟩, h.far, h.lim⟩
  intro e
  simp [Value.ownBlock] at e
  omega
theorem LgSt.throw (h : LgSt w dp a cap ts g L lc zs W) (n : Int) (hn : 0 < n) (hn2 : n ≤ 4611686018427387904) :
    Calls Tryd.prog 50 #[.pointer (some ⟨dp, 0, none⟩), .int .i64 n] W fun e W' => ∃ r : Nat, (r : Int) < n ∧ e = .returned (.int .i64 (r : Int)) ∧ LgSt w dp a cap ts g L lc zs W' := by
  obtain ⟨m, rfl⟩ := Int.eq_ofNat_of_zero_le (Int.le_of_lt hn)
  obtain ⟨k, hd⟩ := h.dice
  refine (next_any W dp a cap ts k m (by omega) (by omega) hd).mono ?_
  rintro e W' ⟨r, k', hr, he, hd', hg⟩
  exact ⟨r, by omega, he, h.next hd' hg⟩
end

theorem grown_of' {w W : World} {row : Option Nat} (h : Below w.heap.size w W) : w.grownBy W row := ⟨h.os, h.tape, h.output, h.size, fun k hk _ => h.block k hk⟩

/-- What long gives: a number of at most 200 limbs, that outlasts later throws. -/
def FullPost (w : World) (dp : Nat) (a : Option Addr) (cap : Nat) (ts : List Int) (e : Ending) (W : World) : Prop :=
  ∃ (s : Option Addr) (c x k' : Nat), e = .returned (.agg #[.slice s (M.dig x).length c]) ∧ Row W s (M.dig x) c ∧ (M.dig x).length ≤ 200 ∧ Dice W dp a cap ts k' ∧ w.grownBy W (some dp) ∧ ∀ W', W.grownBy W' (some dp) → Row W' s (M.dig x) c

theorem LgSt.done {w : World} {dp : Nat} {a : Option Addr} {cap : Nat} {ts : List Int} {g L lc : Nat} {zs : List Int} {W : World} (h : LgSt w dp a cap ts g L lc zs W) (h0 : 0 < L) (hm : L ≤ 200) (hz : M.el zs (L - 1) ≠ 0) :
    FullPost w dp a cap ts (.returned (.agg #[.slice (some ⟨g, 0, none⟩) L lc])) (W.setCell ⟨w.heap.size, 0, none⟩ (.slice (some ⟨g, 0, none⟩) L lc)) := by
  have hb := h.bnd
  have hl := h.len
  have ho := h.own
  subst hl
  obtain ⟨k', d⟩ := h.dice
  have hd : M.dig (M.val zs).toNat = zs := by
    rw [← M.trimL_dig h.lim]
    refine M.trimL_last (.inr fun e => hz ?_)
    rw [List.getLast?_eq_getElem?] at e
    unfold M.el
    rw [e]; rfl
  have ho2 := ho.setBelow (p := ⟨w.heap.size, 0, none⟩) (show w.heap.size < w.heap.size + 1 by omega) (.slice (some ⟨g, 0, none⟩) zs.length lc)
  refine ⟨_, lc, (M.val zs).toNat, k', by rw [hd], ?_, by rw [hd]; exact hm, d.store h.res.1 (show w.heap.size ≠ dp by omega) _, grown_setCell h.grown _ (.inl (Nat.le_refl _)), fun W' hg => ?_⟩
  · rw [hd]; exact ho2.rowAt
  · rw [hd]
    refine Own.rowAt (B := w.heap.size + 1) (World.ownsRow.kept ho2 hg (.inr ?_))
    intro e
    simp [Value.ownBlock] at e
    omega

set_option maxRecDepth 100000 in
set_option maxHeartbeats 1000000 in
/-- **law01.long** -/
theorem full_any (w : World) (dp : Nat) (a : Option Addr) (cap : Nat) (ts : List Int) (k : Nat) (n : Int) (hD : Dice w dp a cap ts k) :
    Calls Tryd.prog 25 #[.pointer (some ⟨dp, 0, none⟩), .int .i64 n] w (FullPost w dp a cap ts) := by
  have hlt := hD.lt
  have c0 := cell_of_new w (.slice none 0 0) 24
  obtain ⟨q, hq, hq2⟩ := mod_nat n 200 (by omega)
  have HQ := Lib.hid hq
  have HM := Lib.hid (show ∀ W : World, Calls Tryd.prog 45 #[.int .i64 n, .int .i64 200] W fun e W' => e = .returned (.int .i64 (q : Int)) ∧ W' = W from fun W => by rw [← hq]; exact mod_any n 200 W (by omega) (by omega))
  have HD := Lib.hid hD
  have HC := Lib.hid c0
  clear hD c0 hq
  go_enter Tryd.func25, Tryd.ntmps25
  go_wp2_with fail
  refine (HM.out _).mono ?_
  rintro e w' ⟨rfl, rfl⟩
  go_wp2_with (at_make; refine wpList_make1 rfl _ _ rfl (q + 1) rfl rfl (by omega) (by omega) (B := w.heap.size + 1) (by simp) ?_; intro w6 hown6 hb6; have HO := Lib.hid hown6; have HB := Lib.hid hb6; clear hown6 hb6)
  have hst : LgSt w dp a cap ts (w.heap.size + 1) (q + 1) (q + 1) (List.replicate (q + 1) 0) w6 := by
    have ho := HO.out
    have hb := HB.out
    rw [List.length_replicate, World.size_alloc] at ho
    have hb2 : Below (w.alloc (.cells #[.slice none 0 0] 24)).heap.size (w.alloc (.cells #[.slice none 0 0] 24)) w6 := by rw [World.size_alloc]; exact hb
    have hs := hb.size
    rw [World.size_alloc] at hs
    exact ⟨⟨k, (HD.out.alloc _).below hb2⟩, ho, List.length_replicate .., grown_of' (((Below.refl _ w).alloc (Nat.le_refl _) _).trans (hb.mono (by omega))), ⟨hlt, by omega, by omega⟩,
      ⟨(hb.cell (p := ⟨w.heap.size, 0, none⟩) (by show w.heap.size < _; omega)).trans HC.out.1, (hb.frozen (p := ⟨w.heap.size, 0, none⟩) (by show w.heap.size < _; omega)).trans HC.out.2⟩, HD.out.far, M.Lim.replicate _⟩
  have HST := Lib.hid hst
  clear hst HO HB HC HD HQ HM
  go_loopw [6] (fun i wr => ∃ (j : Nat) (zs : List Int), i = .int .i64 (j : Int) ∧ j ≤ q + 1 ∧ LgSt w dp a cap ts (w.heap.size + 1) (q + 1) (q + 1) zs wr) (fun i _ => q + 1 - (intOf i).toNat)
  case atStart => exact ⟨0, _, rfl, Nat.zero_le _, HST.out⟩
  case round =>
    clear HST
    obtain ⟨j, zs, rfl, hj, hst⟩ := hrel
    have HST := Lib.hid hst
    clear hst
    by_cases hlt : j < q + 1
    · obtain ⟨_, e', _, hgw, _, _, hcz, hfz⟩ := HST.out.own.at2 j (by rw [HST.out.len]; exact hlt)
      cases e'
      go_wp2_with fail
      go_roundw
      case rel => exact ⟨j + 1, _, by go_num, by omega, HST.out.set j (by omega) (by omega)⟩
      case measure => simp [intOf]; omega
    · have hlt0 := HST.out.bnd.2.2
      go_wp2_with fail
      refine (HST.out.throw 16777216 (by omega) (by omega)).mono ?_
      rintro e w7 ⟨r, hr, rfl, hst7⟩
      obtain ⟨_, e', -, hgw, -, -, hcz, hfz⟩ := hst7.own.at2 0 (by rw [hst7.len]; omega)
      cases e'
      have HS8 := Lib.hid (hst7.set 0 (u := (r : Int)) (by omega) hr)
      clear hst7
      go_wp2_with fail
      refine (HS8.out.throw 16777215 (by omega) (by omega)).mono ?_
      rintro e w9 ⟨r2, hr2, rfl, hst9⟩
      have hr20 : 0 ≤ (r2 : Int) := Int.natCast_nonneg _
      generalize (r2 : Int) = z2 at *
      obtain ⟨_, e', -, hgw9, -, -, hcz9, hfz9⟩ := hst9.own.at2 q (by rw [hst9.len]; omega)
      cases e'
      have HS := Lib.hid (hst9.set q (u := 1 + z2) (by omega) (by omega))
      have HR := Lib.hid HS.out.res.1
      have hln := hst9.len
      have HLN := Lib.hid hln
      clear hst9 hln hcz hfz hgw hlt hj
      obtain ⟨zq, hzq⟩ : ∃ zq, M.el (zs.set 0 (r : Int)) q = zq := ⟨_, rfl⟩
      rw [hzq] at hcz9
      have HZQ := Lib.hid hzq
      clear hzq
      have c0 := HR.out
      have hwr : IntKind.i64.wrap (1 + z2) = 1 + z2 := by rw [IntKind.wrap_i64]; omega
      have HZ1 := Lib.hid (show 1 + z2 ≠ 0 by omega)
      clear hr2 hr20
      go_upto_region 8 with fail
      have f0 := HS.out.res.2
      have hlz := HS.out.bnd.2.2
      have HDN := Lib.hid (HS.out.done (by omega) (by omega) (by rw [Nat.add_sub_cancel, M.el_set _ _ _ _ (by rw [HLN.out]; omega), if_pos rfl]; exact HZ1.out))
      generalize (w9.setCell ⟨w.heap.size + 1, q, none⟩ (.int .i64 (1 + z2))) = wz at *
      clear hwr hcz9 hfz9 hgw9 HR HS
      go_wp2_with fail
      refine bodyPost_ret (v := .agg #[.slice (some ⟨w.heap.size + 1, 0, none⟩) (q + 1) (q + 1)]) (by simp [results, Tryd.results25, go_sem, c0]) rfl HDN.out
end Go.Proofs.YtfaggdjoogpmmaaDoor

namespace Go.Proofs.YtfaggdjoogpmmaaDoor
open Go Go.RowKit Go.Shelf

theorem light_any (a : Option Addr) (n cap : Nat) (w : World) :
    Calls Tryd.prog 20 #[.slice a n cap] w fun e W' => e = .returned (.bool (decide ((n : Int) ≤ 400))) ∧ W' = w := by
  go_enter Tryd.func20, Tryd.ntmps20
  go_wp2_with fail
  go_ret
  exact ⟨rfl, rfl⟩

theorem roll_dice {a : Option Addr} {cap : Nat} {ts : List Int} {w : World} (hr : Row w a ts cap) (hf : ts.length ≤ 400) (t : TypeId) : Dice (w.alloc (.cells #[.slice a ts.length cap, .int .i64 0] t)) w.heap.size a cap ts 0 := by
  have hb : (w.alloc (.cells #[.slice a ts.length cap, .int .i64 0] t)).heap[w.heap.size]? = some (.cells #[.slice a ts.length cap, .int .i64 0] t) := Array.getElem?_push_size
  refine ⟨?_, ?_, ?_, hr.alloc _, Nat.zero_le _, hf, fun b off e hl => ?_⟩
  · rw [cell_of_row _ _ 0 _ _ _ hb]; rfl
  · rw [cell_of_row _ _ 1 _ _ _ hb]; rfl
  · unfold World.frozen?; rw [hb]; rfl
  · obtain ⟨b', off', e', hc⟩ := hr.el 0 hl
    rw [e] at e'; cases e'
    have := lt_of_cell hc
    exact Nat.ne_of_lt this

theorem roll_any (a : Option Addr) (cap : Nat) (ts : List Int) (w : World) (hr : Row w a ts cap) (hf : ts.length ≤ 400) :
    Calls Tryd.prog 21 #[.slice a ts.length cap] w fun e W' => e = .returned (.pointer (some ⟨w.heap.size, 0, none⟩)) ∧ Dice W' w.heap.size a cap ts 0 ∧ Below w.heap.size w W' := by
  go_enter Tryd.func21, Tryd.ntmps21
  go_wp2_with fail
  go_ret
  refine ⟨rfl, roll_dice hr hf _, (Below.refl _ w).alloc (Nat.le_refl _) _⟩

theorem dig_two_pow (q r : Nat) (hr : r < 24) : M.dig (2 ^ (24 * q + r)) = List.replicate q 0 ++ [((2 ^ r : Nat) : Int)] := by
  have hp : ∀ n : Nat, 2 ^ n ≠ 0 := fun n => Nat.ne_of_gt (Nat.pow_pos (by decide))
  induction q with
  | zero =>
    have h1 : 2 ^ r < 16777216 := Nat.lt_of_lt_of_le (Nat.pow_lt_pow_right (by decide) hr) (by decide)
    rw [Nat.mul_zero, Nat.zero_add, M.dig_pos (hp r), Nat.mod_eq_of_lt h1, Nat.div_eq_of_lt h1, M.dig_zero]; rfl
  | succ q ih =>
    have e : 2 ^ (24 * (q + 1) + r) = 16777216 * 2 ^ (24 * q + r) := by
      rw [show 24 * (q + 1) + r = 24 + (24 * q + r) by omega, Nat.pow_add]
    rw [M.dig_pos (hp _), e, Nat.mul_mod_right, Nat.mul_div_cancel_left _ (by decide), ih]; rfl
theorem dig_pow_len (k : Nat) : (M.dig (2 ^ k)).length = k / 24 + 1 := by
  have h := dig_two_pow (k / 24) (k % 24) (Nat.mod_lt _ (by decide))
  rw [Nat.div_add_mod] at h
  rw [h]; simp
theorem dig_pow_low (k l : Nat) (h : l < k / 24) : M.el (M.dig (2 ^ k)) l = 0 := by
  have h' := dig_two_pow (k / 24) (k % 24) (Nat.mod_lt _ (by decide))
  rw [Nat.div_add_mod] at h'
  rw [h', M.el_append_left (by simpa using h), M.el_replicate]
theorem dig_pow_top (k : Nat) : M.el (M.dig (2 ^ k)) (k / 24) = ((2 ^ (k % 24) : Nat) : Int) := by
  have h' := dig_two_pow (k / 24) (k % 24) (Nat.mod_lt _ (by decide))
  rw [Nat.div_add_mod] at h'
  rw [h', M.el_append_right (by simp)]
  simp [M.el]

theorem wrap_pow (r : Nat) (hr : r < 24) : wrap64 ((2 : Int) ^ r) = 2 ^ r :=
  (show ∀ r, r < 24 → wrap64 ((2 : Int) ^ r) = 2 ^ r by decide +kernel) r hr
theorem pow_len {x n L : Nat} (hx : (M.dig x).length ≤ 2) (hn : n ≤ L) (hL : 2 * L < 200) : (M.dig (x ^ n)).length ≤ 200 := by
  refine M.dig_len_le.2 ?_
  have h1 : x < 16777216 ^ 2 := M.dig_len_le.1 hx
  have h2 : x ^ n ≤ (16777216 ^ 2) ^ n := Nat.pow_le_pow_left (Nat.le_of_lt h1) n
  rw [← Nat.pow_mul] at h2
  refine Nat.lt_of_le_of_lt h2 (Nat.pow_lt_pow_right (by decide) (by omega))

theorem below_of_dice {B : Nat} {w W : World} {dp : Nat} (h : w.grownBy W (some dp)) (hB : B ≤ dp) (hs : B ≤ w.heap.size) : Below B w W :=
  ⟨h.os, h.tape, h.output, h.size, fun k hk => h.block k (by omega) (by intro e; cases e; omega)⟩

set_option maxRecDepth 100000 in
set_option maxHeartbeats 1000000 in
theorem powers_any (ta : Option Addr) (tc : Nat) (ts : List Int) (m n : Int) (w : World) (hR : Row w ta ts tc) :
    Calls Tryd.prog 10 #[.slice ta ts.length tc, .int .i64 m, .int .i64 n] w fun e W' => e = .returned (.bool true) ∧ Below w.heap.size w W' := by
  obtain ⟨i, hi, hi2⟩ := mod_nat m 30 (by omega)
  obtain ⟨k, hk, hk2⟩ := mod_nat n 30 (by omega)
  have hm1 := fun W : World => (show Calls Tryd.prog 45 #[.int .i64 m, .int .i64 30] W _ from mod_any m 30 W (by omega) (by omega))
  have hm2 := fun W : World => (show Calls Tryd.prog 45 #[.int .i64 n, .int .i64 30] W _ from mod_any n 30 W (by omega) (by omega))
  simp only [hi] at hm1
  simp only [hk] at hm2
  have HM1 := Lib.hid hm1
  have HM2 := Lib.hid hm2
  have HR := Lib.hid hR
  have HLT := Lib.hid (light_any ta ts.length tc w)
  clear hm1 hm2 hi hk hR
  by_cases hl : (ts.length : Int) ≤ 400
  · go_enter Tryd.func10, Tryd.ntmps10
    go_wp2_with fail
    refine HLT.out.mono ?_
    rintro e w' ⟨rfl, hw⟩
    obtain rfl : w = w' := hw.symm
    rw [show decide ((ts.length : Int) ≤ 400) = true from decide_eq_true hl]
    go_wp2_with fail
    refine (roll_any ta tc ts _ HR.out (by omega)).mono ?_
    rintro e w1 ⟨rfl, hd, hb1⟩
    have HD := Lib.hid hd
    have HB1 := Lib.hid hb1
    clear hd hb1 HR HLT
    go_wp2_with fail
    refine (show Calls Tryd.prog 22 #[.pointer (some ⟨w.heap.size, 0, none⟩), .int .i64 2] w1 _ from diceNat_any w1 w.heap.size ta tc ts 0 2 (by omega) HD.out).mono ?_
    rintro e w2 ⟨v, x, k', rfl, ⟨a0, p0, rfl, hr0⟩, hx2, _, hg2⟩
    have HB2 := Lib.hid (HB1.out.trans (below_of_dice hg2 (Nat.le_refl _) HB1.out.size))
    have V0 := Lib.hid (Var.new hr0)
    have HX := Lib.hid hx2
    clear hr0 hx2 hg2 HB1 HD
    go_wp2_with fail
    refine (HM1.out _).mono ?_
    rintro e w' ⟨rfl, rfl⟩
    go_wp2_with fail
    refine (HM2.out _).mono ?_
    rintro e w' ⟨rfl, rfl⟩
    have e0 := V0.out.cell
    go_wp2_with fail
    have h200 : (M.dig x).length ≤ 200 := Nat.le_trans HX.out (by omega)
    have hp := power_any a0 p0 x i (w2.alloc (.cells #[.slice a0 (M.dig x).length p0] 24)) h200 (by omega) V0.out.row
    refine hp.mono ?_
    rintro e w3 ⟨hres, hb3⟩
    obtain ⟨v, rfl, a1, p1, rfl, hr1⟩ := hres.ok (pow_len HX.out (L := 60) (by omega) (by omega))
    have HB3 := Lib.hid (step_below HB2.out hb3)
    have W0 := Lib.hid (V0.out.below hb3)
    have V1 := Lib.hid (Var.new hr1)
    clear hp hres hr1 hb3 e0 V0 HB2
    have e0 := W0.out.cell
    have l0 : w2.heap.size < w3.heap.size := W0.out.lt
    have n0 : ¬ w2.heap.size = w3.heap.size := by omega
    go_wp2_with fail
    have hp := power_any a0 p0 x k (w3.alloc (.cells #[.slice a1 (M.dig (x ^ i)).length p1] 24)) h200 (by omega) (W0.out.row.alloc _)
    refine hp.mono ?_
    rintro e w4 ⟨hres, hb4⟩
    obtain ⟨v, rfl, a2, p2, rfl, hr2⟩ := hres.ok (pow_len HX.out (L := 60) (by omega) (by omega))
    have HB4 := Lib.hid (step_below HB3.out hb4)
    have X0 := Lib.hid ((W0.out.alloc _).below hb4)
    have W1 := Lib.hid (V1.out.below hb4)
    have V2 := Lib.hid (Var.new hr2)
    clear hp hres hr2 hb4 e0 l0 n0 W0 V1 HB3
    have e0 := X0.out.cell
    have l0 : w2.heap.size < w4.heap.size := X0.out.lt
    have n0 : ¬ w2.heap.size = w4.heap.size := by omega
    go_wp2_with fail
    have hp := power_any a0 p0 x (i + k) (w4.alloc (.cells #[.slice a2 (M.dig (x ^ k)).length p2] 24)) h200 (by omega) (X0.out.row.alloc _)
    rw [show ((i + k : Nat) : Int) = (i : Int) + k from rfl] at hp
    refine hp.mono ?_
    rintro e w5 ⟨hres, hb5⟩
    obtain ⟨v, rfl, a3, p3, rfl, hr3⟩ := hres.ok (pow_len HX.out (L := 60) (by omega) (by omega))
    have HB5 := Lib.hid (step_below HB4.out hb5)
    have X1 := Lib.hid ((W1.out.alloc _).below hb5)
    have W2 := Lib.hid (V2.out.below hb5)
    have V3 := Lib.hid (Var.new hr3)
    clear hp hres hr3 hb5 e0 l0 n0 X0 W1 V2 HB4
    have e1 := X1.out.cell
    have e2 := W2.out.cell
    have l1 : w3.heap.size < w5.heap.size := X1.out.lt
    have n1 : ¬ w3.heap.size = w5.heap.size := by omega
    have l2 : w4.heap.size < w5.heap.size := W2.out.lt
    have n2 : ¬ w4.heap.size = w5.heap.size := by omega
    go_wp2_with fail
    have hp := mul_any a1 a2 p1 p2 (x ^ i) (x ^ k) (w5.alloc (.cells #[.slice a3 (M.dig (x ^ (i + k))).length p3] 24)) (pow_len HX.out (L := 60) (by omega) (by omega)) (pow_len HX.out (L := 60) (by omega) (by omega)) (X1.out.row.alloc _) (W2.out.row.alloc _)
    rw [← Nat.pow_add] at hp
    refine hp.mono ?_
    rintro e w6 ⟨hres, hb6⟩
    obtain ⟨v, rfl, a4, p4, rfl, hr4⟩ := hres.ok (pow_len HX.out (L := 60) (by omega) (by omega))
    have HB6 := Lib.hid (step_below HB5.out hb6)
    have W3 := Lib.hid (V3.out.below hb6)
    have V4 := Lib.hid (Var.new hr4)
    clear hp hres hr4 hb6 e1 e2 l1 n1 l2 n2 X1 W2 V3 HB5
    go_wp2_with fail
    refine (show Calls Tryd.prog 31 #[.int .i64 2] _ _ from of_any 2 _ (by omega)).mono ?_
    rintro e w7 ⟨v, rfl, ⟨a5, p5, rfl, hr5⟩, hb7⟩
    have HB7 := Lib.hid (step_below HB6.out hb7)
    have X3 := Lib.hid ((W3.out.alloc _).below hb7)
    have W4 := Lib.hid (V4.out.below hb7)
    have V5 := Lib.hid (Var.new hr5)
    clear hr5 hb7 W3 V4 HB6
    have e5 := V5.out.cell
    go_wp2_with fail
    have hp := power_any a5 p5 2 (i + 40 * k) (w7.alloc (.cells #[.slice a5 (M.dig 2).length p5] 24)) (small_len (by decide)) (by omega) V5.out.row
    rw [show ((i + 40 * k : Nat) : Int) = (i : Int) + 40 * k by omega] at hp
    refine hp.mono ?_
    rintro e w8 ⟨hres, hb8⟩
    obtain ⟨v, rfl, a6, p6, rfl, hr6⟩ := hres.ok (by rw [dig_pow_len]; omega)
    have HB8 := Lib.hid (step_below HB7.out hb8)
    have Y3 := Lib.hid ((X3.out.alloc _).below hb8)
    have X4 := Lib.hid ((W4.out.alloc _).below hb8)
    have V6 := Lib.hid (Var.new hr6)
    clear hp hres hr6 hb8 e5 X3 W4 V5 HB7
    go_wp2_with fail
    refine (awake_any _).mono ?_
    rintro e w9 ⟨rfl, hb9⟩
    have HB9 := Lib.hid (step_below HB8.out hb9)
    have Z3 := Lib.hid ((Y3.out.alloc _).below hb9)
    have Y4 := Lib.hid ((X4.out.alloc _).below hb9)
    have W6 := Lib.hid (V6.out.below hb9)
    clear hb9 Y3 X4 V6 HB8
    have e3 := Z3.out.cell
    have e4 := Y4.out.cell
    have e6 := W6.out.cell
    go_wp2_with fail
    refine (same_any a4 a3 _ p4 p3 _ Y4.out.row Z3.out.row).mono ?_
    rintro e w10 ⟨rfl, hb10⟩
    have HB10 := Lib.hid (HB9.out.trans (hb10.mono HB9.out.size))
    have U6 := Lib.hid (W6.out.below hb10)
    clear hb10 e3 e4 e6 Z3 Y4 W6 HB9
    have e6 := U6.out.cell
    obtain ⟨j, hj⟩ : ∃ j, j = i + 40 * k := ⟨_, rfl⟩
    have hjI : (i : Int) + 40 * k = (j : Int) := by omega
    rw [← hj] at U6 e6
    have hq : (((M.dig (2 ^ j)).length : Int) != ((i : Int) + 40 * k) / 24 + 1) = false := by
      rw [dig_pow_len, bne_eq_false_iff_eq, hjI]; omega
    have HJ := Lib.hid hj
    have HJI := Lib.hid hjI
    have hlen := dig_pow_len j
    clear hj hjI
    have HLEN := Lib.hid hlen
    clear hlen
    go_wp2_with fail
    go_loopw [22] (fun v wr => ∃ l : Nat, v = .int .i64 (l : Int) ∧ l ≤ j / 24 ∧ Below w10.heap.size w10 wr) (fun v _ => j / 24 - (intOf v).toNat)
    case atStart => exact ⟨0, rfl, Nat.zero_le _, Below.refl _ _⟩
    case round =>
      obtain ⟨l, rfl, hl, hb⟩ := hrel
      have HB := Lib.hid hb
      have HU := Lib.hid (U6.out.below hb)
      obtain ⟨b, off, rfl, _⟩ := HU.out.row.el 0 (by rw [HLEN.out]; omega)
      have hroom := HU.out.row.room
      have hmost := HU.out.row.most
      have hlenI : (((M.dig (2 ^ j)).length : Nat) : Int) - 1 = ((j / 24 : Nat) : Int) := by rw [HLEN.out]; omega
      clear hb e6
      have e6 := HU.out.cell
      by_cases hlt : l < j / 24
      · have hc := HU.out.row.cell l (by rw [HLEN.out]; omega)
        rw [dig_pow_low j l hlt] at hc
        have hl2 : l < (M.dig (2 ^ j)).length := by rw [HLEN.out]; omega
        have hlt2 : decide ((l : Int) < ((M.dig (2 ^ j)).length : Int) - 1) = true := decide_eq_true (by rw [hlenI]; omega)
        go_wp2_with fail
        go_roundw
        case rel => exact ⟨l + 1, by go_num, by omega, HB.out⟩
        case measure => simp [intOf]; omega
      · have hlq : l = j / 24 := by omega
        have hc := HU.out.row.cell (j / 24) (by rw [HLEN.out]; omega)
        rw [dig_pow_top] at hc
        have hlt2 : decide ((l : Int) < ((M.dig (2 ^ j)).length : Int) - 1) = false := decide_eq_false (by rw [hlenI]; omega)
        have hl2 : j / 24 < (M.dig (2 ^ j)).length := by rw [HLEN.out]; omega
        have hw := wrap_pow (j % 24) (Nat.mod_lt _ (by decide))
        have HW := Lib.hid hw
        clear hw
        go_wp2_with fail
        go_ret
        refine ⟨?_, HB10.out.trans (HB.out.mono HB10.out.size)⟩
        rw [← HJ.out]
        simp [HW.out]
  · go_enter Tryd.func10, Tryd.ntmps10
    go_wp2_with fail
    refine HLT.out.mono ?_
    rintro e w' ⟨rfl, hw⟩
    obtain rfl : w = w' := hw.symm
    rw [show decide ((ts.length : Int) ≤ 400) = false from decide_eq_false (by omega)]
    go_wp2_with fail
    refine (awake_any _).mono ?_
    rintro e w1 ⟨rfl, hb⟩
    have HB := Lib.hid hb
    clear hb
    go_wp2_with fail
    go_ret
    exact ⟨rfl, HB.out⟩
end Go.Proofs.YtfaggdjoogpmmaaDoor
