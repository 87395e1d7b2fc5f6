/- Slices of ints that a call has made itself. -/
import Derived.Test.YtamniclnhenmgaaDoorWithin
namespace Go.Proofs.YtamniclnhenmgaaDoor
open Go Go.RowKit Go.Shelf

/-- The slice v, made from block B on, holds the ints zs. -/
def Own (W : World) (B : Nat) (v : Value) (zs : List Int) : Prop := W.ownsRow B 3 1 v zs.length (zs.map (Value.int .i64))

theorem Own.nil (W : World) (B : Nat) : Own W B (.slice none 0 0) [] := World.ownsRow_nil _ _ _ _

theorem grown_of_below {W W' : World} (h : Below W.heap.size W W') : W.grownBy W' none := ⟨h.os, h.tape, h.output, h.size, fun k hk _ => h.block k hk⟩

theorem Own.below {W W' : World} {B : Nat} {v : Value} {zs : List Int} (h : Own W B v zs) (hb : Below W.heap.size W W') : Own W' B v zs :=
  World.ownsRow.kept h (grown_of_below hb) (by cases v.ownBlock with | none => exact .inl rfl | some k => exact .inr (by intro e; cases e))
theorem Own.alloc {W : World} {B : Nat} {v : Value} {zs : List Int} (h : Own W B v zs) (o : Obj) : Own (W.alloc o) B v zs :=
  h.below ((Below.refl _ W).alloc (Nat.le_refl _) _)

theorem Own.mono {W : World} {B B' : Nat} {v : Value} {zs : List Int} (h : Own W B v zs) (hB : B' ≤ B) : Own W B' v zs := by
  obtain ⟨h1, h2 | ⟨g, cap, cur, hv, hg, r⟩⟩ := h
  · exact ⟨h1, .inl h2⟩
  · exact ⟨h1, .inr ⟨g, cap, cur, hv, Nat.le_trans hB hg, r⟩⟩

/-- What is known of the slice value: its address, its capacity, the cells. -/
theorem Own.parts {W : World} {B : Nat} {v : Value} {zs : List Int} (h : Own W B v zs) :
    (v = .slice none 0 0 ∧ zs = []) ∨ ∃ g cap, v = .slice (some ⟨g, 0, none⟩) zs.length cap ∧ B ≤ g ∧ g < W.heap.size ∧ zs.length ≤ cap ∧ cap ≤ 9223372036854775807 ∧
      ∀ j, j < zs.length → W.cell? ⟨g, j, none⟩ = some (.int .i64 (M.el zs j)) ∧ W.frozen? ⟨g, j, none⟩ = false := by
  have h' := h
  obtain ⟨h1, h2 | ⟨g, cap, cur, hv, hg, hh, r1, r2, r3⟩⟩ := h
  · exact .inl ⟨h2.1, List.length_eq_zero_iff.1 h2.2⟩
  · refine .inr ⟨g, cap, hv, hg, (Array.getElem?_eq_some_iff.1 hh).1, r1, r2, fun j hj => ?_⟩
    subst hv
    refine ⟨?_, World.ownsRow.frozenAt h' j⟩
    rw [World.ownsRow.cellAt h' j (by simpa using hj), List.getElem?_map, List.getElem?_eq_getElem hj, M.el_lt hj]
    rfl

theorem Own.row {W : World} {B : Nat} {v : Value} {zs : List Int} (h : Own W B v zs) : ∃ a cap, v = .slice a zs.length cap ∧ Row W a zs cap := by
  rcases h.parts with ⟨rfl, rfl⟩ | ⟨g, cap, rfl, _, _, r1, r2, hc⟩
  · exact ⟨none, 0, rfl, Nat.le_refl _, by omega, fun j hj => by simp at hj⟩
  · exact ⟨_, cap, rfl, r1, r2, fun j hj => ⟨g, 0, rfl, by simpa using (hc j hj).1⟩⟩

/-- The slice's first elements are owned, too. -/
theorem Own.take {W : World} {B : Nat} {a : Option Addr} {cap : Nat} {zs : List Int} (h : Own W B (.slice a zs.length cap) zs) (k : Nat) (hk : k ≤ zs.length) : Own W B (cut a cap (zs.take k)) (zs.take k) := by
  unfold cut
  split
  · rename_i e; rw [e]; exact Own.nil _ _
  · obtain ⟨h1, h2 | ⟨g, cap', cur, hv, hg, hh, r1, r2, r3, r4⟩⟩ := h
    · rename_i e
      have hz : zs = [] := List.length_eq_zero_iff.1 h2.2
      subst hz; simp at e
    · cases hv
      have e1 : (zs.take k).length = k := by simp [hk]
      refine ⟨by simp, .inr ⟨g, cap, cur, rfl, hg, hh, by omega, r2, r3, ?_⟩⟩
      rw [List.map_take, ← r4, List.take_take, e1]
      congr 1; omega

theorem Own.trimmed {W : World} {B : Nat} {a : Option Addr} {cap : Nat} {zs : List Int} (h : Own W B (.slice a zs.length cap) zs) : Own W B (cut a cap (M.trimL zs)) (M.trimL zs) := by
  have := h.take (M.trimL zs).length (M.trimL_len zs)
  rwa [M.trimL_take] at this

/-- A store into an owned slice. -/
theorem Own.set {W : World} {B : Nat} {g cap : Nat} {zs : List Int} (h : Own W B (.slice (some ⟨g, 0, none⟩) zs.length cap) zs) (j : Nat) (u : Int) : Own (W.setCell ⟨g, j, none⟩ (.int .i64 u)) B (.slice (some ⟨g, 0, none⟩) zs.length cap) (zs.set j u) := by
  unfold Own
  rw [List.length_set, List.map_set]
  exact (World.ownsRow.stored h j (.int .i64 u)).1

/-- A store below what is owned. -/
theorem Own.setBelow {W : World} {B : Nat} {v : Value} {zs : List Int} (h : Own W B v zs) {p : Addr} (hp : p.block < B) (u : Value) : Own (W.setCell p u) B v zs :=
  ownsRow_setCell_below h hp u

theorem cell_of_new (w : World) (v : Value) (t : TypeId) : (w.alloc (.cells #[v] t)).cell? ⟨w.heap.size, 0, none⟩ = some v ∧ (w.alloc (.cells #[v] t)).frozen? ⟨w.heap.size, 0, none⟩ = false :=
  ⟨cell_new _ _ _, frozen_new _ _ _⟩

theorem info_int : (Tryd.prog.info? 3).map (fun i => (i.zero, i.size, i.bytes)) = some (some (.int .i64 0), 1, 8) := by kernel_rfl

theorem Row.drewN {w : World} {a : Option Addr} {zs : List Int} {cap : Nat} (h : Row w a zs cap) (n : Nat) : Row (w.drewN n) a zs cap := ⟨h.room, h.most, h.el⟩

theorem Own.drewN {W : World} {B : Nat} {v : Value} {zs : List Int} (h : Own W B v zs) (n : Nat) : Own (W.drewN n) B v zs := h
theorem belowN {B : Nat} {w W : World} (h : Below B w W) (n : Nat) : Below B w (W.drewN n) := ⟨h.os, h.tape, h.output, h.size, h.block⟩

theorem Own.rowAt {W : World} {B : Nat} {a : Option Addr} {cap : Nat} {zs : List Int} (h : Own W B (.slice a zs.length cap) zs) : Row W a zs cap := by
  obtain ⟨a', cap', e, r⟩ := h.row
  cases e
  exact r

/-- Element k of a slice that is owned. -/
theorem Own.at {W : World} {B g cap : Nat} {zs : List Int} (h : Own W B (.slice (some ⟨g, 0, none⟩) zs.length cap) zs) (k : Nat) (hk : k < zs.length) : B ≤ g ∧ W.cell? ⟨g, k, none⟩ = some (.int .i64 (M.el zs k)) ∧ W.frozen? ⟨g, k, none⟩ = false := by
  rcases h.parts with ⟨e, rfl⟩ | ⟨g', cap', e, hb, _, _, _, hc⟩
  · simp at hk
  · cases e
    exact ⟨hb, hc k hk⟩

theorem Own.at2 {W : World} {B n cap : Nat} {a : Option Addr} {zs : List Int} (h : Own W B (.slice a n cap) zs) (k : Nat) (hk : k < zs.length) : ∃ g, a = some ⟨g, 0, none⟩ ∧ B ≤ g ∧ g < W.heap.size ∧ n ≤ cap ∧ cap ≤ 9223372036854775807 ∧ W.cell? ⟨g, k, none⟩ = some (.int .i64 (M.el zs k)) ∧ W.frozen? ⟨g, k, none⟩ = false := by
  rcases h.parts with ⟨e, rfl⟩ | ⟨g', cap', e, hb, h2, h3, h4, hc⟩
  · simp at hk
  · cases e
    exact ⟨g', rfl, hb, h2, h3, h4, hc k hk⟩
theorem Own.len {W : World} {B n cap : Nat} {a : Option Addr} {zs : List Int} (h : Own W B (.slice a n cap) zs) : n = zs.length := by
  rcases h.parts with ⟨e, rfl⟩ | ⟨g', cap', e, _⟩
  · cases e; rfl
  · cases e; rfl
/-- A store into another block. -/
theorem Own.other {W : World} {B : Nat} {v : Value} {zs : List Int} (h : Own W B v zs) {p : Addr} (u : Value) (hp : v.ownBlock ≠ some p.block) : Own (W.setCell p u) B v zs :=
  World.ownsRow.kept h (row := some p.block) ⟨rfl, rfl, rfl, by simp [World.setCell], fun k _ hk => Below.heap_setCell W p u k (fun e => hk (by rw [e]))⟩ (.inr hp)

theorem below_of_grown {W W' : World} {B : Nat} {v : Value} {zs : List Int} (h : Own W B v zs) (hg : W.grownBy W' v.ownBlock) (hB : B ≤ W.heap.size) : Below B W W' :=
  (Below.refl B W).grown hg hB (fun k e => (World.ownsRow.lt h k e).1)

/-- **make([]int, n)** -/
theorem wpList_make1 {W : World} {ops : Array Oper} {rest : List Oper} {o : Oper} {a : Act} {Q : Exit → Act → World → Prop} (hgd : o.guard = none) (l c : Operand) (hop : o.op = Op.makeSlice 22 l c)
    {B : Nat} (n : Nat) {L : Int} (hl : a.eval l = .int .i64 L) (hc : a.eval c = .int .i64 L) (hL : L = (n : Int)) (hn : n < 1000000) (hbase : B ≤ W.heap.size)
    (h : ∀ W', Own W' B (.slice (some ⟨W.heap.size, 0, none⟩) (List.replicate n (0 : Int)).length n) (List.replicate n 0) → Below B W W' → wpList Tryd.prog ops Q rest (a.put o.dst (.slice (some ⟨W.heap.size, 0, none⟩) n n)) W') : wpList Tryd.prog ops Q (o :: rest) a W := by
  obtain ⟨i0, hi, hz0, hz1, hz2⟩ := info_parts info_int
  refine wpList_make_full W hgd l c 22 hop B 3 i0 (.int .i64 0) 1 Tryd.underlying22 hi hz0 hz1 .i64 .i64 L L n hl hc hL hL (by rw [hz2]; omega) (by unfold maxLen; omega) hbase ?_
  intro W' hown hgrow
  refine h W' ?_ ((Below.refl B W).grown hgrow hbase (fun k e => by cases e))
  unfold Own
  rw [List.length_replicate, List.map_replicate]
  have e : (madeCells (Value.int .i64 0).cells (n * 1)).toList = List.replicate n (Value.int .i64 0) := by
    refine List.eq_replicate_iff.2 ⟨by simp [madeCells, Value.cells], fun b hb => ?_⟩
    simp [madeCells, Value.cells, Nat.mod_one] at hb
    exact hb.2.symm
  rw [e] at hown
  exact hown

/-- The value v is the number n. -/
def Num (W : World) (v : Value) (n : Nat) : Prop := ∃ a cap, v = .agg #[.slice a (M.dig n).length cap] ∧ Row W a (M.dig n) cap

/-- The result is the number n, or ErrLimit if it is too long. -/
def NatRes (n : Nat) (e : Ending) (W : World) : Prop := if (M.dig n).length ≤ 200 then ∃ v, e = .returned (.tuple #[v, .int .i64 0]) ∧ Num W v n else e = .returned (.tuple #[.agg #[.slice none 0 0], .int .i64 3])
theorem natRes_ok {n : Nat} {v : Value} {W : World} (h : (M.dig n).length ≤ 200) (hv : Num W v n) : NatRes n (.returned (.tuple #[v, .int .i64 0])) W := by
  unfold NatRes; rw [if_pos h]; exact ⟨v, rfl, hv⟩
theorem natRes_limit {n : Nat} {W : World} (h : ¬ (M.dig n).length ≤ 200) : NatRes n (.returned (.tuple #[.agg #[.slice none 0 0], .int .i64 3])) W := by
  unfold NatRes; rw [if_neg h]
theorem NatRes.ok {n : Nat} {e : Ending} {W : World} (h : NatRes n e W) (hl : (M.dig n).length ≤ 200) : ∃ v, e = .returned (.tuple #[v, .int .i64 0]) ∧ Num W v n := by
  unfold NatRes at h; rwa [if_pos hl] at h
theorem NatRes.limit {n : Nat} {e : Ending} {W : World} (h : NatRes n e W) (hl : ¬ (M.dig n).length ≤ 200) : e = .returned (.tuple #[.agg #[.slice none 0 0], .int .i64 3]) := by
  unfold NatRes at h; rwa [if_neg hl] at h

theorem Num.below {W W' : World} {v : Value} {n : Nat} (h : Num W v n) (hb : Below W.heap.size W W') : Num W' v n := by
  obtain ⟨a, cap, e, hr⟩ := h
  exact ⟨a, cap, e, hr.below hb⟩
theorem Own.num {W : World} {B : Nat} {v : Value} {n : Nat} (h : Own W B v (M.dig n)) : Num W (.agg #[v]) n := by
  obtain ⟨a, cap, rfl, hr⟩ := h.row
  exact ⟨a, cap, rfl, hr⟩

/-- **append(s, x)**, s owned. -/
theorem wpList_app1 {W : World} {ops : Array Oper} {rest : List Oper} {o : Oper} {a : Act} {Q : Exit → Act → World → Prop} (hgd : o.guard = none) (s x : Operand)
    (ho : o.op = .call { callee := .builtin .append, args := #[s, x], argTypes := #[22, 22] }) {B : Nat} {v : Value} {zs : List Int} {z : Int} (hs : a.eval s = v) (hown : Own W B v zs)
    {b : Nat} (hx : a.eval x = .slice (some ⟨b, 0, none⟩) 1 1) (hc : W.cell? ⟨b, 0, none⟩ = some (.int .i64 z)) (hl : zs.length < 1000000) (hbase : B ≤ W.heap.size)
    (h : ∀ a' cap' W', Own W' B (.slice a' (zs ++ [z]).length cap') (zs ++ [z]) → Below B W W' → wpList Tryd.prog ops Q rest (a.put o.dst (.slice a' (zs.length + 1) cap')) W') : wpList Tryd.prog ops Q (o :: rest) a W := by
  obtain ⟨i0, hi, hz0, hz1, hz2⟩ := info_parts info_int
  refine wpList_append_own W hgd s x 22 ho B 3 i0 (.int .i64 0) 1 8 Tryd.underlying22 hi hz0 hz1 hz2 rfl (by decide) v zs.length (zs.map (Value.int .i64)) hs hown ⟨b, 0, none⟩ 1 1 [.int .i64 z] hx rfl ?_ ?_ (by unfold maxLen; omega) (by omega) hbase ?_
  · intro j u hj
    match j, hj with
    | 0, hj => simp at hj; subst hj; simpa [Addr.add] using hc
  · intro u hu; simp at hu; subst hu; rfl
  · intro v' W' hown' hgrow _
    have ho2 : Own W' B v' (zs ++ [z]) := by unfold Own; simpa using hown'
    have hB2 : Below B W W' := (Below.refl B W).grown hgrow hbase (fun k e => (World.ownsRow.lt hown k e).1)
    obtain ⟨a', cap', rfl, _⟩ := ho2.row
    have := h a' cap' W' ho2 hB2
    simpa using this
end Go.Proofs.YtamniclnhenmgaaDoor
