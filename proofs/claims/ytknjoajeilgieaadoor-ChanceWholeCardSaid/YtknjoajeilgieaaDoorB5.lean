/- The reference's times and less. append of any slice of ints to one of the call's own. The reference's less. The numbers of the reference's long division. The reference's Divide. The reference's Of. How many limbs sums and products have. The reference's Power. nat.Parse. What nat's and the reference's Power, Choose and Parse answer out of their ranges. chance's number, plus, power, choose. chance's product. -/
import Derived.Test.YtknjoajeilgieaaDoorB4
import Derived.Laws.OwnMore
import Derived.Deep.RegionWith
import Derived.Deep.RegionLaw
import Derived.Deep.RegionHeld3
import Derived.Deep.DeepCutAuto
import Derived.Deep.CutBlock
namespace Go.Proofs.YtknjoajeilgieaaDoor
open Go Go.RowKit Go.Shelf

/-- **make([]int, 0, n)** -/
theorem wpList_make0 {W : World} {ops : Array Oper} {rest : List Oper} {o : Oper} {a : Act} {Q : Exit → Act → World → Prop} (hgd : o.guard = none) (l c : Operand) (hop : o.op = Op.makeSlice 22 l c)
    {B : Nat} (n : Nat) {L : Int} (hl : a.eval l = .int .i64 0) (hc : a.eval c = .int .i64 L) (hL : L = (n : Int)) (hn : n < 1000000) (hbase : B ≤ W.heap.size)
    (h : ∀ W', Own W' B (.slice (some ⟨W.heap.size, 0, none⟩) 0 n) [] → Below B W W' → wpList Tryd.prog ops Q rest (a.put o.dst (.slice (some ⟨W.heap.size, 0, none⟩) 0 n)) W') : wpList Tryd.prog ops Q (o :: rest) a W := by
  obtain ⟨i0, hi, hz0, hz1, hz2⟩ := info_parts info_int
  refine wpList_make_own W hgd l c 22 hop B 3 i0 (.int .i64 0) 1 Tryd.underlying22 hi hz0 hz1 .i64 .i64 L n hl hc hL (by rw [hz2]; omega) (by unfold maxLen; omega) hbase ?_
  intro W' hown hgrow
  exact h W' hown ((Below.refl B W).grown hgrow hbase (fun k e => by cases e))

theorem M.rtimes_step {V P q s n A : Int} (h : V + P * q = A * n) : (V + P * ((s * n + q) % 16777216)) + P * 16777216 * ((s * n + q) / 16777216) = (A + P * s) * n := by
  have h1 := M.pow_split P (s * n + q)
  rw [Int.mul_add] at h1
  rw [Int.add_mul, Int.mul_assoc P s n]
  omega

def TmRel (w w2 : World) (x n : Nat) (l c i : Value) (W : World) : Prop :=
  ∃ (k : Nat) (zs : List Int) (q : Int) (a : Option Addr) (cap : Nat), l = .slice a zs.length cap ∧ c = .int .i64 q ∧ i = .int .i64 (k : Int) ∧ k ≤ (M.dig x).length ∧ zs.length = k ∧ M.Lim zs ∧ 0 ≤ q ∧ q < 16777216 ∧
    M.val zs + 16777216 ^ k * q = M.val ((M.dig x).take k) * n ∧ Own W (w.heap.size + 2) (.slice a zs.length cap) zs ∧ Below w2.heap.size w2 W

end Go.Proofs.YtknjoajeilgieaaDoor

namespace Go.Proofs.YtknjoajeilgieaaDoor
open Go Go.RowKit Go.Shelf

theorem Own.nilCap {W : World} {B n cap : Nat} {a : Option Addr} {zs : List Int} (h : Own W B (.slice a n cap) zs) : a = none → cap = 0 := by
  intro e
  rcases h.parts with ⟨e2, _⟩ | ⟨g, c, e2, _⟩
  · cases e2; rfl
  · cases e2; cases e

theorem wp_appRow {W : World} {o : Oper} {a : Act} {K : Act → World → Prop} {Q : Exit → Act → World → Prop} (s x : Operand) (ho : o.op = .call { callee := .builtin .append, args := #[s, x], argTypes := #[22, 22] })
    {B : Nat} {v : Value} {zs ys : List Int} (hs : a.eval s = v) (hown : Own W B v zs) {ad : Option Addr} {cap : Nat} (hx : a.eval x = .slice ad ys.length cap) (hr : Row W ad ys cap) (hnil : ad = none → cap = 0)
    (hl : zs.length + ys.length < 1000000) (hbase : B ≤ W.heap.size)
    (h : ∀ a' cap' W', Own W' B (.slice a' (zs ++ ys).length cap') (zs ++ ys) → Below B W W' → K (a.put o.dst (.slice a' (zs.length + ys.length) cap')) W') : Oper.wp Tryd.prog o a W K Q := by
  obtain ⟨i0, hi, hz0, hz1, hz2⟩ := info_parts info_int
  cases ad with
  | none =>
    have hy : ys = [] := by
      cases ys with
      | nil => rfl
      | cons y ys =>
        obtain ⟨b, off, e, _⟩ := hr.el 0 (by simp)
        cases e
    subst hy
    obtain rfl := hnil rfl
    have hrun := run_append_owned_none (P := Tryd.prog) W B 22 o.type 3 i0 1 Tryd.underlying22 hi v zs.length (zs.map (Value.int .i64)) hown
    obtain ⟨a', cap', rfl, _⟩ := hown.row
    unfold Oper.wp execOp
    simp only [ho, resolve, invoke, builtin, Sem.run_bind, Sem.run_pure, Result.andThen_ok, List.map_toArray, List.map_cons, List.map_nil, hs, hx, List.length_nil, hrun]
    have := h a' cap' W (by simpa using hown) (Below.refl _ _)
    exact (show K (a.put o.dst (.slice a' zs.length cap')) W by simpa using this)
  | some ad =>
    refine wp_append_own W s x 22 ho B 3 i0 (.int .i64 0) 1 8 Tryd.underlying22 hi hz0 hz1 hz2 rfl (by decide) v zs.length (zs.map (Value.int .i64)) hs hown ad ys.length cap (ys.map (Value.int .i64)) hx (by simp) ?_ ?_ (by unfold maxLen; omega) (by omega) hbase ?_
    · intro j u hj
      rw [List.getElem?_map] at hj
      by_cases hlt : j < ys.length
      · obtain ⟨b, off, e, hc⟩ := hr.el j hlt
        cases e
        rw [List.getElem?_eq_getElem hlt] at hj
        simp only [Option.map_some, Option.some.injEq] at hj
        subst hj
        rw [M.el, List.getElem?_eq_getElem hlt] at hc
        by_cases hj0 : j = 0
        · subst hj0; simpa [Addr.add] using hc
        · simpa [Addr.add, hj0] using hc
      · rw [List.getElem?_eq_none (by omega)] at hj; simp at hj
    · intro u hu
      obtain ⟨z, _, rfl⟩ := List.mem_map.1 hu
      rfl
    · intro v' W' hown' hgrow _
      have ho2 : Own W' B v' (zs ++ ys) := by unfold Own; rw [List.length_append, List.map_append]; exact hown'
      have hB2 : Below B W W' := (Below.refl B W).grown hgrow hbase (fun k e => (World.ownsRow.lt hown k e).1)
      obtain ⟨a', cap', rfl, _⟩ := ho2.row
      have := h a' cap' W' ho2 hB2
      simpa using this

/-- **append(s, t...)**, s owned, t any slice, nil too. -/
theorem wpList_appRow {W : World} {ops : Array Oper} {rest : List Oper} {o : Oper} {a : Act} {Q : Exit → Act → World → Prop} (hgd : o.guard = none) (s x : Operand)
    (ho : o.op = .call { callee := .builtin .append, args := #[s, x], argTypes := #[22, 22] }) {B : Nat} {v : Value} {zs ys : List Int} (hs : a.eval s = v) (hown : Own W B v zs)
    {ad : Option Addr} {cap : Nat} (hx : a.eval x = .slice ad ys.length cap) (hr : Row W ad ys cap) (hnil : ad = none → cap = 0) (hl : zs.length + ys.length < 1000000) (hbase : B ≤ W.heap.size)
    (h : ∀ a' cap' W', Own W' B (.slice a' (zs ++ ys).length cap') (zs ++ ys) → Below B W W' → wpList Tryd.prog ops Q rest (a.put o.dst (.slice a' (zs.length + ys.length) cap')) W') : wpList Tryd.prog ops Q (o :: rest) a W :=
  wpList_plain hgd fun _ hK => wp_appRow s x ho hs hown hx hr hnil hl hbase fun a' c' W' h1 h2 => hK _ _ (h a' c' W' h1 h2)

/-- .. as a step of a region that draws its order. -/
theorem step_appRow {W : World} {ops : Array Oper} {o : Oper} {a : Act} {K : Act → World → Prop} {Q : Exit → Act → World → Prop} {E : Prop} (hgd : o.guard = none) (s x : Operand)
    (ho : o.op = .call { callee := .builtin .append, args := #[s, x], argTypes := #[22, 22] }) {B : Nat} {v : Value} {zs ys : List Int} (hs : a.eval s = v) (hown : Own W B v zs)
    {ad : Option Addr} {cap : Nat} (hx : a.eval x = .slice ad ys.length cap) (hr : Row W ad ys cap) (hnil : ad = none → cap = 0) (hl : zs.length + ys.length < 1000000) (hbase : B ≤ W.heap.size)
    (h : ∀ a' cap' W', Own W' B (.slice a' (zs ++ ys).length cap') (zs ++ ys) → Below B W W' → K (a.put o.dst (.slice a' (zs.length + ys.length) cap')) W') :
    if Region.wanted o (yielded ops a.tmps) = true then Oper.wp Tryd.prog o a W K Q else E := by
  have hw : Region.wanted o (yielded ops a.tmps) = true := by simp [Region.wanted, hgd]
  rw [if_pos hw]
  exact wp_appRow s x ho hs hown hx hr hnil hl hbase h
end Go.Proofs.YtknjoajeilgieaaDoor

namespace Go.Proofs.YtknjoajeilgieaaDoor
open Go Go.RowKit Go.Shelf

theorem M.less_step {V P c A B ex ey d c2 : Int} (h : V - P * c = A - B) (hd : d - 16777216 * c2 = ex - c - ey) : (V + P * d) - P * 16777216 * c2 = (A + P * ex) - (B + P * ey) := by
  have h1 : P * (d - 16777216 * c2) = P * (ex - c - ey) := by rw [hd]
  rw [Int.mul_sub, Int.mul_sub, Int.mul_sub, ← Int.mul_assoc] at h1
  omega

/-- In the last place nothing is borrowed. -/
theorem M.less_last {zs : List Int} {x y k m : Nat} {c d : Int} (hm : (dig x).length = m) (hk : k + 1 = m) (hyx : y ≤ x) (hlim : Lim (zs.take k)) (hl : zs.length = m)
    (hv : val (zs.take k) - 16777216 ^ k * c = val ((dig x).take k) - val ((dig y).take k)) (hd : d = el (dig x) k - c - el (dig y) k) : 0 ≤ d := by
  have h1 := val_take_succ' (dig x) k
  have h2 := val_take_succ' (dig y) k
  have hyl : (dig y).length ≤ m := by rw [← hm]; exact dig_len_le.2 (Nat.lt_of_le_of_lt hyx (dig_len_le.1 (Nat.le_refl _)))
  rw [List.take_of_length_le (by omega), val_dig] at h1
  rw [List.take_of_length_le (by omega), val_dig] at h2
  have h3 := val_lt hlim
  rw [List.length_take, Nat.min_eq_left (by omega)] at h3
  have hP := pow_pos k
  rcases Int.lt_or_le d 0 with hneg | hpos
  · exfalso
    have h4 : 16777216 ^ k * d ≤ 16777216 ^ k * (-1) := Int.mul_le_mul_of_nonneg_left (by omega) (by omega)
    rw [hd, Int.mul_sub, Int.mul_sub] at h4
    omega
  · exact hpos

theorem Own.setL {W : World} {B g L cap : Nat} {zs : List Int} (h : Own W B (.slice (some ⟨g, 0, none⟩) L cap) zs) (j : Nat) (u : Int) : Own (W.setCell ⟨g, j, none⟩ (.int .i64 u)) B (.slice (some ⟨g, 0, none⟩) L cap) (zs.set j u) := by
  have hl := h.len
  subst hl
  exact h.set j u

def LsRel (w w3 : World) (x y g cap : Nat) (i : Value) (W : World) : Prop :=
  ∃ (k : Nat) (zs : List Int) (c : Int), i = .int .i64 (k : Int) ∧ k ≤ (M.dig x).length ∧ zs.length = (M.dig x).length ∧ M.Lim (zs.take k) ∧ 0 ≤ c ∧ c ≤ 1 ∧ (k < (M.dig x).length → M.el zs k = M.el (M.dig x) k - c) ∧ (∀ j : Nat, k < j → M.el zs j = M.el (M.dig x) j) ∧
    (k = (M.dig x).length → c = 0) ∧ M.val (zs.take k) - 16777216 ^ k * c = M.val ((M.dig x).take k) - M.val ((M.dig y).take k) ∧ Own W (w.heap.size + 3) (.slice (some ⟨g, 0, none⟩) (M.dig x).length cap) zs ∧ Below w3.heap.size w3 W

theorem ls_pos {w w3 W : World} {x y g cap k : Nat} {zs : List Int} {c d : Int} (hk : k < (M.dig x).length) (hlen : zs.length = (M.dig x).length) (hlim : M.Lim (zs.take k)) (hrest : ∀ j : Nat, k < j → M.el zs j = M.el (M.dig x) j)
    (hval : M.val (zs.take k) - 16777216 ^ k * c = M.val ((M.dig x).take k) - M.val ((M.dig y).take k)) (hd : d = M.el (M.dig x) k - c - M.el (M.dig y) k) (h0 : 0 ≤ d) (h1 : d < 16777216)
    (hown : Own W (w.heap.size + 3) (.slice (some ⟨g, 0, none⟩) (M.dig x).length cap) zs) (hB : Below w3.heap.size w3 W) (hg : w3.heap.size ≤ g) :
    LsRel w w3 x y g cap (.int .i64 ((k : Int) + 1)) (W.setCell ⟨g, k, none⟩ (.int .i64 d)) := by
  have hkl : k < zs.length := by omega
  have ht := M.take_set_succ zs k d hkl
  refine ⟨k + 1, zs.set k d, 0, by go_num, by omega, by rw [List.length_set]; exact hlen, ?_, by omega, by omega, fun _ => ?_, fun j hj => ?_, fun _ => rfl, ?_, hown.setL k d, hB.setCell (p := ⟨g, k, none⟩) hg _⟩
  · rw [ht]; exact hlim.append (M.Lim.cons h0 h1 M.Lim.nil)
  · rw [M.el_set _ _ _ _ hkl, if_neg (by omega), hrest _ (by omega)]; omega
  · rw [M.el_set _ _ _ _ hkl, if_neg (by omega)]; exact hrest j (by omega)
  · have hl : (zs.take k).length = k := by rw [List.length_take]; omega
    rw [ht, M.val_append, hl, M.val_take_succ', M.val_take_succ']
    simp only [M.val, Int.mul_zero, Int.add_zero, Int.sub_zero]
    have := M.less_step (d := d) (c2 := 0) (ex := M.el (M.dig x) k) (ey := M.el (M.dig y) k) hval (by omega)
    rwa [Int.mul_zero, Int.sub_zero] at this

theorem ls_neg {w w3 W : World} {x y g cap k : Nat} {zs : List Int} {c d : Int} (hk : k + 1 < (M.dig x).length) (hlen : zs.length = (M.dig x).length) (hlim : M.Lim (zs.take k)) (hrest : ∀ j : Nat, k < j → M.el zs j = M.el (M.dig x) j)
    (hval : M.val (zs.take k) - 16777216 ^ k * c = M.val ((M.dig x).take k) - M.val ((M.dig y).take k)) (hd : d = M.el (M.dig x) k - c - M.el (M.dig y) k) (h0 : d < 0) (h1 : -16777216 ≤ d)
    (hown : Own W (w.heap.size + 3) (.slice (some ⟨g, 0, none⟩) (M.dig x).length cap) zs) (hB : Below w3.heap.size w3 W) (hg : w3.heap.size ≤ g) :
    LsRel w w3 x y g cap (.int .i64 ((k : Int) + 1)) (((W.setCell ⟨g, k, none⟩ (.int .i64 d)).setCell ⟨g, k, none⟩ (.int .i64 (d + 16777216))).setCell ⟨g, k + 1, none⟩ (.int .i64 (M.el (M.dig x) (k + 1) - 1))) := by
  have hkl : k < zs.length := by omega
  have ho := ((hown.setL k d).setL k (d + 16777216)).setL (k + 1) (M.el (M.dig x) (k + 1) - 1)
  rw [List.set_set] at ho
  have ht : ((zs.set k (d + 16777216)).set (k + 1) (M.el (M.dig x) (k + 1) - 1)).take (k + 1) = zs.take k ++ [d + 16777216] := by
    rw [List.take_set_of_le (Nat.le_refl _)]; exact M.take_set_succ zs k _ hkl
  have hk1 : k + 1 < (zs.set k (d + 16777216)).length := by rw [List.length_set]; omega
  refine ⟨k + 1, _, 1, by go_num, by omega, by rw [List.length_set, List.length_set]; exact hlen, ?_, by omega, by omega, fun _ => ?_, fun j hj => ?_, fun h => by omega, ?_, ho, ((hB.setCell (p := ⟨g, k, none⟩) hg _).setCell (p := ⟨g, k, none⟩) hg _).setCell (p := ⟨g, k + 1, none⟩) hg _⟩
  · rw [ht]; exact hlim.append (M.Lim.cons (by omega) (by omega) M.Lim.nil)
  · rw [M.el_set _ _ _ _ hk1, if_pos rfl]
  · rw [M.el_set _ _ _ _ hk1, if_neg (by omega), M.el_set _ _ _ _ hkl, if_neg (by omega)]; exact hrest j (by omega)
  · have hl : (zs.take k).length = k := by rw [List.length_take]; omega
    rw [ht, M.val_append, hl, M.val_take_succ', M.val_take_succ']
    simp only [M.val, Int.mul_zero, Int.add_zero]
    have := M.less_step (d := d + 16777216) (c2 := 1) (ex := M.el (M.dig x) k) (ey := M.el (M.dig y) k) hval (by omega)
    rw [Int.mul_one] at this
    rw [Int.pow_succ, Int.mul_one]
    exact this

def LessPost (w : World) (n : Nat) (e : Ending) (W : World) : Prop :=
  (∃ a c, e = .returned (.agg #[.slice a (M.dig n).length c]) ∧ Row W a (M.dig n) c ∧ (a = none → c = 0) ∧ Fresh (w.heap.size + 1) a (M.dig n)) ∧ Below w.heap.size w W

end Go.Proofs.YtknjoajeilgieaaDoor

namespace Go.Proofs.YtknjoajeilgieaaDoor.M

/-- The number that the limbs from k on make. -/
def xs (x k : Nat) : Nat := (val ((dig x).drop k)).toNat
theorem xs_int (x k : Nat) : ((xs x k : Nat) : Int) = val ((dig x).drop k) := Int.toNat_of_nonneg (val_nonneg ((lim_dig x).drop k))
theorem xs_zero (x : Nat) : xs x 0 = x := by
  have := xs_int x 0
  rw [List.drop_zero, val_dig] at this
  omega
theorem xs_end {x k : Nat} (h : (dig x).length ≤ k) : xs x k = 0 := by
  have := xs_int x k
  rw [List.drop_of_length_le h] at this
  simp only [val] at this
  omega
theorem xs_step {x k : Nat} (h : k < (dig x).length) : xs x k = 16777216 * xs x (k + 1) + (el (dig x) k).toNat := by
  have h1 := xs_int x k
  have h2 := xs_int x (k + 1)
  have h3 := (lim_dig x).get k
  rw [val_drop_succ _ _ h, ← h2] at h1
  omega
theorem div_step {X X' y d : Nat} (hy : 0 < y) (hd : d < 16777216) (hX : X = 16777216 * X' + d) :
    X / y = 16777216 * (X' / y) + (d + 16777216 * (X' % y)) / y ∧ X % y = (d + 16777216 * (X' % y)) % y ∧ (d + 16777216 * (X' % y)) / y < 16777216 := by
  have h1 := Nat.div_add_mod X' y
  have h2 := Nat.mod_lt X' hy
  have h3 : X = y * (16777216 * (X' / y)) + (d + 16777216 * (X' % y)) := by
    rw [Nat.mul_left_comm]
    omega
  refine ⟨?_, ?_, ?_⟩
  · rw [h3, Nat.mul_add_div hy]
  · rw [h3, Nat.mul_add_mod]
  · rw [Nat.div_lt_iff_lt_mul hy]; omega
theorem q_step {zs : List Int} {k : Nat} (u : Int) (hk : k < zs.length) : val ((zs.set k u).drop k) = u + 16777216 * val (zs.drop (k + 1)) := by
  rw [val_drop_succ _ k (by rw [List.length_set]; exact hk), el_set _ _ _ _ hk, if_pos rfl, List.drop_set_of_lt (by omega)]
theorem rest_dig {d : Int} {r : Nat} (h0 : 0 ≤ d) (h1 : d < 16777216) : trimL ([d] ++ dig r) = dig (d.toNat + 16777216 * r) := by
  refine trim_dig (Lim.cons h0 h1 (lim_dig r)) ?_
  simp only [List.singleton_append, val, val_dig]
  omega
/-- A number below y times 16777216 has at most one limb more than y. -/
theorem rest_len {d : Int} {r y k : Nat} (h1 : d < 16777216) (hr : r < y) (hy : (dig y).length ≤ k) : (dig (d.toNat + 16777216 * r)).length ≤ k + 1 := by
  rw [dig_len_le] at *
  rw [Nat.pow_succ]
  omega
end Go.Proofs.YtknjoajeilgieaaDoor.M

namespace Go.Proofs.YtknjoajeilgieaaDoor
open Go Go.RowKit Go.Shelf

/-- Quotient and rest, in blocks from B on. -/
def RDivRes (B x y : Nat) (e : Ending) (W : World) : Prop :=
  ∃ a1 c1 a2 c2, e = .returned (.tuple #[.agg #[.slice a1 (M.dig (x / y)).length c1], .agg #[.slice a2 (M.dig (x % y)).length c2], .int .i64 0]) ∧ Row W a1 (M.dig (x / y)) c1 ∧ Row W a2 (M.dig (x % y)) c2 ∧ Fresh B a1 (M.dig (x / y)) ∧ Fresh B a2 (M.dig (x % y))

/-- What holds at the head of Divide's loop: the quotient's limbs from k on, and the rest. -/
structure RdSt (wb : World) (x y p8 g k : Nat) (zs : List Int) (ra : Option Addr) (rc : Nat) (W : World) : Prop where
  few : k ≤ (M.dig x).length
  len : zs.length = (M.dig x).length
  lim : M.Lim zs
  quo : M.val (zs.drop k) = ((M.xs x k / y : Nat) : Int)
  own : Own W wb.heap.size (.slice (some ⟨g, 0, none⟩) (M.dig x).length (M.dig x).length) zs
  cell : W.cell? ⟨p8, 0, none⟩ = some (.slice ra (M.dig (M.xs x k % y)).length rc)
  free : W.frozen? ⟨p8, 0, none⟩ = false
  row : Row W ra (M.dig (M.xs x k % y)) rc
  fresh : Fresh (p8 + 1) ra (M.dig (M.xs x k % y))
  nilc : ra = none → rc = 0
  below : Below wb.heap.size wb W
  bnd : wb.heap.size ≤ g ∧ g < p8

def RdRel (wb : World) (x y p8 g : Nat) (i : Value) (W : World) : Prop :=
  ∃ (k : Nat) (zs : List Int) (ra : Option Addr) (rc : Nat), i = .int .i64 ((k : Int) - 1) ∧ RdSt wb x y p8 g k zs ra rc W

theorem Row.storedAt {w : World} {a : Option Addr} {zs : List Int} {cap : Nat} (h : Row w a zs cap) {p : Addr} {s : Option Addr} {n c : Nat} (hp : w.cell? p = some (.slice s n c)) (u : Value) : Row (w.setCell p u) a zs cap :=
  ⟨h.room, h.most, fun j hj => by
    obtain ⟨b, off, e, hc⟩ := h.el j hj
    exact ⟨b, off, e, (World.cell?_setCell_other _ _ _ _ (by rintro rfl; rw [hp] at hc; cases hc)).trans hc⟩⟩
theorem rowAt_len {W : World} {B n cap : Nat} {a : Option Addr} {zs : List Int} (h : Own W B (.slice a n cap) zs) (hl : zs.length = n) : Row W a zs cap := by
  subst hl; exact h.rowAt
theorem Own.one {W : World} {B : Nat} (d : Int) (hB : B ≤ W.heap.size) : Own (W.alloc (.cells #[.int .i64 d] 3)) B (.slice (some ⟨W.heap.size, 0, none⟩) 1 1) [d] := by
  have := World.ownsRow_lit (base := B) (e := 3) (size := 1) W #[.int .i64 d] 1 hB (by decide) rfl
  unfold Own
  simpa using this

end Go.Proofs.YtknjoajeilgieaaDoor

namespace Go.Proofs.YtknjoajeilgieaaDoor
open Go Go.RowKit Go.Shelf

set_option maxRecDepth 100000 in
set_option maxHeartbeats 1000000 in
theorem rof_any (N : Nat) (w : World) (hN : N ≤ 9223372036854775807) :
    Calls Tryd.prog 17 #[.int .i64 (N : Int)] w fun e W' => ∃ v, e = .returned (.tuple #[v, .int .i64 0]) ∧ Num W' v N ∧ Below w.heap.size w W' := by
  have HL := Lib.hid (M.dig_len_le.2 (Nat.lt_of_le_of_lt hN (by decide)) : (M.dig N).length ≤ 3)
  have c0 := cell_of_new w (.slice none 0 0) 24
  go_enter Tryd.func17, Tryd.ntmps17
  go_wp2
  go_loopw [0, 4] (fun t v wr => OfRel w N t v wr) (fun t _ _ => (intOf t).toNat)
  case atStart => exact ⟨N, [], rfl, Nat.le_refl _, Own.nil _ _, rfl, c0.1, c0.2, (Below.refl _ w).alloc (Nat.le_refl _) _⟩
  case round =>
    obtain ⟨m, pre, rfl, hm, hown, hdig, hc0, hf0, hB⟩ := hrel
    obtain ⟨a, cap, rfl, hr⟩ := hown.row
    have HR := Lib.hid hr
    clear hr
    have HD := Lib.hid hdig
    clear hdig
    by_cases h0 : m = 0
    · subst h0
      have HE := Lib.hid (show M.dig N = pre by rw [HD.out, M.dig_zero, List.append_nil])
      go_wp2
      refine bodyPost_ret (v := .tuple #[.agg #[.slice a pre.length cap], .int .i64 0]) (by simp [results, Tryd.results17, go_sem, hc0]) rfl ⟨.agg #[.slice a pre.length cap], rfl, ?_, hB.setCell (p := ⟨w.heap.size, 0, none⟩) (Nat.le_refl _) _⟩
      refine Own.num (B := w.heap.size + 1) ?_
      rw [HE.out]
      exact hown.setBelow (Nat.lt_succ_self _) _
    · have hm1 : 0 < m := by omega
      clear h0
      have hpre : pre.length < 1000000 := by have := HL.out; rw [HD.out, List.length_append] at this; omega
      have hsz := hB.size
      go_wp2_with (at_builtin; refine wpList_app1 rfl _ _ rfl rfl (hown.alloc _) rfl (cell_new _ _ _) hpre (by simp; omega) ?_; intro a' cap' W' hown' hb')
      go_roundw
      case rel =>
        refine ⟨m / 16777216, pre ++ [((m % 16777216 : Nat) : Int)], by go_num, by omega, by simpa using hown', by rw [HD.out, M.dig_pos (by omega), List.append_assoc]; rfl, (hb'.cell (p := ⟨w.heap.size, 0, none⟩) (by simp)).trans (cell_later _ hc0), (hb'.frozen (p := ⟨w.heap.size, 0, none⟩) (by simp)).trans (frozen_later _ hc0 hf0), hB.trans (((Below.refl _ wr).alloc hsz _).trans (hb'.mono (by omega)))⟩
      case measure => simp [intOf]; omega
end Go.Proofs.YtknjoajeilgieaaDoor

namespace Go.Proofs.YtknjoajeilgieaaDoor.M
theorem dig_len_add {x y k : Nat} (hx : (dig x).length ≤ k) (hy : (dig y).length ≤ k) : (dig (x + y)).length ≤ k + 1 := by
  rw [dig_len_le] at *
  rw [Nat.pow_succ]; omega
theorem dig_len_mul {x y j k : Nat} (hx : (dig x).length ≤ j) (hy : (dig y).length ≤ k) : (dig (x * y)).length ≤ j + k := by
  rw [dig_len_le] at *
  rw [Nat.pow_add]
  exact Nat.mul_lt_mul_of_lt_of_le hx (Nat.le_of_lt hy) (Nat.pow_pos (by decide))
theorem dig_len_mono {x y : Nat} (h : x ≤ y) : (dig x).length ≤ (dig y).length := dig_len_le.2 (Nat.lt_of_le_of_lt h (dig_len_le.1 (Nat.le_refl _)))
end Go.Proofs.YtknjoajeilgieaaDoor.M

namespace Go.Proofs.YtknjoajeilgieaaDoor
open Go Go.RowKit Go.Shelf

structure RpSt (w : World) (p x : Nat) (a : Option Addr) (ca : Nat) (z : Nat) (o : Option Addr) (co : Nat) (W : World) : Prop where
  cA : W.cell? ⟨w.heap.size, 0, none⟩ = some (.slice a (M.dig x).length ca)
  cR : W.cell? ⟨w.heap.size + 1, 0, none⟩ = some (.slice none 0 0)
  fR : W.frozen? ⟨w.heap.size + 1, 0, none⟩ = false
  cO : W.cell? ⟨p, 0, none⟩ = some (.slice o (M.dig z).length co)
  fO : W.frozen? ⟨p, 0, none⟩ = false
  rA : Row W a (M.dig x) ca
  rO : Row W o (M.dig z) co
  far : w.heap.size + 1 < p
  below : Below w.heap.size w W
theorem RpSt.keep {w : World} {p x : Nat} {a : Option Addr} {ca z : Nat} {o : Option Addr} {co : Nat} {W W' : World} (h : RpSt w p x a ca z o co W) (hb : Below W.heap.size W W') : RpSt w p x a ca z o co W' :=
  ⟨cell_below hb h.cA, cell_below hb h.cR, frozen_below hb h.cR h.fR, cell_below hb h.cO, frozen_below hb h.cO h.fO, h.rA.below hb, h.rO.below hb, h.far, h.below.trans (hb.mono h.below.size)⟩
theorem RpSt.set {w : World} {p x : Nat} {a : Option Addr} {ca z : Nat} {o : Option Addr} {co : Nat} {W : World} (h : RpSt w p x a ca z o co W) {z' : Nat} {o' : Option Addr} {co' : Nat} (hr : Row W o' (M.dig z') co') :
    RpSt w p x a ca z' o' co' (W.setCell ⟨p, 0, none⟩ (.slice o' (M.dig z').length co')) := by
  have hp := h.far
  exact ⟨(cell_other _ (show w.heap.size ≠ p by omega)).trans h.cA, (cell_other _ (show w.heap.size + 1 ≠ p by omega)).trans h.cR, (World.frozen?_setCell _ _ _ _).trans h.fR, World.cell?_setCell_same _ _ _ h.cO, (World.frozen?_setCell _ _ _ _).trans h.fO,
    h.rA.storedAt h.cO _, hr.storedAt h.cO _, hp, h.below.setCell (p := ⟨p, 0, none⟩) (by show w.heap.size ≤ p; omega) _⟩

set_option maxRecDepth 100000 in
set_option maxHeartbeats 1000000 in
/-- **ref01.Power**, out of range. -/
theorem rpower_range (a : Option Addr) (ca x : Nat) (n : Int) (w : World) (hx : (M.dig x).length ≤ 200) (hn : n < 0 ∨ 4800 < n) (hR : Row w a (M.dig x) ca) :
    Calls Tryd.prog 18 #[.agg #[.slice a (M.dig x).length ca], .int .i64 n] w fun e W' => e = .returned (.tuple #[.agg #[.slice none 0 0], .int .i64 2]) ∧ Below w.heap.size w W' := by
  have Hv := Lib.hid (vld_dig hx)
  have hB2 := boxes1_below w (.slice a (M.dig x).length ca)
  have hs2 := boxes1_size w (.slice a (M.dig x).length ca)
  obtain ⟨c0, c1, f1⟩ := boxes1_cells w (.slice a (M.dig x).length ca)
  have HR := Lib.hid (hR.below hB2)
  have HB := Lib.hid hB2
  clear hR hB2
  go_enter Tryd.func18, Tryd.ntmps18
  go_wp2_with fail
  generalize hw3 : ((w.alloc (.cells #[.slice a (M.dig x).length ca] 24)).alloc (.cells #[.slice none 0 0] 24)) = w3
  obtain rfl : boxes1 w (.slice a (M.dig x).length ca) = w3 := hw3
  generalize boxes1 w (.slice a (M.dig x).length ca) = w3 at *
  refine (rvalid_yes a _ ca _ HR.out Hv.out).mono ?_
  rintro e w5 ⟨rfl, hb5⟩
  have k0 := cell_below hb5 c0
  have k1 := cell_below hb5 c1
  have l1 := frozen_below hb5 c1 f1
  have HB5 := Lib.hid (HB.out.trans (hb5.mono (by omega)))
  clear c0 c1 f1 hb5
  by_cases h0 : n < 0
  · clear hn
    go_wp2_with fail
    refine bodyPost_ret (v := .tuple #[.agg #[.slice none 0 0], .int .i64 2]) (by simp [results, Tryd.results18, go_sem, k1]) rfl ⟨rfl, HB5.out.setCell (p := ⟨w.heap.size + 1, 0, none⟩) (by show w.heap.size ≤ w.heap.size + 1; omega) _⟩
  · have h1 : 4800 < n := by omega
    clear hn
    go_wp2_with fail
    refine bodyPost_ret (v := .tuple #[.agg #[.slice none 0 0], .int .i64 2]) (by simp [results, Tryd.results18, go_sem, k1]) rfl ⟨rfl, HB5.out.setCell (p := ⟨w.heap.size + 1, 0, none⟩) (by show w.heap.size ≤ w.heap.size + 1; omega) _⟩

theorem cmp_one {x : Nat} (h : x ≠ 1) : (Lib.compareInt (x : Int) ((1 : Nat) : Int) == 0) = false := by
  rw [beq_eq_false_iff_ne]
  unfold Lib.compareInt
  split
  · decide
  · split
    · decide
    · omega
theorem cmp_eq (x : Nat) : (Lib.compareInt (x : Int) (x : Int)) = 0 := by
  unfold Lib.compareInt
  rw [if_neg (by omega), if_neg (by omega)]

set_option maxRecDepth 100000 in
set_option maxHeartbeats 1000000 in
/-- **ref01.Power** -/
theorem rpower_any (a : Option Addr) (ca x n : Nat) (w : World) (hx : (M.dig x).length ≤ 200) (hn : n ≤ 4800) (hR : Row w a (M.dig x) ca) :
    Calls Tryd.prog 18 #[.agg #[.slice a (M.dig x).length ca], .int .i64 (n : Int)] w fun e W' => NatRes (x ^ n) e W' ∧ Below w.heap.size w W' := by
  have Hv := Lib.hid (vld_dig hx)
  have HX := Lib.hid hx
  have hB2 := boxes1_below w (.slice a (M.dig x).length ca)
  have hs2 := boxes1_size w (.slice a (M.dig x).length ca)
  obtain ⟨c0, c1, f1⟩ := boxes1_cells w (.slice a (M.dig x).length ca)
  have HR := Lib.hid (hR.below hB2)
  have HB := Lib.hid hB2
  clear hR hB2
  go_enter Tryd.func18, Tryd.ntmps18
  go_wp2_with fail
  generalize hw3 : ((w.alloc (.cells #[.slice a (M.dig x).length ca] 24)).alloc (.cells #[.slice none 0 0] 24)) = w3
  obtain rfl : boxes1 w (.slice a (M.dig x).length ca) = w3 := hw3
  generalize boxes1 w (.slice a (M.dig x).length ca) = w3 at *
  refine (rvalid_yes a _ ca _ HR.out Hv.out).mono ?_
  rintro e w5 ⟨rfl, hb5⟩
  have C := Lib.hid (And.intro (cell_below hb5 c0) (And.intro (cell_below hb5 c1) (frozen_below hb5 c1 f1)))
  have HB5 := Lib.hid (HB.out.trans (hb5.mono (by omega)))
  have HR5 := Lib.hid (HR.out.below hb5)
  have hs5 := hb5.size
  clear c0 c1 f1 hb5 HB HR
  go_wp2_with fail
  refine (show Calls Tryd.prog 17 #[.int .i64 1] w5 _ from rof_any 1 w5 (by omega)).mono ?_
  rintro e w6 ⟨v, rfl, ⟨o, co, rfl, ho⟩, hb6⟩
  have hs6 := hb6.size
  have hST : RpSt w w6.heap.size x a ca 1 o co (w6.alloc (.cells #[.slice o (M.dig 1).length co] 24)) := by
    have hb7 := (Below.refl _ w6).alloc (Nat.le_refl _) (.cells #[.slice o (M.dig 1).length co] 24)
    have hb := hb6.trans (hb7.mono hs6)
    exact ⟨cell_below hb C.out.1, cell_below hb C.out.2.1, frozen_below hb C.out.2.1 C.out.2.2, cell_new _ _ _, frozen_new _ _ _, HR5.out.below hb, ho.alloc _, by omega, HB5.out.trans (hb.mono (by omega))⟩
  have HST := Lib.hid hST
  have c0 := hST.cA
  have c1 := hST.cR
  have f1 := hST.fR
  have c2 := hST.cO
  clear hST ho hb6 C HB5 HR5
  by_cases hx0 : x = 0
  · subst hx0
    simp only [M.dig_zero, List.length_nil] at c0
    by_cases hn0 : n = 0
    · have hx1 : (0 : Nat) ≠ 1 := by omega
      have hd : decide ((0 : Int) < (n : Int)) = false := by simp; omega
      have hnn : ¬ 0 < n := by omega
      clear hn0
      go_wp2_with fail
      have hcall := rcmp_any a o ca co 0 1 _ HST.out.rA HST.out.rO
      simp only [M.dig_zero, List.length_nil] at hcall
      refine hcall.mono ?_
      clear hcall hd hnn
      rintro e w8 ⟨rfl, hb8⟩
      replace HST := Lib.hid (HST.out.keep hb8)
      clear c0 c1 c2 f1 hb8
      have hcm := cmp_one hx1
      generalize Lib.compareInt ((0 : Nat) : Int) ((1 : Nat) : Int) = m at *
      go_wp2_with fail
      clear hcm
      go_loopw [1] (fun i wr => ∃ (r z : Nat) (o : Option Addr) (co : Nat), i = .int .i64 (r : Int) ∧ r ≤ 4800 ∧ z * 0 ^ r = 0 ^ n ∧ (M.dig z).length ≤ 200 ∧ RpSt w w6.heap.size 0 a ca z o co wr) (fun i _ => (intOf i).toNat)
      case atStart => exact ⟨n, 1, o, co, rfl, hn, by rw [Nat.one_mul], by rw [dig_one]; simp, HST.out⟩
      case round =>
        clear HST
        obtain ⟨r, z, o, co, rfl, hr, hz, hl, hst⟩ := hrel
        have HST := Lib.hid hst
        have HZ := Lib.hid hz
        have c0 := hst.cA
        have c1 := hst.cR
        have c2 := hst.cO
        have f1 := hst.fR
        have f2 := hst.fO
        clear hst hz
        by_cases h0 : 0 < r
        · go_wp2_with fail
          refine (show Calls Tryd.prog 28 _ _ _ from rMul_any o a co ca z 0 _ hl HX.out HST.out.rO HST.out.rA).mono ?_
          rintro e w9 ⟨hres, hb9⟩
          have HS9 := Lib.hid (HST.out.keep hb9)
          clear c0 c1 c2 f1 f2 hb9
          have c1 := HS9.out.cR
          have f1 := HS9.out.fR
          have c2 := HS9.out.cO
          have f2 := HS9.out.fO
          have hne : ¬ w.heap.size + 1 = w6.heap.size := by have := HS9.out.far; omega
          have hne2 : ¬ w6.heap.size = w.heap.size + 1 := by omega
          by_cases h200 : (M.dig (z * 0)).length ≤ 200
          · obtain ⟨v, rfl, o', co', rfl, ho'⟩ := hres.ok h200
            have HS10 := Lib.hid (HS9.out.set ho')
            clear hres ho'
            go_wp2_with fail
            go_roundw
            case rel => exact ⟨r - 1, z * 0, o', co', congrArg (Value.int .i64) (by omega), by omega, by rw [← HZ.out, Nat.mul_assoc, ← Nat.pow_succ']; congr 2; omega, h200, HS10.out⟩
            case measure => simp [intOf]; omega
          · exact absurd (by rw [Nat.mul_zero, M.dig_zero]; simp) h200
        · obtain rfl : r = 0 := by omega
          go_wp2_with fail
          refine bodyPost_ret (v := .tuple #[.agg #[.slice o (M.dig z).length co], .int .i64 0]) (by simp [results, Tryd.results18, go_sem, c1]) rfl ⟨?_, ?_⟩
          · have hz := HZ.out
            rw [Nat.pow_zero, Nat.mul_one] at hz
            rw [← hz]
            exact natRes_ok hl ⟨o, co, rfl, HST.out.rO.storedAt c1 _⟩
          · exact HST.out.below.setCell (p := ⟨w.heap.size + 1, 0, none⟩) (by show w.heap.size ≤ w.heap.size + 1; omega) _
    · have hn1 : 0 < n := by omega
      go_wp2_with fail
      refine bodyPost_ret (v := .tuple #[.agg #[.slice none 0 0], .int .i64 0]) (by simp [results, Tryd.results18, go_sem, c1]) rfl ⟨?_, HST.out.below.setCell (p := ⟨w.heap.size + 1, 0, none⟩) (by show w.heap.size ≤ w.heap.size + 1; omega) _⟩
      rw [Nat.zero_pow hn1]
      exact natRes_ok (by rw [M.dig_zero]; simp) ⟨none, 0, by rw [M.dig_zero]; rfl, by rw [M.dig_zero]; exact ⟨Nat.le_refl _, by omega, fun j hj => by simp at hj⟩⟩
  · have hxne : ¬ M.dig x = [] := fun h => hx0 (M.dig_nil.1 h)
    by_cases hx1 : x = 1
    · subst hx1
      go_wp2_with fail
      refine (show Calls Tryd.prog 23 _ _ _ from rcmp_any a o ca co 1 1 _ HST.out.rA HST.out.rO).mono ?_
      rintro e w8 ⟨rfl, hb8⟩
      replace HST := Lib.hid (HST.out.keep hb8)
      clear c0 c1 c2 f1 hb8
      rw [cmp_eq]
      have c1 := HST.out.cR
      have c2 := HST.out.cO
      have f1 := HST.out.fR
      go_wp2_with fail
      refine bodyPost_ret (v := .tuple #[.agg #[.slice o (M.dig 1).length co], .int .i64 0]) (by simp [results, Tryd.results18, go_sem, c1]) rfl ⟨?_, HST.out.below.setCell (p := ⟨w.heap.size + 1, 0, none⟩) (by show w.heap.size ≤ w.heap.size + 1; omega) _⟩
      rw [Nat.one_pow]
      exact natRes_ok (by rw [dig_one]; simp) ⟨o, co, rfl, HST.out.rO.storedAt c1 _⟩
    · skip
      go_wp2_with fail
      refine (rcmp_any a o ca co x 1 _ HST.out.rA HST.out.rO).mono ?_
      rintro e w8 ⟨rfl, hb8⟩
      replace HST := Lib.hid (HST.out.keep hb8)
      clear c0 c1 c2 f1 hb8
      have hcm := cmp_one hx1
      generalize Lib.compareInt (x : Int) ((1 : Nat) : Int) = m at *
      go_wp2_with fail
      clear hcm
      go_loopw [1] (fun i wr => ∃ (r z : Nat) (o : Option Addr) (co : Nat), i = .int .i64 (r : Int) ∧ r ≤ 4800 ∧ z * x ^ r = x ^ n ∧ (M.dig z).length ≤ 200 ∧ RpSt w w6.heap.size x a ca z o co wr) (fun i _ => (intOf i).toNat)
      case atStart => exact ⟨n, 1, o, co, rfl, hn, by rw [Nat.one_mul], by rw [dig_one]; simp, HST.out⟩
      case round =>
        clear HST
        obtain ⟨r, z, o, co, rfl, hr, hz, hl, hst⟩ := hrel
        have HST := Lib.hid hst
        have HZ := Lib.hid hz
        have c0 := hst.cA
        have c1 := hst.cR
        have c2 := hst.cO
        have f1 := hst.fR
        have f2 := hst.fO
        clear hst hz
        by_cases h0 : 0 < r
        · go_wp2_with fail
          refine (show Calls Tryd.prog 28 _ _ _ from rMul_any o a co ca z x _ hl HX.out HST.out.rO HST.out.rA).mono ?_
          rintro e w9 ⟨hres, hb9⟩
          have HS9 := Lib.hid (HST.out.keep hb9)
          clear c0 c1 c2 f1 f2 hb9
          have c1 := HS9.out.cR
          have f1 := HS9.out.fR
          have c2 := HS9.out.cO
          have f2 := HS9.out.fO
          have hne : ¬ w.heap.size + 1 = w6.heap.size := by have := HS9.out.far; omega
          have hne2 : ¬ w6.heap.size = w.heap.size + 1 := by omega
          by_cases h200 : (M.dig (z * x)).length ≤ 200
          · obtain ⟨v, rfl, o', co', rfl, ho'⟩ := hres.ok h200
            have HS10 := Lib.hid (HS9.out.set ho')
            clear hres ho'
            go_wp2_with fail
            go_roundw
            case rel => exact ⟨r - 1, z * x, o', co', congrArg (Value.int .i64) (by omega), by omega, by rw [← HZ.out, Nat.mul_assoc, ← Nat.pow_succ']; congr 2; omega, h200, HS10.out⟩
            case measure => simp [intOf]; omega
          · obtain rfl := hres.limit h200
            have HN := Lib.hid (show ¬ (M.dig (x ^ n)).length ≤ 200 from fun h => h200 (Nat.le_trans (M.dig_len_mono (by
              rw [← HZ.out, show r = (r - 1) + 1 by omega, Nat.pow_succ', ← Nat.mul_assoc]
              exact Nat.le_mul_of_pos_right _ (Nat.pow_pos (by omega)))) h))
            have hcell : ∀ u : Value, (w9.setCell ⟨w6.heap.size, 0, none⟩ u).cell? ⟨w.heap.size + 1, 0, none⟩ = some (.slice none 0 0) := fun u => (cell_other u hne).trans c1
            clear hres h200
            go_wp2_with fail
            refine bodyPost_ret (v := .tuple #[.agg #[.slice none 0 0], .int .i64 3]) (by simp [results, Tryd.results18, go_sem, c1]) rfl ⟨natRes_limit HN.out, ?_⟩
            exact (HS9.out.below.setCell (p := ⟨w6.heap.size, 0, none⟩) (by have := HS9.out.far; show w.heap.size ≤ w6.heap.size; omega) _).setCell (p := ⟨w.heap.size + 1, 0, none⟩) (by show w.heap.size ≤ w.heap.size + 1; omega) _
        · obtain rfl : r = 0 := by omega
          go_wp2_with fail
          refine bodyPost_ret (v := .tuple #[.agg #[.slice o (M.dig z).length co], .int .i64 0]) (by simp [results, Tryd.results18, go_sem, c1]) rfl ⟨?_, ?_⟩
          · have hz := HZ.out
            rw [Nat.pow_zero, Nat.mul_one] at hz
            rw [← hz]
            exact natRes_ok hl ⟨o, co, rfl, HST.out.rO.storedAt c1 _⟩
          · exact HST.out.below.setCell (p := ⟨w.heap.size + 1, 0, none⟩) (by show w.heap.size ≤ w.heap.size + 1; omega) _
end Go.Proofs.YtknjoajeilgieaaDoor

namespace Go.Proofs.YtknjoajeilgieaaDoor
open Go Go.RowKit Go.Shelf

theorem data_len (s : ByteArray) : s.data.toList.length = s.size := rfl
theorem toList_loop (s : ByteArray) (n : Nat) : ∀ (i : Nat) (r : List UInt8), s.size - i = n → ByteArray.toList.loop s i r = r.reverse ++ s.data.toList.drop i := by
  induction n with
  | zero =>
    intro i r h
    have := data_len s
    rw [ByteArray.toList.loop, if_neg (by omega), List.drop_of_length_le (by omega), List.append_nil]
  | succ n ih =>
    intro i r h
    have h0 := data_len s
    have hl : i < s.data.toList.length := by omega
    rw [ByteArray.toList.loop, if_pos (by omega), ih (i + 1) _ (by omega), List.reverse_cons, List.append_assoc, List.drop_eq_getElem_cons hl]
    have e : s.get! i = s.data.toList[i] := by
      cases s with | mk d =>
      have hd : i < d.size := hl
      simp [ByteArray.get!, hd]
    rw [e]; rfl
theorem toList_data (s : ByteArray) : s.toList = s.data.toList := by
  rw [ByteArray.toList, toList_loop s s.size 0 [] (by omega)]; simp

/-- Is the byte a decimal digit? -/
def digB (c : UInt8) : Bool := decide (48 ≤ c.toNat) && decide (c.toNat ≤ 57)
/-- The texts that Parse takes. -/
def decB (s : ByteArray) : Bool := s.data.toList.all digB && (decide (s.data.toList = [48]) || (decide (s.data.toList ≠ []) && decide (s.data.toList.head? ≠ some 48)))

theorem dec_bad {s : ByteArray} {k : Nat} (h : k < s.size) (hb : digB s[k] = false) : decB s = false := by
  unfold decB
  have : s.data.toList.all digB = false := by
    rw [List.all_eq_false]
    refine ⟨s[k], ?_, by simp [hb]⟩
    exact List.getElem_mem (l := s.data.toList) (h := h)
  rw [this]; rfl
theorem dec_zero {s : ByteArray} (h : s.toList = [48]) : decB s = true := by
  rw [toList_data] at h
  unfold decB; rw [h]; rfl
theorem dec_none {s : ByteArray} (h : s.toList = []) : decB s = false := by
  rw [toList_data] at h
  unfold decB; rw [h]; rfl
theorem dec_else {s : ByteArray} (h1 : ¬ s.toList = [48]) (h0 : 0 < s.size) (hall : s.data.toList.all digB = true) : (s.toList == [48] || !s.toList.isEmpty && (s[0].toNat : Int) != 48) = decB s := by
  have e1 : (s.toList == [48]) = false := by rw [beq_eq_false_iff_ne]; exact h1
  rw [toList_data] at e1 h1 ⊢
  have hl : 0 < s.data.toList.length := h0
  have hne : s.data.toList ≠ [] := by intro e; rw [e] at hl; simp at hl
  have hh : s.data.toList.head? = some s[0] := by
    rw [List.head?_eq_getElem?, List.getElem?_eq_getElem hl]; rfl
  unfold decB
  rw [e1, hall, decide_eq_false h1, decide_eq_true hne, hh]
  have e2 : s.data.toList.isEmpty = false := by rw [List.isEmpty_eq_false_iff]; exact hne
  rw [e2]
  by_cases hc : s[0] = 48
  · have : ((s[0].toNat : Int) != 48) = false := by rw [hc]; rfl
    rw [this, hc]; rfl
  · have : ((s[0].toNat : Int) != 48) = true := by
      rw [bne_iff_ne]
      intro e
      apply hc
      apply UInt8.toNat_inj.1
      have h48 : (48 : UInt8).toNat = 48 := rfl
      rw [h48]; omega
    rw [this, decide_eq_true (by intro e; exact hc (Option.some.inj e))]; rfl
theorem dig_snocB (s : ByteArray) (k : Nat) (h : k < s.size) (ha : (s.data.toList.take k).all digB = true) (hd : digB s[k] = true) : (s.data.toList.take (k + 1)).all digB = true := by
  have hl : k < s.data.toList.length := h
  rw [List.take_succ_eq_append_getElem hl, List.all_append, ha]
  simp only [List.all_cons, List.all_nil, Bool.and_true, Bool.true_and]
  exact hd

/-- The value of a text of digits. -/
def dval (l : List UInt8) : Nat := l.foldl (fun v c => v * 10 + (c.toNat - 48)) 0
theorem dval_snoc (s : ByteArray) (k : Nat) (h : k < s.size) : dval (s.data.toList.take (k + 1)) = dval (s.data.toList.take k) * 10 + (s[k].toNat - 48) := by
  have hl : k < s.data.toList.length := h
  unfold dval
  rw [List.take_succ_eq_append_getElem hl, List.foldl_append]; rfl

def PaRel (w : World) (s : ByteArray) (l i : Value) (W : World) : Prop :=
  ∃ (k : Nat) (a : Option Addr) (cap : Nat) (zs : List Int), i = .int .i64 (k : Int) ∧ k ≤ s.size ∧ l = .slice a zs.length cap ∧ Own W (w.heap.size + 1) (.slice a zs.length cap) zs ∧ M.Lim zs ∧ M.val zs = dval (s.data.toList.take k) ∧ zs.length ≤ k ∧ Below (w.heap.size + 1) (w.alloc (.cells #[.slice none 0 0] 24)) W

end Go.Proofs.YtknjoajeilgieaaDoor

namespace Go.Proofs.YtknjoajeilgieaaDoor
open Go Go.RowKit Go.Shelf

set_option maxRecDepth 100000 in
set_option maxHeartbeats 1000000 in
/-- **nat.Power**, out of range. -/
theorem power_range (a : Option Addr) (ca x : Nat) (n : Int) (w : World) (hx : (M.dig x).length ≤ 200) (hn : n < 0 ∨ 4800 < n) (hR : Row w a (M.dig x) ca) :
    Calls Tryd.prog 77 #[.agg #[.slice a (M.dig x).length ca], .int .i64 n] w fun e W' => e = .returned (.tuple #[.agg #[.slice none 0 0], .int .i64 2]) ∧ Below w.heap.size w W' := by
  have Hv := Lib.hid (vld_dig hx)
  have hB2 := boxes1_below w (.slice a (M.dig x).length ca)
  have hs2 := boxes1_size w (.slice a (M.dig x).length ca)
  obtain ⟨c0, c1, f1⟩ := boxes1_cells w (.slice a (M.dig x).length ca)
  have HR := Lib.hid (hR.below hB2)
  have HB := Lib.hid hB2
  clear hR hB2
  go_enter Tryd.func77, Tryd.ntmps77
  go_wp2_with fail
  generalize hw3 : ((w.alloc (.cells #[.slice a (M.dig x).length ca] 24)).alloc (.cells #[.slice none 0 0] 24)) = w3
  obtain rfl : boxes1 w (.slice a (M.dig x).length ca) = w3 := hw3
  generalize boxes1 w (.slice a (M.dig x).length ca) = w3 at *
  refine (valid_yes a _ ca _ HR.out Hv.out).mono ?_
  rintro e w5 ⟨rfl, hb5⟩
  have k0 := cell_below hb5 c0
  have k1 := cell_below hb5 c1
  have l1 := frozen_below hb5 c1 f1
  have HB5 := Lib.hid (HB.out.trans (hb5.mono (by omega)))
  clear c0 c1 f1 hb5
  by_cases h0 : n < 0
  · clear hn
    go_wp2_with fail
    refine bodyPost_ret (v := .tuple #[.agg #[.slice none 0 0], .int .i64 2]) (by simp [results, Tryd.results77, go_sem, k1]) rfl ⟨rfl, HB5.out.setCell (p := ⟨w.heap.size + 1, 0, none⟩) (by show w.heap.size ≤ w.heap.size + 1; omega) _⟩
  · have h1 : 4800 < n := by omega
    clear hn
    go_wp2_with fail
    refine bodyPost_ret (v := .tuple #[.agg #[.slice none 0 0], .int .i64 2]) (by simp [results, Tryd.results77, go_sem, k1]) rfl ⟨rfl, HB5.out.setCell (p := ⟨w.heap.size + 1, 0, none⟩) (by show w.heap.size ≤ w.heap.size + 1; omega) _⟩

set_option maxRecDepth 100000 in
set_option maxHeartbeats 1000000 in
theorem choose_range (n k : Int) (w : World) (hn : n < 0 ∨ 4096 < n) :
    Calls Tryd.prog 76 #[.int .i64 n, .int .i64 k] w fun e W' => e = .returned (.tuple #[.agg #[.slice none 0 0], .int .i64 2]) ∧ Below w.heap.size w W' := by
  by_cases h : n < 0
  · clear hn
    skip
    go_enter Tryd.func76, Tryd.ntmps76
    go_wp2
    exact bodyPost_ret (v := .tuple #[.agg #[.slice none 0 0], .int .i64 2]) (by simp [results, Tryd.results76, go_sem]) rfl ⟨rfl, (Below.refl _ w).alloc (Nat.le_refl _) _⟩
  · have h2 : 4096 < n := by omega
    clear hn
    skip
    go_enter Tryd.func76, Tryd.ntmps76
    go_wp2
    exact bodyPost_ret (v := .tuple #[.agg #[.slice none 0 0], .int .i64 2]) (by simp [results, Tryd.results76, go_sem]) rfl ⟨rfl, (Below.refl _ w).alloc (Nat.le_refl _) _⟩

end Go.Proofs.YtknjoajeilgieaaDoor

namespace Go.Proofs.YtknjoajeilgieaaDoor
open Go Go.RowKit Go.Shelf

namespace C
/-- The number n is returned. -/
def NumR (n : Nat) (e : Ending) (W : World) : Prop := ∃ a c, e = .returned (.agg #[.slice a (M.dig n).length c]) ∧ Row W a (M.dig n) c
/-- A number is stored in a variable of its own and then in the result. -/
theorem ret_var {w wa w1 : World} {r : Nat} {a : Option Addr} {ca n : Nat} (hc : wa.cell? ⟨r, 0, none⟩ = some (.slice none 0 0)) (hf : wa.frozen? ⟨r, 0, none⟩ = false) (hB : Below w.heap.size w wa) (hr0 : w.heap.size ≤ r) (hb : Below wa.heap.size wa w1) (hr : Row w1 a (M.dig n) ca) :
    ∃ (g : Nat) (w2 w3 : World), w1.heap.size = g ∧ w1.alloc (.cells #[.slice a (M.dig n).length ca] 24) = w2 ∧ w2.cell? ⟨g, 0, none⟩ = some (.slice a (M.dig n).length ca) ∧ w2.cell? ⟨r, 0, none⟩ = some (.slice none 0 0) ∧ w2.frozen? ⟨r, 0, none⟩ = false ∧
      w2.setCell ⟨r, 0, none⟩ (.slice a (M.dig n).length ca) = w3 ∧ w3.cell? ⟨r, 0, none⟩ = some (.slice a (M.dig n).length ca) ∧ Row w3 a (M.dig n) ca ∧ Below w.heap.size w w3 := by
  have hlt := lt_of_cell hc
  have h1 : w1.cell? ⟨r, 0, none⟩ = some (.slice none 0 0) := (hb.cell (p := ⟨r, 0, none⟩) hlt).trans hc
  have h2 : w1.frozen? ⟨r, 0, none⟩ = false := (hb.frozen (p := ⟨r, 0, none⟩) hlt).trans hf
  have c2 := cell_later (.cells #[.slice a (M.dig n).length ca] 24) h1
  refine ⟨_, _, _, rfl, rfl, cell_new _ _ _, c2, frozen_later _ h1 h2, rfl, ?_, (hr.alloc _).store c2 _, ((hB.trans (hb.mono hB.size)).alloc (by have := hB.size; have := hb.size; omega) _).setCell (p := ⟨r, 0, none⟩) hr0 _⟩
  exact World.cell?_setCell_same' _ _ _ (by rw [c2]; rfl)

set_option maxRecDepth 100000 in
set_option maxHeartbeats 1000000 in
theorem number_any (n : Nat) (w : World) (hn : n ≤ 9223372036854775807) :
    Calls Tryd.prog 31 #[.int .i64 (n : Int)] w fun e W => NumR n e W ∧ Below w.heap.size w W := by
  have HO := Lib.hid (fun W => of_any n W hn)
  have c0 := cell_of_new w (.slice none 0 0) 24
  have hB0 := (Below.refl _ w).alloc (Nat.le_refl _) (.cells #[.slice none 0 0] 24)
  go_enter Tryd.func31, Tryd.ntmps31
  go_wp2_with fail
  (with_reducible refine (HO.out _).mono ?_)
  rintro e w1 ⟨v, rfl, ⟨a, ca, rfl, hr⟩, hb1⟩
  obtain ⟨g, w2, w3, hg, e1, d1, d2, d3, e2, d4, hr3, hb3⟩ := ret_var c0.1 c0.2 hB0 (Nat.le_refl _) hb1 hr
  clear hr hb1 hB0 HO
  go_wp2_with fail
  exact bodyPost_ret (v := .agg #[.slice a (M.dig n).length ca]) (by simp [results, Tryd.results31, go_sem, d4]) rfl ⟨⟨a, ca, rfl, hr3⟩, hb3⟩

set_option maxRecDepth 100000 in
set_option maxHeartbeats 1000000 in
theorem choose_any (n : Int) (k : Int) (w : World) (hn : n ≤ 4096) :
    Calls Tryd.prog 44 #[.int .i64 n, .int .i64 k] w fun e W => NumR (if n < 0 then 0 else chI n.toNat k) e W ∧ Below w.heap.size w W := by
  have HO := Lib.hid (show ∀ W, Calls Tryd.prog 76 #[.int .i64 n, .int .i64 k] W fun e W' => ∃ (v : Value) (z : Int), e = .returned (.tuple #[v, .int .i64 z]) ∧ Num W' v (if n < 0 then 0 else chI n.toNat k) ∧ Below W.heap.size W W' from fun W => by
    by_cases h : n < 0
    · rw [if_pos h]
      exact (choose_range n k W (.inl h)).mono fun e W' ⟨h1, h2⟩ => ⟨_, _, h1, num_zero _, h2⟩
    · rw [if_neg h]
      obtain ⟨m, rfl⟩ : ∃ m : Nat, n = m := ⟨n.toNat, by omega⟩
      exact (choose_num m k W (by omega)).mono fun e W' ⟨v, h1, h2, h3⟩ => ⟨v, _, h1, h2, h3⟩)
  obtain ⟨x, hx⟩ : ∃ x, (if n < 0 then 0 else chI n.toNat k) = x := ⟨_, rfl⟩
  rw [hx] at HO ⊢
  clear hx
  have c0 := cell_of_new w (.slice none 0 0) 24
  have hB0 := (Below.refl _ w).alloc (Nat.le_refl _) (.cells #[.slice none 0 0] 24)
  go_enter Tryd.func44, Tryd.ntmps44
  go_wp2_with fail
  (with_reducible refine (HO.out _).mono ?_)
  rintro e w1 ⟨v, z, rfl, ⟨a, ca, rfl, hr⟩, hb1⟩
  obtain ⟨g, w2, w3, hg, e1, d1, d2, d3, e2, d4, hr3, hb3⟩ := ret_var c0.1 c0.2 hB0 (Nat.le_refl _) hb1 hr
  clear hr hb1 hB0 HO
  go_wp2_with fail
  exact bodyPost_ret (v := .agg #[.slice a (M.dig x).length ca]) (by simp [results, Tryd.results44, go_sem, d4]) rfl ⟨⟨a, ca, rfl, hr3⟩, hb3⟩

set_option maxRecDepth 100000 in
set_option maxHeartbeats 1000000 in
theorem power_any (b n : Nat) (w : World) (hb : b ≤ 256) (hn : n ≤ 590) :
    Calls Tryd.prog 46 #[.int .i64 (b : Int), .int .i64 (n : Int)] w fun e W => NumR (b ^ n) e W ∧ Below w.heap.size w W := by
  obtain ⟨x, hx⟩ : ∃ x, b ^ n = x := ⟨_, rfl⟩
  have hl : (M.dig (b ^ n)).length ≤ 200 := by
    refine len_pow (e := 8 * n + 1) (Nat.lt_of_le_of_lt (Nat.pow_le_pow_left hb n) ?_) (by omega)
    rw [show (256 : Nat) = 2 ^ 8 from rfl, ← Nat.pow_mul]
    exact Nat.pow_lt_pow_right (by omega) (Nat.lt_succ_self _)
  have HN := Lib.hid (fun W => number_any b W (by omega))
  have HP := Lib.hid (show ∀ (W : World) (a : Option Addr) (ca : Nat), Row W a (M.dig b) ca → Calls Tryd.prog 77 #[.agg #[.slice a (M.dig b).length ca], .int .i64 (n : Int)] W fun e W' => ∃ a' c', e = .returned (.tuple #[.agg #[.slice a' (M.dig x).length c'], .int .i64 0]) ∧ Row W' a' (M.dig x) c' ∧ Below W.heap.size W W' from fun W a ca hr => by
    rw [← hx]
    refine (Go.Proofs.YtknjoajeilgieaaDoor.power_any a ca b n W (M.dig_len_le.2 (Nat.lt_of_le_of_lt hb (Nat.lt_of_lt_of_le (by decide : 256 < 16777216 ^ 1) (Nat.pow_le_pow_right (by omega) (by omega))))) (by omega) hr).mono ?_
    rintro e W' ⟨hres, hb'⟩
    obtain ⟨v, rfl, a2, c2, rfl, hr2⟩ := hres.ok hl
    exact ⟨_, _, rfl, hr2, hb'⟩)
  rw [hx]
  clear hl hx
  have c0 := cell_of_new w (.slice none 0 0) 24
  have hB0 := (Below.refl _ w).alloc (Nat.le_refl _) (.cells #[.slice none 0 0] 24)
  go_enter Tryd.func46, Tryd.ntmps46
  go_wp2_with fail
  (with_reducible refine (HN.out _).mono ?_)
  rintro e w1 ⟨⟨a, ca, rfl, hr⟩, hb1⟩
  have HP1 := Lib.hid (HP.out w1 a ca hr)
  have HB1 := Lib.hid hb1
  clear hr hb1 HN HP
  go_wp2_with fail
  (with_reducible refine HP1.out.mono ?_)
  rintro e w2' ⟨a, ca, rfl, hr, hb2⟩
  obtain ⟨g, w2, w3, hg, e1, d1, d2, d3, e2, d4, hr3, hb3⟩ := ret_var c0.1 c0.2 hB0 (Nat.le_refl _) (HB1.out.trans (hb2.mono HB1.out.size)) hr
  clear hr hb2 hB0 HP1 HB1
  go_wp2_with fail
  exact bodyPost_ret (v := .agg #[.slice a (M.dig x).length ca]) (by simp [results, Tryd.results46, go_sem, d4]) rfl ⟨⟨a, ca, rfl, hr3⟩, hb3⟩

/-- Numbers of at most e bits. -/
theorem len_of {n e : Nat} (h : n < 2 ^ e) (he : e ≤ 4800) : (M.dig n).length ≤ 200 := len_pow h (Nat.le_trans he (Nat.le_refl _))
set_option maxRecDepth 100000 in
set_option maxHeartbeats 1000000 in
theorem plus_any (a b : Option Addr) (ca cb x y : Nat) (w : World) (hx : (M.dig x).length ≤ 200) (hy : (M.dig y).length ≤ 200) (hs : (M.dig (x + y)).length ≤ 200) (hA : Row w a (M.dig x) ca) (hB : Row w b (M.dig y) cb) :
    Calls Tryd.prog 33 #[.agg #[.slice a (M.dig x).length ca], .agg #[.slice b (M.dig y).length cb]] w fun e W => NumR (x + y) e W ∧ Below w.heap.size w W := by
  obtain ⟨w0, hw0⟩ : ∃ w0, boxes w (.slice a (M.dig x).length ca) (.slice b (M.dig y).length cb) = w0 := ⟨_, rfl⟩
  obtain ⟨p0, p1, p2, p3⟩ := boxes_cells w (.slice a (M.dig x).length ca) (.slice b (M.dig y).length cb)
  have hB0 := boxes_below w (.slice a (M.dig x).length ca) (.slice b (M.dig y).length cb)
  have hadd := add_num (w := w0) (u := .agg #[.slice a (M.dig x).length ca]) (v := .agg #[.slice b (M.dig y).length cb]) hx hy ⟨a, ca, rfl, by rw [← hw0]; exact hA.below (boxes_below w _ _)⟩ ⟨b, cb, rfl, by rw [← hw0]; exact hB.below (boxes_below w _ _)⟩
  obtain ⟨z, hz⟩ : ∃ z, x + y = z := ⟨_, rfl⟩
  rw [hz] at hadd hs ⊢
  have HA := Lib.hid hadd
  rw [hw0] at p0 p1 p2 p3 hB0
  unfold boxes at hw0
  clear hadd hA hB hz
  go_enter Tryd.func33, Tryd.ntmps33
  go_wp2_with fail
  (with_reducible refine HA.out.mono ?_)
  rintro e w1 ⟨hres, hb1⟩
  obtain ⟨v, rfl, a2, c2, rfl, hr⟩ := hres.ok hs
  obtain ⟨g, w2, w3, hg, e1, d1, d2, d3, e2, d4, hr3, hb3⟩ := ret_var p2 p3 hB0 (by omega) hb1 hr
  clear hr hb1 hB0 HA hs hres
  go_wp2_with fail
  exact bodyPost_ret (v := .agg #[.slice a2 (M.dig z).length c2]) (by simp [results, Tryd.results33, go_sem, d4]) rfl ⟨⟨a2, c2, rfl, hr3⟩, hb3⟩
end C
end Go.Proofs.YtknjoajeilgieaaDoor

namespace Go.Proofs.YtknjoajeilgieaaDoor
open Go Go.RowKit Go.Shelf

namespace C
/-- The number at k. -/
def nth (xs : List Nat) (k : Nat) : Nat := xs[k]?.getD 0
/-- The product of the first k numbers. -/
def prd (xs : List Nat) : Nat → Nat
  | 0 => 1
  | k + 1 => prd xs k * nth xs k
/-- Numbers in a block, one after the other. -/
def Facs (W : World) (g : Nat) (xs : List Nat) : Prop := ∀ j, j < xs.length → ∃ a c, W.cell? ⟨g, j, none⟩ = some (.slice a (M.dig (nth xs j)).length c) ∧ Row W a (M.dig (nth xs j)) c
theorem Facs.below {W W' : World} {g : Nat} {xs : List Nat} (h : Facs W g xs) (hb : Below W.heap.size W W') : Facs W' g xs := fun j hj => by
  obtain ⟨a, c, h1, h2⟩ := h j hj
  exact ⟨a, c, (hb.cell (p := ⟨g, j, none⟩) (lt_of_cell h1)).trans h1, h2.below hb⟩
/-- A variable of type Nat that may be stored into. -/
structure Bx (W : World) (g n : Nat) : Prop where
  cell : ∃ a c, W.cell? ⟨g, 0, none⟩ = some (.slice a (M.dig n).length c) ∧ Row W a (M.dig n) c
  free : W.frozen? ⟨g, 0, none⟩ = false
theorem Bx.lt {W : World} {g n : Nat} (h : Bx W g n) : g < W.heap.size := by
  obtain ⟨a, c, h1, _⟩ := h.cell
  exact lt_of_cell h1
theorem Bx.below {W W' : World} {g n : Nat} (h : Bx W g n) (hb : Below W.heap.size W W') : Bx W' g n := by
  have hl := h.lt
  obtain ⟨a, c, h1, h2⟩ := h.cell
  exact ⟨⟨a, c, (hb.cell (p := ⟨g, 0, none⟩) hl).trans h1, h2.below hb⟩, (hb.frozen (p := ⟨g, 0, none⟩) hl).trans h.free⟩
theorem Bx.drewN {W : World} {g n : Nat} (h : Bx W g n) (k : Nat) : Bx (W.drewN k) g n := by
  obtain ⟨a, c, h1, h2⟩ := h.cell
  exact ⟨⟨a, c, h1, h2.drewN k⟩, h.free⟩
theorem Bx.new {W : World} {a : Option Addr} {c n : Nat} (h : Row W a (M.dig n) c) : Bx (W.alloc (.cells #[.slice a (M.dig n).length c] 24)) W.heap.size n :=
  ⟨⟨a, c, cell_new _ _ _, h.alloc _⟩, frozen_new _ _ _⟩
theorem Bx.zero (W : World) : Bx (W.alloc (.cells #[.slice none 0 0] 24)) W.heap.size 0 := by
  have h := Bx.new (row_nil W)
  rw [M.dig_zero] at h
  exact h
theorem Bx.store {W : World} {g n n' : Nat} (h : Bx W g n) {a : Option Addr} {c : Nat} (hr : Row W a (M.dig n') c) : Bx (W.setCell ⟨g, 0, none⟩ (.slice a (M.dig n').length c)) g n' := by
  obtain ⟨a0, c0, h1, h2⟩ := h.cell
  refine ⟨⟨a, c, World.cell?_setCell_same' _ _ _ (by rw [h1]; rfl), hr.store h1 _⟩, ?_⟩
  rw [World.frozen?_setCell]
  exact h.free
theorem Bx.other {W : World} {g g' n n' : Nat} (h : Bx W g n) (h' : Bx W g' n') (hne : g ≠ g') (u : Value) : Bx (W.setCell ⟨g', 0, none⟩ u) g n := by
  obtain ⟨a0, c0, h1, h2⟩ := h.cell
  obtain ⟨a1, c1, k1, _⟩ := h'.cell
  refine ⟨⟨a0, c0, ?_, h2.store k1 _⟩, ?_⟩
  · rw [cell_other u (show g ≠ g' from hne)]; exact h1
  · rw [World.frozen?_setCell]; exact h.free

set_option maxRecDepth 100000 in
set_option maxHeartbeats 1000000 in
/-- **chance.product** -/
theorem product_any (g cap : Nat) (xs : List Nat) (w : World) (hcap : xs.length ≤ cap) (hcap2 : cap ≤ 9223372036854775807) (hF : Facs w g xs) (hl : ∀ j, j < xs.length → (M.dig (nth xs j)).length ≤ 200) (hp : ∀ k, k ≤ xs.length → (M.dig (prd xs k)).length ≤ 200) :
    Calls Tryd.prog 30 #[.slice (some ⟨g, 0, none⟩) xs.length cap] w fun e W => NumR (prd xs xs.length) e W ∧ Below w.heap.size w W := by
  have HP := Lib.hid hp
  have HL := Lib.hid hl
  have HN := Lib.hid (fun W => (show Calls Tryd.prog 31 #[.int .i64 1] W (fun e W' => NumR 1 e W' ∧ Below W.heap.size W W') from number_any 1 W (by omega)))
  have HF := Lib.hid hF
  have hr0 := Bx.zero w
  have hB0 := (Below.refl _ w).alloc (Nat.le_refl _) (.cells #[.slice none 0 0] 24)
  obtain ⟨w0, hw0⟩ : ∃ w0, w.alloc (.cells #[.slice none 0 0] 24) = w0 := ⟨_, rfl⟩
  rw [hw0] at hr0 hB0
  have HR0 := Lib.hid hr0
  obtain ⟨x, hx⟩ : ∃ x, prd xs xs.length = x := ⟨_, rfl⟩
  rw [hx]
  have HX := Lib.hid hx
  clear hr0 hF hl hp hx
  go_enter Tryd.func30, Tryd.ntmps30
  go_wp2_with fail
  (with_reducible refine (HN.out _).mono ?_)
  rintro e w1 ⟨⟨a, ca, rfl, hr⟩, hb1⟩
  obtain ⟨gb, hgb⟩ : ∃ gb, w1.heap.size = gb := ⟨_, rfl⟩
  obtain ⟨w2, hw2⟩ : ∃ w2, w1.alloc (.cells #[.slice a (M.dig 1).length ca] 24) = w2 := ⟨_, rfl⟩
  have hb2 : Below w1.heap.size w1 w2 := by rw [← hw2]; exact (Below.refl _ w1).alloc (Nat.le_refl _) _
  have hV := Bx.new hr
  rw [hw2, hgb] at hV
  have hlt := HR0.out.lt
  have hs1 := hb1.size
  have hne : ¬ w.heap.size = gb := by omega
  have HR2 := Lib.hid ((HR0.out.below hb1).below hb2)
  have HV2 := Lib.hid hV
  have HB2 := Lib.hid ((hB0.trans (hb1.mono hB0.size)).trans (hb2.mono (by have := hB0.size; omega)))
  clear hr hb1 hb2 hV hB0 HN HR0
  go_wp2_with fail
  go_loopw [9] (fun i wr => ∃ k : Nat, i = .int .i64 (k : Int) ∧ k ≤ xs.length ∧ Bx wr gb (prd xs k) ∧ Bx wr w.heap.size 0 ∧ Below w.heap.size w wr) (fun i _ => xs.length - (intOf i).toNat)
  case atStart => exact ⟨0, rfl, Nat.zero_le _, HV2.out, HR2.out, HB2.out⟩
  case round => as_aux_lemma =>
    clear HV2 HR2 HB2
    obtain ⟨k, rfl, hk, hV, hR, hB⟩ := hrel
    have HV := Lib.hid hV
    have HR := Lib.hid hR
    have HB := Lib.hid hB
    clear hV hR hB
    by_cases hlt : k < xs.length
    · obtain ⟨af, cf, c1, hrf⟩ := (HF.out.below HB.out) k hlt
      obtain ⟨x', hx⟩ : ∃ x', nth xs k = x' := ⟨_, rfl⟩
      obtain ⟨y, hy⟩ : ∃ y, prd xs k = y := ⟨_, rfl⟩
      have hlx := HL.out k hlt
      have hly := HP.out k hk
      have hlz := HP.out (k + 1) hlt
      have e1 : prd xs (k + 1) = y * x' := by rw [← hx, ← hy]; rfl
      rw [hx] at c1 hrf hlx
      rw [hy] at hly HV
      rw [e1] at hlz
      have HE := Lib.hid e1
      obtain ⟨w3, hw3⟩ : ∃ w3, wr.alloc (.cells #[.slice af (M.dig x').length cf] 24) = w3 := ⟨_, rfl⟩
      have hb3 : Below wr.heap.size wr w3 := by rw [← hw3]; exact (Below.refl _ wr).alloc (Nat.le_refl _) _
      have hc3 : w3.cell? ⟨wr.heap.size, 0, none⟩ = some (.slice af (M.dig x').length cf) := by rw [← hw3]; exact cell_new _ _ _
      have HV3 := Lib.hid (HV.out.below hb3)
      obtain ⟨ay, cy, c2, hry⟩ := HV3.out.cell
      have hmul := mul_any ay af cy cf y x' w3 hly hlx hry (hrf.below hb3)
      have HM := Lib.hid hmul
      have HR3 := Lib.hid (HR.out.below hb3)
      have HB3 := Lib.hid (HB.out.trans (hb3.mono HB.out.size))
      have HLZ := Lib.hid hlz
      clear hx hy hlx hly hlz e1 hb3 hry hrf hmul HV HR HB
      go_wp2_with fail
      (with_reducible refine HM.out.mono ?_)
      rintro e w4 ⟨hres, hb4⟩
      obtain ⟨v, rfl, a4, c4, rfl, hr4⟩ := hres.ok HLZ.out
      have hv4 := HV3.out.below hb4
      have hr44 := HR3.out.below hb4
      obtain ⟨_, _, d1, _⟩ := hv4.cell
      have d2 := hv4.free
      have HV5 := Lib.hid (hv4.store hr4)
      have HR5 := Lib.hid (hr44.other hv4 hne (.slice a4 (M.dig (y * x')).length c4))
      have HB5 := Lib.hid (((HB3.out.trans (hb4.mono HB3.out.size)).setCell (p := ⟨gb, 0, none⟩) (by show w.heap.size ≤ gb; omega) (.slice a4 (M.dig (y * x')).length c4)))
      clear hres hb4 hr4 hv4 hr44 HM HV3 HR3 HB3 c1 c2 hc3 hw3
      go_wp2_with fail
      go_roundw
      case rel => exact ⟨k + 1, by go_num, hlt, by rw [HE.out]; exact HV5.out, HR5.out, HB5.out⟩
      case measure => simp [intOf]; omega
    · obtain rfl : k = xs.length := by omega
      rw [HX.out] at HV
      obtain ⟨a2, c2, d1, hr⟩ := HV.out.cell
      obtain ⟨_, _, d2, _⟩ := HR.out.cell
      have d3 := HR.out.free
      have HR5 := Lib.hid (HR.out.store hr)
      have HB5 := Lib.hid (HB.out.setCell (p := ⟨w.heap.size, 0, none⟩) (Nat.le_refl _) (.slice a2 (M.dig x).length c2))
      have d4 : (wr.setCell ⟨w.heap.size, 0, none⟩ (.slice a2 (M.dig x).length c2)).cell? ⟨w.heap.size, 0, none⟩ = some (.slice a2 (M.dig x).length c2) := World.cell?_setCell_same' _ _ _ (by rw [d2]; rfl)
      have hr5 := hr.store d2 (.slice a2 (M.dig x).length c2)
      clear HV HR HB hr
      go_wp2_with fail
      exact bodyPost_ret (v := .agg #[.slice a2 (M.dig x).length c2]) (by simp [results, Tryd.results30, go_sem, d4]) rfl ⟨⟨a2, c2, rfl, hr5⟩, HB5.out⟩
end C
end Go.Proofs.YtknjoajeilgieaaDoor
