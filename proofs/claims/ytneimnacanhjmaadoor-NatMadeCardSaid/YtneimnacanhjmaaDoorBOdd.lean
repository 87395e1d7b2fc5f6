/- made.Dice.One and Dice.OddNat of the statements. -/
import Derived.Test.YtneimnacanhjmaaDoorB10
namespace Go.Proofs.YtneimnacanhjmaaDoor
open Go Go.RowKit Go.Shelf

theorem Dice.belowAt {W W' : World} {B dp : Nat} {a : Option Addr} {cap : Nat} {ts : List Int} {k : Nat} (h : Dice W dp a cap ts k) (hb : Below B W W') (hdp : dp < B) (hf : ∀ b off, a = some ⟨b, off, none⟩ → 0 < ts.length → b < B) : Dice W' dp a cap ts k :=
  ⟨(hb.cell (p := ⟨dp, 0, none⟩) hdp).trans h.list, (hb.cell (p := ⟨dp, 1, none⟩) hdp).trans h.at', (hb.frozen (p := ⟨dp, 1, none⟩) hdp).trans h.free,
    ⟨h.row.room, h.row.most, fun j hj => by
      obtain ⟨b, off, e, hc⟩ := h.row.el j hj
      exact ⟨b, off, e, (hb.cell (p := ⟨b, off + j, none⟩) (hf b off e (by omega))).trans hc⟩⟩, h.least, h.few, h.other⟩

/-- The state of OddNat behind its boxes: the dice; the list, owned; the result's cell; nothing else that lay before has turned. -/
structure OSt (w : World) (dp : Nat) (a : Option Addr) (cap : Nat) (ts : List Int) (v : Value) (zs : List Int) (W : World) : Prop where
  dice : ∃ k, Dice W dp a cap ts k
  own : Own W (w.heap.size + 1) v zs
  grown : w.grownBy W (some dp)
  bnd : dp < w.heap.size ∧ w.heap.size < W.heap.size
  res : W.cell? ⟨w.heap.size, 0, none⟩ = some (.slice none 0 0) ∧ W.frozen? ⟨w.heap.size, 0, none⟩ = false
  far : ∀ b off, a = some ⟨b, off, none⟩ → 0 < ts.length → b < w.heap.size

section
variable {w : World} {dp : Nat} {a : Option Addr} {cap : Nat} {ts : List Int} {v : Value} {zs : List Int} {W : World}
theorem OSt.moved (h : OSt w dp a cap ts v zs W) {W' : World} {v' : Value} {ys : List Int} (ho : Own W' (w.heap.size + 1) v' ys) (hb : Below (w.heap.size + 1) W W') : OSt w dp a cap ts v' ys W' := by
  have hd := h.bnd
  refine ⟨h.dice.imp fun _ d => d.belowAt hb (by omega) fun b off e hl => by have := h.far b off e hl; omega, ho, ?_, ⟨hd.1, Nat.lt_of_lt_of_le hd.2 hb.size⟩, ⟨?_, ?_⟩, h.far⟩
  · exact ⟨hb.os.trans h.grown.os, hb.tape.trans h.grown.tape, hb.output.trans h.grown.output, Nat.le_trans h.grown.size hb.size, fun x hx hne => (hb.block x (by omega)).trans (h.grown.block x hx hne)⟩
  · exact (hb.cell (p := ⟨w.heap.size, 0, none⟩) (show w.heap.size < w.heap.size + 1 by omega)).trans h.res.1
  · exact (hb.frozen (p := ⟨w.heap.size, 0, none⟩) (show w.heap.size < w.heap.size + 1 by omega)).trans h.res.2
theorem OSt.alloc (h : OSt w dp a cap ts v zs W) (o : Obj) : OSt w dp a cap ts v zs (W.alloc o) :=
  h.moved (h.own.alloc o) ((Below.refl _ W).alloc h.bnd.2 o)
theorem OSt.drewN (h : OSt w dp a cap ts v zs W) (n : Nat) : OSt w dp a cap ts v zs (W.drewN n) := h.moved (h.own.drewN n) (belowN (Below.refl _ W) n)
theorem OSt.drew (h : OSt w dp a cap ts v zs W) : OSt w dp a cap ts v zs W.drew := h.drewN 1
theorem OSt.next (h : OSt w dp a cap ts v zs W) {W' : World} {k : Nat} (hd : Dice W' dp a cap ts k) (hg : W.grownBy W' (some dp)) : OSt w dp a cap ts v zs W' := by
  have hb := h.bnd
  have cR : some w.heap.size ≠ some dp := by intro e; cases e; omega
  refine ⟨⟨k, hd⟩, World.ownsRow.kept h.own hg ?_, ⟨hg.os.trans h.grown.os, hg.tape.trans h.grown.tape, hg.output.trans h.grown.output, Nat.le_trans h.grown.size hg.size, fun x hx hne => (hg.block x (Nat.lt_of_lt_of_le hx h.grown.size) hne).trans (h.grown.block x hx hne)⟩,
    ⟨hb.1, Nat.lt_of_lt_of_le hb.2 hg.size⟩, ⟨hg.cell h.res.1 cR, (World.frozen?_of_block (hg.block _ (lt_of_cell h.res.1) cR)).trans h.res.2⟩, h.far⟩
  cases hv : v.ownBlock with
  | none => exact .inl rfl
  | some k => exact .inr (by intro e; cases e; have := (World.ownsRow.lt h.own _ hv).1; omega)
theorem OSt.throw (h : OSt w dp a cap ts v zs W) (n : Int) (hn : 0 < n) (hn2 : n ≤ 4611686018427387904) :
    Calls Tryd.prog 50 #[.pointer (some ⟨dp, 0, none⟩), .int .i64 n] W fun e W' => ∃ r : Nat, (r : Int) < n ∧ e = .returned (.int .i64 (r : Int)) ∧ OSt w dp a cap ts v zs W' ∧
      (∀ b o, b < W.heap.size → ¬ b = dp → W'.cell? ⟨b, o, none⟩ = W.cell? ⟨b, o, none⟩) ∧ W.heap.size ≤ W'.heap.size := by
  obtain ⟨m, rfl⟩ := Int.eq_ofNat_of_zero_le (Int.le_of_lt hn)
  obtain ⟨k, hd⟩ := h.dice
  refine (next_any W dp a cap ts k m (by omega) (by omega) hd).mono ?_
  rintro e W' ⟨r, k', hr, he, hd', hg⟩
  exact ⟨r, by omega, he, h.next hd' hg, fun b o hb hne => World.cell?_of_block (hg.block b hb (by intro e; cases e; exact hne rfl)), hg.size⟩
theorem OSt.set {g lc : Nat} (h : OSt w dp a cap ts (.slice (some ⟨g, 0, none⟩) zs.length lc) zs W) (hg : w.heap.size + 1 ≤ g) (j : Nat) (u : Int) :
    OSt w dp a cap ts (.slice (some ⟨g, 0, none⟩) (zs.set j u).length lc) (zs.set j u) (W.setCell ⟨g, j, none⟩ (.int .i64 u)) := by
  refine h.moved ?_ ((Below.refl _ W).setCell (p := ⟨g, j, none⟩) hg _)
  rw [List.length_set]
  exact h.own.set j u
end

/-- What OddNat gives: any list of limbs; only the dice have turned. -/
def OddPost (w : World) (dp : Nat) (a : Option Addr) (cap : Nat) (ts : List Int) (e : Ending) (W : World) : Prop :=
  ∃ (s : Option Addr) (c : Nat) (ys : List Int) (k' : Nat), e = .returned (.agg #[.slice s ys.length c]) ∧ Row W s ys c ∧ Dice W dp a cap ts k' ∧ w.grownBy W (some dp)
theorem OSt.done {w : World} {dp : Nat} {a : Option Addr} {cap : Nat} {ts : List Int} {la : Option Addr} {lc : Nat} {zs : List Int} {W : World} (h : OSt w dp a cap ts (.slice la zs.length lc) zs W) :
    OddPost w dp a cap ts (.returned (.agg #[.slice la zs.length lc])) (W.setCell ⟨w.heap.size, 0, none⟩ (.slice la zs.length lc)) := by
  have hb := h.bnd
  obtain ⟨k', d⟩ := h.dice
  exact ⟨la, lc, zs, k', rfl, (h.own.setBelow (p := ⟨w.heap.size, 0, none⟩) (show w.heap.size < w.heap.size + 1 by omega) _).rowAt, d.store h.res.1 (show w.heap.size ≠ dp by omega) _, grown_setCell h.grown _ (.inl (Nat.le_refl _))⟩
theorem OddPost.before {w : World} {dp : Nat} {a : Option Addr} {cap : Nat} {ts : List Int} {e : Ending} {W : World} {o : Obj} (h : OddPost (w.alloc o) dp a cap ts e W) : OddPost w dp a cap ts e W := by
  obtain ⟨s, c, ys, k', h1, h2, h3, h4⟩ := h
  have hg := grown_alloc (World.grownBy.refl w (some dp)) o
  exact ⟨s, c, ys, k', h1, h2, h3, ⟨h4.os.trans hg.os, h4.tape.trans hg.tape, h4.output.trans hg.output, Nat.le_trans hg.size h4.size, fun x hx hne => (h4.block x (Nat.lt_of_lt_of_le hx hg.size) hne).trans (hg.block x hx hne)⟩⟩

set_option maxRecDepth 100000 in
theorem one_any (w : World) (dp : Nat) (a : Option Addr) (cap : Nat) (ts : List Int) (k : Nat) (n : Int) (hn : 0 < n) (hn2 : n ≤ 1000) (hD : Dice w dp a cap ts k) :
    Calls Tryd.prog 23 #[.pointer (some ⟨dp, 0, none⟩), .int .i64 n] w fun e W => ∃ (b : Bool) (k' : Nat), e = .returned (.bool b) ∧ Dice W dp a cap ts k' ∧ w.grownBy W (some dp) := by
  obtain ⟨m, rfl⟩ := Int.eq_ofNat_of_zero_le (Int.le_of_lt hn)
  have HN := Lib.hid (next_any w dp a cap ts k m (by omega) (by omega) hD)
  clear hD
  go_enter Tryd.func23, Tryd.ntmps23
  go_wp2_with fail
  refine HN.out.mono ?_
  rintro e W ⟨r, k', hr, rfl, hd, hg⟩
  have HD := Lib.hid hd
  have HG := Lib.hid hg
  clear hd hg HN
  go_wp2_with fail
  go_ret
  exact ⟨_, k', rfl, HD.out, HG.out⟩

/-- The value that a throw below 4 picks. -/
def pk4 (r : Nat) : Int := if r = 0 then -1 else if r = 1 then 0 else if r = 2 then 16777216 else 1099511627776
theorem pick4_now (W : World) (r : Nat) (hr : (r : Int) < 4) (t : TypeId) : (W.alloc (.cells #[.int .i64 (-1), .int .i64 0, .int .i64 16777216, .int .i64 1099511627776] t)).cell? ⟨W.heap.size, r, none⟩ = some (.int .i64 (pk4 r)) := by
  have hb : (W.alloc (.cells #[.int .i64 (-1), .int .i64 0, .int .i64 16777216, .int .i64 1099511627776] t)).heap[W.heap.size]? = some (.cells #[.int .i64 (-1), .int .i64 0, .int .i64 16777216, .int .i64 1099511627776] t) := Array.getElem?_push_size
  rw [cell_of_row _ _ r _ _ _ hb]
  match r, hr with
  | 0, _ => rfl
  | 1, _ => rfl
  | 2, _ => rfl
  | 3, _ => rfl
  | r + 4, h => omega
theorem pick4_behind {W W' : World} {dp : Nat} {t : TypeId} (hdp : dp < W.heap.size)
    (hk : ∀ b o, b < (W.alloc (.cells #[.int .i64 (-1), .int .i64 0, .int .i64 16777216, .int .i64 1099511627776] t)).heap.size → ¬ b = dp → W'.cell? ⟨b, o, none⟩ = (W.alloc (.cells #[.int .i64 (-1), .int .i64 0, .int .i64 16777216, .int .i64 1099511627776] t)).cell? ⟨b, o, none⟩) (r : Nat) (hr : (r : Int) < 4) :
    W'.cell? ⟨W.heap.size, r, none⟩ = some (.int .i64 (pk4 r)) :=
  (hk _ _ (by rw [World.size_alloc]; omega) (by omega)).trans (pick4_now W r hr t)

set_option maxRecDepth 100000 in
set_option maxHeartbeats 3000000 in
/-- **Dice.OddNat** -/
theorem odd_any (w : World) (dp : Nat) (a : Option Addr) (cap : Nat) (ts : List Int) (k : Nat) (p : Option Addr) (c : Nat) (zs : List Int) (hl : zs.length < 1000) (hD : Dice w dp a cap ts k) (hR : Row w p zs c) :
    Calls Tryd.prog 24 #[.pointer (some ⟨dp, 0, none⟩), .agg #[.slice p zs.length c]] w (OddPost w dp a cap ts) := by
  have hlt := hD.lt
  have hfar := hD.far
  have c0 := cell_of_new w (.slice p zs.length c) 24
  have c0' := cell_later (.cells #[.slice none 0 0] 24) c0.1
  have hst : ∀ W, True → W = (w.alloc (.cells #[.slice p zs.length c] 24)).alloc (.cells #[.slice none 0 0] 24) → OSt (w.alloc (.cells #[.slice p zs.length c] 24)) dp a cap ts (.slice none 0 0) [] W := by
    rintro W - rfl
    have c1 := cell_of_new (w.alloc (.cells #[.slice p zs.length c] 24)) (.slice none 0 0) 24
    exact ⟨⟨k, (hD.alloc _).alloc _⟩, Own.nil _ _, grown_alloc (World.grownBy.refl _ _) _, ⟨by simp; omega, by simp⟩, c1, fun b off e hl => by have := hfar b off e hl; simp; omega⟩
  have HST := Lib.hid (hst _ trivial rfl)
  have HR := Lib.hid ((hR.alloc (.cells #[.slice p zs.length c] 24)).alloc (.cells #[.slice none 0 0] 24))
  clear hst hR hD hfar c0
  go_enter Tryd.func24, Tryd.ntmps24
  go_wp2_with (at_builtin; refine wpList_appAny rfl _ _ rfl rfl (Own.nil _ ((w.alloc (.cells #[.slice p zs.length c] 24)).heap.size + 1)) rfl HR.out (by simp; omega) (by simp) ?_; intro la lc w1 hown1 hb1; have HS1 := Lib.hid (show OSt (w.alloc (.cells #[.slice p zs.length c] 24)) dp a cap ts (.slice la zs.length lc) zs w1 from HST.out.moved hown1 hb1); clear hown1 hb1 c0' HST HR)
  refine ((HS1.out.alloc _).throw 4 (by decide) (by decide)).mono ?_
  rintro e w2 ⟨r, hr, rfl, hst2, hkp, hsz⟩
  have hdw := HS1.out.bnd
  rw [World.size_alloc] at hdw
  have hcL := pick4_behind (by omega) hkp r hr
  have HS2 := Lib.hid hst2
  clear hst2 hkp hsz hdw HS1
  generalize pk4 r = z at *
  by_cases hz : zs.length = 0
  · obtain rfl := List.length_eq_zero_iff.1 hz
    simp only [List.length_nil] at HS2
    go_wp2_with (at_builtin; refine wpList_app1 rfl _ _ rfl rfl (HS2.out.alloc _).own rfl (cell_new _ _ _) (by omega) (by have := HS2.out.bnd; simp only [World.size_alloc] at this ⊢; omega) ?_; intro a' cap' w6 hown' hb'; have hs3 := ((HS2.out.alloc _).moved hown' hb'); have r3 := hs3.res; have hp := hs3.done.before; simp only [World.size_alloc, List.length_append, List.length_cons, List.length_nil, Nat.zero_add] at r3 hp; have r30 := r3.1; have r31 := r3.2; have HP := Lib.hid hp; clear hown' hb' hs3 r3 hp HS2)
    refine bodyPost_ret (v := .agg #[.slice a' (0 + 1) cap']) (by simp [results, Tryd.results24, go_sem, r30]) rfl HP.out
  · have hz1 : ((zs.length : Int) == 0) = false := by rw [beq_eq_false_iff_ne]; omega
    have hz2 : zs ≠ [] := fun e => hz (by rw [e]; rfl)
    go_wp2_with fail
    obtain ⟨k2, hd2⟩ := HS2.out.dice
    refine (one_any _ dp a cap ts k2 3 (by decide) (by decide) hd2).mono ?_
    rintro e w3 ⟨b, k3, rfl, hd3, hg3⟩
    replace HS2 := Lib.hid (HS2.out.next hd3 hg3)
    clear hd2 hd3 hg3 hcL
    cases b
    · go_wp2_with fail
      refine (HS2.out.throw (zs.length : Int) (by omega) (by omega)).mono ?_
      rintro e w4 ⟨q, hq, rfl, hst4, -, -⟩
      obtain ⟨g, rfl, hBg, hgw, hq1, hq2, hcz, hfz⟩ := hst4.own.at2 q (by omega)
      have HS5 := Lib.hid (hst4.set hBg q z)
      clear HS2 hst4 hz1 hz2 hz
      go_upto_region 6 with fail
      generalize w4.setCell ⟨g, q, none⟩ (.int .i64 z) = w5 at *
      have r3 := HS5.out.res
      have hp := HS5.out.done.before
      simp only [World.size_alloc, List.length_set] at r3 hp
      have r30 := r3.1
      have r31 := r3.2
      have HP := Lib.hid hp
      clear r3 hp HS5 hcz hfz
      go_wp2_with fail
      refine bodyPost_ret (v := .agg #[.slice (some ⟨g, 0, none⟩) zs.length lc]) (by simp [results, Tryd.results24, go_sem, r30]) rfl HP.out
    · skip
      go_wp2_with (at_builtin; refine wpList_app1 rfl _ _ rfl rfl (HS2.out.alloc _).own rfl (cell_new _ _ _) (by omega) (by have := HS2.out.bnd; simp only [World.size_alloc] at this ⊢; omega) ?_; intro a' cap' w6 hown' hb'; have hs3 := ((HS2.out.alloc _).moved hown' hb'); have r3 := hs3.res; have hp := hs3.done.before; simp only [World.size_alloc, List.length_append, List.length_cons, List.length_nil, Nat.zero_add] at r3 hp; have r30 := r3.1; have r31 := r3.2; have HP := Lib.hid hp; clear hown' hb' hs3 r3 hp HS2)
      refine bodyPost_ret (v := .agg #[.slice a' (zs.length + 1) cap']) (by simp [results, Tryd.results24, go_sem, r30]) rfl HP.out
end Go.Proofs.YtneimnacanhjmaaDoor
