/- made.Dice.Matrix. -/
import Derived.Test.YtgaanojfjaifhaaBDice
import Derived.Test.YtgaanojfjaifhaaBKern
namespace Go.Proofs.Ytgaanojfjaifhaa.B
open Go Go.RowKit Go.Shelf
open BM (St)

theorem MBox.grown {W W' : World} {p dp : Nat} {C : Int} {a : Option Addr} {n cap : Nat} (h : MBox W p C a n cap) (hg : W.grownBy W' (some dp)) (hne : p ≠ dp) : MBox W' p C a n cap :=
  ⟨cell_grown hg hne h.c0, cell_grown hg hne h.c1, frozen_grown hg hne h.c0 h.f0, frozen_grown hg hne h.c1 h.f1⟩
theorem Own.far {α : Type} [Elt α] {W W' : World} {B dp : Nat} {v : Value} {zs : List α} (h : Own W B v zs) (hg : W.grownBy W' (some dp)) (hdp : dp < B) : Own W' B v zs :=
  h.grown hg (by
    cases hv : v.ownBlock with
    | none => exact .inl rfl
    | some g => exact .inr (by intro e; cases e; have := (World.ownsRow.lt h _ hv).1; omega))

theorem fit_zero (n : Nat) : fitB 0 n = true := (fitB_iff _ _).2 (fun k _ => BM.bt_zero k)
theorem fit_or {a b : V} {n : Nat} (ha : fitB a n = true) (hb : fitB b n = true) : fitB (a ||| b) n = true := by
  rw [fitB_iff] at ha hb ⊢
  intro k hk
  unfold BM.bt at ha hb ⊢
  rw [BitVec.getLsbD_or, ha k hk, hb k hk]; rfl
theorem fit_xor {a b : V} {n : Nat} (ha : fitB a n = true) (hb : fitB b n = true) : fitB (a ^^^ b) n = true := by
  rw [fitB_iff] at ha hb ⊢
  intro k hk
  rw [BM.bt_xor, ha k hk, hb k hk]; rfl
theorem fit_unit {k n : Nat} (h : k < n) : fitB (1#64 <<< k) n = true := by
  rw [fitB_iff]
  intro j hj
  rw [BM.bt_shl]
  exact decide_eq_false (by omega)
theorem fit_b1 {k n : Nat} (t : Bool) (h : k < n) : fitB (b1 t <<< k) n = true := by
  rw [b1_shl]
  cases t
  · exact fit_zero n
  · exact fit_unit h

/-- What Matrix leaves. -/
def MatrixPost (w : World) (dp : Nat) (a : Option Addr) (cap : Nat) (ts : List Int) (r c : Nat) (e : Ending) (W : World) : Prop :=
  ∃ (v : Value) (R : List V) (k' : Nat), e = .returned v ∧ R.length = r ∧ (∀ j, j < r → fitB (el R j) c = true) ∧ MatR w.heap.size W v c R ∧ Dice W dp a cap ts k' ∧ w.grownBy W (some dp)
structure MtSt (w : World) (dp : Nat) (a : Option Addr) (cap : Nat) (ts : List Int) (n c : Nat) (W : World) : Prop where
  rows : ∃ (a' : Option Addr) (c' : Nat) (ys : List V), ys.length = n ∧ (∀ j, j < n → fitB (el ys j) c = true) ∧ MBox W (w.heap.size + 1) c a' n c' ∧ Own W (w.heap.size + 1 + 1) (.slice a' n c') ys
  res : MBox W w.heap.size 0 none 0 0
  dice : ∃ k', Dice W dp a cap ts k'
  gr : w.grownBy W (some dp)
  size : w.heap.size + 1 + 1 ≤ W.heap.size
theorem grown_from {w W : World} {a b : Option Nat} (h : w.grownBy W a) (hn : ∀ k, a = some k → w.heap.size ≤ k) : w.grownBy W b :=
  ⟨h.os, h.tape, h.output, h.size, fun k hk _ => h.block k hk (fun e => by have := hn k e.symm; omega)⟩

theorem MtSt.next {w : World} {dp : Nat} {a : Option Addr} {cap : Nat} {ts : List Int} {n c : Nat} {W W' : World} (h : MtSt w dp a cap ts n c W) (hdp : dp < w.heap.size) (hg : W.grownBy W' (some dp)) (hd : ∃ k', Dice W' dp a cap ts k') : MtSt w dp a cap ts n c W' := by
  obtain ⟨a', c', ys, h1, h2, h3, h4⟩ := h.rows
  exact ⟨⟨a', c', ys, h1, h2, h3.grown hg (by omega), h4.far hg (by omega)⟩, h.res.grown hg (by omega), hd, grown_trans h.gr hg, Nat.le_trans h.size hg.size⟩
theorem next_bit {r : Nat} (h : r < 2) : ∃ t : Bool, (r : Int) = ((b1 t).toNat : Int) := by
  match r, h with
  | 0, _ => exact ⟨false, rfl⟩
  | 1, _ => exact ⟨true, rfl⟩
/-- A row has been appended. -/
theorem MtSt.push {w : World} {dp : Nat} {a : Option Addr} {cap : Nat} {ts : List Int} {n c : Nat} {W W' : World} (h : MtSt w dp a cap ts n c W) (hdp : dp < w.heap.size) (hf : ∀ b off, a = some ⟨b, off, none⟩ → 0 < ts.length → b < w.heap.size)
    {a' a3 : Option Addr} {c' c3 : Nat} {ys : List V} {x : V} (h1 : ys.length = n) (h2 : ∀ j, j < n → fitB (el ys j) c = true) (hx : fitB x c = true) (h3 : MBox W (w.heap.size + 1) c a' n c')
    (ho : Own W' (w.heap.size + 1 + 1) (.slice a3 (n + 1) c3) (ys ++ [x])) (hb : Below (w.heap.size + 1 + 1) W W') : MtSt w dp a cap ts (n + 1) c (W'.setCell ⟨w.heap.size + 1, 1, none⟩ (.slice a3 (n + 1) c3)) := by
  obtain ⟨k', hd⟩ := h.dice
  have k0 : W'.cell? ⟨w.heap.size + 1, 0, none⟩ = some (.int .i64 (c : Int)) := (hb.cell (p := ⟨w.heap.size + 1, 0, none⟩) (by show w.heap.size + 1 < _; omega)).trans h3.c0
  have k1 : W'.cell? ⟨w.heap.size + 1, 1, none⟩ = some (.slice a' n c') := (hb.cell (p := ⟨w.heap.size + 1, 1, none⟩) (by show w.heap.size + 1 < _; omega)).trans h3.c1
  have k2 : W'.frozen? ⟨w.heap.size + 1, 0, none⟩ = false := (hb.frozen (p := ⟨w.heap.size + 1, 0, none⟩) (by show w.heap.size + 1 < _; omega)).trans h3.f0
  have k3 : W'.frozen? ⟨w.heap.size + 1, 1, none⟩ = false := (hb.frozen (p := ⟨w.heap.size + 1, 1, none⟩) (by show w.heap.size + 1 < _; omega)).trans h3.f1
  refine ⟨⟨a3, c3, ys ++ [x], by rw [List.length_append, h1]; rfl, fun j hj => ?_, ⟨(World.cell?_setCell_other _ _ _ _ (by intro e; cases e)).trans k0, World.cell?_setCell_same' _ _ _ (by rw [k1]; rfl), (World.frozen?_setCell _ _ _ _).trans k2, (World.frozen?_setCell _ _ _ _).trans k3⟩, ho.setBelow (show w.heap.size + 1 < _ by omega) _⟩, ?_, ⟨k', ?_⟩, ?_, ?_⟩
  · rw [el_append, h1]
    by_cases h5 : j < n
    · rw [if_pos h5]; exact h2 j h5
    · rw [if_neg h5, show j - n = 0 by omega]; exact hx
  · have e := h.res
    exact (⟨(hb.cell (p := ⟨w.heap.size, 0, none⟩) (by show w.heap.size < _; omega)).trans e.c0, (hb.cell (p := ⟨w.heap.size, 1, none⟩) (by show w.heap.size < _; omega)).trans e.c1, (hb.frozen (p := ⟨w.heap.size, 0, none⟩) (by show w.heap.size < _; omega)).trans e.f0, (hb.frozen (p := ⟨w.heap.size, 1, none⟩) (by show w.heap.size < _; omega)).trans e.f1⟩ : MBox W' w.heap.size 0 none 0 0).other (show w.heap.size + 1 ≠ w.heap.size by omega) _
  · exact hd.belowAt (B := w.heap.size) ((hb.mono (by omega)).setCell (p := ⟨w.heap.size + 1, 1, none⟩) (by show _ ≤ w.heap.size + 1; omega) _) hdp hf
  · exact grown_setCell (grown_then h.gr (hb.mono (by omega))) _ (.inl (by show _ ≤ w.heap.size + 1; omega))
  · have := hb.size
    have h6 := h.size
    simpa [World.setCell] using Nat.le_trans h6 this
set_option maxRecDepth 100000 in
set_option maxHeartbeats 1000000 in
theorem matrix_any (w : World) (dp : Nat) (a : Option Addr) (cap : Nat) (ts : List Int) (k r c : Nat) (hr : r ≤ 64) (hc : c ≤ 64) (hD : Dice w dp a cap ts k) :
    Calls Try.prog 14 #[.pointer (some ⟨dp, 0, none⟩), .int .i64 (r : Int), .int .i64 (c : Int)] w (MatrixPost w dp a cap ts r c) := by
  have hdp := hD.lt
  have hfar := hD.far
  have b1' := MBox.new w 0 none 0 0 24
  have b2' := MBox.new (w.alloc (.cells #[.int .i64 0, .slice none 0 0] 24)) (c : Int) none 0 0 24
  simp only [World.size_alloc] at b2'
  have hg0 : w.grownBy ((w.alloc (.cells #[.int .i64 0, .slice none 0 0] 24)).alloc (.cells #[.int .i64 (c : Int), .slice none 0 0] 24)) (some dp) := grown_alloc (grown_alloc (World.grownBy.refl w _) _) _
  have hst : MtSt w dp a cap ts 0 c ((w.alloc (.cells #[.int .i64 0, .slice none 0 0] 24)).alloc (.cells #[.int .i64 (c : Int), .slice none 0 0] 24)) :=
    ⟨⟨none, 0, [], rfl, fun j hj => absurd hj (Nat.not_lt_zero j), b2', Own.nil _ _⟩, b1'.alloc _, ⟨k, (hD.alloc _).alloc _⟩, hg0, by simp⟩
  have HST := Lib.hid hst
  have HF := Lib.hid hfar
  have b2z := MBox.new (w.alloc (.cells #[.int .i64 0, .slice none 0 0] 24)) 0 none 0 0 24
  simp only [World.size_alloc] at b2z
  have z0 := b2z.c0
  have z1 := b2z.c1
  have z2 := b2z.f0
  have z3 := b2z.f1
  clear hD hfar b1' b2' hg0 hst b2z
  go_enter Try.func14, Try.ntmps14
  go_wp2_with fail
  clear z0 z1 z2 z3
  go_loopw [1, 8, 9] (fun i _ _ wr => ∃ j : Nat, i = .int .i64 (j : Int) ∧ j ≤ r ∧ MtSt w dp a cap ts (r - j) c wr) (fun i _ _ _ => (intOf i).toNat)
  case atStart => exact ⟨r, rfl, Nat.le_refl _, by rw [Nat.sub_self]; exact HST.out⟩
  case round =>
    clear HST
    obtain ⟨j, rfl, hj, hst⟩ := hrel
    have HST := Lib.hid hst
    by_cases hj0 : j = 0
    · subst hj0
      obtain ⟨a', c', ys, h1, h2, h3, h4⟩ := hst.rows
      have hres := hst.res
      have m0 := h3.c0
      have m1 := h3.c1
      have r0 := hres.c0
      have r1 := hres.c1
      have f0 := hres.f0
      have f1 := hres.f1
      have r1' : (wr.setCell ⟨w.heap.size, 0, none⟩ (.int .i64 (c : Int))).cell? ⟨w.heap.size, 1, none⟩ = some (.slice none 0 0) := (World.cell?_setCell_other _ _ _ _ (by intro e; cases e)).trans r1
      have hset := hres.set (C' := (c : Int)) (a' := a') (n' := r - 0) (cap' := c')
      have HSET := Lib.hid hset
      have HO := Lib.hid h4
      have H1 := Lib.hid h1
      have H2 := Lib.hid h2
      have HRES := Lib.hid hres
      clear hst h1 h2 h3 h4 hres hset
      go_wp2_with fail
      obtain ⟨k', hd⟩ := HST.out.dice
      have hL : ys.length = r := by have := H1.out; omega
      refine bodyPost_ret (v := .agg #[.int .i64 (c : Int), .slice a' (r - 0) c']) (by have q0 := HSET.out.c0; have q1 := HSET.out.c1; simp [results, Try.results14, go_sem] at q0 q1 ⊢; simp [q0, q1]) rfl ⟨_, ys, k', rfl, hL, fun q hq => H2.out q (by omega), ⟨a', c', by rw [hL]; rfl, ?_, ?_⟩, ?_, ?_⟩
      · exact HO.out.rowAt.boxed HRES.out
      · intro b o e
        subst e
        rcases HO.out.parts with ⟨e2, _⟩ | ⟨g, cc, e2, hB, _⟩
        · cases e2
        · cases e2; omega
      · exact hd.belowAt (B := w.heap.size) (((Below.refl w.heap.size wr).setCell (p := ⟨w.heap.size, 0, none⟩) (Nat.le_refl _) _).setCell (p := ⟨w.heap.size, 1, none⟩) (Nat.le_refl _) _) hdp HF.out
      · exact grown_setCell (grown_setCell HST.out.gr _ (.inl (Nat.le_refl _))) _ (.inl (Nat.le_refl _))
    · have hjp : 0 < j := by omega
      have hwd : wrap64 ((j : Int) - 1) = (j : Int) - 1 := by unfold wrap64; omega
      clear hst
      go_wp2_with fail
      go_loopw [8, 9] (fun x i wq => ∃ (t : Nat) (y : V), i = .int .i64 (t : Int) ∧ t ≤ c ∧ x = .int .u64 (y.toNat : Int) ∧ fitB y c = true ∧ MtSt w dp a cap ts (r - j) c wq) (fun _ i _ => c - (intOf i).toNat)
      case atStart => exact ⟨0, 0, rfl, Nat.zero_le _, rfl, fit_zero c, HST.out⟩
      case round =>
        clear HST
        obtain ⟨t, y, rfl, ht, rfl, hy, hst⟩ := hrel
        have HY := Lib.hid hy
        have HST := Lib.hid hst
        clear hy
        by_cases hlt : t < c
        · obtain ⟨k', hd⟩ := hst.dice
          have HNX := Lib.hid (next_any wr dp a cap ts k' 2 (by decide) (by decide) hd)
          clear hst hd
          go_wp2_with fail
          refine HNX.out.mono ?_
          rintro e w2 ⟨rr, k2, hr2, rfl, hd2, hg2⟩
          obtain ⟨tb, htb⟩ := next_bit hr2
          rw [htb]
          have HST2 := Lib.hid (HST.out.next hdp hg2 ⟨k2, hd2⟩)
          clear hd2 hg2 htb hr2
          go_wp2_with fail
          go_roundw
          case rel =>
            refine ⟨t + 1, y ||| b1 tb <<< t, by go_num, hlt, u64_v ?_, fit_or HY.out (fit_b1 tb hlt), HST2.out⟩
            rw [shl_V, or_V]
          case measure => simp [intOf]; omega
        · obtain rfl : t = c := by omega
          obtain ⟨a', c', ys, h1, h2, h3, h4⟩ := hst.rows
          have m0 := h3.c0
          have m1 := h3.c1
          have mf := h3.f1
          have HO := Lib.hid h4
          have H1 := Lib.hid h1
          have H2 := Lib.hid h2
          have H3 := Lib.hid h3
          have hsz := hst.size
          clear hst h1 h2 h3 h4
          have k1 := cell_later (.cells #[.int .u64 (y.toNat : Int)] 25) m1
          go_wp2_with (at_builtin; refine wpList_app1 (α := V) rfl _ _ rfl y (by rfl) (by have := HO.out.alloc (.cells #[.int .u64 (y.toNat : Int)] 25); rw [← H1.out] at this; rw [← H1.out]; exact this) rfl (cell_new _ _ _) (by have := H1.out; omega) (by simp; omega) ?_; intro a3 cap3 w6 hown3 hg3 hb3 hw3; have k2 := (hb3.cell (p := ⟨w.heap.size + 1, 1, none⟩) (by show w.heap.size + 1 < _; omega)).trans k1; have k3 := (hb3.frozen (p := ⟨w.heap.size + 1, 1, none⟩) (by show w.heap.size + 1 < _; omega)).trans (frozen_later _ m1 mf); have HO3 := Lib.hid hown3; have HB3 := Lib.hid hb3; clear hown3 hg3 hb3 hw3)
          go_roundw
          case rel =>
            have hn : ys.length = r - j := H1.out
            rw [hn] at HO3 ⊢
            have hpush := MtSt.push HST.out hdp HF.out H1.out H2.out HY.out H3.out HO3.out (((Below.refl _ wr).alloc hsz _).trans HB3.out)
            exact ⟨j - 1, congrArg (Value.int .i64) (by omega), by omega, by rw [show r - (j - 1) = r - j + 1 by omega]; exact hpush⟩
          case measure => simp [intOf]; omega
theorem below_dice {W W' : World} {B dp : Nat} (hg : W.grownBy W' (some dp)) (h1 : B ≤ dp) (h2 : B ≤ W.heap.size) : Below B W W' :=
  (Below.refl B W).grown hg h2 (fun k e => by cases e; exact h1)
end Go.Proofs.Ytgaanojfjaifhaa.B
