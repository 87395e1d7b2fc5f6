/- register.Decode. -/
import Derived.Test.YtememimblalkfaaRgCat
import Derived.Test.YtememimblalkfaaRgChk
import Derived.Test.YtememimblalkfaaGStep
import Derived.Test.YtememimblalkfaaQuietW
import Derived.Deep.RegionHeld3
import Derived.Deep.DeepCutAuto
import Derived.Deep.DeepMust
namespace Go.Proofs.Ytememimblalkfaa.RG
open Go Go.RowKit Go.Shelf
open G P
def doX (L : List V) (j : Nat) : Int := if decE L = 0 then decX L j else 0
def doR (L : List V) : List V := if decE L = 0 then L.drop 2 else []
def doLo (L : List V) : Int := if decE L = 0 then (decLo L : Int) else 0
def doHi (L : List V) : Int := if decE L = 0 then (decHi L : Int) else 0
/-- What both Decodes leave. -/
def DecR (w : World) (L : List V) (e : Ending) (W : World) : Prop :=
  ∃ a' c', e = .returned (.tuple #[.agg #[.int .i64 (doX L 0), .int .i64 (doX L 1), .int .i64 (doX L 2), .int .i64 (doX L 3), .int .i64 (doX L 4), .int .i64 (doX L 5), .slice a' (doR L).length c', .int .i64 (doLo L), .int .i64 (doHi L)], .int .i64 (decE L)]) ∧ G.Own W w.heap.size (.slice a' (doR L).length c') (doR L) ∧ Below w.heap.size w W
theorem DecR.no {w W : World} {L : List V} {E : Int} (h : decE L = E) (hE : E ≠ 0) (hb : Below w.heap.size w W) : DecR w L (.returned (.tuple #[.agg #[.int .i64 0, .int .i64 0, .int .i64 0, .int .i64 0, .int .i64 0, .int .i64 0, .slice none 0 0, .int .i64 0, .int .i64 0], .int .i64 E])) W := by
  have h0 : ¬ decE L = 0 := by rw [h]; exact hE
  have e : doR L = [] := by unfold doR; rw [if_neg h0]
  have ex : ∀ j, doX L j = 0 := fun j => by unfold doX; rw [if_neg h0]
  have el : doLo L = 0 := by unfold doLo; rw [if_neg h0]
  have eh : doHi L = 0 := by unfold doHi; rw [if_neg h0]
  refine ⟨none, 0, by rw [ex, ex, ex, ex, ex, ex, el, eh, e, h]; rfl, ?_, hb⟩
  rw [e]
  exact G.Own.nil _ _
theorem DecR.yes {w W : World} {L : List V} {a : Option Addr} {c n : Nat} {x : Nat → Int} {lo hi : Int} (h : decE L = 0) (hb : Below w.heap.size w W) (hn : (L.drop 2).length = n) (hx : ∀ j, j < 6 → x j = decX L j) (hlo : lo = (decLo L : Int)) (hhi : hi = (decHi L : Int))
    (hO : G.Own W w.heap.size (.slice a n c) (L.drop 2)) : DecR w L (.returned (.tuple #[.agg #[.int .i64 (x 0), .int .i64 (x 1), .int .i64 (x 2), .int .i64 (x 3), .int .i64 (x 4), .int .i64 (x 5), .slice a n c, .int .i64 lo, .int .i64 hi], .int .i64 0])) W := by
  have e : doR L = L.drop 2 := by unfold doR; rw [if_pos h]
  have ex : ∀ j, j < 6 → doX L j = x j := fun j hj => by unfold doX; rw [if_pos h, hx j hj]
  have el : doLo L = lo := by unfold doLo; rw [if_pos h, hlo]
  have eh : doHi L = hi := by unfold doHi; rw [if_pos h, hhi]
  refine ⟨a, c, by rw [ex 0 (by decide), ex 1 (by decide), ex 2 (by decide), ex 3 (by decide), ex 4 (by decide), ex 5 (by decide), el, eh, e, h, hn], ?_, hb⟩
  rw [e, hn]
  exact hO
theorem Row.dropV {w : World} {b off cap : Nat} {zs : List V} (h : Row w (some ⟨b, off, none⟩) zs cap) (n : Nat) (hn : n ≤ zs.length) : Row w (some ⟨b, off + n, none⟩) (zs.drop n) (cap - n) :=
  ⟨by have := h.room; rw [List.length_drop]; omega, by have := h.most; omega, fun j hj => by
    rw [List.length_drop] at hj
    obtain ⟨b', off', e, hc⟩ := h.el (n + j) (by omega)
    cases e
    refine ⟨b, off + n, rfl, ?_⟩
    rw [el_drop, show off + n + j = off + (n + j) by omega]
    exact hc⟩
theorem unal9 {W W' : World} {o : Obj} (h : Below (W.alloc o).heap.size (W.alloc o) W') : Below W.heap.size W W' := ((Below.refl _ W).alloc (Nat.le_refl _) o).trans (h.mono (by simp))
theorem chk_dec {L : List V} (h2 : 2 ≤ L.length) (hf : (el L 0).toNat / 4294967296 = 1291845632) :
    chkE (decX L) (decN L : Int) (((L.drop 2).length : Nat) : Int) (decLo L : Int) (decHi L : Int) = decE L := by
  have hd : (L.drop 2).length = L.length - 2 := List.length_drop
  unfold chkE decE
  rw [if_neg (show ¬ L.length < 2 by omega), if_neg (show ¬ ¬ (el L 0).toNat / 4294967296 = 1291845632 from fun h => h hf)]
  by_cases h1 : okB (decX L) = false
  · rw [if_pos h1, if_pos h1]
  · rw [if_neg h1, if_neg h1, hd]
    by_cases h3 : 12 < decN L ∨ ¬ L.length = 2 + decN L
    · rw [if_pos h3, if_pos (by omega)]
    · rw [if_neg h3, if_neg (by omega)]
      by_cases h4 : 1048576 < decLo L
      · rw [if_pos (by omega), if_pos (by omega)]
      · rw [if_neg (by omega)]
        by_cases h5 : 1048576 < decHi L
        · rw [if_pos (by omega), if_pos (by omega)]
        · rw [if_neg (by omega), if_neg (by omega)]
/-- The map that is being read has been made. -/
structure DC (w : World) (p : Nat) (L : List V) (g : Nat) (a : Option Addr) (n c : Nat) (x : Nat → Int) (lo hi : Int) (W : World) : Prop where
  box : Mp W g x (.slice a n c) lo hi
  zero : Mp W p (fun _ => 0) (.slice none 0 0) 0 0
  own : G.Own W (p + 1) (.slice a n c) (L.drop 2)
  bel : Below w.heap.size w W
  lt : p < g
/-- A box of zeros that the slice does not lie in. -/
structure Alo (w : World) (p : Nat) (v : Value) (g : Nat) (W : World) : Prop where
  box : Mp W g (fun _ => 0) (.slice none 0 0) 0 0
  ne : v.ownBlock ≠ some g
  lt : p < g
theorem Alo.below {w v W : World} {p g : Nat} {u : Value} (h : Alo w p u g v) (hb : Below v.heap.size v W) : Alo w p u g W := ⟨h.box.below hb, h.ne, h.lt⟩
theorem Alo.made {w v W : World} {p B : Nat} {u : Value} {zs : List V} (hO : G.Own v B u zs) (hb : Below (v.alloc (.cells #[.int .i64 0, .int .i64 0, .int .i64 0, .int .i64 0, .int .i64 0, .int .i64 0, .slice none 0 0, .int .i64 0, .int .i64 0] 31)).heap.size (v.alloc (.cells #[.int .i64 0, .int .i64 0, .int .i64 0, .int .i64 0, .int .i64 0, .int .i64 0, .slice none 0 0, .int .i64 0, .int .i64 0] 31)) W) (hp : p < v.heap.size) : Alo w p u v.heap.size W :=
  ⟨(Mp.zero v).below hb, fun e => absurd (World.ownsRow.lt hO _ e).2 (Nat.lt_irrefl _), hp⟩
theorem Alo.old {w v W : World} {p g : Nat} {u : Value} {zs : List V} (hm : Mp v g (fun _ => 0) (.slice none 0 0) 0 0) (hb : Below v.heap.size v W) (hO : G.Own W v.heap.size u zs) (hp : p < g) : Alo w p u g W :=
  ⟨hm.below hb, G.own_ne hO hm.lt, hp⟩
theorem Alo.at {w v W : World} {p : Nat} {u : Value} {zs : List V} (hb : Below (v.alloc (.cells #[.int .i64 0, .int .i64 0, .int .i64 0, .int .i64 0, .int .i64 0, .int .i64 0, .slice none 0 0, .int .i64 0, .int .i64 0] 31)).heap.size (v.alloc (.cells #[.int .i64 0, .int .i64 0, .int .i64 0, .int .i64 0, .int .i64 0, .int .i64 0, .slice none 0 0, .int .i64 0, .int .i64 0] 31)) W) (hO : G.Own W (v.alloc (.cells #[.int .i64 0, .int .i64 0, .int .i64 0, .int .i64 0, .int .i64 0, .int .i64 0, .slice none 0 0, .int .i64 0, .int .i64 0] 31)).heap.size u zs) (hp : p < v.heap.size) : Alo w p u v.heap.size W :=
  ⟨(Mp.zero v).below hb, G.own_ne hO (by simp), hp⟩
theorem put9_own {W : World} {p B : Nat} {v : Value} {zs : List V} (h : G.Own W B v zs) (hne : v.ownBlock ≠ some p) (x : Nat → Int) (s : Value) (lo hi : Int) : G.Own (put9 W p x s lo hi) B v zs :=
  ((((((((h.other (p := ⟨p, 0, none⟩) _ hne).other (p := ⟨p, 1, none⟩) _ hne).other (p := ⟨p, 2, none⟩) _ hne).other (p := ⟨p, 3, none⟩) _ hne).other (p := ⟨p, 4, none⟩) _ hne).other (p := ⟨p, 5, none⟩) _ hne).other (p := ⟨p, 6, none⟩) _ hne).other (p := ⟨p, 7, none⟩) _ hne).other (p := ⟨p, 8, none⟩) _ hne
theorem put9_other {W : World} {p q : Nat} {y : Nat → Int} {s' : Value} {lo' hi' : Int} (h : Mp W q y s' lo' hi') (hne : p ≠ q) (x : Nat → Int) (s : Value) (lo hi : Int) : Mp (put9 W p x s lo hi) q y s' lo' hi' :=
  ((((((((h.other (q := ⟨p, 0, none⟩) hne _).other (q := ⟨p, 1, none⟩) hne _).other (q := ⟨p, 2, none⟩) hne _).other (q := ⟨p, 3, none⟩) hne _).other (q := ⟨p, 4, none⟩) hne _).other (q := ⟨p, 5, none⟩) hne _).other (q := ⟨p, 6, none⟩) hne _).other (q := ⟨p, 7, none⟩) hne _).other (q := ⟨p, 8, none⟩) hne _
theorem dc_old {w W : World} {p g n c : Nat} {L : List V} {a : Option Addr} {x : Nat → Int} {lo hi : Int} (hz : Mp W p (fun _ => 0) (.slice none 0 0) 0 0) (hb : Below w.heap.size w W) (hp : w.heap.size ≤ p) (hO : G.Own W (p + 1) (.slice a n c) (L.drop 2)) (hA : Alo w p (.slice a n c) g W) :
    DC w p L g a n c x lo hi (put9 W g x (.slice a n c) lo hi) :=
  ⟨put9_map hA.box x _ lo hi, put9_other hz (Nat.ne_of_gt hA.lt) x _ lo hi, put9_own hO hA.ne x _ lo hi, put9_below hb (by have := hA.lt; omega) x _ lo hi, hA.lt⟩
theorem dc_new {w W : World} {p n c : Nat} {L : List V} {a : Option Addr} {x : Nat → Int} {lo hi : Int} (hz : Mp W p (fun _ => 0) (.slice none 0 0) 0 0) (hb : Below w.heap.size w W) (hO : G.Own W (p + 1) (.slice a n c) (L.drop 2)) :
    DC w p L W.heap.size a n c x lo hi (W.alloc (.cells #[.int .i64 (x 0), .int .i64 (x 1), .int .i64 (x 2), .int .i64 (x 3), .int .i64 (x 4), .int .i64 (x 5), .slice a n c, .int .i64 lo, .int .i64 hi] 31)) :=
  ⟨Mp.new W x _ lo hi, hz.alloc _, hO.alloc _, hb.alloc hb.size _, hz.lt⟩
theorem DC.below {w W W' : World} {p g n c : Nat} {L : List V} {a : Option Addr} {x : Nat → Int} {lo hi : Int} (h : DC w p L g a n c x lo hi W) (hb : Below W.heap.size W W') : DC w p L g a n c x lo hi W' :=
  ⟨h.box.below hb, h.zero.below hb, h.own.below hb, h.bel.trans (hb.mono h.bel.size), h.lt⟩
/-- The six numbers, written out. -/
def Is6 (x : Nat → Int) (y0 y1 y2 y3 y4 y5 : Int) : Prop := y0 = x 0 ∧ y1 = x 1 ∧ y2 = x 2 ∧ y3 = x 3 ∧ y4 = x 4 ∧ y5 = x 5
theorem dec_is6 (L : List V) : Is6 (decX L) (fld (el L 0) 0 4 : Int) (fld (el L 0) 4 4 : Int) (fld (el L 0) 8 4 : Int) (fld (el L 0) 12 4 : Int) (fld (el L 0) 16 4 : Int) (fld (el L 0) 20 4 : Int) := ⟨rfl, rfl, rfl, rfl, rfl, rfl⟩
theorem dc_old' {w W : World} {p g n c : Nat} {L : List V} {a : Option Addr} {x : Nat → Int} {lo hi y0 y1 y2 y3 y4 y5 : Int} (h6 : Is6 x y0 y1 y2 y3 y4 y5) (hz : Mp W p (fun _ => 0) (.slice none 0 0) 0 0) (hb : Below w.heap.size w W) (hp : w.heap.size ≤ p) (hO : G.Own W (p + 1) (.slice a n c) (L.drop 2)) (hA : Alo w p (.slice a n c) g W) :
    DC w p L g a n c x lo hi (((((((((W.setCell ⟨g, 0, none⟩ (.int .i64 y0)).setCell ⟨g, 1, none⟩ (.int .i64 y1)).setCell ⟨g, 2, none⟩ (.int .i64 y2)).setCell ⟨g, 3, none⟩ (.int .i64 y3)).setCell ⟨g, 4, none⟩ (.int .i64 y4)).setCell ⟨g, 5, none⟩ (.int .i64 y5)).setCell ⟨g, 6, none⟩ (.slice a n c)).setCell ⟨g, 7, none⟩ (.int .i64 lo)).setCell ⟨g, 8, none⟩ (.int .i64 hi)) := by
  obtain ⟨rfl, rfl, rfl, rfl, rfl, rfl⟩ := h6
  exact dc_old hz hb hp hO hA
theorem dc_new' {w W : World} {p n c : Nat} {L : List V} {a : Option Addr} {x : Nat → Int} {lo hi y0 y1 y2 y3 y4 y5 : Int} (h6 : Is6 x y0 y1 y2 y3 y4 y5) (hz : Mp W p (fun _ => 0) (.slice none 0 0) 0 0) (hb : Below w.heap.size w W) (hO : G.Own W (p + 1) (.slice a n c) (L.drop 2)) :
    DC w p L W.heap.size a n c x lo hi (W.alloc (.cells #[.int .i64 y0, .int .i64 y1, .int .i64 y2, .int .i64 y3, .int .i64 y4, .int .i64 y5, .slice a n c, .int .i64 lo, .int .i64 hi] 31)) := by
  obtain ⟨rfl, rfl, rfl, rfl, rfl, rfl⟩ := h6
  exact dc_new hz hb hO
end Go.Proofs.Ytememimblalkfaa.RG
