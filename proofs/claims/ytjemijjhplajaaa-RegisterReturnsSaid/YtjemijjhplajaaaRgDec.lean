/- register.Decode. -/
import Derived.Test.YtjemijjhplajaaaRgCat
import Derived.Test.YtjemijjhplajaaaRgChk
import Derived.Test.YtjemijjhplajaaaGStep
import Derived.Test.YtjemijjhplajaaaQuietW
import Derived.Deep.RegionHeld3
import Derived.Deep.DeepCutAuto
import Derived.Deep.DeepMust
namespace Go.Proofs.Ytjemijjhplajaaa.RG
open Go Go.RowKit Go.Shelf
open G P
def doX (L : List V) (j : Nat) : Int := if decE L = 0 then decX L j else 0
def doR (L : List V) : List V := if decE L = 0 then L.drop 2 else []
def doLo (L : List V) : Int := if decE L = 0 then (decLo L : Int) else 0
def doHi (L : List V) : Int := if decE L = 0 then (decHi L : Int) else 0
/-- What both Decodes leave. -/
def DecR (w : World) (L : List V) (e : Ending) (W : World) : Prop :=
  ∃ a' c', e = .returned (.tuple #[.agg #[.int .i64 (doX L 0), .int .i64 (doX L 1), .int .i64 (doX L 2), .int .i64 (doX L 3), .int .i64 (doX L 4), .int .i64 (doX L 5), .slice a' (doR L).length c', .int .i64 (doLo L), .int .i64 (doHi L)], .int .i64 (decE L)]) ∧ G.Own W w.heap.size (.slice a' (doR L).length c') (doR L) ∧ Below w.heap.size w W
theorem DecR.no {w W : World} {L : List V} {E : Int} (h : decE L = E) (hE : E ≠ 0) (hb : Below w.heap.size w W) : DecR w L (.returned (.tuple #[.agg #[.int .i64 0, .int .i64 0, .int .i64 0, .int .i64 0, .int .i64 0, .int .i64 0, .slice none 0 0, .int .i64 0, .int .i64 0], .int .i64 E])) W := by
  have h0 : ¬ decE L = 0 := by rw [h]; exact hE
  have e : doR L = [] := by unfold doR; rw [if_neg h0]
  have ex : ∀ j, doX L j = 0 := fun j => by unfold doX; rw [if_neg h0]
  have el : doLo L = 0 := by unfold doLo; rw [if_neg h0]
  have eh : doHi L = 0 := by unfold doHi; rw [if_neg h0]
  refine ⟨none, 0, by rw [ex, ex, ex, ex, ex, ex, el, eh, e, h]; rfl, ?_, hb⟩
  rw [e]
  exact G.Own.nil _ _
theorem DecR.yes {w W : World} {L : List V} {a : Option Addr} {c n : Nat} {x : Nat → Int} {lo hi : Int} (h : decE L = 0) (hb : Below w.heap.size w W) (hn : (L.drop 2).length = n) (hx : ∀ j, j < 6 → x j = decX L j) (hlo : lo = (decLo L : Int)) (hhi : hi = (decHi L : Int))
    (hO : G.Own W w.heap.size (.slice a n c) (L.drop 2)) : DecR w L (.returned (.tuple #[.agg #[.int .i64 (x 0), .int .i64 (x 1), .int .i64 (x 2), .int .i64 (x 3), .int .i64 (x 4), .int .i64 (x 5), .slice a n c, .int .i64 lo, .int .i64 hi], .int .i64 0])) W := by
  have e : doR L = L.drop 2 := by unfold doR; rw [if_pos h]
  have ex : ∀ j, j < 6 → doX L j = x j := fun j hj => by unfold doX; rw [if_pos h, hx j hj]
  have el : doLo L = lo := by unfold doLo; rw [if_pos h, hlo]
  have eh : doHi L = hi := by unfold doHi; rw [if_pos h, hhi]
  refine ⟨a, c, by rw [ex 0 (by decide), ex 1 (by decide), ex 2 (by decide), ex 3 (by decide), ex 4 (by decide), ex 5 (by decide), el, eh, e, h, hn], ?_, hb⟩
  rw [e, hn]
  exact hO
theorem Row.dropV {w : World} {b off cap : Nat} {zs : List V} (h : Row w (some ⟨b, off, none⟩) zs cap) (n : Nat) (hn : n ≤ zs.length) : Row w (some ⟨b, off + n, none⟩) (zs.drop n) (cap - n) :=
  ⟨by have := h.room; rw [List.length_drop]; omega, by have := h.most; omega, fun j hj => by
    rw [List.length_drop] at hj
    obtain ⟨b', off', e, hc⟩ := h.el (n + j) (by omega)
    cases e
    refine ⟨b, off + n, rfl, ?_⟩
    rw [el_drop, show off + n + j = off + (n + j) by omega]
    exact hc⟩
theorem unal9 {W W' : World} {o : Obj} (h : Below (W.alloc o).heap.size (W.alloc o) W') : Below W.heap.size W W' := ((Below.refl _ W).alloc (Nat.le_refl _) o).trans (h.mono (by simp))
theorem bits_below (r : V) (s n t : Nat) (hs : s + n = t) (ht : t ≤ 64) (hn : n < 63) (w : World) :
    Calls Try.prog 22 #[.int .u64 (r.toNat : Int), .int .i64 (s : Int), .int .i64 (t : Int)] w fun e W => e = .returned (.int .i64 (fld r s n : Int)) ∧ Below w.heap.size w W :=
  (bits_any' r s n t hs ht hn w).mono fun e W h => ⟨h.1, by obtain ⟨k, hk⟩ := h.2; rw [hk]; exact belowN (Below.refl _ _) k⟩
theorem chk_dec {L : List V} (h2 : 2 ≤ L.length) (hf : (el L 0).toNat / 4294967296 = 1291845632) :
    chkE (decX L) (decN L : Int) (((L.drop 2).length : Nat) : Int) (decLo L : Int) (decHi L : Int) = decE L := by
  have hd : (L.drop 2).length = L.length - 2 := List.length_drop
  unfold chkE decE
  rw [if_neg (show ¬ L.length < 2 by omega), if_neg (show ¬ ¬ (el L 0).toNat / 4294967296 = 1291845632 from fun h => h hf)]
  by_cases h1 : okB (decX L) = false
  · rw [if_pos h1, if_pos h1]
  · rw [if_neg h1, if_neg h1, hd]
    by_cases h3 : 12 < decN L ∨ ¬ L.length = 2 + decN L
    · rw [if_pos h3, if_pos (by omega)]
    · rw [if_neg h3, if_neg (by omega)]
      by_cases h4 : 1048576 < decLo L
      · rw [if_pos (by omega), if_pos (by omega)]
      · rw [if_neg (by omega)]
        by_cases h5 : 1048576 < decHi L
        · rw [if_pos (by omega), if_pos (by omega)]
        · rw [if_neg (by omega), if_neg (by omega)]
/-- The map that is being read has been made. -/
structure DC (w : World) (p : Nat) (L : List V) (g : Nat) (a : Option Addr) (n c : Nat) (x : Nat → Int) (lo hi : Int) (W : World) : Prop where
  box : Mp W g x (.slice a n c) lo hi
  zero : Mp W p (fun _ => 0) (.slice none 0 0) 0 0
  own : G.Own W (p + 1) (.slice a n c) (L.drop 2)
  bel : Below w.heap.size w W
  lt : p < g
/-- A box of zeros that the slice does not lie in. -/
structure Alo (w : World) (p : Nat) (v : Value) (g : Nat) (W : World) : Prop where
  box : Mp W g (fun _ => 0) (.slice none 0 0) 0 0
  ne : v.ownBlock ≠ some g
  lt : p < g
theorem Alo.below {w v W : World} {p g : Nat} {u : Value} (h : Alo w p u g v) (hb : Below v.heap.size v W) : Alo w p u g W := ⟨h.box.below hb, h.ne, h.lt⟩
theorem Alo.made {w v W : World} {p B : Nat} {u : Value} {zs : List V} (hO : G.Own v B u zs) (hb : Below (v.alloc (.cells #[.int .i64 0, .int .i64 0, .int .i64 0, .int .i64 0, .int .i64 0, .int .i64 0, .slice none 0 0, .int .i64 0, .int .i64 0] 31)).heap.size (v.alloc (.cells #[.int .i64 0, .int .i64 0, .int .i64 0, .int .i64 0, .int .i64 0, .int .i64 0, .slice none 0 0, .int .i64 0, .int .i64 0] 31)) W) (hp : p < v.heap.size) : Alo w p u v.heap.size W :=
  ⟨(Mp.zero v).below hb, fun e => absurd (World.ownsRow.lt hO _ e).2 (Nat.lt_irrefl _), hp⟩
theorem Alo.old {w v W : World} {p g : Nat} {u : Value} {zs : List V} (hm : Mp v g (fun _ => 0) (.slice none 0 0) 0 0) (hb : Below v.heap.size v W) (hO : G.Own W v.heap.size u zs) (hp : p < g) : Alo w p u g W :=
  ⟨hm.below hb, G.own_ne hO hm.lt, hp⟩
theorem Alo.at {w v W : World} {p : Nat} {u : Value} {zs : List V} (hb : Below (v.alloc (.cells #[.int .i64 0, .int .i64 0, .int .i64 0, .int .i64 0, .int .i64 0, .int .i64 0, .slice none 0 0, .int .i64 0, .int .i64 0] 31)).heap.size (v.alloc (.cells #[.int .i64 0, .int .i64 0, .int .i64 0, .int .i64 0, .int .i64 0, .int .i64 0, .slice none 0 0, .int .i64 0, .int .i64 0] 31)) W) (hO : G.Own W (v.alloc (.cells #[.int .i64 0, .int .i64 0, .int .i64 0, .int .i64 0, .int .i64 0, .int .i64 0, .slice none 0 0, .int .i64 0, .int .i64 0] 31)).heap.size u zs) (hp : p < v.heap.size) : Alo w p u v.heap.size W :=
  ⟨(Mp.zero v).below hb, G.own_ne hO (by simp), hp⟩
theorem put9_own {W : World} {p B : Nat} {v : Value} {zs : List V} (h : G.Own W B v zs) (hne : v.ownBlock ≠ some p) (x : Nat → Int) (s : Value) (lo hi : Int) : G.Own (put9 W p x s lo hi) B v zs :=
  ((((((((h.other (p := ⟨p, 0, none⟩) _ hne).other (p := ⟨p, 1, none⟩) _ hne).other (p := ⟨p, 2, none⟩) _ hne).other (p := ⟨p, 3, none⟩) _ hne).other (p := ⟨p, 4, none⟩) _ hne).other (p := ⟨p, 5, none⟩) _ hne).other (p := ⟨p, 6, none⟩) _ hne).other (p := ⟨p, 7, none⟩) _ hne).other (p := ⟨p, 8, none⟩) _ hne
theorem put9_other {W : World} {p q : Nat} {y : Nat → Int} {s' : Value} {lo' hi' : Int} (h : Mp W q y s' lo' hi') (hne : p ≠ q) (x : Nat → Int) (s : Value) (lo hi : Int) : Mp (put9 W p x s lo hi) q y s' lo' hi' :=
  ((((((((h.other (q := ⟨p, 0, none⟩) hne _).other (q := ⟨p, 1, none⟩) hne _).other (q := ⟨p, 2, none⟩) hne _).other (q := ⟨p, 3, none⟩) hne _).other (q := ⟨p, 4, none⟩) hne _).other (q := ⟨p, 5, none⟩) hne _).other (q := ⟨p, 6, none⟩) hne _).other (q := ⟨p, 7, none⟩) hne _).other (q := ⟨p, 8, none⟩) hne _
theorem dc_old {w W : World} {p g n c : Nat} {L : List V} {a : Option Addr} {x : Nat → Int} {lo hi : Int} (hz : Mp W p (fun _ => 0) (.slice none 0 0) 0 0) (hb : Below w.heap.size w W) (hp : w.heap.size ≤ p) (hO : G.Own W (p + 1) (.slice a n c) (L.drop 2)) (hA : Alo w p (.slice a n c) g W) :
    DC w p L g a n c x lo hi (put9 W g x (.slice a n c) lo hi) :=
  ⟨put9_map hA.box x _ lo hi, put9_other hz (Nat.ne_of_gt hA.lt) x _ lo hi, put9_own hO hA.ne x _ lo hi, put9_below hb (by have := hA.lt; omega) x _ lo hi, hA.lt⟩
theorem dc_new {w W : World} {p n c : Nat} {L : List V} {a : Option Addr} {x : Nat → Int} {lo hi : Int} (hz : Mp W p (fun _ => 0) (.slice none 0 0) 0 0) (hb : Below w.heap.size w W) (hO : G.Own W (p + 1) (.slice a n c) (L.drop 2)) :
    DC w p L W.heap.size a n c x lo hi (W.alloc (.cells #[.int .i64 (x 0), .int .i64 (x 1), .int .i64 (x 2), .int .i64 (x 3), .int .i64 (x 4), .int .i64 (x 5), .slice a n c, .int .i64 lo, .int .i64 hi] 31)) :=
  ⟨Mp.new W x _ lo hi, hz.alloc _, hO.alloc _, hb.alloc hb.size _, hz.lt⟩
theorem DC.below {w W W' : World} {p g n c : Nat} {L : List V} {a : Option Addr} {x : Nat → Int} {lo hi : Int} (h : DC w p L g a n c x lo hi W) (hb : Below W.heap.size W W') : DC w p L g a n c x lo hi W' :=
  ⟨h.box.below hb, h.zero.below hb, h.own.below hb, h.bel.trans (hb.mono h.bel.size), h.lt⟩
/-- The six numbers, written out. -/
def Is6 (x : Nat → Int) (y0 y1 y2 y3 y4 y5 : Int) : Prop := y0 = x 0 ∧ y1 = x 1 ∧ y2 = x 2 ∧ y3 = x 3 ∧ y4 = x 4 ∧ y5 = x 5
theorem dec_is6 (L : List V) : Is6 (decX L) (fld (el L 0) 0 4 : Int) (fld (el L 0) 4 4 : Int) (fld (el L 0) 8 4 : Int) (fld (el L 0) 12 4 : Int) (fld (el L 0) 16 4 : Int) (fld (el L 0) 20 4 : Int) := ⟨rfl, rfl, rfl, rfl, rfl, rfl⟩
theorem dc_old' {w W : World} {p g n c : Nat} {L : List V} {a : Option Addr} {x : Nat → Int} {lo hi y0 y1 y2 y3 y4 y5 : Int} (h6 : Is6 x y0 y1 y2 y3 y4 y5) (hz : Mp W p (fun _ => 0) (.slice none 0 0) 0 0) (hb : Below w.heap.size w W) (hp : w.heap.size ≤ p) (hO : G.Own W (p + 1) (.slice a n c) (L.drop 2)) (hA : Alo w p (.slice a n c) g W) :
    DC w p L g a n c x lo hi (((((((((W.setCell ⟨g, 0, none⟩ (.int .i64 y0)).setCell ⟨g, 1, none⟩ (.int .i64 y1)).setCell ⟨g, 2, none⟩ (.int .i64 y2)).setCell ⟨g, 3, none⟩ (.int .i64 y3)).setCell ⟨g, 4, none⟩ (.int .i64 y4)).setCell ⟨g, 5, none⟩ (.int .i64 y5)).setCell ⟨g, 6, none⟩ (.slice a n c)).setCell ⟨g, 7, none⟩ (.int .i64 lo)).setCell ⟨g, 8, none⟩ (.int .i64 hi)) := by
  obtain ⟨rfl, rfl, rfl, rfl, rfl, rfl⟩ := h6
  exact dc_old hz hb hp hO hA
theorem dc_new' {w W : World} {p n c : Nat} {L : List V} {a : Option Addr} {x : Nat → Int} {lo hi y0 y1 y2 y3 y4 y5 : Int} (h6 : Is6 x y0 y1 y2 y3 y4 y5) (hz : Mp W p (fun _ => 0) (.slice none 0 0) 0 0) (hb : Below w.heap.size w W) (hO : G.Own W (p + 1) (.slice a n c) (L.drop 2)) :
    DC w p L W.heap.size a n c x lo hi (W.alloc (.cells #[.int .i64 y0, .int .i64 y1, .int .i64 y2, .int .i64 y3, .int .i64 y4, .int .i64 y5, .slice a n c, .int .i64 lo, .int .i64 hi] 31)) := by
  obtain ⟨rfl, rfl, rfl, rfl, rfl, rfl⟩ := h6
  exact dc_new hz hb hO
set_option maxRecDepth 100000 in
set_option maxHeartbeats 2000000 in
theorem decode_any (a : Option Addr) (L : List V) (c : Nat) (w : World) (hR : Row w a L c) (hl : L.length ≤ 1000) :
    Calls Try.prog 10 #[.slice a L.length c] w (DecR w L) := by
  have hroom := hR.room
  have hmost := hR.most
  have hz := Mp.zero w
  have HB0 := Lib.hid ((Below.refl _ w).alloc (Nat.le_refl _) (.cells #[.int .i64 0, .int .i64 0, .int .i64 0, .int .i64 0, .int .i64 0, .int .i64 0, .slice none 0 0, .int .i64 0, .int .i64 0] 31))
  obtain ⟨p, hp⟩ : ∃ p, w.heap.size = p := ⟨_, rfl⟩
  obtain ⟨w0, hw0⟩ : ∃ w0, w.alloc (.cells #[.int .i64 0, .int .i64 0, .int .i64 0, .int .i64 0, .int .i64 0, .int .i64 0, .slice none 0 0, .int .i64 0, .int .i64 0] 31) = w0 := ⟨_, rfl⟩
  rw [hw0] at HB0 hz
  rw [hp] at hz
  have HR := Lib.hid (hR.below HB0.out)
  have HZ := Lib.hid hz
  have HPZ := Lib.hid hp
  clear hR hz
  by_cases h2 : L.length < 2
  · have HE := Lib.hid (show decE L = 11 by unfold decE; rw [if_pos h2])
    obtain ⟨c0, c1, c2, c3, c4, c5, c6, c7, c8⟩ := HZ.out.all
    obtain ⟨f0, f1, f2, f3, f4, f5, f6, f7, f8⟩ := HZ.out.frees
    go_enter Try.func10, Try.ntmps10
    go_wp2_with fail
    have hq9 := put9_map HZ.out (fun _ => 0) (.slice none 0 0) 0 0
    obtain ⟨k0, k1, k2, k3, k4, k5, k6, k7, k8⟩ := hq9.all
    have hfin := put9_below HB0.out (show w.heap.size ≤ p from Nat.le_of_eq HPZ.out) (fun _ => 0) (.slice none 0 0) 0 0
    unfold put9 at k0 k1 k2 k3 k4 k5 k6 k7 k8 hfin
    exact bodyPost_ret (v := .tuple #[.agg #[.int .i64 0, .int .i64 0, .int .i64 0, .int .i64 0, .int .i64 0, .int .i64 0, .slice none 0 0, .int .i64 0, .int .i64 0], .int .i64 11]) (by simp [results, Try.results10, go_sem, k0, k1, k2, k3, k4, k5, k6, k7, k8]) rfl (DecR.no HE.out (by decide) hfin)
  · obtain ⟨b, off, rfl, hc0⟩ := HR.out.elV 0 (by omega)
    have hc1 := HR.out.cellV 1 (by omega)
    rw [Nat.add_zero] at hc0
    by_cases hf : (el L 0).toNat / 4294967296 = 1291845632
    · have hq : (((el L 0).toNat : Int) / 4294967296 != 1291845632) = false := by rw [bne_eq_false_iff_eq]; omega
      have HCH := Lib.hid (chk_dec (by omega) hf)
      clear hf
      go_enter Try.func10, Try.ntmps10
      go_wp2_with fail
      go_quiet (fail)
      obtain ⟨w1, hw1⟩ : ∃ w1, w0.drewN nq = w1 := ⟨_, rfl⟩
      rw [hw1]
      have hz1 : Mp w1 p (fun _ => 0) (.slice none 0 0) 0 0 := by rw [← hw1]; exact HZ.out.drewN nq
      have hb1 : Below w.heap.size w w1 := by rw [← hw1]; exact belowN HB0.out nq
      obtain ⟨ad, had⟩ : ∃ ad, (if c = 2 then some (⟨b, off, none⟩ : Addr) else some ⟨b, off + 2, none⟩) = ad := ⟨_, rfl⟩
      have hr1 : Row w1 ad (L.drop 2) (c - 2) := by
        rw [← hw1, ← had]
        split
        · rw [show L.drop 2 = [] from List.drop_eq_nil_of_le (by omega)]
          exact Row.nil _ _ _ (by omega)
        · exact Row.dropV (HR.out.drewN nq) 2 (by omega)
      have HR0 := Lib.hid (show Row w1.drew ad (L.drop 2) (c - 2) from hr1.drewN 1)
      have hp1 : p < w1.heap.size := hz1.lt
      have hp0 : w.heap.size ≤ p := Nat.le_of_eq HPZ.out
      have HZ1 := Lib.hid (show Mp w1.drew p (fun _ => 0) (.slice none 0 0) 0 0 from hz1.drewN 1)
      have HB1 := Lib.hid (show Below w.heap.size w w1.drew from belowN hb1 1)
      have HSH := Lib.hid (fun W => shape_of (el L 0) W)
      have HBL := Lib.hid (fun W => (show Calls Try.prog 22 #[.int .u64 ((el L 1).toNat : Int), .int .i64 0, .int .i64 32] W fun e W' => e = .returned (.int .i64 (decLo L : Int)) ∧ Below W.heap.size W W' from bits_below (el L 1) 0 32 32 rfl (by decide) (by decide) W))
      have HBH := Lib.hid (fun W => (show Calls Try.prog 22 #[.int .u64 ((el L 1).toNat : Int), .int .i64 32, .int .i64 64] W fun e W' => e = .returned (.int .i64 (decHi L : Int)) ∧ Below W.heap.size W W' from bits_below (el L 1) 32 32 64 rfl (by decide) (by decide) W))
      have hcl : ∀ W, Row W ad (L.drop 2) (c - 2) → Calls Try.prog 21 #[.slice ad (L.length - 2) (c - 2)] W fun e W' => ∃ a' cap', e = .returned (.slice a' (L.length - 2) cap') ∧ G.Own W' W.heap.size (.slice a' (L.length - 2) cap') (L.drop 2) ∧ Below W.heap.size W W' := fun W h => by
        have := clone_any ad (L.drop 2) (c - 2) W h (by rw [List.length_drop]; omega)
        rw [List.length_drop] at this
        exact this
      have HCL := Lib.hid hcl
      clear hz1 hb1 hr1 hcl hw1 hc0 hc1 HR HZ HB0 hw0
      go_upto_region 6 with fail
      go_cut [6] (fun s6 wx => ∃ (g : Nat) (a' : Option Addr) (c' : Nat), s6 = .pointer (some ⟨g, 0, none⟩) ∧ DC w p L g a' (L.length - 2) c' (decX L) (decLo L : Int) (decHi L : Int) wx)
      case first =>
        go_region_held3 (fun W' => True) (first | exact trivial) (first
          | ((try go_simp); go_at_call 20; (with_reducible refine (HSH.out _).mono ?_); go_must (rintro e v1 ⟨rfl, hb1⟩; have hv1 : Below w1.drew.heap.size w1.drew v1 := (by first | exact hb1 | exact unal9 (W := w1.drew) hb1); (try (have hA1 := (show Mp v1 w1.heap.size (fun _ => 0) (.slice none 0 0) 0 0 from (Mp.zero w1.drew).below hb1))); have HR1 := Lib.hid (HR0.out.below hv1); have HV1 := Lib.hid hv1; have hs1 : p < v1.heap.size := Nat.lt_of_lt_of_le hp1 hv1.size; clear hv1))
          | ((try go_simp); go_at_call 21; (with_reducible refine (HCL.out _ (by first | exact HR1.out | exact HR1.out.alloc _)).mono ?_); go_must (rintro e v2 ⟨a2, k2, rfl, ho2, hb2⟩; have hv2 : Below v1.heap.size v1 v2 := (by first | exact hb2 | exact unal9 hb2); (first | (have hA2 := (show Alo w p (.slice a2 (L.length - 2) k2) w1.heap.size v2 from Alo.old hA1 hb2 ho2 hp1); clear hA1) | (have hA2 := (show Alo w p (.slice a2 (L.length - 2) k2) v1.heap.size v2 from Alo.at hb2 ho2 hs1)) | skip); have HV2 := Lib.hid (HV1.out.trans (hv2.mono HV1.out.size)); have HO2 := Lib.hid (show G.Own v2 (p + 1) (.slice a2 (L.length - 2) k2) (L.drop 2) from ho2.mono (by first | exact hs1 | exact Nat.le_trans hs1 (by simp))); have hs2 : p < v2.heap.size := Nat.lt_of_lt_of_le hs1 hv2.size; clear hv2 ho2))
          | ((try go_simp); go_at_call 22; (with_reducible refine (HBL.out _).mono ?_); go_must (rintro e v3 ⟨rfl, hb3⟩; have hv3 : Below v2.heap.size v2 v3 := (by first | exact hb3 | exact unal9 hb3); (first | (have hA3 := hA2.below hv3; clear hA2) | (have hA3 := (show Alo w p (.slice a2 (L.length - 2) k2) v2.heap.size v3 from Alo.made HO2.out hb3 hs2)) | skip); have HV3 := Lib.hid (HV2.out.trans (hv3.mono HV2.out.size)); have HO3 := Lib.hid (HO2.out.below hv3); have hs3 : p < v3.heap.size := Nat.lt_of_lt_of_le hs2 hv3.size; clear hv3))
          | ((try go_simp); go_at_call 22; (with_reducible refine (HBH.out _).mono ?_); go_must (rintro e v4 ⟨rfl, hb4⟩; have hv4 : Below v3.heap.size v3 v4 := (by first | exact hb4 | exact unal9 hb4); (first | (have hA4 := hA3.below hv4; clear hA3) | (have hA4 := (show Alo w p (.slice a2 (L.length - 2) k2) v3.heap.size v4 from Alo.made HO3.out hb4 hs3)) | skip); have HV4 := Lib.hid (HV3.out.trans (hv4.mono HV3.out.size)); have HO4 := Lib.hid (HO3.out.below hv4); have hs4 : p < v4.heap.size := Nat.lt_of_lt_of_le hs3 hv4.size; (try (obtain ⟨f0, f1, f2, f3, f4, f5, f6, f7, f8⟩ := hA4.box.frees; obtain ⟨c0, c1, c2, c3, c4, c5, c6, c7, c8⟩ := hA4.box.all)); clear hv4)))
        all_goals (
          go_wp2_with fail
          go_meet
          first
            | with_reducible exact ⟨_, _, _, rfl, dc_old' (dec_is6 L) (HZ1.out.below HV4.out) (HB1.out.trans (HV4.out.mono HB1.out.size)) hp0 HO4.out hA4⟩
            | with_reducible exact ⟨_, _, _, rfl, dc_new' (dec_is6 L) (HZ1.out.below HV4.out) (HB1.out.trans (HV4.out.mono HB1.out.size)) HO4.out⟩)
      case rest =>
        clear HZ1 HB1 HR0 HCL HSH HBL HBH hp1 had
        obtain ⟨g, a', c', rfl, hdc⟩ := hcut
        have hdr : DC w p L g a' (L.length - 2) c' (decX L) (decLo L : Int) (decHi L : Int) wc.drew := ⟨hdc.box.drewN 1, hdc.zero.drewN 1, hdc.own.drewN 1, belowN hdc.bel 1, hdc.lt⟩
        have HD := Lib.hid hdr
        obtain ⟨c0, c1, c2, c3, c4, c5, c6, c7, c8⟩ := hdc.box.all
        have HBN := Lib.hid (fun W => (show Calls Try.prog 22 #[.int .u64 ((el L 0).toNat : Int), .int .i64 24, .int .i64 32] W fun e W' => e = .returned (.int .i64 (decN L : Int)) ∧ Below W.heap.size W W' from bits_below (el L 0) 24 8 32 rfl (by decide) (by decide) W))
        have hch : ∀ W, Calls Try.prog 18 #[.agg #[.int .i64 (decX L 0), .int .i64 (decX L 1), .int .i64 (decX L 2), .int .i64 (decX L 3), .int .i64 (decX L 4), .int .i64 (decX L 5), .slice a' (L.length - 2) c', .int .i64 (decLo L : Int), .int .i64 (decHi L : Int)], .int .i64 (decN L : Int)] W fun e W' => e = .returned (.int .i64 (decE L)) ∧ Below W.heap.size W W' := fun W => by
          have := check_any (decX L) a' (L.length - 2) c' (decLo L : Int) (decHi L : Int) (decN L : Int) W
          rw [← HCH.out, List.length_drop]
          exact this
        have HCK := Lib.hid hch
        clear hch hdr hdc
        go_upto_region 7 with fail
        go_region_held3 (fun W' => W'.cell? ⟨g, 0, none⟩ = some (.int .i64 (decX L 0)) ∧ W'.cell? ⟨g, 1, none⟩ = some (.int .i64 (decX L 1)) ∧ W'.cell? ⟨g, 2, none⟩ = some (.int .i64 (decX L 2)) ∧ W'.cell? ⟨g, 3, none⟩ = some (.int .i64 (decX L 3)) ∧ W'.cell? ⟨g, 4, none⟩ = some (.int .i64 (decX L 4)) ∧ W'.cell? ⟨g, 5, none⟩ = some (.int .i64 (decX L 5)) ∧ W'.cell? ⟨g, 6, none⟩ = some (.slice a' (L.length - 2) c') ∧ W'.cell? ⟨g, 7, none⟩ = some (.int .i64 (decLo L : Int)) ∧ W'.cell? ⟨g, 8, none⟩ = some (.int .i64 (decHi L : Int))) (first | exact HD.out.box.all) (first
          | ((try go_simp); go_at_call 22; (with_reducible refine (HBN.out _).mono ?_); go_must (rintro e v1 ⟨rfl, hb⟩; (have HD' := Lib.hid (HD.out.below hb)); (clear HD); (have HD := HD'); (clear HD'); clear hb))
          | ((try go_simp); go_at_call 18; (with_reducible refine (HCK.out _).mono ?_); go_must (rintro e v2 ⟨rfl, hb⟩; (have HD' := Lib.hid (HD.out.below hb)); (clear HD); (have HD := HD'); (clear HD'); clear hb)))
        obtain ⟨wd, hwd⟩ : ∃ wd, v2 = wd := ⟨_, rfl⟩
        rw [hwd] at HD ⊢
        clear c0 c1 c2 c3 c4 c5 c6 c7 c8 hwd
        obtain ⟨c0, c1, c2, c3, c4, c5, c6, c7, c8⟩ := HD.out.box.all
        obtain ⟨d0, d1, d2, d3, d4, d5, d6, d7, d8⟩ := HD.out.zero.all
        obtain ⟨f0, f1, f2, f3, f4, f5, f6, f7, f8⟩ := HD.out.zero.frees
        by_cases he : decE L = 0
        · have HE := Lib.hid he
          rw [he]
          go_wp2_with fail
          have hq9 := put9_map HD.out.zero (decX L) (.slice a' (L.length - 2) c') (decLo L : Int) (decHi L : Int)
          obtain ⟨k0, k1, k2, k3, k4, k5, k6, k7, k8⟩ := hq9.all
          have hfin := put9_below HD.out.bel (show w.heap.size ≤ p from Nat.le_of_eq HPZ.out) (decX L) (.slice a' (L.length - 2) c') (decLo L : Int) (decHi L : Int)
          have hown := (put9_own HD.out.own (G.own_ne HD.out.own (Nat.lt_succ_self p)) (decX L) (.slice a' (L.length - 2) c') (decLo L : Int) (decHi L : Int)).mono (show w.heap.size ≤ p + 1 by omega)
          unfold put9 at k0 k1 k2 k3 k4 k5 k6 k7 k8 hfin hown
          exact bodyPost_ret (v := .tuple #[.agg #[.int .i64 (decX L 0), .int .i64 (decX L 1), .int .i64 (decX L 2), .int .i64 (decX L 3), .int .i64 (decX L 4), .int .i64 (decX L 5), .slice a' (L.length - 2) c', .int .i64 (decLo L : Int), .int .i64 (decHi L : Int)], .int .i64 0]) (by simp [results, Try.results10, go_sem, k0, k1, k2, k3, k4, k5, k6, k7, k8]) rfl (DecR.yes HE.out hfin List.length_drop (fun _ _ => rfl) rfl rfl hown)
        · obtain ⟨E, hE⟩ : ∃ E, decE L = E := ⟨_, rfl⟩
          rw [hE] at he ⊢
          have HE := Lib.hid hE
          have HN := Lib.hid he
          have hne : (E != 0) = true := bne_iff_ne.2 he
          clear hE he
          go_wp2_with fail
          have hq9 := put9_map HD.out.zero (fun _ => 0) (.slice none 0 0) 0 0
          obtain ⟨k0, k1, k2, k3, k4, k5, k6, k7, k8⟩ := hq9.all
          have hfin := put9_below HD.out.bel (show w.heap.size ≤ p from Nat.le_of_eq HPZ.out) (fun _ => 0) (.slice none 0 0) 0 0
          unfold put9 at k0 k1 k2 k3 k4 k5 k6 k7 k8 hfin
          exact bodyPost_ret (v := .tuple #[.agg #[.int .i64 0, .int .i64 0, .int .i64 0, .int .i64 0, .int .i64 0, .int .i64 0, .slice none 0 0, .int .i64 0, .int .i64 0], .int .i64 E]) (by simp [results, Try.results10, go_sem, k0, k1, k2, k3, k4, k5, k6, k7, k8]) rfl (DecR.no HE.out HN.out hfin)
    · have HE := Lib.hid (show decE L = 12 by unfold decE; rw [if_neg h2, if_pos hf])
      have hq : (((el L 0).toNat : Int) / 4294967296 != 1291845632) = true := by rw [bne_iff_ne]; omega
      obtain ⟨f0, f1, f2, f3, f4, f5, f6, f7, f8⟩ := HZ.out.frees
      obtain ⟨c0, c1, c2, c3, c4, c5, c6, c7, c8⟩ := HZ.out.all
      clear hf
      go_enter Try.func10, Try.ntmps10
      go_wp2_with fail
      go_quiet (fail)
      go_wp2_with fail
      have hq9 := put9_map (HZ.out.drewN nq) (fun _ => 0) (.slice none 0 0) 0 0
      obtain ⟨k0, k1, k2, k3, k4, k5, k6, k7, k8⟩ := hq9.all
      have hfin := put9_below (belowN HB0.out nq) (show w.heap.size ≤ p from Nat.le_of_eq HPZ.out) (fun _ => 0) (.slice none 0 0) 0 0
      unfold put9 at k0 k1 k2 k3 k4 k5 k6 k7 k8 hfin
      exact bodyPost_ret (v := .tuple #[.agg #[.int .i64 0, .int .i64 0, .int .i64 0, .int .i64 0, .int .i64 0, .int .i64 0, .slice none 0 0, .int .i64 0, .int .i64 0], .int .i64 12]) (by simp [results, Try.results10, go_sem, k0, k1, k2, k3, k4, k5, k6, k7, k8]) rfl (DecR.no HE.out (by decide) hfin)
end Go.Proofs.Ytjemijjhplajaaa.RG
