/- chance.WrongBits. -/
import Derived.Test.YtmejneobfkbgeaaDoorB8
import Derived.Deep.RegionHeld
namespace Go.Proofs.YtmejneobfkbgeaaDoor
open Go Go.RowKit Go.Shelf

namespace C
open G (Box el)
theorem facs_pair {W : World} {x y : Nat} {a b : Option Addr} {c d : Nat} (ha : Row W a (M.dig x) c) (hb : Row W b (M.dig y) d) : Facs (W.alloc (.cells #[.slice a (M.dig x).length c, .slice b (M.dig y).length d] 24)) W.heap.size [x, y] :=
  facs_new (vs := [.slice a (M.dig x).length c, .slice b (M.dig y).length d]) (fun j hj => by
    match j, hj with
    | 0, _ => exact ⟨a, c, rfl, ha⟩
    | 1, _ => exact ⟨b, d, rfl, hb⟩)
theorem facs_pair1 {W : World} {o : Obj} {x y : Nat} {a b : Option Addr} {c d : Nat} (ha : Row W a (M.dig x) c) (hb : Row W b (M.dig y) d) : Facs ((W.alloc o).alloc (.cells #[.slice a (M.dig x).length c, .slice b (M.dig y).length d] 24)) (W.heap.size + 1) [x, y] := by
  have h := facs_pair (W := W.alloc o) (ha.alloc o) (hb.alloc o)
  rwa [World.size_alloc] at h
theorem Facs.alloc {W : World} {g : Nat} {xs : List Nat} (h : Facs W g xs) (o : Obj) : Facs (W.alloc o) g xs := h.below ((Below.refl _ W).alloc (Nat.le_refl _) o)
/-- product of two numbers that lie in a block -/
theorem product2F {V : World} {g x y : Nat} (hf : Facs V g [x, y]) (hx : (M.dig x).length ≤ 200) (hy : (M.dig y).length ≤ 200) (hxy : (M.dig (x * y)).length ≤ 200) :
    Calls Tryd.prog 10 #[.slice (some ⟨g, 0, none⟩) 2 2] V fun e W' => NumR (x * y) e W' ∧ Below V.heap.size V W' := by
  have h := product_any g 2 [x, y] V (by simp) (by omega) hf (fun j hj => by
    match j, hj with
    | 0, _ => exact hx
    | 1, _ => exact hy) (fun k hk => by
    match k, hk with
    | 0, _ => exact small_len (n := 1) (by decide)
    | 1, _ => rw [show prd [x, y] 1 = x by simp [prd, nth]]; exact hx
    | 2, _ => rw [prd2]; exact hxy)
  rw [show [x, y].length = 2 from rfl, prd2] at h
  exact h
theorem row_al {W : World} {g : Nat} {x : Obj} (h : W.heap[g]? = some x) (o : Obj) : (W.alloc o).heap[g]? = some x :=
  (((Below.refl W.heap.size W).alloc (Nat.le_refl _) o).block g (Array.getElem?_eq_some_iff.1 h).1).trans h
theorem row_below {W W' : World} {g : Nat} {x : Obj} (h : W.heap[g]? = some x) (hb : Below W.heap.size W W') : W'.heap[g]? = some x :=
  (hb.block g (Array.getElem?_eq_some_iff.1 h).1).trans h
/-- What WrongBits has in memory: the result, the counts; from B on, what is new. -/
structure Wb (u : World) (pr g4 : Nat) (av : Array Value) (W : World) : Prop where
  res : Bx W pr 0
  cnt : W.heap[g4]? = some (.cells av 32 (0, 0))
  bel : Below u.heap.size u W
  lo : u.heap.size ≤ pr
  up : pr < g4
theorem Wb.below {u W W' : World} {pr g4 : Nat} {av : Array Value} (h : Wb u pr g4 av W) (hb : Below W.heap.size W W') : Wb u pr g4 av W' :=
  ⟨h.res.below hb, row_below h.cnt hb, h.bel.trans (hb.mono h.bel.size), h.lo, h.up⟩
theorem Wb.lt {u W : World} {pr g4 : Nat} {av : Array Value} (h : Wb u pr g4 av W) : g4 < W.heap.size := (Array.getElem?_eq_some_iff.1 h.cnt).1
/-- A number was stored in a variable behind a call. -/
theorem wb_new {u V W : World} {pr g4 : Nat} {av : Array Value} {b : Option Addr} {d Q : Nat} (h : Wb u pr g4 av W) (hV : Below V.heap.size V W) (hr : Row W b (M.dig Q) d) : Bx (W.alloc (.cells #[.slice b (M.dig Q).length d] 24)) W.heap.size Q ∧ g4 < W.heap.size ∧ Wb u pr g4 av (W.alloc (.cells #[.slice b (M.dig Q).length d] 24)) ∧ Below V.heap.size V (W.alloc (.cells #[.slice b (M.dig Q).length d] 24)) :=
  ⟨Bx.new hr, h.lt, h.below ((Below.refl _ W).alloc (Nat.le_refl _) _), hV.alloc hV.size _⟩
/-- .. in one that was made ahead of it. -/
theorem wb_old {u V W : World} {pr g4 g : Nat} {av : Array Value} {b : Option Addr} {d Q : Nat} (h : Wb u pr g4 av W) (hV : Below V.heap.size V W) (hr : Row W b (M.dig Q) d) (hc : W.cell? ⟨g, 0, none⟩ = some (.slice none 0 0) ∧ W.frozen? ⟨g, 0, none⟩ = false) (hg : g4 < g) (hgV : V.heap.size ≤ g) : Bx (W.setCell ⟨g, 0, none⟩ (.slice b (M.dig Q).length d)) g Q ∧ g4 < g ∧ Wb u pr g4 av (W.setCell ⟨g, 0, none⟩ (.slice b (M.dig Q).length d)) ∧ Below V.heap.size V (W.setCell ⟨g, 0, none⟩ (.slice b (M.dig Q).length d)) := by
  have hz : Bx W g 0 := ⟨⟨none, 0, by rw [M.dig_zero]; exact hc.1, row_nil W⟩, hc.2⟩
  have h1 := h.up
  have h2 := h.lo
  exact ⟨hz.store hr, hg, ⟨h.res.other hz (by omega) _, (heap_setCell_other _ _ _ _ (show g4 ≠ g by omega)).trans h.cnt, h.bel.setCell (p := ⟨g, 0, none⟩) (by show u.heap.size ≤ g; omega) _, h.lo, h.up⟩, hV.setCell (p := ⟨g, 0, none⟩) hgV _⟩
/-- What WrongBits returns. -/
def wbN (k : Nat) : Nat := bwN (k : Int) + ((k + 1) * bwN ((k : Int) + 1) + (72 - k + 1) * bwN ((k : Int) - 1))

theorem range_of {W : World} {g : Nat} {L : List Value} (h : W.heap[g]? = some (.cells L.toArray 32 (0, 0))) : W.rangeAt g 0 L := fun j v hv => by
  rw [cell_of_row _ _ _ _ _ _ h, Nat.zero_add, List.getElem?_toArray]; exact hv
theorem range_below {W W' : World} {g : Nat} {L : List Value} (h : W.rangeAt g 0 L) (hb : Below W.heap.size W W') : W'.rangeAt g 0 L := fun j v hv => (hb.cell (lt_of_cell (h j v hv))).trans (h j v hv)
theorem range_set {W : World} {g p : Nat} {L : List Value} (h : W.rangeAt g 0 L) (hne : g ≠ p) (v : Value) : (W.setCell ⟨p, 0, none⟩ v).rangeAt g 0 L := fun j x hx => by
  rw [cell_other v (show g ≠ p from hne)]; exact h j x hx
theorem one_al2 {W W' : World} {o : Obj} (h : Below ((W.alloc (.cells #[.slice none 0 0] 24)).alloc o).heap.size ((W.alloc (.cells #[.slice none 0 0] 24)).alloc o) W') : W'.cell? ⟨W.heap.size, 0, none⟩ = some (.slice none 0 0) ∧ W'.frozen? ⟨W.heap.size, 0, none⟩ = false := one_al (unal h)

set_option maxRecDepth 100000 in
set_option maxHeartbeats 20000000 in
/-- **chance.WrongBits** -/
theorem wrongBits_any (k : Nat) (hk : k ≤ 72) (u : World) :
    Calls Tryd.prog 4 #[.int .i64 (k : Int)] u fun e W => NumE (wbN k) e W ∧ Below u.heap.size u W := by
  have HCH := Lib.hid (fun W => characters_any W)
  have HBW1 := Lib.hid (fun W => bitWords_any ((k : Int) + 1) (by omega) W)
  have HBW2 := Lib.hid (fun W => bitWords_any ((k : Int) - 1) (by omega) W)
  have HBW0 := Lib.hid (fun W => bitWords_any (k : Int) (by omega) W)
  have hb1 := bwN_le ((k : Int) + 1) (by omega)
  have hb2 := bwN_le ((k : Int) - 1) (by omega)
  have hb0 := bwN_le (k : Int) (by omega)
  obtain ⟨d, hd⟩ : ∃ d : Nat, 72 - k = d := ⟨_, rfl⟩
  have hdI : (72 : Int) - (k : Int) = (d : Int) := by omega
  have hwd : IntKind.i64.wrap (d : Int) = (d : Int) := by rw [IntKind.wrap_i64]; omega
  obtain ⟨e1, he1⟩ : ∃ e1 : Int, (k : Int) - 1 = e1 := ⟨_, rfl⟩
  have hwe : IntKind.i64.wrap e1 = e1 := by rw [IntKind.wrap_i64]; omega
  have HN1 := Lib.hid (fun W => (show Calls Tryd.prog 11 #[.int .i64 ((k : Int) + 1)] W (fun e W' => NumR (k + 1) e W' ∧ Below W.heap.size W W') from number_any (k + 1) W (by omega)))
  have HN2 := Lib.hid (fun W => (show Calls Tryd.prog 11 #[.int .i64 ((d : Int) + 1)] W (fun e W' => NumR (d + 1) e W' ∧ Below W.heap.size W W') from number_any (d + 1) W (by omega)))
  rw [show wbN k = bwN (k : Int) + ((k + 1) * bwN ((k : Int) + 1) + (72 - k + 1) * bwN ((k : Int) - 1)) from rfl, hd]
  rw [he1] at HBW2 hb2 ⊢
  obtain ⟨x0, h0⟩ : ∃ x, bwN (k : Int) = x := ⟨_, rfl⟩
  obtain ⟨x1, h1⟩ : ∃ x, bwN ((k : Int) + 1) = x := ⟨_, rfl⟩
  obtain ⟨x2, h2⟩ : ∃ x, bwN e1 = x := ⟨_, rfl⟩
  rw [h0] at HBW0 hb0 ⊢
  rw [h1] at HBW1 hb1 ⊢
  rw [h2] at HBW2 hb2 ⊢
  obtain ⟨k1, hk1⟩ : ∃ k1, k + 1 = k1 := ⟨_, rfl⟩
  obtain ⟨d1, hd1⟩ : ∃ d1, d + 1 = d1 := ⟨_, rfl⟩
  rw [hk1] at HN1 ⊢
  rw [hd1] at HN2 ⊢
  have hkb : k1 ≤ 2 ^ 7 := by have : (2 : Nat) ^ 7 = 128 := rfl; omega
  have hdb : d1 ≤ 2 ^ 7 := by have : (2 : Nat) ^ 7 = 128 := rfl; omega
  have hm1 := mul_bits hkb hb1
  have hm2 := mul_bits hdb hb2
  have HL1 := Lib.hid (show (M.dig k1).length ≤ 200 ∧ (M.dig x1).length ≤ 200 ∧ (M.dig (k1 * x1)).length ≤ 200 from ⟨bits_len hkb (by omega), bits_len hb1 (by omega), bits_len hm1 (by omega)⟩)
  have HL2 := Lib.hid (show (M.dig d1).length ≤ 200 ∧ (M.dig x2).length ≤ 200 ∧ (M.dig (d1 * x2)).length ≤ 200 from ⟨bits_len hdb (by omega), bits_len hb2 (by omega), bits_len hm2 (by omega)⟩)
  have hs1 : k1 * x1 + d1 * x2 ≤ 2 ^ (177 + 7) := bits128 (by have : 0 < 2 ^ 177 := Nat.pow_pos (by omega); generalize (2 : Nat) ^ (7 + 170) = Y at *; omega)
  have hs2 : x0 + (k1 * x1 + d1 * x2) ≤ 2 ^ (184 + 7) := bits128 (by have : (2 : Nat) ^ 170 ≤ 2 ^ 184 := Nat.pow_le_pow_right (by omega) (by omega); generalize (2 : Nat) ^ 184 = Y at *; generalize (2 : Nat) ^ 170 = Z at *; omega)
  have HL3 := Lib.hid (show (M.dig x0).length ≤ 200 ∧ (M.dig (k1 * x1 + d1 * x2)).length ≤ 200 ∧ (M.dig (x0 + (k1 * x1 + d1 * x2))).length ≤ 200 from ⟨bits_len hb0 (by omega), bits_len hs1 (by omega), bits_len hs2 (by omega)⟩)
  have hr0 := Bx.zero u
  obtain ⟨u1, hu1⟩ : ∃ u1, u.alloc (.cells #[.slice none 0 0] 24) = u1 := ⟨_, rfl⟩
  have hB1 : Below u.heap.size u u1 := by rw [← hu1]; exact (Below.refl _ u).alloc (Nat.le_refl _) _
  have hs : u1.heap.size = u.heap.size + 1 := by rw [← hu1]; exact World.size_alloc _ _
  obtain ⟨pr, hpr⟩ : ∃ pr, u.heap.size = pr := ⟨_, rfl⟩
  rw [hu1, hpr] at hr0
  have HR1 := Lib.hid hr0
  have HB1 := Lib.hid hB1
  have zn := zeroV_arrN
  obtain ⟨z73, hz73⟩ : ∃ z, arrN (List.replicate 73 0) = z := ⟨_, rfl⟩
  obtain ⟨L, hL⟩ : ∃ v, vsN CNT = v := ⟨_, rfl⟩
  obtain ⟨av, hav⟩ : ∃ v, L.toArray = v := ⟨_, rfl⟩
  have hav' : arrN CNT = av := by rw [← hav, ← hL]; rfl
  have hsz : av.size = 73 := by rw [← hav', arrN_size, CNT_eq]; rfl
  have hlen : L.length = 73 := by rw [← hsz, ← hav]; simp
  have hi : (Tryd.prog.info? 32).map (·.size) = some L.length := by rw [size_arrN, hlen]
  have hu := Tryd.underlying32
  have HSZ := Lib.hid (show (Tryd.prog.info? 32).map (·.size) = some av.size by rw [size_arrN, hsz])
  have HOL := Lib.hid (show z73.size = av.size by rw [hsz, ← hz73, arrN_size, List.length_replicate])
  have HAL := Lib.hid (show av.all (·.oneCell') = true by rw [← hav']; exact arrN_all _)
  rw [hz73] at zn
  rw [hav'] at HCH HBW0 HBW1 HBW2
  have HPR := Lib.hid hpr
  have hkI : ¬ (k : Int) < 0 := by omega
  have hkJ : (k : Int) ≤ 72 := by omega
  have hwk : IntKind.i64.wrap ((k : Int) + 1) = (k : Int) + 1 := by rw [IntKind.wrap_i64]; omega
  have hwd1 : IntKind.i64.wrap ((d : Int) + 1) = (d : Int) + 1 := by rw [IntKind.wrap_i64]; omega
  clear hz73 hav' hL hsz hlen hr0 hB1 hs hb0 hb1 hb2 h0 h1 h2 hm1 hm2 hs1 hs2 hkb hdb hk1 hd1 hd hpr
  have HAV := Lib.hid hav
  clear hav
  go_enter Tryd.func4, Tryd.ntmps4
  go_wp2_with fail
  (with_reducible refine (HCH.out _).mono ?_)
  rintro e w1 ⟨rfl, hb1⟩
  go_upto_region 4 with (refine wpList_store_row rfl 32 _ _ rfl w1.heap.size av rfl rfl 32 z73 (heap_alloc_last _ _) HSZ.out HOL.out HAL.out ?_; rw [World.setRow_alloc_new])
  obtain ⟨g4, hg4⟩ : ∃ g4, w1.heap.size = g4 := ⟨_, rfl⟩
  obtain ⟨w2, hw2⟩ : ∃ w2, w1.alloc (.cells av 32) = w2 := ⟨_, rfl⟩
  have hb2 : Below w1.heap.size w1 w2 := by rw [← hw2]; exact (Below.refl _ w1).alloc (Nat.le_refl _) _
  have hb12 := hb1.trans (hb2.mono hb1.size)
  have HW := Lib.hid (show Wb u pr g4 L.toArray w2 from ⟨HR1.out.below hb12, by rw [← hw2, ← hg4, HAV.out]; exact heap_alloc_new _ _, HB1.out.trans (hb12.mono HB1.out.size), by rw [HPR.out]; exact Nat.le_refl _, by have := HR1.out.lt; have := hb1.size; omega⟩)
  rw [hw2, hg4]
  simp only [Act.put]
  have hav := HAV.out
  subst hav
  clear hb1 hb2 hb12 HR1 HB1 HCH
  have hp4 := HW.out.up
  have HW0 := HW
  have HW := Lib.hid (show Wb u pr g4 L.toArray w2.drew from HW.out.below ((Below.refl _ w2).drew))
  go_cut [5] (fun s5 wx => ∃ g : Nat, s5 = .pointer (some ⟨g, 0, none⟩) ∧ Bx wx g (k1 * x1) ∧ g4 < g ∧ Wb u pr g4 L.toArray wx ∧ Below w2.heap.size w2 wx)
  case first =>
    have hR0 : w2.drew.rangeAt g4 0 L := range_of HW.out.cnt
    have hlg : g4 < w2.heap.size := HW.out.lt
    go_region_held (fun W' => W'.rangeAt g4 0 L) (first | assumption | (apply World.rangeAt_alloc; assumption) | (refine range_set (by assumption) (by omega) _) | (refine range_set (World.rangeAt_alloc (by assumption) _) (by omega) _)) (first
      | ((try go_simp); go_at_call 11; (with_reducible refine (HN1.out _).mono ?_); go_must (rintro e w10 ⟨⟨a0, c0, rfl, r0⟩, hb10⟩; have hv : Below w2.drew.heap.size w2.drew w10 := (by first | exact hb10 | exact unal (W := w2.drew) hb10); (first | (have hq := one_al (W := w2.drew) hb10; have hA := (show w10.cell? ⟨w2.heap.size, 0, none⟩ = some (.slice none 0 0) ∧ w10.frozen? ⟨w2.heap.size, 0, none⟩ = false from hq)) | skip); have hR10 : w10.rangeAt g4 0 L := range_below hR0 hv; have hs10 : w2.heap.size ≤ w10.heap.size := hv.size; have R0 := Lib.hid r0; have HV10 := Lib.hid hv; clear r0 hv))
      | ((try go_simp); go_at_call 12; (with_reducible refine (HBW1.out _).mono ?_); go_must (rintro e w11 ⟨⟨a1, c1, rfl, r1⟩, hb11⟩; have hv11 : Below w10.heap.size w10 w11 := (by first | exact hb11 | exact unal hb11); (try (have hA1 := (show w11.cell? ⟨w2.heap.size, 0, none⟩ = some (.slice none 0 0) ∧ w11.frozen? ⟨w2.heap.size, 0, none⟩ = false from ⟨(hv11.cell (lt_of_cell hA.1)).trans hA.1, (hv11.frozen (lt_of_cell hA.1)).trans hA.2⟩))); (first | have hC1 := one_al hb11 | skip); have R01 := Lib.hid (R0.out.below hv11); have R1 := Lib.hid r1; have hR11 : w11.rangeAt g4 0 L := range_below hR10 hv11; have HV11 := Lib.hid (HV10.out.trans (hv11.mono HV10.out.size)); have hs11 : w10.heap.size ≤ w11.heap.size := hv11.size; clear r1 hv11 hb11))
      | ((try go_simp); go_at_call 10; (with_reducible refine (product2F (x := k1) (y := x1) (by first | exact facs_pair R01.out R1.out | exact (facs_pair R01.out R1.out).alloc _ | exact facs_pair1 R01.out R1.out) HL1.out.1 HL1.out.2.1 HL1.out.2.2).mono ?_); go_must (rintro e w12 ⟨⟨a2, c2, rfl, r2⟩, hb12⟩; have hv12 : Below w11.heap.size w11 w12 := (by first | exact unal hb12 | exact unal (unal hb12)); (try (have hA2 := (show w12.cell? ⟨w2.heap.size, 0, none⟩ = some (.slice none 0 0) ∧ w12.frozen? ⟨w2.heap.size, 0, none⟩ = false from ⟨(hv12.cell (lt_of_cell hA1.1)).trans hA1.1, (hv12.frozen (lt_of_cell hA1.1)).trans hA1.2⟩); obtain ⟨pA, pAf⟩ := id hA2)); (try (have hC2 := (show w12.cell? ⟨w10.heap.size, 0, none⟩ = some (.slice none 0 0) ∧ w12.frozen? ⟨w10.heap.size, 0, none⟩ = false from ⟨(hv12.cell (lt_of_cell hC1.1)).trans hC1.1, (hv12.frozen (lt_of_cell hC1.1)).trans hC1.2⟩); obtain ⟨pC, pCf⟩ := id hC2)); (first | (have hD2 := (show w12.cell? ⟨w11.heap.size + 1, 0, none⟩ = some (.slice none 0 0) ∧ w12.frozen? ⟨w11.heap.size + 1, 0, none⟩ = false from by have := one_al hb12; rwa [World.size_alloc] at this); obtain ⟨pD, pDf⟩ := id hD2) | (have hE2 := one_al2 hb12; obtain ⟨pE, pEf⟩ := id hE2) | skip); have HK := Lib.hid (HW.out.below (HV11.out.trans (hv12.mono HV11.out.size))); have HVV := Lib.hid (show Below w2.heap.size w2 w12 from ((Below.refl _ w2).drew).trans (HV11.out.trans (hv12.mono HV11.out.size))); have RQ := Lib.hid r2; have hR12 : w12.rangeAt g4 0 L := range_below hR11 hv12; have hs12 : w11.heap.size ≤ w12.heap.size := hv12.size; clear r2 hv12 hb12)))
    all_goals (
      go_wp2_with fail
      go_meet
      first
        | with_reducible exact ⟨_, rfl, wb_new HK.out HVV.out RQ.out⟩
        | with_reducible exact ⟨_, rfl, wb_old HK.out HVV.out RQ.out hA2 (by omega) (by omega)⟩
        | with_reducible exact ⟨_, rfl, wb_old HK.out HVV.out RQ.out hC2 (by omega) (by omega)⟩
        | with_reducible exact ⟨_, rfl, wb_old HK.out HVV.out RQ.out hD2 (by omega) (by omega)⟩
        | with_reducible exact ⟨_, rfl, wb_old HK.out HVV.out RQ.out hE2 (by omega) (by omega)⟩)
  case rest =>
    obtain ⟨p5, rfl, hx5, hp5, hw5, _⟩ := hcut
    clear HW HW0 hg4 hw2
    have HX5 := Lib.hid hx5
    have HW := Lib.hid (show Wb u pr g4 L.toArray wc.drew from hw5.below ((Below.refl _ wc).drew))
    have hl5 := hx5.lt
    clear hx5 hw5
    go_upto_region 5 with fail
    go_cut [6] (fun s5 wx => ∃ g : Nat, s5 = .pointer (some ⟨g, 0, none⟩) ∧ Bx wx g (d1 * x2) ∧ g4 < g ∧ Wb u pr g4 L.toArray wx ∧ Below wc.heap.size wc wx)
    case first =>
      have hR0 : wc.drew.rangeAt g4 0 L := range_of HW.out.cnt
      have hlg : g4 < wc.heap.size := HW.out.lt
      go_region_held (fun W' => W'.rangeAt g4 0 L) (first | assumption | (apply World.rangeAt_alloc; assumption) | (refine range_set (by assumption) (by omega) _) | (refine range_set (World.rangeAt_alloc (by assumption) _) (by omega) _)) (first
        | ((try go_simp); go_at_call 11; (with_reducible refine (HN2.out _).mono ?_); go_must (rintro e w10 ⟨⟨a0, c0, rfl, r0⟩, hb10⟩; have hv : Below wc.drew.heap.size wc.drew w10 := (by first | exact hb10 | exact unal (W := wc.drew) hb10); (first | (have hq := one_al (W := wc.drew) hb10; have hA := (show w10.cell? ⟨wc.heap.size, 0, none⟩ = some (.slice none 0 0) ∧ w10.frozen? ⟨wc.heap.size, 0, none⟩ = false from hq)) | skip); have hR10 : w10.rangeAt g4 0 L := range_below hR0 hv; have hs10 : wc.heap.size ≤ w10.heap.size := hv.size; have R0 := Lib.hid r0; have HV10 := Lib.hid hv; clear r0 hv))
        | ((try go_simp); go_at_call 12; (with_reducible refine (HBW2.out _).mono ?_); go_must (rintro e w11 ⟨⟨a1, c1, rfl, r1⟩, hb11⟩; have hv11 : Below w10.heap.size w10 w11 := (by first | exact hb11 | exact unal hb11); (try (have hA1 := (show w11.cell? ⟨wc.heap.size, 0, none⟩ = some (.slice none 0 0) ∧ w11.frozen? ⟨wc.heap.size, 0, none⟩ = false from ⟨(hv11.cell (lt_of_cell hA.1)).trans hA.1, (hv11.frozen (lt_of_cell hA.1)).trans hA.2⟩))); (first | have hC1 := one_al hb11 | skip); have R01 := Lib.hid (R0.out.below hv11); have R1 := Lib.hid r1; have hR11 : w11.rangeAt g4 0 L := range_below hR10 hv11; have HV11 := Lib.hid (HV10.out.trans (hv11.mono HV10.out.size)); have hs11 : w10.heap.size ≤ w11.heap.size := hv11.size; clear r1 hv11 hb11))
        | ((try go_simp); go_at_call 10; (with_reducible refine (product2F (x := d1) (y := x2) (by first | exact facs_pair R01.out R1.out | exact (facs_pair R01.out R1.out).alloc _ | exact facs_pair1 R01.out R1.out) HL2.out.1 HL2.out.2.1 HL2.out.2.2).mono ?_); go_must (rintro e w12 ⟨⟨a2, c2, rfl, r2⟩, hb12⟩; have hv12 : Below w11.heap.size w11 w12 := (by first | exact unal hb12 | exact unal (unal hb12)); (try (have hA2 := (show w12.cell? ⟨wc.heap.size, 0, none⟩ = some (.slice none 0 0) ∧ w12.frozen? ⟨wc.heap.size, 0, none⟩ = false from ⟨(hv12.cell (lt_of_cell hA1.1)).trans hA1.1, (hv12.frozen (lt_of_cell hA1.1)).trans hA1.2⟩); obtain ⟨pA, pAf⟩ := id hA2)); (try (have hC2 := (show w12.cell? ⟨w10.heap.size, 0, none⟩ = some (.slice none 0 0) ∧ w12.frozen? ⟨w10.heap.size, 0, none⟩ = false from ⟨(hv12.cell (lt_of_cell hC1.1)).trans hC1.1, (hv12.frozen (lt_of_cell hC1.1)).trans hC1.2⟩); obtain ⟨pC, pCf⟩ := id hC2)); (first | (have hD2 := (show w12.cell? ⟨w11.heap.size + 1, 0, none⟩ = some (.slice none 0 0) ∧ w12.frozen? ⟨w11.heap.size + 1, 0, none⟩ = false from by have := one_al hb12; rwa [World.size_alloc] at this); obtain ⟨pD, pDf⟩ := id hD2) | (have hE2 := one_al2 hb12; obtain ⟨pE, pEf⟩ := id hE2) | skip); have HK := Lib.hid (HW.out.below (HV11.out.trans (hv12.mono HV11.out.size))); have HVV := Lib.hid (show Below wc.heap.size wc w12 from ((Below.refl _ wc).drew).trans (HV11.out.trans (hv12.mono HV11.out.size))); have RQ := Lib.hid r2; have hR12 : w12.rangeAt g4 0 L := range_below hR11 hv12; have hs12 : w11.heap.size ≤ w12.heap.size := hv12.size; clear r2 hv12 hb12)))
      all_goals (
        go_wp2_with fail
        go_meet
        first
          | with_reducible exact ⟨_, rfl, wb_new HK.out HVV.out RQ.out⟩
          | with_reducible exact ⟨_, rfl, wb_old HK.out HVV.out RQ.out hA2 (by omega) (by omega)⟩
          | with_reducible exact ⟨_, rfl, wb_old HK.out HVV.out RQ.out hC2 (by omega) (by omega)⟩
          | with_reducible exact ⟨_, rfl, wb_old HK.out HVV.out RQ.out hD2 (by omega) (by omega)⟩
          | with_reducible exact ⟨_, rfl, wb_old HK.out HVV.out RQ.out hE2 (by omega) (by omega)⟩)
    case rest =>
      obtain ⟨p6, rfl, hx6, hp6, hw6, hb6⟩ := hcut
      obtain ⟨a5, c5, q5, r5⟩ := (HX5.out.below hb6).cell
      obtain ⟨a6, c6, q6, r6⟩ := hx6.cell
      have hp4 := hw6.up
      have HW6 := Lib.hid (show Wb u pr g4 L.toArray wc.drew from hw6.below ((Below.refl _ wc).drew))
      have s1 : wc.drew.rangeAt g4 0 L := range_of HW6.out.cnt
      have s2 : wc.drew.cell? ⟨p5, 0, none⟩ = some (.slice a5 (M.dig (k1 * x1)).length c5) := q5
      have s3 : wc.drew.cell? ⟨p6, 0, none⟩ = some (.slice a6 (M.dig (d1 * x2)).length c6) := q6
      have R5 := Lib.hid (show Row wc.drew a5 (M.dig (k1 * x1)) c5 from r5.drewN 1)
      have R6 := Lib.hid (show Row wc.drew a6 (M.dig (d1 * x2)) c6 from r6.drewN 1)
      clear HX5 HW hx6 hw6 hb6 q5 q6 r5 r6
      obtain rfl := HPR.out
      have hne4 : g4 ≠ u.heap.size := by omega
      have hne5 : p5 ≠ u.heap.size := by omega
      have hne6 : p6 ≠ u.heap.size := by omega
      have hup := HW6.out.lo
      go_upto_region 6 with fail
      go_region_held (fun W' => W'.rangeAt g4 0 L ∧ W'.cell? ⟨p5, 0, none⟩ = some (.slice a5 (M.dig (k1 * x1)).length c5) ∧ W'.cell? ⟨p6, 0, none⟩ = some (.slice a6 (M.dig (d1 * x2)).length c6)) (refine ⟨?_, ?_, ?_⟩ <;> first | assumption | (refine range_set (by assumption) (by assumption) _) | (rw [cell_other _ (by assumption)]; assumption)) (first
        | ((try go_simp); go_at_call 12; (with_reducible refine (HBW0.out _).mono ?_); go_must (rintro e w10 ⟨⟨a0, c0, rfl, r0⟩, hb10⟩; have t1 : w10.rangeAt g4 0 L := range_below s1 hb10; have t2 := (hb10.cell (lt_of_cell s2)).trans s2; have t3 := (hb10.cell (lt_of_cell s3)).trans s3; have HP1 := Lib.hid (plus_any a5 a6 c5 c6 (k1 * x1) (d1 * x2) w10 HL1.out.2.2 HL2.out.2.2 HL3.out.2.1 (R5.out.below hb10) (R6.out.below hb10)); have R0 := Lib.hid r0; have HW10 := Lib.hid (HW6.out.below hb10); clear r0 hb10))
        | ((try go_simp); go_at_call 13; (with_reducible refine HP2.out.mono ?_); go_must (rintro e w12 ⟨⟨a2, c2, rfl, r2⟩, hb12⟩; have v1 : w12.rangeAt g4 0 L := range_below y1 hb12; have v2 := (hb12.cell (lt_of_cell y2)).trans y2; have v3 := (hb12.cell (lt_of_cell y3)).trans y3; have hw := HW11.out.below hb12; obtain ⟨_, _, z1, _⟩ := hw.res.cell; have z2 := hw.res.free; have d4 : (w12.setCell ⟨u.heap.size, 0, none⟩ (.slice a2 (M.dig (x0 + (k1 * x1 + d1 * x2))).length c2)).cell? ⟨u.heap.size, 0, none⟩ = some (.slice a2 (M.dig (x0 + (k1 * x1 + d1 * x2))).length c2) := World.cell?_setCell_same' _ _ _ (by rw [z1]; rfl); have HZ := Lib.hid (r2.store z1 (.slice a2 (M.dig (x0 + (k1 * x1 + d1 * x2))).length c2)); have HB6 := Lib.hid (hw.bel.setCell (p := ⟨u.heap.size, 0, none⟩) hup (.slice a2 (M.dig (x0 + (k1 * x1 + d1 * x2))).length c2)); clear hw r2 hb12))
        | ((try go_simp); go_at_call 13; (with_reducible refine HP1.out.mono ?_); go_must (rintro e w11 ⟨⟨a1, c1, rfl, r1⟩, hb11⟩; have y1 : w11.rangeAt g4 0 L := range_below t1 hb11; have y2 := (hb11.cell (lt_of_cell t2)).trans t2; have y3 := (hb11.cell (lt_of_cell t3)).trans t3; have HP2 := Lib.hid (plus_any a0 a1 c0 c1 x0 (k1 * x1 + d1 * x2) w11 HL3.out.1 HL3.out.2.1 HL3.out.2.2 (R0.out.below hb11) r1); have HW11 := Lib.hid (HW10.out.below hb11); clear r1 hb11)))
      go_wp2_with fail
      exact bodyPost_ret (v := .tuple #[.agg #[.slice a2 (M.dig (x0 + (k1 * x1 + d1 * x2))).length c2], .int .i64 0]) (by simp [results, Tryd.results4, go_sem, d4]) rfl ⟨⟨a2, c2, rfl, HZ.out⟩, HB6.out⟩
end C
end Go.Proofs.YtmejneobfkbgeaaDoor
