/- chance.WrongBits. chance's numbers, in a form that is reckoned fast. nat.Gcd. append of any slice of ints, with no word on a nil one's room. -/
import Derived.Test.YtknjoajeilgieaaDoorB8
import Derived.Deep.RegionHeld
import Derived.Deep.RegionHeld3
namespace Go.Proofs.YtknjoajeilgieaaDoor
open Go Go.RowKit Go.Shelf

namespace C
open G (Box el)
theorem facs_pair {W : World} {x y : Nat} {a b : Option Addr} {c d : Nat} (ha : Row W a (M.dig x) c) (hb : Row W b (M.dig y) d) : Facs (W.alloc (.cells #[.slice a (M.dig x).length c, .slice b (M.dig y).length d] 24)) W.heap.size [x, y] :=
  facs_new (vs := [.slice a (M.dig x).length c, .slice b (M.dig y).length d]) (fun j hj => by
    match j, hj with
    | 0, _ => exact ⟨a, c, rfl, ha⟩
    | 1, _ => exact ⟨b, d, rfl, hb⟩)
theorem facs_pair1 {W : World} {o : Obj} {x y : Nat} {a b : Option Addr} {c d : Nat} (ha : Row W a (M.dig x) c) (hb : Row W b (M.dig y) d) : Facs ((W.alloc o).alloc (.cells #[.slice a (M.dig x).length c, .slice b (M.dig y).length d] 24)) (W.heap.size + 1) [x, y] := by
  have h := facs_pair (W := W.alloc o) (ha.alloc o) (hb.alloc o)
  rwa [World.size_alloc] at h
theorem Facs.alloc {W : World} {g : Nat} {xs : List Nat} (h : Facs W g xs) (o : Obj) : Facs (W.alloc o) g xs := h.below ((Below.refl _ W).alloc (Nat.le_refl _) o)
/-- product of two numbers that lie in a block -/
theorem product2F {V : World} {g x y : Nat} (hf : Facs V g [x, y]) (hx : (M.dig x).length ≤ 200) (hy : (M.dig y).length ≤ 200) (hxy : (M.dig (x * y)).length ≤ 200) :
    Calls Tryd.prog 30 #[.slice (some ⟨g, 0, none⟩) 2 2] V fun e W' => NumR (x * y) e W' ∧ Below V.heap.size V W' := by
  have h := product_any g 2 [x, y] V (by simp) (by omega) hf (fun j hj => by
    match j, hj with
    | 0, _ => exact hx
    | 1, _ => exact hy) (fun k hk => by
    match k, hk with
    | 0, _ => exact small_len (n := 1) (by decide)
    | 1, _ => rw [show prd [x, y] 1 = x by simp [prd, nth]]; exact hx
    | 2, _ => rw [prd2]; exact hxy)
  rw [show [x, y].length = 2 from rfl, prd2] at h
  exact h
theorem row_al {W : World} {g : Nat} {x : Obj} (h : W.heap[g]? = some x) (o : Obj) : (W.alloc o).heap[g]? = some x :=
  (((Below.refl W.heap.size W).alloc (Nat.le_refl _) o).block g (Array.getElem?_eq_some_iff.1 h).1).trans h
theorem row_below {W W' : World} {g : Nat} {x : Obj} (h : W.heap[g]? = some x) (hb : Below W.heap.size W W') : W'.heap[g]? = some x :=
  (hb.block g (Array.getElem?_eq_some_iff.1 h).1).trans h
/-- What WrongBits has in memory: the result, the counts; from B on, what is new. -/
structure Wb (u : World) (pr g4 : Nat) (av : Array Value) (W : World) : Prop where
  res : Bx W pr 0
  cnt : W.heap[g4]? = some (.cells av 52 (0, 0))
  bel : Below u.heap.size u W
  lo : u.heap.size ≤ pr
  up : pr < g4
theorem Wb.below {u W W' : World} {pr g4 : Nat} {av : Array Value} (h : Wb u pr g4 av W) (hb : Below W.heap.size W W') : Wb u pr g4 av W' :=
  ⟨h.res.below hb, row_below h.cnt hb, h.bel.trans (hb.mono h.bel.size), h.lo, h.up⟩
theorem Wb.lt {u W : World} {pr g4 : Nat} {av : Array Value} (h : Wb u pr g4 av W) : g4 < W.heap.size := (Array.getElem?_eq_some_iff.1 h.cnt).1
/-- A number was stored in a variable behind a call. -/
theorem wb_new {u V W : World} {pr g4 : Nat} {av : Array Value} {b : Option Addr} {d Q : Nat} (h : Wb u pr g4 av W) (hV : Below V.heap.size V W) (hr : Row W b (M.dig Q) d) : Bx (W.alloc (.cells #[.slice b (M.dig Q).length d] 24)) W.heap.size Q ∧ g4 < W.heap.size ∧ Wb u pr g4 av (W.alloc (.cells #[.slice b (M.dig Q).length d] 24)) ∧ Below V.heap.size V (W.alloc (.cells #[.slice b (M.dig Q).length d] 24)) :=
  ⟨Bx.new hr, h.lt, h.below ((Below.refl _ W).alloc (Nat.le_refl _) _), hV.alloc hV.size _⟩
/-- .. in one that was made ahead of it. -/
theorem wb_old {u V W : World} {pr g4 g : Nat} {av : Array Value} {b : Option Addr} {d Q : Nat} (h : Wb u pr g4 av W) (hV : Below V.heap.size V W) (hr : Row W b (M.dig Q) d) (hc : W.cell? ⟨g, 0, none⟩ = some (.slice none 0 0) ∧ W.frozen? ⟨g, 0, none⟩ = false) (hg : g4 < g) (hgV : V.heap.size ≤ g) : Bx (W.setCell ⟨g, 0, none⟩ (.slice b (M.dig Q).length d)) g Q ∧ g4 < g ∧ Wb u pr g4 av (W.setCell ⟨g, 0, none⟩ (.slice b (M.dig Q).length d)) ∧ Below V.heap.size V (W.setCell ⟨g, 0, none⟩ (.slice b (M.dig Q).length d)) := by
  have hz : Bx W g 0 := ⟨⟨none, 0, by rw [M.dig_zero]; exact hc.1, row_nil W⟩, hc.2⟩
  have h1 := h.up
  have h2 := h.lo
  exact ⟨hz.store hr, hg, ⟨h.res.other hz (by omega) _, (heap_setCell_other _ _ _ _ (show g4 ≠ g by omega)).trans h.cnt, h.bel.setCell (p := ⟨g, 0, none⟩) (by show u.heap.size ≤ g; omega) _, h.lo, h.up⟩, hV.setCell (p := ⟨g, 0, none⟩) hgV _⟩
/-- What WrongBits returns. -/
def wbN (k : Nat) : Nat := bwN (k : Int) + ((k + 1) * bwN ((k : Int) + 1) + (72 - k + 1) * bwN ((k : Int) - 1))

theorem range_of {W : World} {g : Nat} {L : List Value} (h : W.heap[g]? = some (.cells L.toArray 52 (0, 0))) : W.rangeAt g 0 L := fun j v hv => by
  rw [cell_of_row _ _ _ _ _ _ h, Nat.zero_add, List.getElem?_toArray]; exact hv
theorem range_below {W W' : World} {g : Nat} {L : List Value} (h : W.rangeAt g 0 L) (hb : Below W.heap.size W W') : W'.rangeAt g 0 L := fun j v hv => (hb.cell (lt_of_cell (h j v hv))).trans (h j v hv)
theorem range_set {W : World} {g p : Nat} {L : List Value} (h : W.rangeAt g 0 L) (hne : g ≠ p) (v : Value) : (W.setCell ⟨p, 0, none⟩ v).rangeAt g 0 L := fun j x hx => by
  rw [cell_other v (show g ≠ p from hne)]; exact h j x hx
theorem one_al2 {W W' : World} {o : Obj} (h : Below ((W.alloc (.cells #[.slice none 0 0] 24)).alloc o).heap.size ((W.alloc (.cells #[.slice none 0 0] 24)).alloc o) W') : W'.cell? ⟨W.heap.size, 0, none⟩ = some (.slice none 0 0) ∧ W'.frozen? ⟨W.heap.size, 0, none⟩ = false := one_al (unal h)

set_option maxRecDepth 100000 in
set_option maxHeartbeats 20000000 in
/-- **chance.WrongBits** -/
theorem wrongBits_any (k : Nat) (hk : k ≤ 72) (u : World) :
    Calls Tryd.prog 9 #[.int .i64 (k : Int)] u fun e W => NumE (wbN k) e W ∧ Below u.heap.size u W := by
  have HCH := Lib.hid (fun W => characters_any W)
  have HBW1 := Lib.hid (fun W => bitWords_any ((k : Int) + 1) (by omega) W)
  have HBW2 := Lib.hid (fun W => bitWords_any ((k : Int) - 1) (by omega) W)
  have HBW0 := Lib.hid (fun W => bitWords_any (k : Int) (by omega) W)
  have hb1 := bwN_le ((k : Int) + 1) (by omega)
  have hb2 := bwN_le ((k : Int) - 1) (by omega)
  have hb0 := bwN_le (k : Int) (by omega)
  obtain ⟨d, hd⟩ : ∃ d : Nat, 72 - k = d := ⟨_, rfl⟩
  have hdI : (72 : Int) - (k : Int) = (d : Int) := by omega
  have hwd : IntKind.i64.wrap (d : Int) = (d : Int) := by rw [IntKind.wrap_i64]; omega
  obtain ⟨e1, he1⟩ : ∃ e1 : Int, (k : Int) - 1 = e1 := ⟨_, rfl⟩
  have hwe : IntKind.i64.wrap e1 = e1 := by rw [IntKind.wrap_i64]; omega
  have HN1 := Lib.hid (fun W => (show Calls Tryd.prog 31 #[.int .i64 ((k : Int) + 1)] W (fun e W' => NumR (k + 1) e W' ∧ Below W.heap.size W W') from number_any (k + 1) W (by omega)))
  have HN2 := Lib.hid (fun W => (show Calls Tryd.prog 31 #[.int .i64 ((d : Int) + 1)] W (fun e W' => NumR (d + 1) e W' ∧ Below W.heap.size W W') from number_any (d + 1) W (by omega)))
  rw [show wbN k = bwN (k : Int) + ((k + 1) * bwN ((k : Int) + 1) + (72 - k + 1) * bwN ((k : Int) - 1)) from rfl, hd]
  rw [he1] at HBW2 hb2 ⊢
  obtain ⟨x0, h0⟩ : ∃ x, bwN (k : Int) = x := ⟨_, rfl⟩
  obtain ⟨x1, h1⟩ : ∃ x, bwN ((k : Int) + 1) = x := ⟨_, rfl⟩
  obtain ⟨x2, h2⟩ : ∃ x, bwN e1 = x := ⟨_, rfl⟩
  rw [h0] at HBW0 hb0 ⊢
  rw [h1] at HBW1 hb1 ⊢
  rw [h2] at HBW2 hb2 ⊢
  obtain ⟨k1, hk1⟩ : ∃ k1, k + 1 = k1 := ⟨_, rfl⟩
  obtain ⟨d1, hd1⟩ : ∃ d1, d + 1 = d1 := ⟨_, rfl⟩
  rw [hk1] at HN1 ⊢
  rw [hd1] at HN2 ⊢
  have hkb : k1 ≤ 2 ^ 7 := by have : (2 : Nat) ^ 7 = 128 := rfl; omega
  have hdb : d1 ≤ 2 ^ 7 := by have : (2 : Nat) ^ 7 = 128 := rfl; omega
  have hm1 := mul_bits hkb hb1
  have hm2 := mul_bits hdb hb2
  have HL1 := Lib.hid (show (M.dig k1).length ≤ 200 ∧ (M.dig x1).length ≤ 200 ∧ (M.dig (k1 * x1)).length ≤ 200 from ⟨bits_len hkb (by omega), bits_len hb1 (by omega), bits_len hm1 (by omega)⟩)
  have HL2 := Lib.hid (show (M.dig d1).length ≤ 200 ∧ (M.dig x2).length ≤ 200 ∧ (M.dig (d1 * x2)).length ≤ 200 from ⟨bits_len hdb (by omega), bits_len hb2 (by omega), bits_len hm2 (by omega)⟩)
  have hs1 : k1 * x1 + d1 * x2 ≤ 2 ^ (177 + 7) := bits128 (by have : 0 < 2 ^ 177 := Nat.pow_pos (by omega); generalize (2 : Nat) ^ (7 + 170) = Y at *; omega)
  have hs2 : x0 + (k1 * x1 + d1 * x2) ≤ 2 ^ (184 + 7) := bits128 (by have : (2 : Nat) ^ 170 ≤ 2 ^ 184 := Nat.pow_le_pow_right (by omega) (by omega); generalize (2 : Nat) ^ 184 = Y at *; generalize (2 : Nat) ^ 170 = Z at *; omega)
  have HL3 := Lib.hid (show (M.dig x0).length ≤ 200 ∧ (M.dig (k1 * x1 + d1 * x2)).length ≤ 200 ∧ (M.dig (x0 + (k1 * x1 + d1 * x2))).length ≤ 200 from ⟨bits_len hb0 (by omega), bits_len hs1 (by omega), bits_len hs2 (by omega)⟩)
  have hr0 := Bx.zero u
  obtain ⟨u1, hu1⟩ : ∃ u1, u.alloc (.cells #[.slice none 0 0] 24) = u1 := ⟨_, rfl⟩
  have hB1 : Below u.heap.size u u1 := by rw [← hu1]; exact (Below.refl _ u).alloc (Nat.le_refl _) _
  have hs : u1.heap.size = u.heap.size + 1 := by rw [← hu1]; exact World.size_alloc _ _
  obtain ⟨pr, hpr⟩ : ∃ pr, u.heap.size = pr := ⟨_, rfl⟩
  rw [hu1, hpr] at hr0
  have HR1 := Lib.hid hr0
  have HB1 := Lib.hid hB1
  have zn := zeroV_arrN
  obtain ⟨z73, hz73⟩ : ∃ z, arrN (List.replicate 73 0) = z := ⟨_, rfl⟩
  obtain ⟨L, hL⟩ : ∃ v, vsN CNT = v := ⟨_, rfl⟩
  obtain ⟨av, hav⟩ : ∃ v, L.toArray = v := ⟨_, rfl⟩
  have hav' : arrN CNT = av := by rw [← hav, ← hL]; rfl
  have hsz : av.size = 73 := by rw [← hav', arrN_size, CNT_eq]; rfl
  have hlen : L.length = 73 := by rw [← hsz, ← hav]; simp
  have hi : (Tryd.prog.info? 52).map (·.size) = some L.length := by rw [size_arrN, hlen]
  have hu := Tryd.underlying52
  have HSZ := Lib.hid (show (Tryd.prog.info? 52).map (·.size) = some av.size by rw [size_arrN, hsz])
  have HOL := Lib.hid (show z73.size = av.size by rw [hsz, ← hz73, arrN_size, List.length_replicate])
  have HAL := Lib.hid (show av.all (·.oneCell') = true by rw [← hav']; exact arrN_all _)
  rw [hz73] at zn
  rw [hav'] at HCH HBW0 HBW1 HBW2
  have HPR := Lib.hid hpr
  have hkI : ¬ (k : Int) < 0 := by omega
  have hkJ : (k : Int) ≤ 72 := by omega
  have hwk : IntKind.i64.wrap ((k : Int) + 1) = (k : Int) + 1 := by rw [IntKind.wrap_i64]; omega
  have hwd1 : IntKind.i64.wrap ((d : Int) + 1) = (d : Int) + 1 := by rw [IntKind.wrap_i64]; omega
  clear hz73 hav' hL hsz hlen hr0 hB1 hs hb0 hb1 hb2 h0 h1 h2 hm1 hm2 hs1 hs2 hkb hdb hk1 hd1 hd hpr
  have HAV := Lib.hid hav
  clear hav
  go_enter Tryd.func9, Tryd.ntmps9
  go_wp2_with fail
  (with_reducible refine (HCH.out _).mono ?_)
  rintro e w1 ⟨rfl, hb1⟩
  go_upto_region 4 with (refine wpList_store_row rfl 52 _ _ rfl w1.heap.size av rfl rfl 52 z73 (heap_alloc_last _ _) HSZ.out HOL.out HAL.out ?_; rw [World.setRow_alloc_new])
  obtain ⟨g4, hg4⟩ : ∃ g4, w1.heap.size = g4 := ⟨_, rfl⟩
  obtain ⟨w2, hw2⟩ : ∃ w2, w1.alloc (.cells av 52) = w2 := ⟨_, rfl⟩
  have hb2 : Below w1.heap.size w1 w2 := by rw [← hw2]; exact (Below.refl _ w1).alloc (Nat.le_refl _) _
  have hb12 := hb1.trans (hb2.mono hb1.size)
  have HW := Lib.hid (show Wb u pr g4 L.toArray w2 from ⟨HR1.out.below hb12, by rw [← hw2, ← hg4, HAV.out]; exact heap_alloc_new _ _, HB1.out.trans (hb12.mono HB1.out.size), by rw [HPR.out]; exact Nat.le_refl _, by have := HR1.out.lt; have := hb1.size; omega⟩)
  rw [hw2, hg4]
  simp only [Act.put]
  have hav := HAV.out
  subst hav
  clear hb1 hb2 hb12 HR1 HB1 HCH
  have hp4 := HW.out.up
  have HW0 := HW
  have HW := Lib.hid (show Wb u pr g4 L.toArray w2.drew from HW.out.below ((Below.refl _ w2).drew))
  go_cut [5] (fun s5 wx => ∃ g : Nat, s5 = .pointer (some ⟨g, 0, none⟩) ∧ Bx wx g (k1 * x1) ∧ g4 < g ∧ Wb u pr g4 L.toArray wx ∧ Below w2.heap.size w2 wx)
  case first =>
    have hR0 : w2.drew.rangeAt g4 0 L := range_of HW.out.cnt
    have hlg : g4 < w2.heap.size := HW.out.lt
    go_region_held (fun W' => W'.rangeAt g4 0 L) (first | assumption | (apply World.rangeAt_alloc; assumption) | (refine range_set (by assumption) (by omega) _) | (refine range_set (World.rangeAt_alloc (by assumption) _) (by omega) _)) (first
      | ((try go_simp); go_at_call 31; (with_reducible refine (HN1.out _).mono ?_); go_must (rintro e w10 ⟨⟨a0, c0, rfl, r0⟩, hb10⟩; have hv : Below w2.drew.heap.size w2.drew w10 := (by first | exact hb10 | exact unal (W := w2.drew) hb10); (first | (have hq := one_al (W := w2.drew) hb10; have hA := (show w10.cell? ⟨w2.heap.size, 0, none⟩ = some (.slice none 0 0) ∧ w10.frozen? ⟨w2.heap.size, 0, none⟩ = false from hq)) | skip); have hR10 : w10.rangeAt g4 0 L := range_below hR0 hv; have hs10 : w2.heap.size ≤ w10.heap.size := hv.size; have R0 := Lib.hid r0; have HV10 := Lib.hid hv; clear r0 hv))
      | ((try go_simp); go_at_call 32; (with_reducible refine (HBW1.out _).mono ?_); go_must (rintro e w11 ⟨⟨a1, c1, rfl, r1⟩, hb11⟩; have hv11 : Below w10.heap.size w10 w11 := (by first | exact hb11 | exact unal hb11); (try (have hA1 := (show w11.cell? ⟨w2.heap.size, 0, none⟩ = some (.slice none 0 0) ∧ w11.frozen? ⟨w2.heap.size, 0, none⟩ = false from ⟨(hv11.cell (lt_of_cell hA.1)).trans hA.1, (hv11.frozen (lt_of_cell hA.1)).trans hA.2⟩))); (first | have hC1 := one_al hb11 | skip); have R01 := Lib.hid (R0.out.below hv11); have R1 := Lib.hid r1; have hR11 : w11.rangeAt g4 0 L := range_below hR10 hv11; have HV11 := Lib.hid (HV10.out.trans (hv11.mono HV10.out.size)); have hs11 : w10.heap.size ≤ w11.heap.size := hv11.size; clear r1 hv11 hb11))
      | ((try go_simp); go_at_call 30; (with_reducible refine (product2F (x := k1) (y := x1) (by first | exact facs_pair R01.out R1.out | exact (facs_pair R01.out R1.out).alloc _ | exact facs_pair1 R01.out R1.out) HL1.out.1 HL1.out.2.1 HL1.out.2.2).mono ?_); go_must (rintro e w12 ⟨⟨a2, c2, rfl, r2⟩, hb12⟩; have hv12 : Below w11.heap.size w11 w12 := (by first | exact unal hb12 | exact unal (unal hb12)); (try (have hA2 := (show w12.cell? ⟨w2.heap.size, 0, none⟩ = some (.slice none 0 0) ∧ w12.frozen? ⟨w2.heap.size, 0, none⟩ = false from ⟨(hv12.cell (lt_of_cell hA1.1)).trans hA1.1, (hv12.frozen (lt_of_cell hA1.1)).trans hA1.2⟩); obtain ⟨pA, pAf⟩ := id hA2)); (try (have hC2 := (show w12.cell? ⟨w10.heap.size, 0, none⟩ = some (.slice none 0 0) ∧ w12.frozen? ⟨w10.heap.size, 0, none⟩ = false from ⟨(hv12.cell (lt_of_cell hC1.1)).trans hC1.1, (hv12.frozen (lt_of_cell hC1.1)).trans hC1.2⟩); obtain ⟨pC, pCf⟩ := id hC2)); (first | (have hD2 := (show w12.cell? ⟨w11.heap.size + 1, 0, none⟩ = some (.slice none 0 0) ∧ w12.frozen? ⟨w11.heap.size + 1, 0, none⟩ = false from by have := one_al hb12; rwa [World.size_alloc] at this); obtain ⟨pD, pDf⟩ := id hD2) | (have hE2 := one_al2 hb12; obtain ⟨pE, pEf⟩ := id hE2) | skip); have HK := Lib.hid (HW.out.below (HV11.out.trans (hv12.mono HV11.out.size))); have HVV := Lib.hid (show Below w2.heap.size w2 w12 from ((Below.refl _ w2).drew).trans (HV11.out.trans (hv12.mono HV11.out.size))); have RQ := Lib.hid r2; have hR12 : w12.rangeAt g4 0 L := range_below hR11 hv12; have hs12 : w11.heap.size ≤ w12.heap.size := hv12.size; clear r2 hv12 hb12)))
    all_goals (
      go_wp2_with fail
      go_meet
      first
        | with_reducible exact ⟨_, rfl, wb_new HK.out HVV.out RQ.out⟩
        | with_reducible exact ⟨_, rfl, wb_old HK.out HVV.out RQ.out hA2 (by omega) (by omega)⟩
        | with_reducible exact ⟨_, rfl, wb_old HK.out HVV.out RQ.out hC2 (by omega) (by omega)⟩
        | with_reducible exact ⟨_, rfl, wb_old HK.out HVV.out RQ.out hD2 (by omega) (by omega)⟩
        | with_reducible exact ⟨_, rfl, wb_old HK.out HVV.out RQ.out hE2 (by omega) (by omega)⟩)
  case rest =>
    obtain ⟨p5, rfl, hx5, hp5, hw5, _⟩ := hcut
    clear HW HW0 hg4 hw2
    have HX5 := Lib.hid hx5
    have HW := Lib.hid (show Wb u pr g4 L.toArray wc.drew from hw5.below ((Below.refl _ wc).drew))
    have hl5 := hx5.lt
    clear hx5 hw5
    go_upto_region 5 with fail
    go_cut [6] (fun s5 wx => ∃ g : Nat, s5 = .pointer (some ⟨g, 0, none⟩) ∧ Bx wx g (d1 * x2) ∧ g4 < g ∧ Wb u pr g4 L.toArray wx ∧ Below wc.heap.size wc wx)
    case first =>
      have hR0 : wc.drew.rangeAt g4 0 L := range_of HW.out.cnt
      have hlg : g4 < wc.heap.size := HW.out.lt
      go_region_held (fun W' => W'.rangeAt g4 0 L) (first | assumption | (apply World.rangeAt_alloc; assumption) | (refine range_set (by assumption) (by omega) _) | (refine range_set (World.rangeAt_alloc (by assumption) _) (by omega) _)) (first
        | ((try go_simp); go_at_call 31; (with_reducible refine (HN2.out _).mono ?_); go_must (rintro e w10 ⟨⟨a0, c0, rfl, r0⟩, hb10⟩; have hv : Below wc.drew.heap.size wc.drew w10 := (by first | exact hb10 | exact unal (W := wc.drew) hb10); (first | (have hq := one_al (W := wc.drew) hb10; have hA := (show w10.cell? ⟨wc.heap.size, 0, none⟩ = some (.slice none 0 0) ∧ w10.frozen? ⟨wc.heap.size, 0, none⟩ = false from hq)) | skip); have hR10 : w10.rangeAt g4 0 L := range_below hR0 hv; have hs10 : wc.heap.size ≤ w10.heap.size := hv.size; have R0 := Lib.hid r0; have HV10 := Lib.hid hv; clear r0 hv))
        | ((try go_simp); go_at_call 32; (with_reducible refine (HBW2.out _).mono ?_); go_must (rintro e w11 ⟨⟨a1, c1, rfl, r1⟩, hb11⟩; have hv11 : Below w10.heap.size w10 w11 := (by first | exact hb11 | exact unal hb11); (try (have hA1 := (show w11.cell? ⟨wc.heap.size, 0, none⟩ = some (.slice none 0 0) ∧ w11.frozen? ⟨wc.heap.size, 0, none⟩ = false from ⟨(hv11.cell (lt_of_cell hA.1)).trans hA.1, (hv11.frozen (lt_of_cell hA.1)).trans hA.2⟩))); (first | have hC1 := one_al hb11 | skip); have R01 := Lib.hid (R0.out.below hv11); have R1 := Lib.hid r1; have hR11 : w11.rangeAt g4 0 L := range_below hR10 hv11; have HV11 := Lib.hid (HV10.out.trans (hv11.mono HV10.out.size)); have hs11 : w10.heap.size ≤ w11.heap.size := hv11.size; clear r1 hv11 hb11))
        | ((try go_simp); go_at_call 30; (with_reducible refine (product2F (x := d1) (y := x2) (by first | exact facs_pair R01.out R1.out | exact (facs_pair R01.out R1.out).alloc _ | exact facs_pair1 R01.out R1.out) HL2.out.1 HL2.out.2.1 HL2.out.2.2).mono ?_); go_must (rintro e w12 ⟨⟨a2, c2, rfl, r2⟩, hb12⟩; have hv12 : Below w11.heap.size w11 w12 := (by first | exact unal hb12 | exact unal (unal hb12)); (try (have hA2 := (show w12.cell? ⟨wc.heap.size, 0, none⟩ = some (.slice none 0 0) ∧ w12.frozen? ⟨wc.heap.size, 0, none⟩ = false from ⟨(hv12.cell (lt_of_cell hA1.1)).trans hA1.1, (hv12.frozen (lt_of_cell hA1.1)).trans hA1.2⟩); obtain ⟨pA, pAf⟩ := id hA2)); (try (have hC2 := (show w12.cell? ⟨w10.heap.size, 0, none⟩ = some (.slice none 0 0) ∧ w12.frozen? ⟨w10.heap.size, 0, none⟩ = false from ⟨(hv12.cell (lt_of_cell hC1.1)).trans hC1.1, (hv12.frozen (lt_of_cell hC1.1)).trans hC1.2⟩); obtain ⟨pC, pCf⟩ := id hC2)); (first | (have hD2 := (show w12.cell? ⟨w11.heap.size + 1, 0, none⟩ = some (.slice none 0 0) ∧ w12.frozen? ⟨w11.heap.size + 1, 0, none⟩ = false from by have := one_al hb12; rwa [World.size_alloc] at this); obtain ⟨pD, pDf⟩ := id hD2) | (have hE2 := one_al2 hb12; obtain ⟨pE, pEf⟩ := id hE2) | skip); have HK := Lib.hid (HW.out.below (HV11.out.trans (hv12.mono HV11.out.size))); have HVV := Lib.hid (show Below wc.heap.size wc w12 from ((Below.refl _ wc).drew).trans (HV11.out.trans (hv12.mono HV11.out.size))); have RQ := Lib.hid r2; have hR12 : w12.rangeAt g4 0 L := range_below hR11 hv12; have hs12 : w11.heap.size ≤ w12.heap.size := hv12.size; clear r2 hv12 hb12)))
      all_goals (
        go_wp2_with fail
        go_meet
        first
          | with_reducible exact ⟨_, rfl, wb_new HK.out HVV.out RQ.out⟩
          | with_reducible exact ⟨_, rfl, wb_old HK.out HVV.out RQ.out hA2 (by omega) (by omega)⟩
          | with_reducible exact ⟨_, rfl, wb_old HK.out HVV.out RQ.out hC2 (by omega) (by omega)⟩
          | with_reducible exact ⟨_, rfl, wb_old HK.out HVV.out RQ.out hD2 (by omega) (by omega)⟩
          | with_reducible exact ⟨_, rfl, wb_old HK.out HVV.out RQ.out hE2 (by omega) (by omega)⟩)
    case rest =>
      obtain ⟨p6, rfl, hx6, hp6, hw6, hb6⟩ := hcut
      obtain ⟨a5, c5, q5, r5⟩ := (HX5.out.below hb6).cell
      obtain ⟨a6, c6, q6, r6⟩ := hx6.cell
      have hp4 := hw6.up
      have HW6 := Lib.hid (show Wb u pr g4 L.toArray wc.drew from hw6.below ((Below.refl _ wc).drew))
      have s1 : wc.drew.rangeAt g4 0 L := range_of HW6.out.cnt
      have s2 : wc.drew.cell? ⟨p5, 0, none⟩ = some (.slice a5 (M.dig (k1 * x1)).length c5) := q5
      have s3 : wc.drew.cell? ⟨p6, 0, none⟩ = some (.slice a6 (M.dig (d1 * x2)).length c6) := q6
      have R5 := Lib.hid (show Row wc.drew a5 (M.dig (k1 * x1)) c5 from r5.drewN 1)
      have R6 := Lib.hid (show Row wc.drew a6 (M.dig (d1 * x2)) c6 from r6.drewN 1)
      clear HX5 HW hx6 hw6 hb6 q5 q6 r5 r6
      obtain rfl := HPR.out
      have hne4 : g4 ≠ u.heap.size := by omega
      have hne5 : p5 ≠ u.heap.size := by omega
      have hne6 : p6 ≠ u.heap.size := by omega
      have hup := HW6.out.lo
      go_upto_region 6 with fail
      go_region_held (fun W' => W'.rangeAt g4 0 L ∧ W'.cell? ⟨p5, 0, none⟩ = some (.slice a5 (M.dig (k1 * x1)).length c5) ∧ W'.cell? ⟨p6, 0, none⟩ = some (.slice a6 (M.dig (d1 * x2)).length c6)) (refine ⟨?_, ?_, ?_⟩ <;> first | assumption | (refine range_set (by assumption) (by assumption) _) | (rw [cell_other _ (by assumption)]; assumption)) (first
        | ((try go_simp); go_at_call 32; (with_reducible refine (HBW0.out _).mono ?_); go_must (rintro e w10 ⟨⟨a0, c0, rfl, r0⟩, hb10⟩; have t1 : w10.rangeAt g4 0 L := range_below s1 hb10; have t2 := (hb10.cell (lt_of_cell s2)).trans s2; have t3 := (hb10.cell (lt_of_cell s3)).trans s3; have HP1 := Lib.hid (plus_any a5 a6 c5 c6 (k1 * x1) (d1 * x2) w10 HL1.out.2.2 HL2.out.2.2 HL3.out.2.1 (R5.out.below hb10) (R6.out.below hb10)); have R0 := Lib.hid r0; have HW10 := Lib.hid (HW6.out.below hb10); clear r0 hb10))
        | ((try go_simp); go_at_call 33; (with_reducible refine HP2.out.mono ?_); go_must (rintro e w12 ⟨⟨a2, c2, rfl, r2⟩, hb12⟩; have v1 : w12.rangeAt g4 0 L := range_below y1 hb12; have v2 := (hb12.cell (lt_of_cell y2)).trans y2; have v3 := (hb12.cell (lt_of_cell y3)).trans y3; have hw := HW11.out.below hb12; obtain ⟨_, _, z1, _⟩ := hw.res.cell; have z2 := hw.res.free; have d4 : (w12.setCell ⟨u.heap.size, 0, none⟩ (.slice a2 (M.dig (x0 + (k1 * x1 + d1 * x2))).length c2)).cell? ⟨u.heap.size, 0, none⟩ = some (.slice a2 (M.dig (x0 + (k1 * x1 + d1 * x2))).length c2) := World.cell?_setCell_same' _ _ _ (by rw [z1]; rfl); have HZ := Lib.hid (r2.store z1 (.slice a2 (M.dig (x0 + (k1 * x1 + d1 * x2))).length c2)); have HB6 := Lib.hid (hw.bel.setCell (p := ⟨u.heap.size, 0, none⟩) hup (.slice a2 (M.dig (x0 + (k1 * x1 + d1 * x2))).length c2)); clear hw r2 hb12))
        | ((try go_simp); go_at_call 33; (with_reducible refine HP1.out.mono ?_); go_must (rintro e w11 ⟨⟨a1, c1, rfl, r1⟩, hb11⟩; have y1 : w11.rangeAt g4 0 L := range_below t1 hb11; have y2 := (hb11.cell (lt_of_cell t2)).trans t2; have y3 := (hb11.cell (lt_of_cell t3)).trans t3; have HP2 := Lib.hid (plus_any a0 a1 c0 c1 x0 (k1 * x1 + d1 * x2) w11 HL3.out.1 HL3.out.2.1 HL3.out.2.2 (R0.out.below hb11) r1); have HW11 := Lib.hid (HW10.out.below hb11); clear r1 hb11)))
      go_wp2_with fail
      exact bodyPost_ret (v := .tuple #[.agg #[.slice a2 (M.dig (x0 + (k1 * x1 + d1 * x2))).length c2], .int .i64 0]) (by simp [results, Tryd.results9, go_sem, d4]) rfl ⟨⟨a2, c2, rfl, HZ.out⟩, HB6.out⟩
end C
end Go.Proofs.YtknjoajeilgieaaDoor

namespace Go.Proofs.YtknjoajeilgieaaDoor
open Go Go.RowKit Go.Shelf

namespace C
open G (el)
/-- The number of sets of k out of n things, factor by factor. -/
def chF (n : Nat) : Nat → Nat
  | 0 => 1
  | k + 1 => chF n k * (n - k) / (k + 1)
theorem chF_eq (n : Nat) : ∀ k, chF n k = M.ch n k
  | 0 => (M.ch_zero n).symm
  | k + 1 => by
    rw [chF, chF_eq n k]
    by_cases h : k < n
    · rw [Nat.mul_comm, M.ch_next n k h, Nat.mul_div_cancel_left _ (Nat.succ_pos k)]
    · rw [show n - k = 0 by omega, Nat.mul_zero, Nat.zero_div]
      exact (M.ch_gt n (k + 1) (by omega)).symm
theorem chI_F (n k : Nat) : chI n (k : Int) = chF n k := by unfold chI; rw [if_neg (by omega), Int.toNat_natCast, chF_eq]
def setTF (odd even c : Nat) : Nat := el CL c * chF c odd * chF (72 - c) even
def setsF (odd even : Nat) : Nat := sm (setTF odd even) 73
def btF (w k : Nat) : Nat := setsF k (w - k)
def altF (w : Nat) : Nat := ev (btF w) (w + 1) - od (btF w) (w + 1)
theorem bt_F (w : Nat) : bt w = btF w := by
  funext k
  show sm (setT k (w - k)) 73 = sm (setTF k (w - k)) 73
  rw [show setT k (w - k) = setTF k (w - k) from by funext c; unfold setT setTF; rw [chI_F, chI_F]]
theorem altB_F (w : Nat) : altB w = altF w := by unfold altB altF; rw [bt_F]
def bwF (w : Nat) : Nat := if w = 0 then 0 else altF w / 256
theorem bwN_F (w : Nat) : bwN (w : Int) = bwF w := by
  unfold bwN bwF
  by_cases h : w = 0
  · subst h; rfl
  · rw [if_neg (by omega), if_neg h, Int.toNat_natCast, altB_F]
def termF (C w z : Nat) : Nat := chF w z * 256 ^ (w - z - C)
theorem term_F (C w : Nat) : term C w = termF C w := by funext z; unfold term termF; rw [chI_F]
def eachF (C w : Nat) : Nat := ev (termF C w) (w + 1) - od (termF C w) (w + 1)
theorem each_F (C w : Nat) : each C w = eachF C w := by unfold each eachF; rw [term_F]
def wordsF (n C w : Nat) : Nat := chF n w * eachF C w
theorem words_F (n C w : Nat) : wordsN n C w = wordsF n C w := by unfold wordsN wordsF; rw [chI_F, each_F]
def errF (n w : Nat) : Nat := chF n w * 255 ^ w
theorem err_F (n w : Nat) : errN n w = errF n w := by unfold errN errF; rw [chI_F]
theorem bw1 : bwF 1 = 0 := by decide +kernel
theorem bw2 : bwF 2 = 0 := by decide +kernel
theorem bw3 : bwF 3 = 0 := by decide +kernel
theorem wb2 : wbN 2 = 0 := by
  unfold wbN
  rw [show ((2 : Nat) : Int) + 1 = ((3 : Nat) : Int) from rfl, show ((2 : Nat) : Int) - 1 = ((1 : Nat) : Int) from rfl, bwN_F, bwN_F, bwN_F, bw1, bw2, bw3]
theorem words112 : wordsN 2 1 2 = 255 := by rw [words_F]; decide +kernel
theorem near_zero (n C w : Nat) (h1 : 1 ≤ w) (h2 : w ≤ n) : nearN n C w 0 0 0 = wordsN n C w := by
  unfold nearN
  rw [if_neg (by omega), show w + 0 - 0 = w by omega]
  have c0 : ∀ m : Nat, chI m ((0 : Nat) : Int) = 1 := fun m => by unfold chI; rw [if_neg (by omega)]; exact M.ch_zero m
  have e : nearL n C w 0 0 0 = [wordsN n C w, 1, 1, 1, 1, 1] := by
    unfold nearL
    rw [c0, c0, if_neg (by omega), c0]
  rw [e]
  simp [prd, nth]
theorem wrong0 (n C w : Nat) (h1 : 1 ≤ w) (h2 : w ≤ n) : wrongN n C w 0 = wordsN n C w := by
  show 0 + (0 + (0 + nearN n C w 0 0 0)) = _
  rw [near_zero n C w h1 h2]
  omega
end C
end Go.Proofs.YtknjoajeilgieaaDoor

namespace Go.Proofs.YtknjoajeilgieaaDoor
open Go Go.RowKit Go.Shelf

/-- The int in cell j of a slice. -/
def cellInt (W : World) (a : Option Addr) (j : Nat) : Int :=
  match a with
  | some p => match W.cell? ⟨p.block, p.off + j, none⟩ with | some (.int _ z) => z | _ => 0
  | none => 0
/-- The number that a slice holds. -/
def numAt (W : World) : Value → Nat
  | .slice a n _ => (M.val ((List.range n).map (cellInt W a))).toNat
  | _ => 0
theorem numAt_row {W : World} {a : Option Addr} {c v : Nat} (h : Row W a (M.dig v) c) : numAt W (.slice a (M.dig v).length c) = v := by
  have e : (List.range (M.dig v).length).map (cellInt W a) = M.dig v := by
    refine M.ext_el (by simp) fun j hj => ?_
    have hj' : j < (M.dig v).length := by simpa using hj
    obtain ⟨b, off, rfl, hc⟩ := h.el j hj'
    rw [M.el_lt hj, List.getElem_map, List.getElem_range]
    simp [cellInt, hc]
  unfold numAt
  simp only
  rw [e, M.val_dig, Int.toNat_natCast]

def GcdRel (w : World) (x y : Nat) (s t : Value) (W : World) : Prop :=
  ∃ (u v : Nat) (a b : Option Addr) (ca cb : Nat), s = .slice a (M.dig u).length ca ∧ t = .slice b (M.dig v).length cb ∧ Row W a (M.dig u) ca ∧ Row W b (M.dig v) cb ∧ Fresh (w.heap.size + 3) a (M.dig u) ∧ Fresh (w.heap.size + 3) b (M.dig v) ∧
    (M.dig u).length ≤ 200 ∧ (M.dig v).length ≤ 200 ∧ Nat.gcd u v = Nat.gcd x y ∧ W.cell? ⟨w.heap.size + 1 + 1, 0, none⟩ = some (.slice none 0 0) ∧ W.frozen? ⟨w.heap.size + 1 + 1, 0, none⟩ = false ∧ w.heap.size + 3 ≤ W.heap.size ∧ Below w.heap.size w W

set_option maxRecDepth 100000 in
set_option maxHeartbeats 1000000 in
theorem gcd_any (a b : Option Addr) (ca cb x y : Nat) (w : World) (hx200 : (M.dig x).length ≤ 200) (hy200 : (M.dig y).length ≤ 200) (hA : Row w a (M.dig x) ca) (hB : Row w b (M.dig y) cb) :
    Calls Tryd.prog 87 #[.agg #[.slice a (M.dig x).length ca], .agg #[.slice b (M.dig y).length cb]] w fun e W' => (∃ v, e = .returned (.tuple #[v, .int .i64 0]) ∧ Num W' v (Nat.gcd x y)) ∧ Below w.heap.size w W' := by
  have Hvx := Lib.hid (vld_dig hx200)
  have Hvy := Lib.hid (vld_dig hy200)
  have hb3 := boxes_below w (.slice a (M.dig x).length ca) (.slice b (M.dig y).length cb)
  have hs3 := boxes_size w (.slice a (M.dig x).length ca) (.slice b (M.dig y).length cb)
  obtain ⟨c0, c1, c2, f2⟩ := boxes_cells w (.slice a (M.dig x).length ca) (.slice b (M.dig y).length cb)
  have HA := Lib.hid hA
  have HB := Lib.hid hB
  have HB3 := Lib.hid hb3
  clear hA hB hb3
  go_enter Tryd.func87, Tryd.ntmps87
  go_wp2_with fail
  generalize hw3 : (((w.alloc (.cells #[.slice a (M.dig x).length ca] 24)).alloc (.cells #[.slice b (M.dig y).length cb] 24)).alloc (.cells #[.slice none 0 0] 24)) = w3
  obtain rfl : boxes w (.slice a (M.dig x).length ca) (.slice b (M.dig y).length cb) = w3 := hw3
  generalize boxes w (.slice a (M.dig x).length ca) (.slice b (M.dig y).length cb) = w3 at *
  refine (valid_yes a _ ca _ (HA.out.below HB3.out) Hvx.out).mono ?_
  rintro e w5 ⟨rfl, hb5⟩
  have d0 := cell_below hb5 c0
  have d1 := cell_below hb5 c1
  have d2 := cell_below hb5 c2
  have g2 := frozen_below hb5 c2 f2
  have HB5 := Lib.hid (HB3.out.trans (hb5.mono HB3.out.size))
  have hs5 := hb5.size
  clear c0 c1 c2 f2 hb5
  go_wp2_with fail
  refine (valid_yes b _ cb _ (HB.out.below HB5.out) Hvy.out).mono ?_
  rintro e w6 ⟨rfl, hb6⟩
  have c0 := cell_below hb6 d0
  have c1 := cell_below hb6 d1
  have c2 := cell_below hb6 d2
  have f2 := frozen_below hb6 d2 g2
  have HB6 := Lib.hid (HB5.out.trans (hb6.mono HB5.out.size))
  have hs6 := hb6.size
  clear d0 d1 d2 g2 hb6
  have HCA := Lib.hid (fun (W : World) (hb : Below w6.heap.size w6 W) => clone_row a (M.dig x) ca W ((HA.out.below HB6.out).below hb) (by omega))
  have HCB := Lib.hid (fun (W : World) (hb : Below w6.heap.size w6 W) => clone_row b (M.dig y) cb W ((HB.out.below HB6.out).below hb) (by omega))
  have hw6 : w.heap.size + 3 ≤ w6.heap.size := by omega
  go_wp2_with fail
  have hbd : Below w6.heap.size w6 w6.drew := belowN (Below.refl _ _) 1
  have hsd : w6.drew.heap.size = w6.heap.size := rfl
  go_region_held3 (fun w' => w'.cell? ⟨w.heap.size, 0, none⟩ = some (.slice a (M.dig x).length ca) ∧ w'.cell? ⟨w.heap.size + 1, 0, none⟩ = some (.slice b (M.dig y).length cb))
    (first | exact ⟨c0, c1⟩ | exact ⟨cell_below hb1 c0, cell_below hb1 c1⟩ | exact ⟨cell_below (hb1.trans (hb2.mono hb1.size)) c0, cell_below (hb1.trans (hb2.mono hb1.size)) c1⟩)
    (first
      | (go_at_call 68; (with_reducible refine (HCA.out _ hbd).mono ?_); rintro e wa ⟨a1, p1, rfl, ho1, hb1⟩)
      | (go_at_call 68; (with_reducible refine (HCB.out _ (hbd.trans (hb1.mono (Nat.le_refl _)))).mono ?_); rintro e wb ⟨b1, q1, rfl, ho2, hb2⟩))
  have hs1 := hb1.size
  have hs2 := hb2.size
  have hab := hbd.trans (hb1.mono (Nat.le_refl _))
  have hab2 := hab.trans (hb2.mono hab.size)
  have hr0 : GcdRel w x y (.slice a1 (M.dig x).length p1) (.slice b1 (M.dig y).length q1) wb :=
    ⟨x, y, a1, b1, p1, q1, rfl, rfl, ho1.rowAt.below hb2, ho2.rowAt, (ho1.mono (by omega)).fresh, (ho2.mono (by omega)).fresh, hx200, hy200, rfl, cell_below hab2 c2, frozen_below hab2 c2 f2, by omega, HB6.out.trans (hab2.mono (by omega))⟩
  have HR0 := Lib.hid hr0
  clear hr0 hab hab2 hs1 hs2 hsd hbd hb1 hb2 ho1 ho2 HCA HCB c0 c1 c2 f2 HB6 HB5 HB3 HA HB Hvx Hvy hs3 hs5 hs6 hw6
  try clear hHeld
  go_wp2_with fail
  go_loopw [6, 7] (fun s t wr => GcdRel w x y s t wr) (fun _ t wr => numAt wr t)
  case atStart => exact HR0.out
  case round =>
    clear HR0
    obtain ⟨u, v, a, b, ca, cb, rfl, rfl, hra, hrb, hfa, hfb, hu200, hv200, hg, c2, f2, hsz, hbw⟩ := hrel
    have HRA := Lib.hid hra
    have HRB := Lib.hid hrb
    have HFA := Lib.hid hfa
    have HFB := Lib.hid hfb
    have HG := Lib.hid hg
    have HBW := Lib.hid hbw
    clear hra hrb hfa hfb hg hbw
    by_cases hv0 : v = 0
    · subst hv0
      have hg0 := HG.out
      rw [Nat.gcd_zero_right] at hg0
      have HG0 := Lib.hid hg0
      clear hg0
      have hlt : w.heap.size + 1 + 1 < wr.heap.size := by omega
      rw [M.dig_zero]
      go_wp2_with fail
      refine bodyPost_ret (v := .tuple #[.agg #[.slice a (M.dig u).length ca], .int .i64 0]) (by simp [results, Tryd.results87, go_sem, c2]) rfl ⟨⟨_, rfl, a, ca, by rw [HG0.out], ?_⟩, ?_⟩
      · rw [← HG0.out]
        exact HRA.out.setFresh HFA.out (p := ⟨w.heap.size + 1 + 1, 0, none⟩) (by show w.heap.size + 1 + 1 < w.heap.size + 3; omega) _
      · exact HBW.out.setCell (p := ⟨w.heap.size + 1 + 1, 0, none⟩) (by simp; omega) _
    · have hvp : 0 < v := by omega
      have hvl : 0 < (M.dig v).length := by
        rcases Nat.eq_zero_or_pos (M.dig v).length with h | h
        · exact absurd (M.dig_nil.1 (List.length_eq_zero_iff.1 h)) hv0
        · exact h
      go_wp2_with fail
      refine (divideLimbs_any a b ca cb u v wr hvp hu200 hv200 HRA.out HRB.out).mono ?_
      rintro e w2 ⟨a1, c1, a2, p2, rfl, _, hr2, _, hf2, hb2⟩
      have HR2 := Lib.hid hr2
      have HF2 := Lib.hid hf2
      have HB2 := Lib.hid hb2
      clear hr2 hf2 hb2
      go_wp2_with fail
      go_roundw
      case rel =>
        exact ⟨v, u % v, b, a2, cb, p2, rfl, rfl, HRB.out.below HB2.out, HR2.out, HFB.out, fun b off e hl => Nat.le_trans hsz (HF2.out b off e hl), hv200, Nat.le_trans (dig_len_mod u v) hu200, by rw [← HG.out, Nat.gcd_comm v, ← Nat.gcd_rec, Nat.gcd_comm],
          cell_below HB2.out c2, frozen_below HB2.out c2 f2, Nat.le_trans hsz HB2.out.size, HBW.out.trans (HB2.out.mono HBW.out.size)⟩
      case measure =>
        rw [numAt_row HR2.out, numAt_row HRB.out]
        exact Nat.mod_lt u hvp
end Go.Proofs.YtknjoajeilgieaaDoor

namespace Go.Proofs.YtknjoajeilgieaaDoor
open Go Go.RowKit Go.Shelf

theorem run_append_nil {P : Program} {w : World} (base : Nat) (t ty e : TypeId) (i : TypeInfo) (size : Nat) (ht : P.underlying t = some (.slice e)) (hi : P.info? e = some i)
    (v : Value) (n : Nat) (xs : List Value) (c : Nat) (hown : w.ownsRow base e size v n xs) :
    (Builtin.append_ #[t, t] ty #[v, .slice none 0 c]).run P w = .ok v w := by
  rcases hown.2 with ⟨rfl, rfl⟩ | ⟨g, cap, cur, rfl, _, _, hnc, _⟩
  · simp [Builtin.append_, run_underlying ht, sizeOf, typeInfo, hi, Builtin.lenOf, Builtin.firstCells]
  · simp [Builtin.append_, run_underlying ht, sizeOf, typeInfo, hi, Builtin.lenOf, Builtin.firstCells, hnc, storeCells]

theorem wp_appAny {W : World} {o : Oper} {a : Act} {K : Act → World → Prop} {Q : Exit → Act → World → Prop} (s x : Operand) (ho : o.op = .call { callee := .builtin .append, args := #[s, x], argTypes := #[22, 22] })
    {B : Nat} {v : Value} {zs ys : List Int} (hs : a.eval s = v) (hown : Own W B v zs) {ad : Option Addr} {cap : Nat} (hx : a.eval x = .slice ad ys.length cap) (hr : Row W ad ys cap)
    (hl : zs.length + ys.length < 1000000) (hbase : B ≤ W.heap.size)
    (h : ∀ a' cap' W', Own W' B (.slice a' (zs ++ ys).length cap') (zs ++ ys) → Below B W W' → K (a.put o.dst (.slice a' (zs.length + ys.length) cap')) W') : Oper.wp Tryd.prog o a W K Q := by
  cases ad with
  | none =>
    obtain ⟨i0, hi, hz0, hz1, hz2⟩ := info_parts info_int
    have hy : ys = [] := by
      cases ys with
      | nil => rfl
      | cons y ys =>
        obtain ⟨b, off, e, _⟩ := hr.el 0 (by simp)
        cases e
    subst hy
    have hrun := run_append_nil (P := Tryd.prog) B 22 o.type 3 i0 1 Tryd.underlying22 hi v zs.length (zs.map (Value.int .i64)) cap hown
    obtain ⟨a', cap', rfl, _⟩ := hown.row
    unfold Oper.wp execOp
    simp only [ho, resolve, invoke, builtin, Sem.run_bind, Sem.run_pure, Result.andThen_ok, List.map_toArray, List.map_cons, List.map_nil, hs, hx, List.length_nil, hrun]
    have := h a' cap' W (by simpa using hown) (Below.refl _ _)
    exact (show K (a.put o.dst (.slice a' zs.length cap')) W by simpa using this)
  | some p => exact wp_appRow s x ho hs hown hx hr (fun e => nomatch e) hl hbase h

theorem wpList_appAny {W : World} {ops : Array Oper} {rest : List Oper} {o : Oper} {a : Act} {Q : Exit → Act → World → Prop} (hgd : o.guard = none) (s x : Operand)
    (ho : o.op = .call { callee := .builtin .append, args := #[s, x], argTypes := #[22, 22] }) {B : Nat} {v : Value} {zs ys : List Int} (hs : a.eval s = v) (hown : Own W B v zs)
    {ad : Option Addr} {cap : Nat} (hx : a.eval x = .slice ad ys.length cap) (hr : Row W ad ys cap) (hl : zs.length + ys.length < 1000000) (hbase : B ≤ W.heap.size)
    (h : ∀ a' cap' W', Own W' B (.slice a' (zs ++ ys).length cap') (zs ++ ys) → Below B W W' → wpList Tryd.prog ops Q rest (a.put o.dst (.slice a' (zs.length + ys.length) cap')) W') : wpList Tryd.prog ops Q (o :: rest) a W :=
  wpList_plain hgd fun _ hK => wp_appAny s x ho hs hown hx hr hl hbase fun a' c' W' h1 h2 => hK _ _ (h a' c' W' h1 h2)
end Go.Proofs.YtknjoajeilgieaaDoor
