/- chance's alternating. chance.words: the terms. chance.length, words. chance.near. chance's refusal, Errors, Words, for valid codes. chance.Wrong. -/
import Derived.Test.YtknjoajeilgieaaDoorB5
import Derived.Deep.DeepMust
namespace Go.Proofs.YtknjoajeilgieaaDoor
open Go Go.RowKit Go.Shelf

namespace C
/-- The terms at even and at odd places below k, added up. -/
def ev (f : Nat → Nat) : Nat → Nat
  | 0 => 0
  | k + 1 => if k % 2 = 0 then ev f k + f k else ev f k
def od (f : Nat → Nat) : Nat → Nat
  | 0 => 0
  | k + 1 => if k % 2 = 0 then od f k else od f k + f k

set_option maxRecDepth 100000 in
set_option maxHeartbeats 1000000 in
/-- **chance.alternating** -/
theorem alternating_any (N : Nat) (v1 v2 : Value) (f : Nat → Nat) (last : Nat) (w : World) (hlast : last ≤ 1000) (hcf : ∀ (args : Array Value) (W : World), Sem.run Tryd.prog (callFunc N args) W = .ok (.enter N args) W)
    (hT : ∀ k, k ≤ last → ∀ W, Below w.heap.size w W → Calls Tryd.prog N #[.int .i64 (k : Int), v1, v2] W fun e W' => NumR (f k) e W' ∧ Below W.heap.size W W')
    (hl : ∀ k, k ≤ last → (M.dig (f k)).length ≤ 200) (he : ∀ k, k ≤ last + 1 → (M.dig (ev f k)).length ≤ 200) (ho : ∀ k, k ≤ last + 1 → (M.dig (od f k)).length ≤ 200) :
    Calls Tryd.prog 61 #[.int .i64 (last : Int), .func (.func N) #[] #[v1, v2]] w fun e W => NumR (ev f (last + 1) - od f (last + 1)) e W ∧ Below w.heap.size w W := by
  have HT := Lib.hid hT
  have HL := Lib.hid hl
  have HE := Lib.hid he
  have HO := Lib.hid ho
  have hr0 := Bx.zero w
  have hB0 := (Below.refl _ w).alloc (Nat.le_refl _) (.cells #[.slice none 0 0] 24)
  obtain ⟨w0, hw0⟩ : ∃ w0, w.alloc (.cells #[.slice none 0 0] 24) = w0 := ⟨_, rfl⟩
  have hs0 : w0.heap.size = w.heap.size + 1 := by rw [← hw0, World.size_alloc]
  rw [hw0] at hr0 hB0
  have hr1 := Bx.zero w0
  have hB1 := (Below.refl _ w0).alloc (Nat.le_refl _) (.cells #[.slice none 0 0] 24)
  obtain ⟨w1, hw1⟩ : ∃ w1, w0.alloc (.cells #[.slice none 0 0] 24) = w1 := ⟨_, rfl⟩
  have hs1 : w1.heap.size = w.heap.size + 2 := by rw [← hw1, World.size_alloc, hs0]
  rw [hw1, hs0] at hr1
  rw [hw1] at hB1
  have hr2 := Bx.zero w1
  have hB2 := (Below.refl _ w1).alloc (Nat.le_refl _) (.cells #[.slice none 0 0] 24)
  obtain ⟨w2, hw2⟩ : ∃ w2, w1.alloc (.cells #[.slice none 0 0] 24) = w2 := ⟨_, rfl⟩
  rw [hw2, hs1] at hr2
  rw [hw2] at hB2
  have HR := Lib.hid ((hr0.below hB1).below hB2)
  have HEv := Lib.hid (hr1.below hB2)
  have HOd := Lib.hid hr2
  have HB := Lib.hid ((hB0.trans (hB1.mono (by omega))).trans (hB2.mono (by omega)))
  obtain ⟨gr, hgr⟩ : ∃ gr, w.heap.size = gr := ⟨_, rfl⟩
  obtain ⟨ge, hge⟩ : ∃ ge, w.heap.size + 1 = ge := ⟨_, rfl⟩
  obtain ⟨go, hgo⟩ : ∃ go, w.heap.size + 2 = go := ⟨_, rfl⟩
  rw [hgr] at HR
  rw [hge] at HEv hs0
  rw [hgo] at HOd hs1
  have n1 : gr ≠ ge := by omega
  have n2 : gr ≠ go := by omega
  have n3 : ge ≠ go := by omega
  clear hT hl he ho hr0 hr1 hr2 hB0 hB1 hB2
  go_enter Tryd.func61, Tryd.ntmps61
  go_wp2_with fail
  go_loopw [7, 12] (fun _ i wr => ∃ k : Nat, i = .int .i64 (k : Int) ∧ k ≤ last + 1 ∧ Hid (Bx wr ge (ev f k)) ∧ Hid (Bx wr go (od f k)) ∧ Hid (Bx wr gr 0) ∧ Hid (Below w.heap.size w wr)) (fun _ i _ => last + 1 - (intOf i).toNat)
  case atStart => exact ⟨0, rfl, Nat.zero_le _, HEv, HOd, HR, HB⟩
  case round => as_aux_lemma =>
    clear HEv HOd HR HB
    obtain ⟨k, rfl, hk, HEv, HOd, HR, HB⟩ := hrel
    by_cases hlt : k < last + 1
    · obtain ⟨x, hx⟩ : ∃ x, f k = x := ⟨_, rfl⟩
      have hk2 : k ≤ last := by omega
      have hlx := HL.out k hk2
      rw [hx] at hlx
      rcases Nat.mod_two_eq_zero_or_one k with hm | hm
      · have hmi : ((k : Int) % 2 == 0) = true := by rw [beq_iff_eq]; omega
        have hmt : (Int.tmod (k : Int) 2 == 0) = true := by rw [beq_iff_eq, Int.tmod_eq_emod_of_nonneg (by omega)]; omega
        have hmt2 : Int.tmod (k : Int) 2 = 0 := by rw [Int.tmod_eq_emod_of_nonneg (by omega)]; omega
        obtain ⟨y, hy⟩ : ∃ y, ev f k = y := ⟨_, rfl⟩
        have hly := HE.out k hk
        have hlz := HE.out (k + 1) (by omega)
        have e1 : ev f (k + 1) = y + x := by rw [← hx, ← hy]; exact by rw [ev, if_pos hm]
        have e2 : od f (k + 1) = od f k := by rw [od, if_pos hm]
        rw [e1] at hlz
        rw [hy] at hly HEv
        have HEQ := Lib.hid (And.intro e1 e2)
        obtain ⟨a, c, c1, hr⟩ := HEv.out.cell
        have q1 : wr.drew.cell? ⟨ge, 0, none⟩ = some (.slice a (M.dig y).length c) := c1
        have HV := Lib.hid (show Bx wr.drew ge y from HEv.out.drewN 1)
        have HW := Lib.hid (show Bx wr.drew go (od f k) from HOd.out.drewN 1)
        have HR1 := Lib.hid (show Bx wr.drew gr 0 from HR.out.drewN 1)
        have HB1 := Lib.hid (show Below w.heap.size w wr.drew from HB.out.drew)
        have HRY := Lib.hid (show Row wr.drew a (M.dig y) c from hr.drewN 1)
        have ht1 := HT.out k hk2 wr.drew HB1.out
        rw [hx] at ht1
        have HT1 := Lib.hid ht1
        have HLS := Lib.hid (And.intro hly hlz)
        have HLX := Lib.hid hlx
        clear hx hy hly hlz hlx e1 e2 c1 hr ht1 HEv HOd HR HB
        go_wp2_with fail
        go_region_law (first
            | (go_simp; (with_reducible refine HT1.out.mono ?_); rintro e w10 ⟨⟨a2, c2, rfl, hr2⟩, hb10⟩; have HV2 := Lib.hid (HV.out.below hb10); have q2 := (hb10.cell (p := ⟨ge, 0, none⟩) (lt_of_cell q1)).trans q1; have HP := Lib.hid (plus_any a a2 c c2 y x w10 HLS.out.1 HLX.out HLS.out.2 (HRY.out.below hb10) hr2); have HW2 := Lib.hid (HW.out.below hb10); have HR2 := Lib.hid (HR1.out.below hb10); have HB2 := Lib.hid (HB1.out.trans (hb10.mono HB1.out.size)); clear hr2 hb10; go_simp)
            | (go_simp; go_at_call 33; (with_reducible refine HP.out.mono ?_); rintro e w11 ⟨⟨a3, c3, rfl, hr3⟩, hb11⟩; have hv3 := HV2.out.below hb11; obtain ⟨_, _, d1, _⟩ := hv3.cell; have d2 := hv3.free; have HV3 := Lib.hid (hv3.store hr3); have HW3 := Lib.hid ((HW2.out.below hb11).other hv3 n3.symm (.slice a3 (M.dig (y + x)).length c3)); have HR3 := Lib.hid ((HR2.out.below hb11).other hv3 n1 (.slice a3 (M.dig (y + x)).length c3)); have HB3 := Lib.hid ((HB2.out.trans (hb11.mono HB2.out.size)).setCell (p := ⟨ge, 0, none⟩) (by show w.heap.size ≤ ge; omega) (.slice a3 (M.dig (y + x)).length c3)); clear hv3 hr3 hb11; go_simp))
        all_goals (
          go_wp2_with fail
          go_roundw
          case rel => exact ⟨k + 1, by go_num, by omega, Lib.hid (by rw [HEQ.out.1]; exact HV3.out), Lib.hid (by rw [HEQ.out.2]; exact HW3.out), HR3, HB3⟩
          case measure => simp [intOf]; omega)
      · have hm' : ¬ k % 2 = 0 := by omega
        have hmi : ((k : Int) % 2 == 0) = false := by rw [beq_eq_false_iff_ne]; omega
        have hmt : (Int.tmod (k : Int) 2 == 0) = false := by rw [beq_eq_false_iff_ne, Int.tmod_eq_emod_of_nonneg (by omega)]; omega
        have hmt2 : ¬ Int.tmod (k : Int) 2 = 0 := by rw [Int.tmod_eq_emod_of_nonneg (by omega)]; omega
        obtain ⟨y, hy⟩ : ∃ y, od f k = y := ⟨_, rfl⟩
        have hly := HO.out k hk
        have hlz := HO.out (k + 1) (by omega)
        have e1 : od f (k + 1) = y + x := by rw [← hx, ← hy]; exact by rw [od, if_neg hm']
        have e2 : ev f (k + 1) = ev f k := by rw [ev, if_neg hm']
        rw [e1] at hlz
        rw [hy] at hly HOd
        have HEQ := Lib.hid (And.intro e1 e2)
        obtain ⟨a, c, c1, hr⟩ := HOd.out.cell
        have q1 : wr.drew.cell? ⟨go, 0, none⟩ = some (.slice a (M.dig y).length c) := c1
        have HV := Lib.hid (show Bx wr.drew go y from HOd.out.drewN 1)
        have HW := Lib.hid (show Bx wr.drew ge (ev f k) from HEv.out.drewN 1)
        have HR1 := Lib.hid (show Bx wr.drew gr 0 from HR.out.drewN 1)
        have HB1 := Lib.hid (show Below w.heap.size w wr.drew from HB.out.drew)
        have HRY := Lib.hid (show Row wr.drew a (M.dig y) c from hr.drewN 1)
        have ht1 := HT.out k hk2 wr.drew HB1.out
        rw [hx] at ht1
        have HT1 := Lib.hid ht1
        have HLS := Lib.hid (And.intro hly hlz)
        have HLX := Lib.hid hlx
        clear hx hy hly hlz hlx e1 e2 c1 hr ht1 HOd HEv HR HB
        go_wp2_with fail
        go_region_law (first
            | (go_simp; (with_reducible refine HT1.out.mono ?_); rintro e w10 ⟨⟨a2, c2, rfl, hr2⟩, hb10⟩; have HV2 := Lib.hid (HV.out.below hb10); have q2 := (hb10.cell (p := ⟨go, 0, none⟩) (lt_of_cell q1)).trans q1; have HP := Lib.hid (plus_any a a2 c c2 y x w10 HLS.out.1 HLX.out HLS.out.2 (HRY.out.below hb10) hr2); have HW2 := Lib.hid (HW.out.below hb10); have HR2 := Lib.hid (HR1.out.below hb10); have HB2 := Lib.hid (HB1.out.trans (hb10.mono HB1.out.size)); clear hr2 hb10; go_simp)
            | (go_simp; go_at_call 33; (with_reducible refine HP.out.mono ?_); rintro e w11 ⟨⟨a3, c3, rfl, hr3⟩, hb11⟩; have hv3 := HV2.out.below hb11; obtain ⟨_, _, d1, _⟩ := hv3.cell; have d2 := hv3.free; have HV3 := Lib.hid (hv3.store hr3); have HW3 := Lib.hid ((HW2.out.below hb11).other hv3 n3 (.slice a3 (M.dig (y + x)).length c3)); have HR3 := Lib.hid ((HR2.out.below hb11).other hv3 n2 (.slice a3 (M.dig (y + x)).length c3)); have HB3 := Lib.hid ((HB2.out.trans (hb11.mono HB2.out.size)).setCell (p := ⟨go, 0, none⟩) (by show w.heap.size ≤ go; omega) (.slice a3 (M.dig (y + x)).length c3)); clear hv3 hr3 hb11; go_simp))
        all_goals (
          go_wp2_with fail
          go_roundw
          case rel => exact ⟨k + 1, by go_num, by omega, Lib.hid (by rw [HEQ.out.2]; exact HW3.out), Lib.hid (by rw [HEQ.out.1]; exact HV3.out), HR3, HB3⟩
          case measure => simp [intOf]; omega)
    · obtain rfl : k = last + 1 := by omega
      obtain ⟨x, hx⟩ : ∃ x, ev f (last + 1) = x := ⟨_, rfl⟩
      obtain ⟨y, hy⟩ : ∃ y, od f (last + 1) = y := ⟨_, rfl⟩
      have hlx := HE.out (last + 1) (Nat.le_refl _)
      have hly := HO.out (last + 1) (Nat.le_refl _)
      rw [hx] at hlx HEv
      rw [hy] at hly HOd
      obtain ⟨z, hz⟩ : ∃ z, x - y = z := ⟨_, rfl⟩
      have HZ := Lib.hid (show z = ev f (last + 1) - od f (last + 1) by rw [hx, hy]; exact hz.symm)
      obtain ⟨a, c, c1, hr1⟩ := HEv.out.cell
      obtain ⟨b, d, c2, hr2⟩ := HOd.out.cell
      have HS := Lib.hid (show Calls Tryd.prog 84 #[.agg #[.slice a (M.dig x).length c], .agg #[.slice b (M.dig y).length d]] wr fun e W' => ∃ (a' : Option Addr) (c' : Nat) (k : Int), e = .returned (.tuple #[.agg #[.slice a' (M.dig z).length c'], .int .i64 k]) ∧ Row W' a' (M.dig z) c' ∧ Below wr.heap.size wr W' from by
        by_cases h : y ≤ x
        · refine (sub_ge a b c d x y wr hlx hly hr1 hr2 h).mono ?_
          rintro e W' ⟨hres, hb⟩
          obtain ⟨v, rfl, a', c', rfl, hr⟩ := hres.ok (by exact Nat.le_trans (M.dig_len_le.2 (Nat.lt_of_le_of_lt (Nat.sub_le x y) (M.dig_len_le.1 (Nat.le_refl _)))) hlx)
          rw [hz] at hr ⊢
          exact ⟨_, _, _, rfl, hr, hb⟩
        · refine (sub_lt a b c d x y wr hlx hly hr1 hr2 (by omega)).mono ?_
          rintro e W' ⟨rfl, hb⟩
          have h0 : z = 0 := by omega
          rw [h0]
          have := row_nil W'
          rw [M.dig_zero] at this ⊢
          exact ⟨_, _, _, rfl, this, hb⟩)
      clear hx hy hlx hly hz hr1 hr2 HEv HOd
      obtain ⟨a0, c0, q0, _⟩ := HR.out.cell
      rw [M.dig_zero] at q0
      have qf := HR.out.free
      go_wp2_with fail
      (with_reducible refine HS.out.mono ?_)
      rintro e w4 ⟨a', c', kk, rfl, hr, hb⟩
      have hr4 := HR.out.below hb
      obtain ⟨w5, hw5⟩ : ∃ w5, w4.alloc (.cells #[.slice a' (M.dig z).length c'] 24) = w5 := ⟨_, rfl⟩
      have hb5 : Below w4.heap.size w4 w5 := by rw [← hw5]; exact (Below.refl _ w4).alloc (Nat.le_refl _) _
      have hv5 := Bx.new hr
      rw [hw5] at hv5
      have hr5 := hr4.below hb5
      obtain ⟨_, _, d1, _⟩ := hr5.cell
      have d2 := hr5.free
      have d3 : w5.cell? ⟨w4.heap.size, 0, none⟩ = some (.slice a' (M.dig z).length c') := by rw [← hw5]; exact cell_new _ _ _
      have HR6 := Lib.hid (hr5.store (hr.below hb5))
      have d4 : (w5.setCell ⟨gr, 0, none⟩ (.slice a' (M.dig z).length c')).cell? ⟨gr, 0, none⟩ = some (.slice a' (M.dig z).length c') := World.cell?_setCell_same' _ _ _ (by rw [d1]; rfl)
      have hr6 := (hr.below hb5).store d1 (.slice a' (M.dig z).length c')
      have HB6 := Lib.hid ((((HB.out.trans (hb.mono HB.out.size)).trans (hb5.mono (by have := HB.out.size; have := hb.size; omega)))).setCell (p := ⟨gr, 0, none⟩) (by show w.heap.size ≤ gr; omega) (.slice a' (M.dig z).length c'))
      clear hr4 hb hb5 hv5 hr5 hr HS HR HB
      go_wp2_with fail
      exact bodyPost_ret (v := .agg #[.slice a' (M.dig z).length c']) (by simp [results, Tryd.results61, go_sem, d4]) rfl ⟨⟨a', c', by rw [← HZ.out], by rw [← HZ.out]; exact hr6⟩, HB6.out⟩
end C
end Go.Proofs.YtknjoajeilgieaaDoor

namespace Go.Proofs.YtknjoajeilgieaaDoor
open Go Go.RowKit Go.Shelf

namespace C
/-- One of the terms of words. -/
def term (C w z : Nat) : Nat := chI w z * 256 ^ (w - z - C)
theorem prd2 (x y : Nat) : prd [x, y] 2 = x * y := by simp [prd, nth]
theorem facs_new {W : World} {xs : List Nat} {vs : List Value} (h : ∀ j, j < xs.length → ∃ a c, vs[j]? = some (.slice a (M.dig (nth xs j)).length c) ∧ Row W a (M.dig (nth xs j)) c) : Facs (W.alloc (.cells vs.toArray 24)) W.heap.size xs := fun j hj => by
  obtain ⟨a, c, h1, h2⟩ := h j hj
  exact ⟨a, c, (G.Box.new W 24 vs).cell j h1, h2.alloc _⟩
/-- product(x, y) -/
theorem product2 {W : World} {a b : Option Addr} {c d x y : Nat} (ha : Row W a (M.dig x) c) (hb : Row W b (M.dig y) d) (hx : (M.dig x).length ≤ 200) (hy : (M.dig y).length ≤ 200) (hxy : (M.dig (x * y)).length ≤ 200) :
    Calls Tryd.prog 30 #[.slice (some ⟨W.heap.size, 0, none⟩) 2 2] (W.alloc (.cells #[.slice a (M.dig x).length c, .slice b (M.dig y).length d] 24)) fun e W' => NumR (x * y) e W' ∧ Below W.heap.size W W' := by
  have hf : Facs (W.alloc (.cells #[.slice a (M.dig x).length c, .slice b (M.dig y).length d] 24)) W.heap.size [x, y] := facs_new (vs := [.slice a (M.dig x).length c, .slice b (M.dig y).length d]) (fun j hj => by
    match j, hj with
    | 0, _ => exact ⟨a, c, rfl, ha⟩
    | 1, _ => exact ⟨b, d, rfl, hb⟩)
  have h := product_any W.heap.size 2 [x, y] _ (by simp) (by omega) hf (fun j hj => by
    match j, hj with
    | 0, _ => exact hx
    | 1, _ => exact hy) (fun k hk => by
    match k, hk with
    | 0, _ => exact small_len (n := 1) (by decide)
    | 1, _ => rw [show prd [x, y] 1 = x by simp [prd, nth]]; exact hx
    | 2, _ => rw [prd2]; exact hxy)
  rw [show [x, y].length = 2 from rfl, prd2] at h
  exact h.mono fun e W' ⟨h1, h2⟩ => ⟨h1, ((Below.refl _ W).alloc (Nat.le_refl _) _).trans (h2.mono (by simp))⟩
theorem chI_len (n : Nat) (k : Int) : chI n k < 2 ^ (n + 1) := by
  unfold chI
  split
  · exact Nat.pow_pos (by omega)
  · exact Nat.lt_of_le_of_lt (M.ch_le n _) (Nat.pow_lt_pow_right (by omega) (by omega))
theorem pow256 (m : Nat) : 256 ^ m = 2 ^ (8 * m) := by rw [show (256 : Nat) = 2 ^ 8 from rfl, ← Nat.pow_mul]
/-- A bound of bits for a product. -/
theorem mul_bits {x y a b : Nat} (hx : x ≤ 2 ^ a) (hy : y ≤ 2 ^ b) : x * y ≤ 2 ^ (a + b) := by rw [Nat.pow_add]; exact Nat.mul_le_mul hx hy
theorem bits_len {x a : Nat} (hx : x ≤ 2 ^ a) (ha : a < 4800) : (M.dig x).length ≤ 200 := len_of (e := a + 1) (Nat.lt_of_le_of_lt hx (Nat.pow_lt_pow_right (by omega) (by omega))) (by omega)

set_option maxRecDepth 100000 in
set_option maxHeartbeats 1000000 in
theorem words1_any (C w z : Nat) (pw pc D F : Nat) (u : World) (hz : z ≤ w) (hw : w ≤ 100) (hC : C ≤ 100) (hpw : u.cell? ⟨pw, 0, none⟩ = some (.int .i64 (w : Int))) (hpc : G.Box u pc 34 [.int .i64 2, .int .i64 (D : Int), .int .i64 (C : Int), .int .i64 (F : Int)]) :
    Calls Tryd.prog 75 #[.int .i64 (z : Int), .pointer (some ⟨pw, 0, none⟩), .pointer (some ⟨pc, 0, none⟩)] u fun e W => NumR (term C w z) e W ∧ Below u.heap.size u W := by
  have hlpw := lt_of_cell hpw
  have hlpc := hpc.lt
  have hr0 := Bx.zero u
  have hB0 := (Below.refl _ u).alloc (Nat.le_refl _) (.cells #[.slice none 0 0] 24)
  obtain ⟨u0, hu0⟩ : ∃ u0, u.alloc (.cells #[.slice none 0 0] 24) = u0 := ⟨_, rfl⟩
  rw [hu0] at hr0 hB0
  have q1 : u0.drew.cell? ⟨pw, 0, none⟩ = some (.int .i64 (w : Int)) := (hB0.cell (p := ⟨pw, 0, none⟩) hlpw).trans hpw
  have q2 : u0.drew.cell? ⟨pc, 2, none⟩ = some (.int .i64 (C : Int)) := (hpc.below hB0).cell 2 rfl
  have HR0 := Lib.hid (show Bx u0.drew u.heap.size 0 from hr0.drewN 1)
  have HB0 := Lib.hid (show Below u.heap.size u u0.drew from hB0.drew)
  have HCH := Lib.hid (fun W => (show Calls Tryd.prog 44 #[.int .i64 (w : Int), .int .i64 (z : Int)] W fun e W' => NumR (chI w z) e W' ∧ Below W.heap.size W W' from by
    have h := choose_any (w : Int) (z : Int) W (by omega)
    rwa [if_neg (by omega), Int.toNat_natCast] at h))
  obtain ⟨m, hm⟩ : ∃ m, w - z - C = m := ⟨_, rfl⟩
  obtain ⟨d, hd⟩ : ∃ d : Int, (w : Int) - (z : Int) = d := ⟨_, rfl⟩
  obtain ⟨d2, hd2⟩ : ∃ d2 : Int, d - (C : Int) = d2 := ⟨_, rfl⟩
  have hw1 : IntKind.i64.wrap d = d := by rw [IntKind.wrap_i64]; omega
  have hw2 : IntKind.i64.wrap d2 = d2 := by rw [IntKind.wrap_i64]; omega
  have hmax : max (0 : Int) d2 = (m : Int) := by omega
  have HPW := Lib.hid (fun W => (show Calls Tryd.prog 46 #[.int .i64 256, .int .i64 (m : Int)] W (fun e W' => NumR (256 ^ m) e W' ∧ Below W.heap.size W W') from power_any 256 m W (by omega) (by omega)))
  have HM := Lib.hid hm
  have hl1 := chI_len w (z : Int)
  have HLN := Lib.hid (show (M.dig (chI w z)).length ≤ 200 ∧ (M.dig (256 ^ m)).length ≤ 200 ∧ (M.dig (chI w z * 256 ^ m)).length ≤ 200 from
    ⟨bits_len (Nat.le_of_lt hl1) (by omega), bits_len (Nat.le_of_eq (pow256 m)) (by omega), bits_len (mul_bits (Nat.le_of_lt hl1) (Nat.le_of_eq (pow256 m))) (by omega)⟩)
  clear hm hl1
  clear hpw hpc hr0 hB0
  go_enter Tryd.func75, Tryd.ntmps75
  go_wp2_with fail
  go_region_law (first
    | (go_simp; go_at_call 44; (with_reducible refine (HCH.out _).mono ?_); go_must (rintro e w10 ⟨⟨a2, c2, rfl, hr2⟩, hb10⟩; have q3 := (hb10.cell (p := ⟨pw, 0, none⟩) (lt_of_cell q1)).trans q1; have q4 := (hb10.cell (p := ⟨pc, 2, none⟩) (lt_of_cell q2)).trans q2; have HRA := Lib.hid hr2; have HB10 := Lib.hid hb10; clear hr2 hb10; go_simp))
    | (go_simp; go_at_call 46; (with_reducible refine (HPW.out _).mono ?_); go_must (rintro e w11 ⟨⟨a3, c3, rfl, hr3⟩, hb11⟩; have HPR := Lib.hid (product2 (HRA.out.below hb11) hr3 HLN.out.1 HLN.out.2.1 HLN.out.2.2); have HR11 := Lib.hid ((HR0.out.below HB10.out).below hb11); have HB11 := Lib.hid ((HB0.out.trans (HB10.out.mono HB0.out.size)).trans (hb11.mono (by have := HB0.out.size; have := HB10.out.size; omega))); clear hr3 hb11; go_simp))
    | (go_simp; go_at_call 30; (with_reducible refine HPR.out.mono ?_); go_must (rintro e w12 ⟨⟨a4, c4, rfl, hr4⟩, hb12⟩; have hr5 := HR11.out.below hb12; obtain ⟨_, _, d1, _⟩ := hr5.cell; have d2 := hr5.free; have d4 : (w12.setCell ⟨u.heap.size, 0, none⟩ (.slice a4 (M.dig (chI w z * 256 ^ m)).length c4)).cell? ⟨u.heap.size, 0, none⟩ = some (.slice a4 (M.dig (chI w z * 256 ^ m)).length c4) := World.cell?_setCell_same' _ _ _ (by rw [d1]; rfl); have HR6 := Lib.hid (hr4.store d1 (.slice a4 (M.dig (chI w z * 256 ^ m)).length c4)); have HB6 := Lib.hid ((HB11.out.trans (hb12.mono HB11.out.size)).setCell (p := ⟨u.heap.size, 0, none⟩) (Nat.le_refl _) (.slice a4 (M.dig (chI w z * 256 ^ m)).length c4)); clear hr5 hr4 hb12; go_simp)))
  all_goals (
    go_wp2_with fail
    exact bodyPost_ret (v := .agg #[.slice a4 (M.dig (chI w z * 256 ^ m)).length c4]) (by simp [results, Tryd.results75, go_sem, d4]) rfl ⟨⟨a4, c4, by rw [term, HM.out], by rw [term, HM.out]; exact HR6.out⟩, HB6.out⟩)
end C
end Go.Proofs.YtknjoajeilgieaaDoor

namespace Go.Proofs.YtknjoajeilgieaaDoor
open Go Go.RowKit Go.Shelf

namespace C
/-- A code of symbols. -/
def codeV (D C F : Nat) : Value := .agg #[.int .i64 2, .int .i64 (D : Int), .int .i64 (C : Int), .int .i64 (F : Int)]
def CBox (W : World) (p D C F : Nat) : Prop := G.Box W p 34 [.int .i64 2, .int .i64 (D : Int), .int .i64 (C : Int), .int .i64 (F : Int)]
theorem CBox.at {W : World} {p D C F : Nat} (h : CBox W p D C F) : W.cell? ⟨p, 0, none⟩ = some (.int .i64 2) ∧ W.cell? ⟨p, 1, none⟩ = some (.int .i64 (D : Int)) ∧ W.cell? ⟨p, 2, none⟩ = some (.int .i64 (C : Int)) ∧ W.cell? ⟨p, 3, none⟩ = some (.int .i64 (F : Int)) :=
  ⟨h.cell 0 rfl, h.cell 1 rfl, h.cell 2 rfl, h.cell 3 rfl⟩
theorem CBox.new (w : World) (D C F : Nat) : ∃ w1, w.alloc (.cells #[.int .i64 2, .int .i64 (D : Int), .int .i64 (C : Int), .int .i64 (F : Int)] 34) = w1 ∧ CBox w1 w.heap.size D C F ∧ Below w.heap.size w w1 ∧ w1.heap.size = w.heap.size + 1 :=
  ⟨_, rfl, G.Box.new w _ _, (Below.refl _ w).alloc (Nat.le_refl _) _, World.size_alloc _ _⟩
theorem CBox.below {W W' : World} {p D C F : Nat} (h : CBox W p D C F) (hb : Below W.heap.size W W') : CBox W' p D C F := G.Box.below h hb
theorem CBox.drewN {W : World} {p D C F : Nat} (h : CBox W p D C F) (k : Nat) : CBox (W.drewN k) p D C F := G.Box.drewN h k
theorem CBox.lt {W : World} {p D C F : Nat} (h : CBox W p D C F) : p < W.heap.size := G.Box.lt h

theorem length_any {D C F : Nat} (hD : D ≤ 100) (hC : C ≤ 100) (w : World) : Calls Tryd.prog 45 #[codeV D C F] w fun e w' => e = .returned (.int .i64 ((D + C : Nat) : Int)) ∧ Below w.heap.size w w' := by
  unfold codeV
  obtain ⟨w1, hw1, hb, hB, _⟩ := CBox.new w D C F
  obtain ⟨c0, c1, c2, c3⟩ := hb.at
  have HB := Lib.hid hB
  clear hB hb
  go_enter Tryd.func45, Tryd.ntmps45
  go_wp2_with fail
  go_ret
  refine ⟨?_, HB.out⟩
  first | rfl | (congr 2) | (rw [IntKind.wrap_i64]; congr 2; omega)

/-- What alternating gives for the terms. -/
def each (C w : Nat) : Nat := ev (term C w) (w + 1) - od (term C w) (w + 1)
/-- The number of code words of which just w bytes are not 0. -/
def wordsN (n C w : Nat) : Nat := chI n w * each C w
theorem ev_le {f : Nat → Nat} {B : Nat} : ∀ k, (∀ z, z < k → f z ≤ B) → ev f k ≤ k * B
  | 0, _ => by simp [ev]
  | k + 1, h => by
    have h1 := ev_le k (fun z hz => h z (by omega))
    have h2 := h k (Nat.lt_succ_self k)
    rw [ev, Nat.succ_mul]
    split <;> omega
theorem od_le {f : Nat → Nat} {B : Nat} : ∀ k, (∀ z, z < k → f z ≤ B) → od f k ≤ k * B
  | 0, _ => by simp [od]
  | k + 1, h => by
    have h1 := od_le k (fun z hz => h z (by omega))
    have h2 := h k (Nat.lt_succ_self k)
    rw [od, Nat.succ_mul]
    split <;> omega
theorem term_le (C w z : Nat) : term C w z ≤ 2 ^ (9 * w + 1) := by
  have := mul_bits (Nat.le_of_lt (chI_len w (z : Int))) (Nat.le_of_eq (pow256 (w - z - C)))
  exact Nat.le_trans this (Nat.pow_le_pow_right (by omega) (by omega))
theorem ev_term (C w k : Nat) (hk : k ≤ 512) : ev (term C w) k ≤ 2 ^ (9 * w + 10) := by
  refine Nat.le_trans (ev_le k (fun z _ => term_le C w z)) ?_
  rw [show 9 * w + 10 = 9 + (9 * w + 1) by omega, Nat.pow_add 2 9 (9 * w + 1)]
  exact Nat.mul_le_mul hk (Nat.le_refl _)
theorem od_term (C w k : Nat) (hk : k ≤ 512) : od (term C w) k ≤ 2 ^ (9 * w + 10) := by
  refine Nat.le_trans (od_le k (fun z _ => term_le C w z)) ?_
  rw [show 9 * w + 10 = 9 + (9 * w + 1) by omega, Nat.pow_add 2 9 (9 * w + 1)]
  exact Nat.mul_le_mul hk (Nat.le_refl _)
theorem each_le (C w : Nat) (hw : w ≤ 100) : each C w ≤ 2 ^ (9 * w + 10) := Nat.le_trans (Nat.sub_le _ _) (ev_term C w (w + 1) (by omega))
theorem wordsN_le (n C w : Nat) (hw : w ≤ 100) : wordsN n C w ≤ 2 ^ (n + 1 + (9 * w + 10)) := mul_bits (Nat.le_of_lt (chI_len n (w : Int))) (each_le C w hw)
theorem call_words1 : ∀ (args : Array Value) (W : World), Sem.run Tryd.prog (callFunc 75 args) W = .ok (.enter 75 args) W := by
  intro args W
  simp [callFunc, go_sem, Tryd.func75, Tryd.f75]

set_option maxRecDepth 100000 in
set_option maxHeartbeats 1000000 in
/-- **chance.words** -/
theorem words_any {D C F : Nat} (hD : D ≤ 32) (hC : C ≤ 8) (w : Nat) (hw : w ≤ 40) (u : World) :
    Calls Tryd.prog 43 #[codeV D C F, .int .i64 (w : Int)] u fun e W => NumR (wordsN (D + C) C w) e W ∧ Below u.heap.size u W := by
  have HLE := Lib.hid (fun W => length_any (F := F) (show D ≤ 100 by omega) (show C ≤ 100 by omega) W)
  unfold codeV at *
  obtain ⟨u1, hu1, hbx1, hB1, hs1⟩ := CBox.new u D C F
  obtain ⟨u2, hu2⟩ : ∃ u2, u1.alloc (.cells #[.int .i64 (w : Int)] 3) = u2 := ⟨_, rfl⟩
  have hB2 : Below u1.heap.size u1 u2 := by rw [← hu2]; exact (Below.refl _ u1).alloc (Nat.le_refl _) _
  have hs2 : u2.heap.size = u1.heap.size + 1 := by rw [← hu2]; exact World.size_alloc _ _
  have hcw : u2.cell? ⟨u1.heap.size, 0, none⟩ = some (.int .i64 (w : Int)) := by rw [← hu2]; exact cell_new _ _ _
  have hr0 := Bx.zero u2
  obtain ⟨u3, hu3⟩ : ∃ u3, u2.alloc (.cells #[.slice none 0 0] 24) = u3 := ⟨_, rfl⟩
  have hB3 : Below u2.heap.size u2 u3 := by rw [← hu3]; exact (Below.refl _ u2).alloc (Nat.le_refl _) _
  rw [hu3] at hr0
  obtain ⟨pw, hpw⟩ : ∃ pw, u1.heap.size = pw := ⟨_, rfl⟩
  obtain ⟨pr, hpr⟩ : ∃ pr, u2.heap.size = pr := ⟨_, rfl⟩
  rw [hpw] at hcw
  rw [hpr] at hr0
  have HCB := Lib.hid ((hbx1.below hB2).below hB3)
  have hcw3 : u3.cell? ⟨pw, 0, none⟩ = some (.int .i64 (w : Int)) := (hB3.cell (p := ⟨pw, 0, none⟩) (lt_of_cell hcw)).trans hcw
  have HR3 := Lib.hid hr0
  have hsz1 := hB1.size
  have hsz2 := hB2.size
  have hpr0 : u.heap.size ≤ pr := by omega
  have HB3 := Lib.hid ((hB1.trans (hB2.mono (by omega))).trans (hB3.mono (by omega)))
  have hal := alternating_any 75 (.pointer (some ⟨pw, 0, none⟩)) (.pointer (some ⟨u.heap.size, 0, none⟩)) (term C w) w u3 (by omega) call_words1 (fun k hk W hb => words1_any C w k pw u.heap.size D F W hk (by omega) (by omega) ((hb.cell (p := ⟨pw, 0, none⟩) (lt_of_cell hcw3)).trans hcw3) (HCB.out.below hb))
    (fun k _ => bits_len (term_le C w k) (by omega)) (fun k hk => bits_len (ev_term C w k (by omega)) (by omega)) (fun k hk => bits_len (od_term C w k (by omega)) (by omega))
  rw [show ev (term C w) (w + 1) - od (term C w) (w + 1) = each C w from rfl] at hal
  have HAL := Lib.hid hal
  have hmf : ∀ (fn : Fn) (first cap : Array Value) (w : World), (Instr.makeFunc fn first cap).run Tryd.prog w = .ok (.func fn first cap) w := fun _ _ _ _ => rfl
  obtain ⟨n, hn⟩ : ∃ n, D + C = n := ⟨_, rfl⟩
  have hn40 : n ≤ 40 := by omega
  have HCH := Lib.hid (fun W => (show Calls Tryd.prog 44 #[.int .i64 (n : Int), .int .i64 (w : Int)] W fun e W' => NumR (chI n w) e W' ∧ Below W.heap.size W W' from by
    have h := choose_any (n : Int) (w : Int) W (by omega)
    rwa [if_neg (by omega), Int.toNat_natCast] at h))
  have hl1 := Nat.le_of_lt (chI_len n (w : Int))
  have hl2 := each_le C w (by omega)
  have HLN := Lib.hid (show (M.dig (chI n w)).length ≤ 200 ∧ (M.dig (each C w)).length ≤ 200 ∧ (M.dig (chI n w * each C w)).length ≤ 200 from
    ⟨bits_len hl1 (by omega), bits_len hl2 (by omega), bits_len (mul_bits hl1 hl2) (by omega)⟩)
  obtain ⟨E, hE⟩ : ∃ E, each C w = E := ⟨_, rfl⟩
  obtain ⟨H, hH⟩ : ∃ H, chI n w = H := ⟨_, rfl⟩
  obtain ⟨R, hR⟩ : ∃ R, wordsN (D + C) C w = R := ⟨_, rfl⟩
  have hRHE : R = H * E := by rw [← hR, ← hH, ← hE, hn]; rfl
  rw [hR]
  rw [hn] at HLE
  rw [hE] at HAL
  simp only [hE, hH] at HLN HCH
  have HRHE := Lib.hid hRHE
  have CW := Lib.hid hcw3
  clear hE hH hR hRHE hl1 hl2 hal hbx1 hB1 hB2 hB3 hr0 hcw hn hs1 hs2
  go_enter Tryd.func43, Tryd.ntmps43
  go_wp2_with fail
  (with_reducible refine HAL.out.mono ?_)
  rintro e u4 ⟨⟨a4, c4, rfl, hr4⟩, hb4⟩
  obtain ⟨pe, hpe⟩ : ∃ pe, u4.heap.size = pe := ⟨_, rfl⟩
  obtain ⟨u5, hu5⟩ : ∃ u5, u4.alloc (.cells #[.slice a4 (M.dig E).length c4] 24) = u5 := ⟨_, rfl⟩
  have hb5 : Below u4.heap.size u4 u5 := by rw [← hu5]; exact (Below.refl _ u4).alloc (Nat.le_refl _) _
  have hce : u5.cell? ⟨pe, 0, none⟩ = some (.slice a4 (M.dig E).length c4) := by rw [← hu5, ← hpe]; exact cell_new _ _ _
  have hb35 := hb4.trans (hb5.mono hb4.size)
  obtain ⟨k0, k1, k2, k3⟩ := (HCB.out.below hb35).at
  have q0 : u5.drew.cell? ⟨u.heap.size, 0, none⟩ = _ := k0
  have q1 : u5.drew.cell? ⟨u.heap.size, 1, none⟩ = _ := k1
  have q2 : u5.drew.cell? ⟨u.heap.size, 2, none⟩ = _ := k2
  have q3 : u5.drew.cell? ⟨u.heap.size, 3, none⟩ = _ := k3
  have q4 : u5.drew.cell? ⟨pw, 0, none⟩ = some (.int .i64 (w : Int)) := (hb35.cell (p := ⟨pw, 0, none⟩) (lt_of_cell CW.out)).trans CW.out
  have q5 : u5.drew.cell? ⟨pe, 0, none⟩ = some (.slice a4 (M.dig E).length c4) := hce
  have HRE := Lib.hid (show Row u5.drew a4 (M.dig E) c4 from (hr4.below hb5).drewN 1)
  have HR5 := Lib.hid (show Bx u5.drew pr 0 from (HR3.out.below hb35).drewN 1)
  have HB5 := Lib.hid (show Below u.heap.size u u5.drew from (HB3.out.trans (hb35.mono HB3.out.size)).drew)
  clear hr4 hb4 hb5 hce hb35 k0 k1 k2 k3 HAL HCB HR3 HB3
  go_wp2_with fail
  go_region_law (first
    | (go_simp; go_at_call 45; (with_reducible refine (HLE.out _).mono ?_); go_must (rintro e w10 ⟨rfl, hb10⟩; have p4 := (hb10.cell (p := ⟨pw, 0, none⟩) (lt_of_cell q4)).trans q4; have p5 := (hb10.cell (p := ⟨pe, 0, none⟩) (lt_of_cell q5)).trans q5; have HB10 := Lib.hid hb10; clear hb10; go_simp))
    | (go_simp; go_at_call 44; (with_reducible refine (HCH.out _).mono ?_); go_must (rintro e w11 ⟨⟨a2, c2, rfl, hr2⟩, hb11⟩; have r5 := (hb11.cell (p := ⟨pe, 0, none⟩) (lt_of_cell p5)).trans p5; have hb5 := HB10.out.trans (hb11.mono HB10.out.size); have HPR := Lib.hid (product2 hr2 (HRE.out.below hb5) HLN.out.1 HLN.out.2.1 HLN.out.2.2); have HR11 := Lib.hid (HR5.out.below hb5); have HB11 := Lib.hid (HB5.out.trans (hb5.mono HB5.out.size)); clear hr2 hb11 hb5; go_simp))
    | (go_simp; go_at_call 30; (with_reducible refine HPR.out.mono ?_); go_must (rintro e w12 ⟨⟨a3, c3, rfl, hr3⟩, hb12⟩; have hr5 := HR11.out.below hb12; obtain ⟨_, _, d1, _⟩ := hr5.cell; have d2 := hr5.free; have d4 : (w12.setCell ⟨pr, 0, none⟩ (.slice a3 (M.dig (H * E)).length c3)).cell? ⟨pr, 0, none⟩ = some (.slice a3 (M.dig (H * E)).length c3) := World.cell?_setCell_same' _ _ _ (by rw [d1]; rfl); have HR6 := Lib.hid (hr3.store d1 (.slice a3 (M.dig (H * E)).length c3)); have HB6 := Lib.hid ((HB11.out.trans (hb12.mono HB11.out.size)).setCell (p := ⟨pr, 0, none⟩) hpr0 (.slice a3 (M.dig (H * E)).length c3)); clear hr5 hr3 hb12; go_simp)))
  all_goals (
    go_wp2_with fail
    exact bodyPost_ret (v := .agg #[.slice a3 (M.dig (H * E)).length c3]) (by simp [results, Tryd.results43, go_sem, d4]) rfl ⟨⟨a3, c3, by rw [HRHE.out], by rw [HRHE.out]; exact HR6.out⟩, HB6.out⟩)
end C
end Go.Proofs.YtknjoajeilgieaaDoor

namespace Go.Proofs.YtknjoajeilgieaaDoor
open Go Go.RowKit Go.Shelf

namespace C
/-- A bound of bits for the factors of near. -/
def EB : Nat := 411
theorem EB_eq : EB = 411 := rfl
attribute [irreducible] EB
theorem prd_bits {xs : List Nat} {b : Nat} : ∀ k, (∀ j, j < k → nth xs j ≤ 2 ^ b) → prd xs k ≤ 2 ^ (b * k)
  | 0, _ => by simp [prd]
  | k + 1, h => by
    rw [Nat.mul_succ]
    exact mul_bits (prd_bits k (fun j hj => h j (by omega))) (h k (Nat.lt_succ_self k))
/-- product of numbers that were just laid out -/
theorem productV {W : World} {xs : List Nat} {vs : List Value} {b : Nat} (h : ∀ j, j < xs.length → ∃ a c, vs[j]? = some (.slice a (M.dig (nth xs j)).length c) ∧ Row W a (M.dig (nth xs j)) c)
    (hb : ∀ j, j < xs.length → nth xs j ≤ 2 ^ b) (hb2 : b * xs.length < 4800) (hb1 : b < 4800) (hl : xs.length ≤ 100) :
    Calls Tryd.prog 30 #[.slice (some ⟨W.heap.size, 0, none⟩) xs.length xs.length] (W.alloc (.cells vs.toArray 24)) fun e W' => NumR (prd xs xs.length) e W' ∧ Below W.heap.size W W' := by
  refine (product_any W.heap.size xs.length xs _ (Nat.le_refl _) (by omega) (facs_new h) (fun j hj => bits_len (hb j hj) hb1) (fun k hk => bits_len (prd_bits k (fun j hj => hb j (by omega))) (Nat.lt_of_le_of_lt (Nat.mul_le_mul_left b hk) hb2))).mono ?_
  rintro e W' ⟨h1, h2⟩
  exact ⟨h1, ((Below.refl _ W).alloc (Nat.le_refl _) _).trans (h2.mono (by simp))⟩

/-- The factors of near. -/
def nearL (n C v g o m : Nat) : List Nat := [wordsN n C v, chI v g, (if (v : Int) - (g : Int) < 0 then 0 else chI ((v : Int) - (g : Int)).toNat o), 254 ^ o, chI (n - v) m, 255 ^ m]
/-- What near returns. -/
def nearN (n C w g o m : Nat) : Nat := if w + g < m + 1 ∨ n + m < w + g then 0 else prd (nearL n C (w + g - m) g o m) 6
theorem chI_bits (n : Nat) (k : Int) (h : n ≤ 40) : chI n k ≤ 2 ^ EB := Nat.le_trans (Nat.le_of_lt (chI_len n k)) (Nat.pow_le_pow_right (by omega) (by have := EB_eq; omega))
theorem pow_bits (x o : Nat) (hx : x ≤ 256) (ho : o ≤ 8) : x ^ o ≤ 2 ^ EB := by
  refine Nat.le_trans (Nat.pow_le_pow_left hx o) ?_
  rw [pow256]
  exact Nat.pow_le_pow_right (by omega) (by have := EB_eq; omega)
theorem nearL_bits {n C v g o m : Nat} (hn : n ≤ 40) (hv : v ≤ n) (ho : o ≤ 8) (hm : m ≤ 8) : ∀ j, j < (nearL n C v g o m).length → nth (nearL n C v g o m) j ≤ 2 ^ EB := fun j hj => by
  match j, hj with
  | 0, _ => exact Nat.le_trans (wordsN_le n C v (by omega)) (Nat.pow_le_pow_right (by omega) (by have := EB_eq; omega))
  | 1, _ => exact chI_bits v g (by omega)
  | 2, _ =>
    show (if (v : Int) - (g : Int) < 0 then 0 else chI ((v : Int) - (g : Int)).toNat o) ≤ 2 ^ EB
    split
    · exact Nat.zero_le _
    · exact chI_bits _ o (by omega)
  | 3, _ => exact pow_bits 254 o (by omega) ho
  | 4, _ => exact chI_bits (n - v) m (by omega)
  | 5, _ => exact pow_bits 255 m (by omega) hm
theorem nearN_le {n C w g o m : Nat} (hn : n ≤ 40) (ho : o ≤ 8) (hm : m ≤ 8) : nearN n C w g o m ≤ 2 ^ (EB * 6) := by
  unfold nearN
  split
  · exact Nat.zero_le _
  · exact prd_bits (b := EB) 6 (fun j hj => nearL_bits hn (by omega) ho hm j hj)

set_option maxRecDepth 100000 in
set_option maxHeartbeats 1000000 in
/-- **chance.near** -/
theorem near_any {D C F : Nat} (hD : D ≤ 32) (hC : C ≤ 8) (w g o m : Nat) (hw : w ≤ 40) (hg : g ≤ 8) (ho : o ≤ 8) (hm : m ≤ 8) (u : World) :
    Calls Tryd.prog 49 #[codeV D C F, .int .i64 (w : Int), .int .i64 (g : Int), .int .i64 (o : Int), .int .i64 (m : Int)] u fun e W => NumR (nearN (D + C) C w g o m) e W ∧ Below u.heap.size u W := by
  have HLE := Lib.hid (fun W => length_any (F := F) (show D ≤ 100 by omega) (show C ≤ 100 by omega) W)
  have HWO := Lib.hid (fun (v : Nat) (hv : v ≤ 40) W => words_any (F := F) hD hC v hv W)
  unfold codeV at *
  obtain ⟨n, hn⟩ : ∃ n, D + C = n := ⟨_, rfl⟩
  have hn40 : n ≤ 40 := by omega
  rw [hn] at HLE HWO ⊢
  clear hn
  obtain ⟨u1, hu1, hbx1, hB1, hs1⟩ := CBox.new u D C F
  have hr0 := Bx.zero u1
  obtain ⟨u3, hu3⟩ : ∃ u3, u1.alloc (.cells #[.slice none 0 0] 24) = u3 := ⟨_, rfl⟩
  have hB3 : Below u1.heap.size u1 u3 := by rw [← hu3]; exact (Below.refl _ u1).alloc (Nat.le_refl _) _
  rw [hu3] at hr0
  obtain ⟨pr, hpr⟩ : ∃ pr, u1.heap.size = pr := ⟨_, rfl⟩
  rw [hpr] at hr0
  have HCB := Lib.hid (hbx1.below hB3)
  have HR3 := Lib.hid hr0
  have hsz1 := hB1.size
  have hpr0 : u.heap.size ≤ pr := by omega
  have HB3 := Lib.hid (hB1.trans (hB3.mono (by omega)))
  obtain ⟨a1, ha1⟩ : ∃ a1 : Int, (w : Int) + (g : Int) = a1 := ⟨_, rfl⟩
  obtain ⟨v, hv⟩ : ∃ v : Int, a1 - (m : Int) = v := ⟨_, rfl⟩
  have hw1 : IntKind.i64.wrap a1 = a1 := by rw [IntKind.wrap_i64]; omega
  have hw2 : IntKind.i64.wrap v = v := by rw [IntKind.wrap_i64]; omega
  obtain ⟨k0, k1, k2, k3⟩ := HCB.out.at
  clear hbx1 hB1 hB3 hr0 hs1
  by_cases hout : v < 1 ∨ (n : Int) < v
  · have hN : nearN n C w g o m = 0 := by unfold nearN; rw [if_pos (by omega)]
    rw [hN]
    rcases (show v < 1 ∨ (¬ v < 1 ∧ ¬ v ≤ (n : Int)) by omega) with h1 | ⟨h0, h1⟩
    all_goals clear hout hN
    all_goals (
      go_enter Tryd.func49, Tryd.ntmps49
      go_wp2_with fail
      (with_reducible refine (HLE.out _).mono ?_)
      rintro e u4 ⟨rfl, hb4⟩
      have hr4 := HR3.out.below hb4
      obtain ⟨_, _, d1, _⟩ := hr4.cell
      have d2 := hr4.free
      have hB4 := Lib.hid ((HB3.out.trans (hb4.mono HB3.out.size)).setCell (p := ⟨pr, 0, none⟩) hpr0 (.slice none 0 0))
      have d4 : (u4.setCell ⟨pr, 0, none⟩ (.slice none 0 0)).cell? ⟨pr, 0, none⟩ = some (.slice none 0 0) := World.cell?_setCell_same' _ _ _ (by rw [d1]; rfl)
      have HZ := Lib.hid (show Row (u4.setCell ⟨pr, 0, none⟩ (.slice none 0 0)) none (M.dig 0) 0 from row_nil _)
      clear hr4 hb4
      go_wp2_with fail
      exact bodyPost_ret (v := .agg #[.slice none 0 0]) (by simp [results, Tryd.results49, go_sem, d4]) rfl ⟨⟨none, 0, by rw [M.dig_zero]; rfl, HZ.out⟩, hB4.out⟩)
  · obtain ⟨V, hV⟩ : ∃ V : Nat, v = (V : Int) := ⟨v.toNat, by omega⟩
    have hN : nearN n C w g o m = prd (nearL n C V g o m) 6 := by
      unfold nearN
      rw [if_neg (by omega), show w + g - m = V by omega]
    rw [hN]
    have hV1 : ¬ (V : Int) < 1 := by omega
    have hV2 : (V : Int) ≤ (n : Int) := by omega
    have hVn : V ≤ n := by omega
    subst hV
    obtain ⟨d, hd⟩ : ∃ d : Int, (V : Int) - (g : Int) = d := ⟨_, rfl⟩
    obtain ⟨e', he'⟩ : ∃ e' : Nat, n - V = e' := ⟨_, rfl⟩
    have hwd : IntKind.i64.wrap d = d := by rw [IntKind.wrap_i64]; omega
    have hee : (n : Int) - (V : Int) = (e' : Int) := by omega
    have hwe : IntKind.i64.wrap (e' : Int) = (e' : Int) := by rw [IntKind.wrap_i64]; omega
    have HW1 := Lib.hid (HWO.out V (by omega))
    have HC1 := Lib.hid (fun W => (show Calls Tryd.prog 44 #[.int .i64 (V : Int), .int .i64 (g : Int)] W fun e W' => NumR (chI V g) e W' ∧ Below W.heap.size W W' from by
      have h := choose_any (V : Int) (g : Int) W (by omega)
      rwa [if_neg (by omega), Int.toNat_natCast] at h))
    have HC2 := Lib.hid (fun W => choose_any d (o : Int) W (by omega))
    have HC3 := Lib.hid (fun W => (show Calls Tryd.prog 44 #[.int .i64 (e' : Int), .int .i64 (m : Int)] W fun e W' => NumR (chI e' m) e W' ∧ Below W.heap.size W W' from by
      have h := choose_any (e' : Int) (m : Int) W (by omega)
      rwa [if_neg (by omega), Int.toNat_natCast] at h))
    have HP1 := Lib.hid (fun W => (show Calls Tryd.prog 46 #[.int .i64 254, .int .i64 (o : Int)] W (fun e W' => NumR (254 ^ o) e W' ∧ Below W.heap.size W W') from power_any 254 o W (by omega) (by omega)))
    have HP2 := Lib.hid (fun W => (show Calls Tryd.prog 46 #[.int .i64 255, .int .i64 (m : Int)] W (fun e W' => NumR (255 ^ m) e W' ∧ Below W.heap.size W W') from power_any 255 m W (by omega) (by omega)))
    have hPV := fun (W : World) (vs : List Value) (h : ∀ j, j < 6 → ∃ (a : Option Addr) (c : Nat), vs[j]? = some (Value.slice a (M.dig (nth (nearL n C V g o m) j)).length c) ∧ Row W a (M.dig (nth (nearL n C V g o m) j)) c) =>
      (show Calls Tryd.prog 30 #[.slice (some ⟨W.heap.size, 0, none⟩) 6 6] (W.alloc (.cells vs.toArray 24)) (fun e W' => NumR (prd (nearL n C V g o m) 6) e W' ∧ Below W.heap.size W W') from productV (b := EB) h (nearL_bits hn40 hVn ho hm) (show EB * 6 < 4800 by have := EB_eq; omega) (by have := EB_eq; omega) (show 6 ≤ 100 by omega))
    obtain ⟨x0, h0⟩ : ∃ x, wordsN n C V = x := ⟨_, rfl⟩
    obtain ⟨x1, h1⟩ : ∃ x, chI V g = x := ⟨_, rfl⟩
    obtain ⟨x2, h2⟩ : ∃ x, (if d < 0 then 0 else chI d.toNat o) = x := ⟨_, rfl⟩
    obtain ⟨x3, h3⟩ : ∃ x, 254 ^ o = x := ⟨_, rfl⟩
    obtain ⟨x4, h4⟩ : ∃ x, chI e' m = x := ⟨_, rfl⟩
    obtain ⟨x5, h5⟩ : ∃ x, 255 ^ m = x := ⟨_, rfl⟩
    have hL : nearL n C V g o m = [x0, x1, x2, x3, x4, x5] := by
      unfold nearL
      rw [hd, he', h0, h1, h2, h3, h4, h5]
    rw [hL] at hPV ⊢
    rw [h0] at HW1
    rw [h1] at HC1
    rw [h2] at HC2
    rw [h3] at HP1
    rw [h4] at HC3
    rw [h5] at HP2
    obtain ⟨R, hR⟩ : ∃ R, prd [x0, x1, x2, x3, x4, x5] 6 = R := ⟨_, rfl⟩
    rw [hR] at hPV ⊢
    have HPV := Lib.hid hPV
    clear hPV hR hL h0 h1 h2 h3 h4 h5 hN hout he' HWO
    go_enter Tryd.func49, Tryd.ntmps49
    go_wp2_with fail
    (with_reducible refine (HLE.out _).mono ?_)
    rintro e u4 ⟨rfl, hb4⟩
    obtain ⟨q0, q1, q2, q3⟩ := (HCB.out.below hb4).at
    have HR4 := Lib.hid (HR3.out.below hb4)
    have HB4 := Lib.hid (HB3.out.trans (hb4.mono HB3.out.size))
    clear hb4 HCB HR3 HB3 k0 k1 k2 k3 HLE
    go_wp2_with fail
    (with_reducible refine (HW1.out _).mono ?_)
    rintro e u5 ⟨⟨b0, c0, rfl, r0⟩, hb5⟩
    have hs5 := hb5.size
    have HR0 := Lib.hid r0
    have HB5 := Lib.hid hb5
    clear r0 hb5 HW1 q0 q1 q2 q3
    go_wp2_with fail
    (with_reducible refine (HC1.out _).mono ?_)
    rintro e u6 ⟨⟨b1, c1, rfl, r1⟩, hb6⟩
    have HR0 := Lib.hid (HR0.out.below hb6)
    have HR1 := Lib.hid r1
    have HB5 := Lib.hid (HB5.out.trans (hb6.mono HB5.out.size))
    clear r1 hb6 HC1
    go_wp2_with fail
    (with_reducible refine (HC2.out _).mono ?_)
    rintro e u7 ⟨⟨b2, c2, rfl, r2⟩, hb7⟩
    have HR0 := Lib.hid (HR0.out.below hb7)
    have HR1 := Lib.hid (HR1.out.below hb7)
    have HR2 := Lib.hid r2
    have HB5 := Lib.hid (HB5.out.trans (hb7.mono HB5.out.size))
    clear r2 hb7 HC2
    go_wp2_with fail
    (with_reducible refine (HP1.out _).mono ?_)
    rintro e u8 ⟨⟨b3, c3, rfl, r3⟩, hb8⟩
    have HR0 := Lib.hid (HR0.out.below hb8)
    have HR1 := Lib.hid (HR1.out.below hb8)
    have HR2 := Lib.hid (HR2.out.below hb8)
    have HR3 := Lib.hid r3
    have HB5 := Lib.hid (HB5.out.trans (hb8.mono HB5.out.size))
    clear r3 hb8 HP1
    go_wp2_with fail
    (with_reducible refine (HC3.out _).mono ?_)
    rintro e u9 ⟨⟨b4, c4, rfl, r4⟩, hb9⟩
    have HR0 := Lib.hid (HR0.out.below hb9)
    have HR1 := Lib.hid (HR1.out.below hb9)
    have HR2 := Lib.hid (HR2.out.below hb9)
    have HR3 := Lib.hid (HR3.out.below hb9)
    have HR4' := Lib.hid r4
    have HB5 := Lib.hid (HB5.out.trans (hb9.mono HB5.out.size))
    clear r4 hb9 HC3
    go_wp2_with fail
    (with_reducible refine (HP2.out _).mono ?_)
    rintro e uA ⟨⟨b5, c5, rfl, r5⟩, hbA⟩
    have HPR := Lib.hid (HPV.out uA [.slice b0 (M.dig x0).length c0, .slice b1 (M.dig x1).length c1, .slice b2 (M.dig x2).length c2, .slice b3 (M.dig x3).length c3, .slice b4 (M.dig x4).length c4, .slice b5 (M.dig x5).length c5] (fun j hj => by
      match j, hj with
      | 0, _ => exact ⟨b0, c0, rfl, HR0.out.below hbA⟩
      | 1, _ => exact ⟨b1, c1, rfl, HR1.out.below hbA⟩
      | 2, _ => exact ⟨b2, c2, rfl, HR2.out.below hbA⟩
      | 3, _ => exact ⟨b3, c3, rfl, HR3.out.below hbA⟩
      | 4, _ => exact ⟨b4, c4, rfl, HR4'.out.below hbA⟩
      | 5, _ => exact ⟨b5, c5, rfl, r5⟩))
    have HB5 := Lib.hid (HB5.out.trans (hbA.mono HB5.out.size))
    clear r5 hbA HP2 HR0 HR1 HR2 HR3 HR4' HPV
    go_wp2_with fail
    (with_reducible refine HPR.out.mono ?_)
    rintro e uB ⟨⟨b6, c6, rfl, r6⟩, hbB⟩
    have HB6 := Lib.hid (HB5.out.trans (hbB.mono HB5.out.size))
    have hr4 := HR4.out.below HB6.out
    obtain ⟨_, _, d1, _⟩ := hr4.cell
    have d2 := hr4.free
    have hB7 := Lib.hid ((HB4.out.trans (HB6.out.mono HB4.out.size)).setCell (p := ⟨pr, 0, none⟩) hpr0 (.slice b6 (M.dig R).length c6))
    have d4 : (uB.setCell ⟨pr, 0, none⟩ (.slice b6 (M.dig R).length c6)).cell? ⟨pr, 0, none⟩ = some (.slice b6 (M.dig R).length c6) := World.cell?_setCell_same' _ _ _ (by rw [d1]; rfl)
    have HZ := Lib.hid (r6.store d1 (.slice b6 (M.dig R).length c6))
    clear hr4 hbB r6 HB5 HB6 HPR
    go_wp2_with fail
    exact bodyPost_ret (v := .agg #[.slice b6 (M.dig R).length c6]) (by simp [results, Tryd.results49, go_sem, d4]) rfl ⟨⟨b6, c6, rfl, HZ.out⟩, hB7.out⟩
end C
end Go.Proofs.YtknjoajeilgieaaDoor

namespace Go.Proofs.YtknjoajeilgieaaDoor
open Go Go.RowKit Go.Shelf

namespace C
/-- A valid code. -/
structure Ok (D C F : Nat) : Prop where
  d1 : 1 ≤ D
  d2 : D ≤ 32
  c1 : 1 ≤ C
  c2 : C ≤ 8
  f2 : F ≤ C / 2
theorem within_yes (n l h : Int) (h1 : l ≤ n) (h2 : n ≤ h) (w : World) : Calls Tryd.prog 94 #[.int .i64 n, .int .i64 l, .int .i64 h] w fun e w' => e = .returned (.bool true) ∧ w = w' := by
  go_enter Tryd.func94, Tryd.ntmps94
  go_wp2_with fail
  go_ret
  exact ⟨rfl, rfl⟩
theorem validCode_yes {D C F : Nat} (hc : Ok D C F) (w : World) : Calls Tryd.prog 74 #[codeV D C F] w fun e w' => e = .returned (.bool true) ∧ Below w.heap.size w w' := by
  unfold codeV
  obtain ⟨h1, h2, h3, h4, h5⟩ := hc
  obtain ⟨w1, hw1, hb, hB, _⟩ := CBox.new w D C F
  obtain ⟨c0, c1, c2, c3⟩ := hb.at
  have HB := Lib.hid hB
  have a1 : (1 : Int) ≤ (D : Int) := by omega
  have a2 : (D : Int) ≤ 32 := by omega
  have a3 : (1 : Int) ≤ (C : Int) := by omega
  have a4 : (C : Int) ≤ 8 := by omega
  have a5 : (0 : Int) ≤ (F : Int) := by omega
  have a6 : (F : Int) ≤ (C : Int) / 2 := by omega
  clear hB hb
  go_enter Tryd.func74, Tryd.ntmps74
  go_wp2_with (go_at_call 94; (with_reducible refine (within_yes _ _ _ (by assumption) (by assumption) _).mono ?_; rintro e w2 ⟨rfl, rfl⟩))
  go_ret
  exact ⟨rfl, HB.out⟩

set_option maxRecDepth 100000 in
theorem refusal_yes {D C F : Nat} (hc : Ok D C F) (w : Nat) (hw : w ≤ D + C) (u : World) : Calls Tryd.prog 42 #[codeV D C F, .int .i64 (w : Int)] u fun e W => e = .returned (.int .i64 0) ∧ Below u.heap.size u W := by
  have HV := Lib.hid (fun W => validCode_yes hc W)
  have h2 := hc.d2
  have h4 := hc.c2
  have HLE := Lib.hid (fun W => length_any (F := F) (show D ≤ 100 by omega) (show C ≤ 100 by omega) W)
  unfold codeV at *
  obtain ⟨w1, hw1, hb, hB, _⟩ := CBox.new u D C F
  obtain ⟨c0, c1, c2, c3⟩ := hb.at
  obtain ⟨n, hn⟩ : ∃ n, D + C = n := ⟨_, rfl⟩
  rw [hn] at HLE hw
  have hwn : (w : Int) ≤ (n : Int) := by omega
  have HB := Lib.hid hB
  have HCB := Lib.hid hb
  clear hB hb hn
  go_enter Tryd.func42, Tryd.ntmps42
  go_wp2_with fail
  (with_reducible refine (HV.out _).mono ?_)
  rintro e w2 ⟨rfl, hb2⟩
  obtain ⟨d0, d1, d2, d3⟩ := (HCB.out.below hb2).at
  have HB2 := Lib.hid (HB.out.trans (hb2.mono HB.out.size))
  clear hb2
  go_wp2_with fail
  (with_reducible refine (HLE.out _).mono ?_)
  rintro e w3 ⟨rfl, hb3⟩
  have HB3 := Lib.hid (HB2.out.trans (hb3.mono HB2.out.size))
  clear hb3
  go_wp2_with fail
  go_ret
  exact ⟨rfl, HB3.out⟩

/-- The number n is returned, and no error. -/
def NumE (n : Nat) (e : Ending) (W : World) : Prop := ∃ a c, e = .returned (.tuple #[.agg #[.slice a (M.dig n).length c], .int .i64 0]) ∧ Row W a (M.dig n) c
def errN (n w : Nat) : Nat := chI n w * 255 ^ w
theorem pow255 (w : Nat) : 255 ^ w ≤ 2 ^ (8 * w) := by rw [← pow256]; exact Nat.pow_le_pow_left (by omega) w
theorem errN_le (n w : Nat) : errN n w ≤ 2 ^ (n + 1 + 8 * w) := mul_bits (Nat.le_of_lt (chI_len n (w : Int))) (pow255 w)

set_option maxRecDepth 100000 in
set_option maxHeartbeats 1000000 in
/-- **chance.Errors** -/
theorem errors_any {D C F : Nat} (hc : Ok D C F) (w : Nat) (hw : w ≤ D + C) (u : World) :
    Calls Tryd.prog 20 #[codeV D C F, .int .i64 (w : Int)] u fun e W => NumE (errN (D + C) w) e W ∧ Below u.heap.size u W := by
  have h2 := hc.d2
  have h4 := hc.c2
  have HRF := Lib.hid (fun W => refusal_yes hc w hw W)
  have HLE := Lib.hid (fun W => length_any (F := F) (show D ≤ 100 by omega) (show C ≤ 100 by omega) W)
  unfold codeV at *
  obtain ⟨n, hn⟩ : ∃ n, D + C = n := ⟨_, rfl⟩
  have hn40 : n ≤ 40 := by omega
  rw [hn] at HLE hw ⊢
  clear hn
  obtain ⟨u1, hu1, hbx1, hB1, hs1⟩ := CBox.new u D C F
  have hr0 := Bx.zero u1
  obtain ⟨u3, hu3⟩ : ∃ u3, u1.alloc (.cells #[.slice none 0 0] 24) = u3 := ⟨_, rfl⟩
  have hB3 : Below u1.heap.size u1 u3 := by rw [← hu3]; exact (Below.refl _ u1).alloc (Nat.le_refl _) _
  rw [hu3] at hr0
  obtain ⟨pr, hpr⟩ : ∃ pr, u1.heap.size = pr := ⟨_, rfl⟩
  rw [hpr] at hr0
  have HCB := Lib.hid (hbx1.below hB3)
  have HR3 := Lib.hid hr0
  have hsz1 := hB1.size
  have hpr0 : u.heap.size ≤ pr := by omega
  have HB3 := Lib.hid (hB1.trans (hB3.mono (by omega)))
  obtain ⟨k0, k1, k2, k3⟩ := HCB.out.at
  have HCH := Lib.hid (fun W => (show Calls Tryd.prog 44 #[.int .i64 (n : Int), .int .i64 (w : Int)] W fun e W' => NumR (chI n w) e W' ∧ Below W.heap.size W W' from by
    have h := choose_any (n : Int) (w : Int) W (by omega)
    rwa [if_neg (by omega), Int.toNat_natCast] at h))
  have HPW := Lib.hid (fun W => (show Calls Tryd.prog 46 #[.int .i64 255, .int .i64 (w : Int)] W (fun e W' => NumR (255 ^ w) e W' ∧ Below W.heap.size W W') from power_any 255 w W (by omega) (by omega)))
  have hl1 := Nat.le_of_lt (chI_len n (w : Int))
  have HLN := Lib.hid (show (M.dig (chI n w)).length ≤ 200 ∧ (M.dig (255 ^ w)).length ≤ 200 ∧ (M.dig (chI n w * 255 ^ w)).length ≤ 200 from
    ⟨bits_len hl1 (by omega), bits_len (pow255 w) (by omega), bits_len (mul_bits hl1 (pow255 w)) (by omega)⟩)
  rw [show errN n w = chI n w * 255 ^ w from rfl]
  obtain ⟨E, hE⟩ : ∃ E, 255 ^ w = E := ⟨_, rfl⟩
  obtain ⟨H, hH⟩ : ∃ H, chI n w = H := ⟨_, rfl⟩
  simp only [hE, hH] at HLN HCH HPW ⊢
  clear hE hH hl1 hbx1 hB1 hB3 hr0 hs1
  go_enter Tryd.func20, Tryd.ntmps20
  go_wp2_with fail
  (with_reducible refine (HRF.out _).mono ?_)
  rintro e u4 ⟨rfl, hb4⟩
  obtain ⟨q0, q1, q2, q3⟩ := (HCB.out.below hb4).at
  have HB4 := Lib.hid hb4
  clear hb4 k0 k1 k2 k3 HRF
  go_wp2_with fail
  (with_reducible refine (HLE.out _).mono ?_)
  rintro e u5 ⟨rfl, hb5⟩
  have HB5 := Lib.hid (HB4.out.trans (hb5.mono HB4.out.size))
  clear hb5 q0 q1 q2 q3 HLE
  go_wp2_with fail
  (with_reducible refine (HCH.out _).mono ?_)
  rintro e u6 ⟨⟨a2, c2, rfl, hr2⟩, hb6⟩
  have HB6 := Lib.hid (HB5.out.trans (hb6.mono HB5.out.size))
  have HR2 := Lib.hid hr2
  clear hr2 hb6 HCH HB5
  go_wp2_with fail
  (with_reducible refine (HPW.out _).mono ?_)
  rintro e u7 ⟨⟨a3, c3, rfl, hr3⟩, hb7⟩
  have HPR := Lib.hid (product2 (HR2.out.below hb7) hr3 HLN.out.1 HLN.out.2.1 HLN.out.2.2)
  have HB7 := Lib.hid (HB6.out.trans (hb7.mono HB6.out.size))
  clear hr3 hb7 HPW HB6 HR2
  go_wp2_with fail
  (with_reducible refine HPR.out.mono ?_)
  rintro e uB ⟨⟨b6, c6, rfl, r6⟩, hbB⟩
  have HB8 := Lib.hid (HB7.out.trans (hbB.mono HB7.out.size))
  have hr4 := HR3.out.below HB8.out
  obtain ⟨_, _, d1, _⟩ := hr4.cell
  have d2 := hr4.free
  have hB9 := Lib.hid ((HB3.out.trans (HB8.out.mono HB3.out.size)).setCell (p := ⟨pr, 0, none⟩) hpr0 (.slice b6 (M.dig (H * E)).length c6))
  have d4 : (uB.setCell ⟨pr, 0, none⟩ (.slice b6 (M.dig (H * E)).length c6)).cell? ⟨pr, 0, none⟩ = some (.slice b6 (M.dig (H * E)).length c6) := World.cell?_setCell_same' _ _ _ (by rw [d1]; rfl)
  have HZ := Lib.hid (r6.store d1 (.slice b6 (M.dig (H * E)).length c6))
  clear hr4 hbB r6 HB7 HB8 HPR
  go_wp2_with fail
  exact bodyPost_ret (v := .tuple #[.agg #[.slice b6 (M.dig (H * E)).length c6], .int .i64 0]) (by simp [results, Tryd.results20, go_sem, d4]) rfl ⟨⟨b6, c6, rfl, HZ.out⟩, hB9.out⟩

set_option maxRecDepth 100000 in
set_option maxHeartbeats 1000000 in
/-- **chance.Words** -/
theorem Words_any {D C F : Nat} (hc : Ok D C F) (w : Nat) (hw : w ≤ D + C) (u : World) :
    Calls Tryd.prog 19 #[codeV D C F, .int .i64 (w : Int)] u fun e W => NumE (wordsN (D + C) C w) e W ∧ Below u.heap.size u W := by
  have h2 := hc.d2
  have h4 := hc.c2
  have HRF := Lib.hid (fun W => refusal_yes hc w hw W)
  have HWO := Lib.hid (fun W => words_any (F := F) h2 h4 w (by omega) W)
  unfold codeV at *
  obtain ⟨n, hn⟩ : ∃ n, D + C = n := ⟨_, rfl⟩
  obtain ⟨R, hR⟩ : ∃ R, wordsN (D + C) C w = R := ⟨_, rfl⟩
  rw [hR] at HWO ⊢
  clear hn hR
  obtain ⟨u1, hu1, hbx1, hB1, hs1⟩ := CBox.new u D C F
  have hr0 := Bx.zero u1
  obtain ⟨u3, hu3⟩ : ∃ u3, u1.alloc (.cells #[.slice none 0 0] 24) = u3 := ⟨_, rfl⟩
  have hB3 : Below u1.heap.size u1 u3 := by rw [← hu3]; exact (Below.refl _ u1).alloc (Nat.le_refl _) _
  rw [hu3] at hr0
  obtain ⟨pr, hpr⟩ : ∃ pr, u1.heap.size = pr := ⟨_, rfl⟩
  rw [hpr] at hr0
  have HCB := Lib.hid (hbx1.below hB3)
  have HR3 := Lib.hid hr0
  have hsz1 := hB1.size
  have hpr0 : u.heap.size ≤ pr := by omega
  have HB3 := Lib.hid (hB1.trans (hB3.mono (by omega)))
  obtain ⟨k0, k1, k2, k3⟩ := HCB.out.at
  clear hbx1 hB1 hB3 hr0 hs1
  go_enter Tryd.func19, Tryd.ntmps19
  go_wp2_with fail
  (with_reducible refine (HRF.out _).mono ?_)
  rintro e u4 ⟨rfl, hb4⟩
  obtain ⟨q0, q1, q2, q3⟩ := (HCB.out.below hb4).at
  have HB4 := Lib.hid hb4
  clear hb4 k0 k1 k2 k3 HRF
  go_wp2_with fail
  (with_reducible refine (HWO.out _).mono ?_)
  rintro e uB ⟨⟨b6, c6, rfl, r6⟩, hbB⟩
  have HB8 := Lib.hid (HB4.out.trans (hbB.mono HB4.out.size))
  have hr4 := HR3.out.below HB8.out
  obtain ⟨_, _, d1, _⟩ := hr4.cell
  have d2 := hr4.free
  have hB9 := Lib.hid ((HB3.out.trans (HB8.out.mono HB3.out.size)).setCell (p := ⟨pr, 0, none⟩) hpr0 (.slice b6 (M.dig R).length c6))
  have d4 : (uB.setCell ⟨pr, 0, none⟩ (.slice b6 (M.dig R).length c6)).cell? ⟨pr, 0, none⟩ = some (.slice b6 (M.dig R).length c6) := World.cell?_setCell_same' _ _ _ (by rw [d1]; rfl)
  have HZ := Lib.hid (r6.store d1 (.slice b6 (M.dig R).length c6))
  clear hr4 hbB r6 HB4 HB8
  go_wp2_with fail
  exact bodyPost_ret (v := .tuple #[.agg #[.slice b6 (M.dig R).length c6], .int .i64 0]) (by simp [results, Tryd.results19, go_sem, d4]) rfl ⟨⟨b6, c6, rfl, HZ.out⟩, hB9.out⟩
end C
end Go.Proofs.YtknjoajeilgieaaDoor

namespace Go.Proofs.YtknjoajeilgieaaDoor
open Go Go.RowKit Go.Shelf

namespace C
/-- The sum of the first k terms. -/
def sm (f : Nat → Nat) : Nat → Nat
  | 0 => 0
  | k + 1 => sm f k + f k
theorem sm_succ (f : Nat → Nat) (k : Nat) : sm f (k + 1) = sm f k + f k := rfl
def f3 (n C w g o m : Nat) : Nat := nearN n C w g o m
def f2 (n C w F g o : Nat) : Nat := sm (f3 n C w g o) (F - g - o + 1)
def f1 (n C w F g : Nat) : Nat := sm (f2 n C w F g) (F - g + 1)
/-- What Wrong returns. -/
def wrongN (n C w F : Nat) : Nat := sm (f1 n C w F) (F + 1)
theorem sm_le {f : Nat → Nat} {B K : Nat} : ∀ k, k ≤ K → (∀ z, z < k → f z ≤ B) → sm f k ≤ K * B := fun k hk h => by
  have : ∀ j, j ≤ k → sm f j ≤ j * B := fun j => by
    induction j with
    | zero => intro _; simp [sm]
    | succ j ih => intro hj; rw [sm_succ, Nat.succ_mul]; exact Nat.add_le_add (ih (by omega)) (h j (by omega))
  exact Nat.le_trans (this k (Nat.le_refl _)) (Nat.mul_le_mul_right B hk)
theorem sum3_bits {a b c d B : Nat} (h1 : a ≤ 16 * (16 * (16 * 2 ^ B))) (h2 : b ≤ 16 * (16 * 2 ^ B)) (h3 : c ≤ 16 * 2 ^ B) (h4 : d ≤ 2 ^ B) : a + b + c + d ≤ 2 ^ (B + 14) := by
  rw [Nat.pow_add, show (2 : Nat) ^ 14 = 16384 from rfl]
  generalize (2 : Nat) ^ B = X at *
  omega
section
variable {n C w F g o m : Nat}
theorem f3_le (hn : n ≤ 40) (hF : F ≤ 4) (hg : g ≤ F) (ho : o ≤ F - g) (hm : m ≤ F - g - o) : f3 n C w g o m ≤ 2 ^ (EB * 6) := nearN_le hn (by omega) (by omega)
theorem s3_le (hn : n ≤ 40) (hF : F ≤ 4) (hg : g ≤ F) (ho : o ≤ F - g) (hm : m ≤ F - g - o + 1) : sm (f3 n C w g o) m ≤ 16 * 2 ^ (EB * 6) := sm_le m (by omega) (fun z hz => f3_le hn hF hg ho (by omega))
theorem s2_le (hn : n ≤ 40) (hF : F ≤ 4) (hg : g ≤ F) (ho : o ≤ F - g + 1) : sm (f2 n C w F g) o ≤ 16 * (16 * 2 ^ (EB * 6)) := sm_le o (by omega) (fun z hz => s3_le hn hF hg (by omega) (Nat.le_refl _))
theorem s1_le (hn : n ≤ 40) (hF : F ≤ 4) (hg : g ≤ F + 1) : sm (f1 n C w F) g ≤ 16 * (16 * (16 * 2 ^ (EB * 6))) := sm_le g (by omega) (fun z hz => s2_le hn hF (by omega) (by omega))
/-- The partial sums fit. -/
theorem part_len (hn : n ≤ 40) (hF : F ≤ 4) (hg : g ≤ F) (ho : o ≤ F - g) (hm : m ≤ F - g - o) :
    (M.dig (sm (f1 n C w F) g + sm (f2 n C w F g) o + sm (f3 n C w g o) m)).length ≤ 200 ∧ (M.dig (f3 n C w g o m)).length ≤ 200 ∧ (M.dig (sm (f1 n C w F) g + sm (f2 n C w F g) o + sm (f3 n C w g o) m + f3 n C w g o m)).length ≤ 200 := by
  have h1 := s1_le (C := C) (w := w) hn hF (show g ≤ F + 1 by omega)
  have h2 := s2_le (C := C) (w := w) hn hF hg (show o ≤ F - g + 1 by omega)
  have h3 := s3_le (C := C) (w := w) hn hF hg ho (show m ≤ F - g - o + 1 by omega)
  have h4 := f3_le (C := C) (w := w) hn hF hg ho hm
  refine ⟨bits_len (a := EB * 6 + 14) (sum3_bits (d := 0) h1 h2 h3 (Nat.zero_le _)) (by have := EB_eq; omega), bits_len h4 (by have := EB_eq; omega), bits_len (a := EB * 6 + 14) (sum3_bits h1 h2 h3 h4) (by have := EB_eq; omega)⟩
end

set_option maxRecDepth 100000 in
set_option maxHeartbeats 2000000 in
/-- **chance.Wrong** -/
theorem wrong_any {D C F : Nat} (hc : Ok D C F) (w : Nat) (hw : w ≤ D + C) (u : World) :
    Calls Tryd.prog 22 #[codeV D C F, .int .i64 (w : Int)] u fun e W => NumE (wrongN (D + C) C w F) e W ∧ Below u.heap.size u W := by
  have h2 := hc.d2
  have h4 := hc.c2
  have h5 := hc.f2
  have HRF := Lib.hid (fun W => refusal_yes hc w hw W)
  have HNE := Lib.hid (fun (g o m : Nat) (hg : g ≤ 8) (ho : o ≤ 8) (hm : m ≤ 8) W => near_any (F := F) h2 h4 w g o m (by omega) hg ho hm W)
  unfold codeV at *
  obtain ⟨n, hn⟩ : ∃ n, D + C = n := ⟨_, rfl⟩
  have hn40 : n ≤ 40 := by omega
  have hF4 : F ≤ 4 := by omega
  rw [hn] at HNE ⊢
  obtain ⟨R, hR⟩ : ∃ R, wrongN n C w F = R := ⟨_, rfl⟩
  have HRR := Lib.hid (show sm (f1 n C w F) (F + 1) = R from hR)
  rw [hR]
  clear hn hR
  obtain ⟨u1, hu1, hbx1, hB1, hs1⟩ := CBox.new u D C F
  have hr0 := Bx.zero u1
  obtain ⟨u3, hu3⟩ : ∃ u3, u1.alloc (.cells #[.slice none 0 0] 24) = u3 := ⟨_, rfl⟩
  have hB3 : Below u1.heap.size u1 u3 := by rw [← hu3]; exact (Below.refl _ u1).alloc (Nat.le_refl _) _
  rw [hu3] at hr0
  obtain ⟨pr, hpr⟩ : ∃ pr, u1.heap.size = pr := ⟨_, rfl⟩
  rw [hpr] at hr0
  have HCB := Lib.hid (hbx1.below hB3)
  have HR3 := Lib.hid hr0
  have hsz1 := hB1.size
  have hpr0 : u.heap.size < pr := by omega
  have HB3 := Lib.hid (hB1.trans (hB3.mono (by omega)))
  obtain ⟨k0, k1, k2, k3⟩ := HCB.out.at
  clear hbx1 hB1 hB3 hr0 hs1
  go_enter Tryd.func22, Tryd.ntmps22
  go_wp2_with fail
  (with_reducible refine (HRF.out _).mono ?_)
  rintro e u4 ⟨rfl, hb4⟩
  have hz := Bx.zero u4
  obtain ⟨u5, hu5⟩ : ∃ u5, u4.alloc (.cells #[.slice none 0 0] 24) = u5 := ⟨_, rfl⟩
  have hb5 : Below u4.heap.size u4 u5 := by rw [← hu5]; exact (Below.refl _ u4).alloc (Nat.le_refl _) _
  obtain ⟨ps, hps⟩ : ∃ ps, u4.heap.size = ps := ⟨_, rfl⟩
  rw [hu5, hps] at hz
  have hb45 := hb4.trans (hb5.mono hb4.size)
  have hlr := HR3.out.lt
  have hs4 := hb4.size
  have hne : ps ≠ pr := by omega
  have hpsu : u.heap.size < ps := by omega
  have z1 : u5.cell? ⟨ps, 0, none⟩ = some (.slice none 0 0) := by rw [← hu5, ← hps]; exact cell_new _ _ _
  have z2 := hz.free
  obtain ⟨u6, hu6⟩ : ∃ u6, u5.setCell ⟨ps, 0, none⟩ (.slice none 0 0) = u6 := ⟨_, rfl⟩
  have hz6 := hz.store (row_nil u5)
  rw [show (M.dig 0).length = 0 by rw [M.dig_zero]; rfl, hu6] at hz6
  have HS5 := Lib.hid hz6
  have hr6 := (HR3.out.below hb45).other hz hne.symm (.slice none 0 0)
  have hc6 := G.Box.other (HCB.out.below hb45) (q := ⟨ps, 0, none⟩) (by show ps ≠ u.heap.size; omega) (.slice none 0 0)
  have hb6 := (HB3.out.trans (hb45.mono HB3.out.size)).setCell (p := ⟨ps, 0, none⟩) (by show u.heap.size ≤ ps; omega) (.slice none 0 0)
  rw [hu6] at hr6 hc6 hb6
  have HR5 := Lib.hid hr6
  have HC5 := Lib.hid (show CBox u6 u.heap.size D C F from hc6)
  have HB5 := Lib.hid hb6
  obtain ⟨q0, q1, q2, q3⟩ := HC5.out.at
  clear hb4 hb5 hb45 hz hz6 hr6 hc6 hb6 HR3 HCB HB3 k0 k1 k2 k3 HRF hlr hs4
  go_wp2_with fail
  go_loopw [22] (fun i wr => ∃ g : Nat, i = .int .i64 (g : Int) ∧ g ≤ F + 1 ∧ Hid (Bx wr ps (sm (f1 n C w F) g)) ∧ Hid (Bx wr pr 0) ∧ Hid (CBox wr u.heap.size D C F) ∧ Hid (Below u.heap.size u wr)) (fun i _ => F + 1 - (intOf i).toNat)
  case atStart => exact ⟨0, rfl, Nat.zero_le _, HS5, HR5, HC5, HB5⟩
  case round => as_aux_lemma =>
    clear HS5 HR5 HC5 HB5 q0 q1 q2 q3
    obtain ⟨g, rfl, hg, HS, HR, HCB, HB⟩ := hrel
    by_cases hgF : g < F + 1
    · have hgI : (g : Int) < (F : Int) + 1 := by omega
      obtain ⟨q0, q1, q2, q3⟩ := HCB.out.at
      have e1 : (F : Int) - (g : Int) = ((F - g : Nat) : Int) := by omega
      obtain ⟨A, hA⟩ : ∃ A, F - g = A := ⟨_, rfl⟩
      rw [hA] at e1
      have hwA : IntKind.i64.wrap (A : Int) = (A : Int) := by rw [IntKind.wrap_i64]; omega
      have HA := Lib.hid hA
      clear hA
      go_wp2_with fail
      go_loopw [30] (fun i wr => ∃ o : Nat, i = .int .i64 (o : Int) ∧ o ≤ A + 1 ∧ Hid (Bx wr ps (sm (f1 n C w F) g + sm (f2 n C w F g) o)) ∧ Hid (Bx wr pr 0) ∧ Hid (CBox wr u.heap.size D C F) ∧ Hid (Below u.heap.size u wr)) (fun i _ => A + 1 - (intOf i).toNat)
      case atStart => exact ⟨0, rfl, Nat.zero_le _, HS, HR, HCB, HB⟩
      case round => as_aux_lemma =>
        clear HS HR HCB HB q0 q1 q2 q3
        obtain ⟨o, rfl, ho, HS, HR, HCB, HB⟩ := hrel
        by_cases hoA : o < A + 1
        · have hoI : (o : Int) < (A : Int) + 1 := by omega
          obtain ⟨q0, q1, q2, q3⟩ := HCB.out.at
          have e2 : (A : Int) - (o : Int) = ((A - o : Nat) : Int) := by omega
          obtain ⟨B, hB'⟩ : ∃ B, A - o = B := ⟨_, rfl⟩
          rw [hB'] at e2
          have hwB : IntKind.i64.wrap (B : Int) = (B : Int) := by rw [IntKind.wrap_i64]; omega
          have HBB := Lib.hid hB'
          clear hB'
          go_wp2_with fail
          go_loopw [40] (fun i wr => ∃ m : Nat, i = .int .i64 (m : Int) ∧ m ≤ B + 1 ∧ Hid (Bx wr ps (sm (f1 n C w F) g + sm (f2 n C w F g) o + sm (f3 n C w g o) m)) ∧ Hid (Bx wr pr 0) ∧ Hid (CBox wr u.heap.size D C F) ∧ Hid (Below u.heap.size u wr)) (fun i _ => B + 1 - (intOf i).toNat)
          case atStart => exact ⟨0, rfl, Nat.zero_le _, HS, HR, HCB, HB⟩
          case round => as_aux_lemma =>
            clear HS HR HCB HB q0 q1 q2 q3
            obtain ⟨m, rfl, hm, HS, HR, HCB, HB⟩ := hrel
            by_cases hmB : m < B + 1
            · have hmI : (m : Int) < (B : Int) + 1 := by omega
              have HLN := Lib.hid (part_len (C := C) (w := w) (g := g) (o := o) (m := m) hn40 hF4 (by omega) (by have := HA.out; omega) (by have := HA.out; have := HBB.out; omega))
              have hstep : sm (f1 n C w F) g + sm (f2 n C w F g) o + sm (f3 n C w g o) (m + 1) = sm (f1 n C w F) g + sm (f2 n C w F g) o + sm (f3 n C w g o) m + f3 n C w g o m := by rw [sm_succ]; exact (Nat.add_assoc _ _ _).symm
              obtain ⟨S, hS⟩ : ∃ S, sm (f1 n C w F) g + sm (f2 n C w F g) o + sm (f3 n C w g o) m = S := ⟨_, rfl⟩
              obtain ⟨x, hx⟩ : ∃ x, f3 n C w g o m = x := ⟨_, rfl⟩
              rw [hS] at HS HLN hstep
              rw [hx] at HLN hstep
              have HST := Lib.hid hstep
              obtain ⟨a, c, c1, hr⟩ := HS.out.cell
              obtain ⟨k0, k1, k2, k3⟩ := HCB.out.at
              have q0 : wr.drew.cell? ⟨u.heap.size, 0, none⟩ = _ := k0
              have q1 : wr.drew.cell? ⟨u.heap.size, 1, none⟩ = _ := k1
              have q2 : wr.drew.cell? ⟨u.heap.size, 2, none⟩ = _ := k2
              have q3 : wr.drew.cell? ⟨u.heap.size, 3, none⟩ = _ := k3
              have q4 : wr.drew.cell? ⟨ps, 0, none⟩ = some (.slice a (M.dig S).length c) := c1
              have hnear := HNE.out g o m (by omega) (by have := HA.out; omega) (by have := HA.out; have := HBB.out; omega) wr.drew
              rw [show nearN n C w g o m = x from hx] at hnear
              have HN1 := Lib.hid hnear
              have HRY := Lib.hid (show Row wr.drew a (M.dig S) c from hr.drewN 1)
              have HV := Lib.hid (show Bx wr.drew ps S from HS.out.drewN 1)
              have HR1 := Lib.hid (show Bx wr.drew pr 0 from HR.out.drewN 1)
              have HC1 := Lib.hid (show CBox wr.drew u.heap.size D C F from HCB.out.drewN 1)
              have HB1 := Lib.hid (show Below u.heap.size u wr.drew from HB.out.drew)
              clear hx hS hstep hnear c1 hr k0 k1 k2 k3 HS HR HCB HB
              go_wp2_with fail
              go_region_law (first
                | (go_simp; go_at_call 49; (with_reducible refine HN1.out.mono ?_); go_must (rintro e w10 ⟨⟨a2, c2, rfl, hr2⟩, hb10⟩; have HV2 := Lib.hid (HV.out.below hb10); have q5 := (hb10.cell (p := ⟨ps, 0, none⟩) (lt_of_cell q4)).trans q4; have HP := Lib.hid (plus_any a a2 c c2 S x w10 HLN.out.1 HLN.out.2.1 HLN.out.2.2 (HRY.out.below hb10) hr2); have HR2 := Lib.hid (HR1.out.below hb10); have HC2 := Lib.hid (HC1.out.below hb10); have HB2 := Lib.hid (HB1.out.trans (hb10.mono HB1.out.size)); clear hr2 hb10; go_simp))
                | (go_simp; go_at_call 33; (with_reducible refine HP.out.mono ?_); go_must (rintro e w11 ⟨⟨a3, c3, rfl, hr3⟩, hb11⟩; have hv3 := HV2.out.below hb11; obtain ⟨_, _, d1, _⟩ := hv3.cell; have d2 := hv3.free; have HV3 := Lib.hid (hv3.store hr3); have HR4 := Lib.hid ((HR2.out.below hb11).other hv3 hne.symm (.slice a3 (M.dig (S + x)).length c3)); have HC3 := Lib.hid (G.Box.other (HC2.out.below hb11) (q := ⟨ps, 0, none⟩) (by show ps ≠ u.heap.size; omega) (.slice a3 (M.dig (S + x)).length c3)); have HB3 := Lib.hid ((HB2.out.trans (hb11.mono HB2.out.size)).setCell (p := ⟨ps, 0, none⟩) (by show u.heap.size ≤ ps; omega) (.slice a3 (M.dig (S + x)).length c3)); clear hv3 hr3 hb11; go_simp)))
              all_goals (
                go_wp2_with fail
                go_roundw
                case rel => exact ⟨m + 1, by go_num, by omega, Lib.hid (by rw [HST.out]; exact HV3.out), HR4, HC3, HB3⟩
                case measure => simp [intOf]; omega)
            · have e : m = F - g - o + 1 := by have := HA.out; have := HBB.out; omega
              have HS' := Lib.hid (show Bx wr ps (sm (f1 n C w F) g + sm (f2 n C w F g) (o + 1)) from by
                have := HS.out
                rw [e] at this
                rw [sm_succ, ← Nat.add_assoc]
                exact this)
              clear HS
              go_wp2_with fail
              go_roundw
              case rel => exact ⟨o + 1, by go_num, by omega, HS', HR, HCB, HB⟩
              case measure => simp [intOf]; omega
        · have e : o = F - g + 1 := by have := HA.out; omega
          have HS' := Lib.hid (show Bx wr ps (sm (f1 n C w F) (g + 1)) from by
            have := HS.out
            rw [e] at this
            rw [sm_succ]
            exact this)
          clear HS
          go_wp2_with fail
          go_roundw
          case rel => exact ⟨g + 1, by go_num, by omega, HS', HR, HCB, HB⟩
          case measure => simp [intOf]; omega
    · obtain rfl : g = F + 1 := by omega
      have hv := HS.out
      rw [HRR.out] at hv
      obtain ⟨a2, c2, d1, hr⟩ := hv.cell
      obtain ⟨_, _, d2, _⟩ := HR.out.cell
      have d3 := HR.out.free
      have HB5 := Lib.hid (HB.out.setCell (p := ⟨pr, 0, none⟩) (by show u.heap.size ≤ pr; omega) (.slice a2 (M.dig R).length c2))
      have d4 : (wr.setCell ⟨pr, 0, none⟩ (.slice a2 (M.dig R).length c2)).cell? ⟨pr, 0, none⟩ = some (.slice a2 (M.dig R).length c2) := World.cell?_setCell_same' _ _ _ (by rw [d2]; rfl)
      have HZ := Lib.hid (hr.store d2 (.slice a2 (M.dig R).length c2))
      clear hv HS HR HB hr
      go_wp2_with fail
      exact bodyPost_ret (v := .tuple #[.agg #[.slice a2 (M.dig R).length c2], .int .i64 0]) (by simp [results, Tryd.results22, go_sem, d4]) rfl ⟨⟨a2, c2, rfl, HZ.out⟩, HB5.out⟩
end C
end Go.Proofs.YtknjoajeilgieaaDoor
