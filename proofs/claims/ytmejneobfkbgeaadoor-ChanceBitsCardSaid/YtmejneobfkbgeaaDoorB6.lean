/- chance.words: the terms. chance.length, words. chance.near. chance's refusal, Errors, Words, for valid codes. -/
import Derived.Test.YtmejneobfkbgeaaDoorB5
import Derived.Deep.DeepMust
namespace Go.Proofs.YtmejneobfkbgeaaDoor
open Go Go.RowKit Go.Shelf

namespace C
/-- One of the terms of words. -/
def term (C w z : Nat) : Nat := chI w z * 256 ^ (w - z - C)
theorem prd2 (x y : Nat) : prd [x, y] 2 = x * y := by simp [prd, nth]
theorem facs_new {W : World} {xs : List Nat} {vs : List Value} (h : ∀ j, j < xs.length → ∃ a c, vs[j]? = some (.slice a (M.dig (nth xs j)).length c) ∧ Row W a (M.dig (nth xs j)) c) : Facs (W.alloc (.cells vs.toArray 24)) W.heap.size xs := fun j hj => by
  obtain ⟨a, c, h1, h2⟩ := h j hj
  exact ⟨a, c, (G.Box.new W 24 vs).cell j h1, h2.alloc _⟩
/-- product(x, y) -/
theorem product2 {W : World} {a b : Option Addr} {c d x y : Nat} (ha : Row W a (M.dig x) c) (hb : Row W b (M.dig y) d) (hx : (M.dig x).length ≤ 200) (hy : (M.dig y).length ≤ 200) (hxy : (M.dig (x * y)).length ≤ 200) :
    Calls Tryd.prog 10 #[.slice (some ⟨W.heap.size, 0, none⟩) 2 2] (W.alloc (.cells #[.slice a (M.dig x).length c, .slice b (M.dig y).length d] 24)) fun e W' => NumR (x * y) e W' ∧ Below W.heap.size W W' := by
  have hf : Facs (W.alloc (.cells #[.slice a (M.dig x).length c, .slice b (M.dig y).length d] 24)) W.heap.size [x, y] := facs_new (vs := [.slice a (M.dig x).length c, .slice b (M.dig y).length d]) (fun j hj => by
    match j, hj with
    | 0, _ => exact ⟨a, c, rfl, ha⟩
    | 1, _ => exact ⟨b, d, rfl, hb⟩)
  have h := product_any W.heap.size 2 [x, y] _ (by simp) (by omega) hf (fun j hj => by
    match j, hj with
    | 0, _ => exact hx
    | 1, _ => exact hy) (fun k hk => by
    match k, hk with
    | 0, _ => exact small_len (n := 1) (by decide)
    | 1, _ => rw [show prd [x, y] 1 = x by simp [prd, nth]]; exact hx
    | 2, _ => rw [prd2]; exact hxy)
  rw [show [x, y].length = 2 from rfl, prd2] at h
  exact h.mono fun e W' ⟨h1, h2⟩ => ⟨h1, ((Below.refl _ W).alloc (Nat.le_refl _) _).trans (h2.mono (by simp))⟩
theorem chI_len (n : Nat) (k : Int) : chI n k < 2 ^ (n + 1) := by
  unfold chI
  split
  · exact Nat.pow_pos (by omega)
  · exact Nat.lt_of_le_of_lt (M.ch_le n _) (Nat.pow_lt_pow_right (by omega) (by omega))
theorem pow256 (m : Nat) : 256 ^ m = 2 ^ (8 * m) := by rw [show (256 : Nat) = 2 ^ 8 from rfl, ← Nat.pow_mul]
/-- A bound of bits for a product. -/
theorem mul_bits {x y a b : Nat} (hx : x ≤ 2 ^ a) (hy : y ≤ 2 ^ b) : x * y ≤ 2 ^ (a + b) := by rw [Nat.pow_add]; exact Nat.mul_le_mul hx hy
theorem bits_len {x a : Nat} (hx : x ≤ 2 ^ a) (ha : a < 4800) : (M.dig x).length ≤ 200 := len_of (e := a + 1) (Nat.lt_of_le_of_lt hx (Nat.pow_lt_pow_right (by omega) (by omega))) (by omega)

set_option maxRecDepth 100000 in
set_option maxHeartbeats 1000000 in
theorem words1_any (C w z : Nat) (pw pc D F : Nat) (u : World) (hz : z ≤ w) (hw : w ≤ 100) (hC : C ≤ 100) (hpw : u.cell? ⟨pw, 0, none⟩ = some (.int .i64 (w : Int))) (hpc : G.Box u pc 44 [.int .i64 2, .int .i64 (D : Int), .int .i64 (C : Int), .int .i64 (F : Int)]) :
    Calls Tryd.prog 58 #[.int .i64 (z : Int), .pointer (some ⟨pw, 0, none⟩), .pointer (some ⟨pc, 0, none⟩)] u fun e W => NumR (term C w z) e W ∧ Below u.heap.size u W := by
  have hlpw := lt_of_cell hpw
  have hlpc := hpc.lt
  have hr0 := Bx.zero u
  have hB0 := (Below.refl _ u).alloc (Nat.le_refl _) (.cells #[.slice none 0 0] 24)
  obtain ⟨u0, hu0⟩ : ∃ u0, u.alloc (.cells #[.slice none 0 0] 24) = u0 := ⟨_, rfl⟩
  rw [hu0] at hr0 hB0
  have q1 : u0.drew.cell? ⟨pw, 0, none⟩ = some (.int .i64 (w : Int)) := (hB0.cell (p := ⟨pw, 0, none⟩) hlpw).trans hpw
  have q2 : u0.drew.cell? ⟨pc, 2, none⟩ = some (.int .i64 (C : Int)) := (hpc.below hB0).cell 2 rfl
  have HR0 := Lib.hid (show Bx u0.drew u.heap.size 0 from hr0.drewN 1)
  have HB0 := Lib.hid (show Below u.heap.size u u0.drew from hB0.drew)
  have HCH := Lib.hid (fun W => (show Calls Tryd.prog 49 #[.int .i64 (w : Int), .int .i64 (z : Int)] W fun e W' => NumR (chI w z) e W' ∧ Below W.heap.size W W' from by
    have h := choose_any (w : Int) (z : Int) W (by omega)
    rwa [if_neg (by omega), Int.toNat_natCast] at h))
  obtain ⟨m, hm⟩ : ∃ m, w - z - C = m := ⟨_, rfl⟩
  obtain ⟨d, hd⟩ : ∃ d : Int, (w : Int) - (z : Int) = d := ⟨_, rfl⟩
  obtain ⟨d2, hd2⟩ : ∃ d2 : Int, d - (C : Int) = d2 := ⟨_, rfl⟩
  have hw1 : IntKind.i64.wrap d = d := by rw [IntKind.wrap_i64]; omega
  have hw2 : IntKind.i64.wrap d2 = d2 := by rw [IntKind.wrap_i64]; omega
  have hmax : max (0 : Int) d2 = (m : Int) := by omega
  have HPW := Lib.hid (fun W => (show Calls Tryd.prog 59 #[.int .i64 256, .int .i64 (m : Int)] W (fun e W' => NumR (256 ^ m) e W' ∧ Below W.heap.size W W') from power_any 256 m W (by omega) (by omega)))
  have HM := Lib.hid hm
  have hl1 := chI_len w (z : Int)
  have HLN := Lib.hid (show (M.dig (chI w z)).length ≤ 200 ∧ (M.dig (256 ^ m)).length ≤ 200 ∧ (M.dig (chI w z * 256 ^ m)).length ≤ 200 from
    ⟨bits_len (Nat.le_of_lt hl1) (by omega), bits_len (Nat.le_of_eq (pow256 m)) (by omega), bits_len (mul_bits (Nat.le_of_lt hl1) (Nat.le_of_eq (pow256 m))) (by omega)⟩)
  clear hm hl1
  clear hpw hpc hr0 hB0
  go_enter Tryd.func58, Tryd.ntmps58
  go_wp2_with fail
  go_region_law (first
    | (go_simp; go_at_call 49; (with_reducible refine (HCH.out _).mono ?_); go_must (rintro e w10 ⟨⟨a2, c2, rfl, hr2⟩, hb10⟩; have q3 := (hb10.cell (p := ⟨pw, 0, none⟩) (lt_of_cell q1)).trans q1; have q4 := (hb10.cell (p := ⟨pc, 2, none⟩) (lt_of_cell q2)).trans q2; have HRA := Lib.hid hr2; have HB10 := Lib.hid hb10; clear hr2 hb10; go_simp))
    | (go_simp; go_at_call 59; (with_reducible refine (HPW.out _).mono ?_); go_must (rintro e w11 ⟨⟨a3, c3, rfl, hr3⟩, hb11⟩; have HPR := Lib.hid (product2 (HRA.out.below hb11) hr3 HLN.out.1 HLN.out.2.1 HLN.out.2.2); have HR11 := Lib.hid ((HR0.out.below HB10.out).below hb11); have HB11 := Lib.hid ((HB0.out.trans (HB10.out.mono HB0.out.size)).trans (hb11.mono (by have := HB0.out.size; have := HB10.out.size; omega))); clear hr3 hb11; go_simp))
    | (go_simp; go_at_call 10; (with_reducible refine HPR.out.mono ?_); go_must (rintro e w12 ⟨⟨a4, c4, rfl, hr4⟩, hb12⟩; have hr5 := HR11.out.below hb12; obtain ⟨_, _, d1, _⟩ := hr5.cell; have d2 := hr5.free; have d4 : (w12.setCell ⟨u.heap.size, 0, none⟩ (.slice a4 (M.dig (chI w z * 256 ^ m)).length c4)).cell? ⟨u.heap.size, 0, none⟩ = some (.slice a4 (M.dig (chI w z * 256 ^ m)).length c4) := World.cell?_setCell_same' _ _ _ (by rw [d1]; rfl); have HR6 := Lib.hid (hr4.store d1 (.slice a4 (M.dig (chI w z * 256 ^ m)).length c4)); have HB6 := Lib.hid ((HB11.out.trans (hb12.mono HB11.out.size)).setCell (p := ⟨u.heap.size, 0, none⟩) (Nat.le_refl _) (.slice a4 (M.dig (chI w z * 256 ^ m)).length c4)); clear hr5 hr4 hb12; go_simp)))
  all_goals (
    go_wp2_with fail
    exact bodyPost_ret (v := .agg #[.slice a4 (M.dig (chI w z * 256 ^ m)).length c4]) (by simp [results, Tryd.results58, go_sem, d4]) rfl ⟨⟨a4, c4, by rw [term, HM.out], by rw [term, HM.out]; exact HR6.out⟩, HB6.out⟩)
end C
end Go.Proofs.YtmejneobfkbgeaaDoor

namespace Go.Proofs.YtmejneobfkbgeaaDoor
open Go Go.RowKit Go.Shelf

namespace C
/-- A code of symbols. -/
def codeV (D C F : Nat) : Value := .agg #[.int .i64 2, .int .i64 (D : Int), .int .i64 (C : Int), .int .i64 (F : Int)]
def CBox (W : World) (p D C F : Nat) : Prop := G.Box W p 44 [.int .i64 2, .int .i64 (D : Int), .int .i64 (C : Int), .int .i64 (F : Int)]
theorem CBox.at {W : World} {p D C F : Nat} (h : CBox W p D C F) : W.cell? ⟨p, 0, none⟩ = some (.int .i64 2) ∧ W.cell? ⟨p, 1, none⟩ = some (.int .i64 (D : Int)) ∧ W.cell? ⟨p, 2, none⟩ = some (.int .i64 (C : Int)) ∧ W.cell? ⟨p, 3, none⟩ = some (.int .i64 (F : Int)) :=
  ⟨h.cell 0 rfl, h.cell 1 rfl, h.cell 2 rfl, h.cell 3 rfl⟩
theorem CBox.new (w : World) (D C F : Nat) : ∃ w1, w.alloc (.cells #[.int .i64 2, .int .i64 (D : Int), .int .i64 (C : Int), .int .i64 (F : Int)] 44) = w1 ∧ CBox w1 w.heap.size D C F ∧ Below w.heap.size w w1 ∧ w1.heap.size = w.heap.size + 1 :=
  ⟨_, rfl, G.Box.new w _ _, (Below.refl _ w).alloc (Nat.le_refl _) _, World.size_alloc _ _⟩
theorem CBox.below {W W' : World} {p D C F : Nat} (h : CBox W p D C F) (hb : Below W.heap.size W W') : CBox W' p D C F := G.Box.below h hb
theorem CBox.drewN {W : World} {p D C F : Nat} (h : CBox W p D C F) (k : Nat) : CBox (W.drewN k) p D C F := G.Box.drewN h k
theorem CBox.lt {W : World} {p D C F : Nat} (h : CBox W p D C F) : p < W.heap.size := G.Box.lt h

theorem length_any {D C F : Nat} (hD : D ≤ 100) (hC : C ≤ 100) (w : World) : Calls Tryd.prog 57 #[codeV D C F] w fun e w' => e = .returned (.int .i64 ((D + C : Nat) : Int)) ∧ Below w.heap.size w w' := by
  unfold codeV
  obtain ⟨w1, hw1, hb, hB, _⟩ := CBox.new w D C F
  obtain ⟨c0, c1, c2, c3⟩ := hb.at
  have HB := Lib.hid hB
  clear hB hb
  go_enter Tryd.func57, Tryd.ntmps57
  go_wp2_with fail
  go_ret
  refine ⟨?_, HB.out⟩
  first | rfl | (congr 2) | (rw [IntKind.wrap_i64]; congr 2; omega)

/-- What alternating gives for the terms. -/
def each (C w : Nat) : Nat := ev (term C w) (w + 1) - od (term C w) (w + 1)
/-- The number of code words of which just w bytes are not 0. -/
def wordsN (n C w : Nat) : Nat := chI n w * each C w
theorem ev_le {f : Nat → Nat} {B : Nat} : ∀ k, (∀ z, z < k → f z ≤ B) → ev f k ≤ k * B
  | 0, _ => by simp [ev]
  | k + 1, h => by
    have h1 := ev_le k (fun z hz => h z (by omega))
    have h2 := h k (Nat.lt_succ_self k)
    rw [ev, Nat.succ_mul]
    split <;> omega
theorem od_le {f : Nat → Nat} {B : Nat} : ∀ k, (∀ z, z < k → f z ≤ B) → od f k ≤ k * B
  | 0, _ => by simp [od]
  | k + 1, h => by
    have h1 := od_le k (fun z hz => h z (by omega))
    have h2 := h k (Nat.lt_succ_self k)
    rw [od, Nat.succ_mul]
    split <;> omega
theorem term_le (C w z : Nat) : term C w z ≤ 2 ^ (9 * w + 1) := by
  have := mul_bits (Nat.le_of_lt (chI_len w (z : Int))) (Nat.le_of_eq (pow256 (w - z - C)))
  exact Nat.le_trans this (Nat.pow_le_pow_right (by omega) (by omega))
theorem ev_term (C w k : Nat) (hk : k ≤ 512) : ev (term C w) k ≤ 2 ^ (9 * w + 10) := by
  refine Nat.le_trans (ev_le k (fun z _ => term_le C w z)) ?_
  rw [show 9 * w + 10 = 9 + (9 * w + 1) by omega, Nat.pow_add 2 9 (9 * w + 1)]
  exact Nat.mul_le_mul hk (Nat.le_refl _)
theorem od_term (C w k : Nat) (hk : k ≤ 512) : od (term C w) k ≤ 2 ^ (9 * w + 10) := by
  refine Nat.le_trans (od_le k (fun z _ => term_le C w z)) ?_
  rw [show 9 * w + 10 = 9 + (9 * w + 1) by omega, Nat.pow_add 2 9 (9 * w + 1)]
  exact Nat.mul_le_mul hk (Nat.le_refl _)
theorem each_le (C w : Nat) (hw : w ≤ 100) : each C w ≤ 2 ^ (9 * w + 10) := Nat.le_trans (Nat.sub_le _ _) (ev_term C w (w + 1) (by omega))
theorem wordsN_le (n C w : Nat) (hw : w ≤ 100) : wordsN n C w ≤ 2 ^ (n + 1 + (9 * w + 10)) := mul_bits (Nat.le_of_lt (chI_len n (w : Int))) (each_le C w hw)
theorem call_words1 : ∀ (args : Array Value) (W : World), Sem.run Tryd.prog (callFunc 58 args) W = .ok (.enter 58 args) W := by
  intro args W
  simp [callFunc, go_sem, Tryd.func58, Tryd.f58]

set_option maxRecDepth 100000 in
set_option maxHeartbeats 1000000 in
/-- **chance.words** -/
theorem words_any {D C F : Nat} (hD : D ≤ 32) (hC : C ≤ 8) (w : Nat) (hw : w ≤ 40) (u : World) :
    Calls Tryd.prog 35 #[codeV D C F, .int .i64 (w : Int)] u fun e W => NumR (wordsN (D + C) C w) e W ∧ Below u.heap.size u W := by
  have HLE := Lib.hid (fun W => length_any (F := F) (show D ≤ 100 by omega) (show C ≤ 100 by omega) W)
  unfold codeV at *
  obtain ⟨u1, hu1, hbx1, hB1, hs1⟩ := CBox.new u D C F
  obtain ⟨u2, hu2⟩ : ∃ u2, u1.alloc (.cells #[.int .i64 (w : Int)] 3) = u2 := ⟨_, rfl⟩
  have hB2 : Below u1.heap.size u1 u2 := by rw [← hu2]; exact (Below.refl _ u1).alloc (Nat.le_refl _) _
  have hs2 : u2.heap.size = u1.heap.size + 1 := by rw [← hu2]; exact World.size_alloc _ _
  have hcw : u2.cell? ⟨u1.heap.size, 0, none⟩ = some (.int .i64 (w : Int)) := by rw [← hu2]; exact cell_new _ _ _
  have hr0 := Bx.zero u2
  obtain ⟨u3, hu3⟩ : ∃ u3, u2.alloc (.cells #[.slice none 0 0] 24) = u3 := ⟨_, rfl⟩
  have hB3 : Below u2.heap.size u2 u3 := by rw [← hu3]; exact (Below.refl _ u2).alloc (Nat.le_refl _) _
  rw [hu3] at hr0
  obtain ⟨pw, hpw⟩ : ∃ pw, u1.heap.size = pw := ⟨_, rfl⟩
  obtain ⟨pr, hpr⟩ : ∃ pr, u2.heap.size = pr := ⟨_, rfl⟩
  rw [hpw] at hcw
  rw [hpr] at hr0
  have HCB := Lib.hid ((hbx1.below hB2).below hB3)
  have hcw3 : u3.cell? ⟨pw, 0, none⟩ = some (.int .i64 (w : Int)) := (hB3.cell (p := ⟨pw, 0, none⟩) (lt_of_cell hcw)).trans hcw
  have HR3 := Lib.hid hr0
  have hsz1 := hB1.size
  have hsz2 := hB2.size
  have hpr0 : u.heap.size ≤ pr := by omega
  have HB3 := Lib.hid ((hB1.trans (hB2.mono (by omega))).trans (hB3.mono (by omega)))
  have hal := alternating_any 58 (.pointer (some ⟨pw, 0, none⟩)) (.pointer (some ⟨u.heap.size, 0, none⟩)) (term C w) w u3 (by omega) call_words1 (fun k hk W hb => words1_any C w k pw u.heap.size D F W hk (by omega) (by omega) ((hb.cell (p := ⟨pw, 0, none⟩) (lt_of_cell hcw3)).trans hcw3) (HCB.out.below hb))
    (fun k _ => bits_len (term_le C w k) (by omega)) (fun k hk => bits_len (ev_term C w k (by omega)) (by omega)) (fun k hk => bits_len (od_term C w k (by omega)) (by omega))
  rw [show ev (term C w) (w + 1) - od (term C w) (w + 1) = each C w from rfl] at hal
  have HAL := Lib.hid hal
  have hmf : ∀ (fn : Fn) (first cap : Array Value) (w : World), (Instr.makeFunc fn first cap).run Tryd.prog w = .ok (.func fn first cap) w := fun _ _ _ _ => rfl
  obtain ⟨n, hn⟩ : ∃ n, D + C = n := ⟨_, rfl⟩
  have hn40 : n ≤ 40 := by omega
  have HCH := Lib.hid (fun W => (show Calls Tryd.prog 49 #[.int .i64 (n : Int), .int .i64 (w : Int)] W fun e W' => NumR (chI n w) e W' ∧ Below W.heap.size W W' from by
    have h := choose_any (n : Int) (w : Int) W (by omega)
    rwa [if_neg (by omega), Int.toNat_natCast] at h))
  have hl1 := Nat.le_of_lt (chI_len n (w : Int))
  have hl2 := each_le C w (by omega)
  have HLN := Lib.hid (show (M.dig (chI n w)).length ≤ 200 ∧ (M.dig (each C w)).length ≤ 200 ∧ (M.dig (chI n w * each C w)).length ≤ 200 from
    ⟨bits_len hl1 (by omega), bits_len hl2 (by omega), bits_len (mul_bits hl1 hl2) (by omega)⟩)
  obtain ⟨E, hE⟩ : ∃ E, each C w = E := ⟨_, rfl⟩
  obtain ⟨H, hH⟩ : ∃ H, chI n w = H := ⟨_, rfl⟩
  obtain ⟨R, hR⟩ : ∃ R, wordsN (D + C) C w = R := ⟨_, rfl⟩
  have hRHE : R = H * E := by rw [← hR, ← hH, ← hE, hn]; rfl
  rw [hR]
  rw [hn] at HLE
  rw [hE] at HAL
  simp only [hE, hH] at HLN HCH
  have HRHE := Lib.hid hRHE
  have CW := Lib.hid hcw3
  clear hE hH hR hRHE hl1 hl2 hal hbx1 hB1 hB2 hB3 hr0 hcw hn hs1 hs2
  go_enter Tryd.func35, Tryd.ntmps35
  go_wp2_with fail
  (with_reducible refine HAL.out.mono ?_)
  rintro e u4 ⟨⟨a4, c4, rfl, hr4⟩, hb4⟩
  obtain ⟨pe, hpe⟩ : ∃ pe, u4.heap.size = pe := ⟨_, rfl⟩
  obtain ⟨u5, hu5⟩ : ∃ u5, u4.alloc (.cells #[.slice a4 (M.dig E).length c4] 24) = u5 := ⟨_, rfl⟩
  have hb5 : Below u4.heap.size u4 u5 := by rw [← hu5]; exact (Below.refl _ u4).alloc (Nat.le_refl _) _
  have hce : u5.cell? ⟨pe, 0, none⟩ = some (.slice a4 (M.dig E).length c4) := by rw [← hu5, ← hpe]; exact cell_new _ _ _
  have hb35 := hb4.trans (hb5.mono hb4.size)
  obtain ⟨k0, k1, k2, k3⟩ := (HCB.out.below hb35).at
  have q0 : u5.drew.cell? ⟨u.heap.size, 0, none⟩ = _ := k0
  have q1 : u5.drew.cell? ⟨u.heap.size, 1, none⟩ = _ := k1
  have q2 : u5.drew.cell? ⟨u.heap.size, 2, none⟩ = _ := k2
  have q3 : u5.drew.cell? ⟨u.heap.size, 3, none⟩ = _ := k3
  have q4 : u5.drew.cell? ⟨pw, 0, none⟩ = some (.int .i64 (w : Int)) := (hb35.cell (p := ⟨pw, 0, none⟩) (lt_of_cell CW.out)).trans CW.out
  have q5 : u5.drew.cell? ⟨pe, 0, none⟩ = some (.slice a4 (M.dig E).length c4) := hce
  have HRE := Lib.hid (show Row u5.drew a4 (M.dig E) c4 from (hr4.below hb5).drewN 1)
  have HR5 := Lib.hid (show Bx u5.drew pr 0 from (HR3.out.below hb35).drewN 1)
  have HB5 := Lib.hid (show Below u.heap.size u u5.drew from (HB3.out.trans (hb35.mono HB3.out.size)).drew)
  clear hr4 hb4 hb5 hce hb35 k0 k1 k2 k3 HAL HCB HR3 HB3
  go_wp2_with fail
  go_region_law (first
    | (go_simp; go_at_call 57; (with_reducible refine (HLE.out _).mono ?_); go_must (rintro e w10 ⟨rfl, hb10⟩; have p4 := (hb10.cell (p := ⟨pw, 0, none⟩) (lt_of_cell q4)).trans q4; have p5 := (hb10.cell (p := ⟨pe, 0, none⟩) (lt_of_cell q5)).trans q5; have HB10 := Lib.hid hb10; clear hb10; go_simp))
    | (go_simp; go_at_call 49; (with_reducible refine (HCH.out _).mono ?_); go_must (rintro e w11 ⟨⟨a2, c2, rfl, hr2⟩, hb11⟩; have r5 := (hb11.cell (p := ⟨pe, 0, none⟩) (lt_of_cell p5)).trans p5; have hb5 := HB10.out.trans (hb11.mono HB10.out.size); have HPR := Lib.hid (product2 hr2 (HRE.out.below hb5) HLN.out.1 HLN.out.2.1 HLN.out.2.2); have HR11 := Lib.hid (HR5.out.below hb5); have HB11 := Lib.hid (HB5.out.trans (hb5.mono HB5.out.size)); clear hr2 hb11 hb5; go_simp))
    | (go_simp; go_at_call 10; (with_reducible refine HPR.out.mono ?_); go_must (rintro e w12 ⟨⟨a3, c3, rfl, hr3⟩, hb12⟩; have hr5 := HR11.out.below hb12; obtain ⟨_, _, d1, _⟩ := hr5.cell; have d2 := hr5.free; have d4 : (w12.setCell ⟨pr, 0, none⟩ (.slice a3 (M.dig (H * E)).length c3)).cell? ⟨pr, 0, none⟩ = some (.slice a3 (M.dig (H * E)).length c3) := World.cell?_setCell_same' _ _ _ (by rw [d1]; rfl); have HR6 := Lib.hid (hr3.store d1 (.slice a3 (M.dig (H * E)).length c3)); have HB6 := Lib.hid ((HB11.out.trans (hb12.mono HB11.out.size)).setCell (p := ⟨pr, 0, none⟩) hpr0 (.slice a3 (M.dig (H * E)).length c3)); clear hr5 hr3 hb12; go_simp)))
  all_goals (
    go_wp2_with fail
    exact bodyPost_ret (v := .agg #[.slice a3 (M.dig (H * E)).length c3]) (by simp [results, Tryd.results35, go_sem, d4]) rfl ⟨⟨a3, c3, by rw [HRHE.out], by rw [HRHE.out]; exact HR6.out⟩, HB6.out⟩)
end C
end Go.Proofs.YtmejneobfkbgeaaDoor

namespace Go.Proofs.YtmejneobfkbgeaaDoor
open Go Go.RowKit Go.Shelf

namespace C
/-- A bound of bits for the factors of near. -/
def EB : Nat := 411
theorem EB_eq : EB = 411 := rfl
attribute [irreducible] EB
theorem prd_bits {xs : List Nat} {b : Nat} : ∀ k, (∀ j, j < k → nth xs j ≤ 2 ^ b) → prd xs k ≤ 2 ^ (b * k)
  | 0, _ => by simp [prd]
  | k + 1, h => by
    rw [Nat.mul_succ]
    exact mul_bits (prd_bits k (fun j hj => h j (by omega))) (h k (Nat.lt_succ_self k))
/-- product of numbers that were just laid out -/
theorem productV {W : World} {xs : List Nat} {vs : List Value} {b : Nat} (h : ∀ j, j < xs.length → ∃ a c, vs[j]? = some (.slice a (M.dig (nth xs j)).length c) ∧ Row W a (M.dig (nth xs j)) c)
    (hb : ∀ j, j < xs.length → nth xs j ≤ 2 ^ b) (hb2 : b * xs.length < 4800) (hb1 : b < 4800) (hl : xs.length ≤ 100) :
    Calls Tryd.prog 10 #[.slice (some ⟨W.heap.size, 0, none⟩) xs.length xs.length] (W.alloc (.cells vs.toArray 24)) fun e W' => NumR (prd xs xs.length) e W' ∧ Below W.heap.size W W' := by
  refine (product_any W.heap.size xs.length xs _ (Nat.le_refl _) (by omega) (facs_new h) (fun j hj => bits_len (hb j hj) hb1) (fun k hk => bits_len (prd_bits k (fun j hj => hb j (by omega))) (Nat.lt_of_le_of_lt (Nat.mul_le_mul_left b hk) hb2))).mono ?_
  rintro e W' ⟨h1, h2⟩
  exact ⟨h1, ((Below.refl _ W).alloc (Nat.le_refl _) _).trans (h2.mono (by simp))⟩

/-- The factors of near. -/
def nearL (n C v g o m : Nat) : List Nat := [wordsN n C v, chI v g, (if (v : Int) - (g : Int) < 0 then 0 else chI ((v : Int) - (g : Int)).toNat o), 254 ^ o, chI (n - v) m, 255 ^ m]
/-- What near returns. -/
def nearN (n C w g o m : Nat) : Nat := if w + g < m + 1 ∨ n + m < w + g then 0 else prd (nearL n C (w + g - m) g o m) 6
theorem chI_bits (n : Nat) (k : Int) (h : n ≤ 40) : chI n k ≤ 2 ^ EB := Nat.le_trans (Nat.le_of_lt (chI_len n k)) (Nat.pow_le_pow_right (by omega) (by have := EB_eq; omega))
theorem pow_bits (x o : Nat) (hx : x ≤ 256) (ho : o ≤ 8) : x ^ o ≤ 2 ^ EB := by
  refine Nat.le_trans (Nat.pow_le_pow_left hx o) ?_
  rw [pow256]
  exact Nat.pow_le_pow_right (by omega) (by have := EB_eq; omega)
theorem nearL_bits {n C v g o m : Nat} (hn : n ≤ 40) (hv : v ≤ n) (ho : o ≤ 8) (hm : m ≤ 8) : ∀ j, j < (nearL n C v g o m).length → nth (nearL n C v g o m) j ≤ 2 ^ EB := fun j hj => by
  match j, hj with
  | 0, _ => exact Nat.le_trans (wordsN_le n C v (by omega)) (Nat.pow_le_pow_right (by omega) (by have := EB_eq; omega))
  | 1, _ => exact chI_bits v g (by omega)
  | 2, _ =>
    show (if (v : Int) - (g : Int) < 0 then 0 else chI ((v : Int) - (g : Int)).toNat o) ≤ 2 ^ EB
    split
    · exact Nat.zero_le _
    · exact chI_bits _ o (by omega)
  | 3, _ => exact pow_bits 254 o (by omega) ho
  | 4, _ => exact chI_bits (n - v) m (by omega)
  | 5, _ => exact pow_bits 255 m (by omega) hm
theorem nearN_le {n C w g o m : Nat} (hn : n ≤ 40) (ho : o ≤ 8) (hm : m ≤ 8) : nearN n C w g o m ≤ 2 ^ (EB * 6) := by
  unfold nearN
  split
  · exact Nat.zero_le _
  · exact prd_bits (b := EB) 6 (fun j hj => nearL_bits hn (by omega) ho hm j hj)

set_option maxRecDepth 100000 in
set_option maxHeartbeats 1000000 in
/-- **chance.near** -/
theorem near_any {D C F : Nat} (hD : D ≤ 32) (hC : C ≤ 8) (w g o m : Nat) (hw : w ≤ 40) (hg : g ≤ 8) (ho : o ≤ 8) (hm : m ≤ 8) (u : World) :
    Calls Tryd.prog 60 #[codeV D C F, .int .i64 (w : Int), .int .i64 (g : Int), .int .i64 (o : Int), .int .i64 (m : Int)] u fun e W => NumR (nearN (D + C) C w g o m) e W ∧ Below u.heap.size u W := by
  have HLE := Lib.hid (fun W => length_any (F := F) (show D ≤ 100 by omega) (show C ≤ 100 by omega) W)
  have HWO := Lib.hid (fun (v : Nat) (hv : v ≤ 40) W => words_any (F := F) hD hC v hv W)
  unfold codeV at *
  obtain ⟨n, hn⟩ : ∃ n, D + C = n := ⟨_, rfl⟩
  have hn40 : n ≤ 40 := by omega
  rw [hn] at HLE HWO ⊢
  clear hn
  obtain ⟨u1, hu1, hbx1, hB1, hs1⟩ := CBox.new u D C F
  have hr0 := Bx.zero u1
  obtain ⟨u3, hu3⟩ : ∃ u3, u1.alloc (.cells #[.slice none 0 0] 24) = u3 := ⟨_, rfl⟩
  have hB3 : Below u1.heap.size u1 u3 := by rw [← hu3]; exact (Below.refl _ u1).alloc (Nat.le_refl _) _
  rw [hu3] at hr0
  obtain ⟨pr, hpr⟩ : ∃ pr, u1.heap.size = pr := ⟨_, rfl⟩
  rw [hpr] at hr0
  have HCB := Lib.hid (hbx1.below hB3)
  have HR3 := Lib.hid hr0
  have hsz1 := hB1.size
  have hpr0 : u.heap.size ≤ pr := by omega
  have HB3 := Lib.hid (hB1.trans (hB3.mono (by omega)))
  obtain ⟨a1, ha1⟩ : ∃ a1 : Int, (w : Int) + (g : Int) = a1 := ⟨_, rfl⟩
  obtain ⟨v, hv⟩ : ∃ v : Int, a1 - (m : Int) = v := ⟨_, rfl⟩
  have hw1 : IntKind.i64.wrap a1 = a1 := by rw [IntKind.wrap_i64]; omega
  have hw2 : IntKind.i64.wrap v = v := by rw [IntKind.wrap_i64]; omega
  obtain ⟨k0, k1, k2, k3⟩ := HCB.out.at
  clear hbx1 hB1 hB3 hr0 hs1
  by_cases hout : v < 1 ∨ (n : Int) < v
  · have hN : nearN n C w g o m = 0 := by unfold nearN; rw [if_pos (by omega)]
    rw [hN]
    rcases (show v < 1 ∨ (¬ v < 1 ∧ ¬ v ≤ (n : Int)) by omega) with h1 | ⟨h0, h1⟩
    all_goals clear hout hN
    all_goals (
      go_enter Tryd.func60, Tryd.ntmps60
      go_wp2_with fail
      (with_reducible refine (HLE.out _).mono ?_)
      rintro e u4 ⟨rfl, hb4⟩
      have hr4 := HR3.out.below hb4
      obtain ⟨_, _, d1, _⟩ := hr4.cell
      have d2 := hr4.free
      have hB4 := Lib.hid ((HB3.out.trans (hb4.mono HB3.out.size)).setCell (p := ⟨pr, 0, none⟩) hpr0 (.slice none 0 0))
      have d4 : (u4.setCell ⟨pr, 0, none⟩ (.slice none 0 0)).cell? ⟨pr, 0, none⟩ = some (.slice none 0 0) := World.cell?_setCell_same' _ _ _ (by rw [d1]; rfl)
      have HZ := Lib.hid (show Row (u4.setCell ⟨pr, 0, none⟩ (.slice none 0 0)) none (M.dig 0) 0 from row_nil _)
      clear hr4 hb4
      go_wp2_with fail
      exact bodyPost_ret (v := .agg #[.slice none 0 0]) (by simp [results, Tryd.results60, go_sem, d4]) rfl ⟨⟨none, 0, by rw [M.dig_zero]; rfl, HZ.out⟩, hB4.out⟩)
  · obtain ⟨V, hV⟩ : ∃ V : Nat, v = (V : Int) := ⟨v.toNat, by omega⟩
    have hN : nearN n C w g o m = prd (nearL n C V g o m) 6 := by
      unfold nearN
      rw [if_neg (by omega), show w + g - m = V by omega]
    rw [hN]
    have hV1 : ¬ (V : Int) < 1 := by omega
    have hV2 : (V : Int) ≤ (n : Int) := by omega
    have hVn : V ≤ n := by omega
    subst hV
    obtain ⟨d, hd⟩ : ∃ d : Int, (V : Int) - (g : Int) = d := ⟨_, rfl⟩
    obtain ⟨e', he'⟩ : ∃ e' : Nat, n - V = e' := ⟨_, rfl⟩
    have hwd : IntKind.i64.wrap d = d := by rw [IntKind.wrap_i64]; omega
    have hee : (n : Int) - (V : Int) = (e' : Int) := by omega
    have hwe : IntKind.i64.wrap (e' : Int) = (e' : Int) := by rw [IntKind.wrap_i64]; omega
    have HW1 := Lib.hid (HWO.out V (by omega))
    have HC1 := Lib.hid (fun W => (show Calls Tryd.prog 49 #[.int .i64 (V : Int), .int .i64 (g : Int)] W fun e W' => NumR (chI V g) e W' ∧ Below W.heap.size W W' from by
      have h := choose_any (V : Int) (g : Int) W (by omega)
      rwa [if_neg (by omega), Int.toNat_natCast] at h))
    have HC2 := Lib.hid (fun W => choose_any d (o : Int) W (by omega))
    have HC3 := Lib.hid (fun W => (show Calls Tryd.prog 49 #[.int .i64 (e' : Int), .int .i64 (m : Int)] W fun e W' => NumR (chI e' m) e W' ∧ Below W.heap.size W W' from by
      have h := choose_any (e' : Int) (m : Int) W (by omega)
      rwa [if_neg (by omega), Int.toNat_natCast] at h))
    have HP1 := Lib.hid (fun W => (show Calls Tryd.prog 59 #[.int .i64 254, .int .i64 (o : Int)] W (fun e W' => NumR (254 ^ o) e W' ∧ Below W.heap.size W W') from power_any 254 o W (by omega) (by omega)))
    have HP2 := Lib.hid (fun W => (show Calls Tryd.prog 59 #[.int .i64 255, .int .i64 (m : Int)] W (fun e W' => NumR (255 ^ m) e W' ∧ Below W.heap.size W W') from power_any 255 m W (by omega) (by omega)))
    have hPV := fun (W : World) (vs : List Value) (h : ∀ j, j < 6 → ∃ (a : Option Addr) (c : Nat), vs[j]? = some (Value.slice a (M.dig (nth (nearL n C V g o m) j)).length c) ∧ Row W a (M.dig (nth (nearL n C V g o m) j)) c) =>
      (show Calls Tryd.prog 10 #[.slice (some ⟨W.heap.size, 0, none⟩) 6 6] (W.alloc (.cells vs.toArray 24)) (fun e W' => NumR (prd (nearL n C V g o m) 6) e W' ∧ Below W.heap.size W W') from productV (b := EB) h (nearL_bits hn40 hVn ho hm) (show EB * 6 < 4800 by have := EB_eq; omega) (by have := EB_eq; omega) (show 6 ≤ 100 by omega))
    obtain ⟨x0, h0⟩ : ∃ x, wordsN n C V = x := ⟨_, rfl⟩
    obtain ⟨x1, h1⟩ : ∃ x, chI V g = x := ⟨_, rfl⟩
    obtain ⟨x2, h2⟩ : ∃ x, (if d < 0 then 0 else chI d.toNat o) = x := ⟨_, rfl⟩
    obtain ⟨x3, h3⟩ : ∃ x, 254 ^ o = x := ⟨_, rfl⟩
    obtain ⟨x4, h4⟩ : ∃ x, chI e' m = x := ⟨_, rfl⟩
    obtain ⟨x5, h5⟩ : ∃ x, 255 ^ m = x := ⟨_, rfl⟩
    have hL : nearL n C V g o m = [x0, x1, x2, x3, x4, x5] := by
      unfold nearL
      rw [hd, he', h0, h1, h2, h3, h4, h5]
    rw [hL] at hPV ⊢
    rw [h0] at HW1
    rw [h1] at HC1
    rw [h2] at HC2
    rw [h3] at HP1
    rw [h4] at HC3
    rw [h5] at HP2
    obtain ⟨R, hR⟩ : ∃ R, prd [x0, x1, x2, x3, x4, x5] 6 = R := ⟨_, rfl⟩
    rw [hR] at hPV ⊢
    have HPV := Lib.hid hPV
    clear hPV hR hL h0 h1 h2 h3 h4 h5 hN hout he' HWO
    go_enter Tryd.func60, Tryd.ntmps60
    go_wp2_with fail
    (with_reducible refine (HLE.out _).mono ?_)
    rintro e u4 ⟨rfl, hb4⟩
    obtain ⟨q0, q1, q2, q3⟩ := (HCB.out.below hb4).at
    have HR4 := Lib.hid (HR3.out.below hb4)
    have HB4 := Lib.hid (HB3.out.trans (hb4.mono HB3.out.size))
    clear hb4 HCB HR3 HB3 k0 k1 k2 k3 HLE
    go_wp2_with fail
    (with_reducible refine (HW1.out _).mono ?_)
    rintro e u5 ⟨⟨b0, c0, rfl, r0⟩, hb5⟩
    have hs5 := hb5.size
    have HR0 := Lib.hid r0
    have HB5 := Lib.hid hb5
    clear r0 hb5 HW1 q0 q1 q2 q3
    go_wp2_with fail
    (with_reducible refine (HC1.out _).mono ?_)
    rintro e u6 ⟨⟨b1, c1, rfl, r1⟩, hb6⟩
    have HR0 := Lib.hid (HR0.out.below hb6)
    have HR1 := Lib.hid r1
    have HB5 := Lib.hid (HB5.out.trans (hb6.mono HB5.out.size))
    clear r1 hb6 HC1
    go_wp2_with fail
    (with_reducible refine (HC2.out _).mono ?_)
    rintro e u7 ⟨⟨b2, c2, rfl, r2⟩, hb7⟩
    have HR0 := Lib.hid (HR0.out.below hb7)
    have HR1 := Lib.hid (HR1.out.below hb7)
    have HR2 := Lib.hid r2
    have HB5 := Lib.hid (HB5.out.trans (hb7.mono HB5.out.size))
    clear r2 hb7 HC2
    go_wp2_with fail
    (with_reducible refine (HP1.out _).mono ?_)
    rintro e u8 ⟨⟨b3, c3, rfl, r3⟩, hb8⟩
    have HR0 := Lib.hid (HR0.out.below hb8)
    have HR1 := Lib.hid (HR1.out.below hb8)
    have HR2 := Lib.hid (HR2.out.below hb8)
    have HR3 := Lib.hid r3
    have HB5 := Lib.hid (HB5.out.trans (hb8.mono HB5.out.size))
    clear r3 hb8 HP1
    go_wp2_with fail
    (with_reducible refine (HC3.out _).mono ?_)
    rintro e u9 ⟨⟨b4, c4, rfl, r4⟩, hb9⟩
    have HR0 := Lib.hid (HR0.out.below hb9)
    have HR1 := Lib.hid (HR1.out.below hb9)
    have HR2 := Lib.hid (HR2.out.below hb9)
    have HR3 := Lib.hid (HR3.out.below hb9)
    have HR4' := Lib.hid r4
    have HB5 := Lib.hid (HB5.out.trans (hb9.mono HB5.out.size))
    clear r4 hb9 HC3
    go_wp2_with fail
    (with_reducible refine (HP2.out _).mono ?_)
    rintro e uA ⟨⟨b5, c5, rfl, r5⟩, hbA⟩
    have HPR := Lib.hid (HPV.out uA [.slice b0 (M.dig x0).length c0, .slice b1 (M.dig x1).length c1, .slice b2 (M.dig x2).length c2, .slice b3 (M.dig x3).length c3, .slice b4 (M.dig x4).length c4, .slice b5 (M.dig x5).length c5] (fun j hj => by
      match j, hj with
      | 0, _ => exact ⟨b0, c0, rfl, HR0.out.below hbA⟩
      | 1, _ => exact ⟨b1, c1, rfl, HR1.out.below hbA⟩
      | 2, _ => exact ⟨b2, c2, rfl, HR2.out.below hbA⟩
      | 3, _ => exact ⟨b3, c3, rfl, HR3.out.below hbA⟩
      | 4, _ => exact ⟨b4, c4, rfl, HR4'.out.below hbA⟩
      | 5, _ => exact ⟨b5, c5, rfl, r5⟩))
    have HB5 := Lib.hid (HB5.out.trans (hbA.mono HB5.out.size))
    clear r5 hbA HP2 HR0 HR1 HR2 HR3 HR4' HPV
    go_wp2_with fail
    (with_reducible refine HPR.out.mono ?_)
    rintro e uB ⟨⟨b6, c6, rfl, r6⟩, hbB⟩
    have HB6 := Lib.hid (HB5.out.trans (hbB.mono HB5.out.size))
    have hr4 := HR4.out.below HB6.out
    obtain ⟨_, _, d1, _⟩ := hr4.cell
    have d2 := hr4.free
    have hB7 := Lib.hid ((HB4.out.trans (HB6.out.mono HB4.out.size)).setCell (p := ⟨pr, 0, none⟩) hpr0 (.slice b6 (M.dig R).length c6))
    have d4 : (uB.setCell ⟨pr, 0, none⟩ (.slice b6 (M.dig R).length c6)).cell? ⟨pr, 0, none⟩ = some (.slice b6 (M.dig R).length c6) := World.cell?_setCell_same' _ _ _ (by rw [d1]; rfl)
    have HZ := Lib.hid (r6.store d1 (.slice b6 (M.dig R).length c6))
    clear hr4 hbB r6 HB5 HB6 HPR
    go_wp2_with fail
    exact bodyPost_ret (v := .agg #[.slice b6 (M.dig R).length c6]) (by simp [results, Tryd.results60, go_sem, d4]) rfl ⟨⟨b6, c6, rfl, HZ.out⟩, hB7.out⟩
end C
end Go.Proofs.YtmejneobfkbgeaaDoor

namespace Go.Proofs.YtmejneobfkbgeaaDoor
open Go Go.RowKit Go.Shelf

namespace C
/-- A valid code. -/
structure Ok (D C F : Nat) : Prop where
  d1 : 1 ≤ D
  d2 : D ≤ 32
  c1 : 1 ≤ C
  c2 : C ≤ 8
  f2 : F ≤ C / 2
theorem within_yes (n l h : Int) (h1 : l ≤ n) (h2 : n ≤ h) (w : World) : Calls Tryd.prog 72 #[.int .i64 n, .int .i64 l, .int .i64 h] w fun e w' => e = .returned (.bool true) ∧ w = w' := by
  go_enter Tryd.func72, Tryd.ntmps72
  go_wp2_with fail
  go_ret
  exact ⟨rfl, rfl⟩
theorem validCode_yes {D C F : Nat} (hc : Ok D C F) (w : World) : Calls Tryd.prog 56 #[codeV D C F] w fun e w' => e = .returned (.bool true) ∧ Below w.heap.size w w' := by
  unfold codeV
  obtain ⟨h1, h2, h3, h4, h5⟩ := hc
  obtain ⟨w1, hw1, hb, hB, _⟩ := CBox.new w D C F
  obtain ⟨c0, c1, c2, c3⟩ := hb.at
  have HB := Lib.hid hB
  have a1 : (1 : Int) ≤ (D : Int) := by omega
  have a2 : (D : Int) ≤ 32 := by omega
  have a3 : (1 : Int) ≤ (C : Int) := by omega
  have a4 : (C : Int) ≤ 8 := by omega
  have a5 : (0 : Int) ≤ (F : Int) := by omega
  have a6 : (F : Int) ≤ (C : Int) / 2 := by omega
  clear hB hb
  go_enter Tryd.func56, Tryd.ntmps56
  go_wp2_with (go_at_call 72; (with_reducible refine (within_yes _ _ _ (by assumption) (by assumption) _).mono ?_; rintro e w2 ⟨rfl, rfl⟩))
  go_ret
  exact ⟨rfl, HB.out⟩

set_option maxRecDepth 100000 in
theorem refusal_yes {D C F : Nat} (hc : Ok D C F) (w : Nat) (hw : w ≤ D + C) (u : World) : Calls Tryd.prog 34 #[codeV D C F, .int .i64 (w : Int)] u fun e W => e = .returned (.int .i64 0) ∧ Below u.heap.size u W := by
  have HV := Lib.hid (fun W => validCode_yes hc W)
  have h2 := hc.d2
  have h4 := hc.c2
  have HLE := Lib.hid (fun W => length_any (F := F) (show D ≤ 100 by omega) (show C ≤ 100 by omega) W)
  unfold codeV at *
  obtain ⟨w1, hw1, hb, hB, _⟩ := CBox.new u D C F
  obtain ⟨c0, c1, c2, c3⟩ := hb.at
  obtain ⟨n, hn⟩ : ∃ n, D + C = n := ⟨_, rfl⟩
  rw [hn] at HLE hw
  have hwn : (w : Int) ≤ (n : Int) := by omega
  have HB := Lib.hid hB
  have HCB := Lib.hid hb
  clear hB hb hn
  go_enter Tryd.func34, Tryd.ntmps34
  go_wp2_with fail
  (with_reducible refine (HV.out _).mono ?_)
  rintro e w2 ⟨rfl, hb2⟩
  obtain ⟨d0, d1, d2, d3⟩ := (HCB.out.below hb2).at
  have HB2 := Lib.hid (HB.out.trans (hb2.mono HB.out.size))
  clear hb2
  go_wp2_with fail
  (with_reducible refine (HLE.out _).mono ?_)
  rintro e w3 ⟨rfl, hb3⟩
  have HB3 := Lib.hid (HB2.out.trans (hb3.mono HB2.out.size))
  clear hb3
  go_wp2_with fail
  go_ret
  exact ⟨rfl, HB3.out⟩

/-- The number n is returned, and no error. -/
def NumE (n : Nat) (e : Ending) (W : World) : Prop := ∃ a c, e = .returned (.tuple #[.agg #[.slice a (M.dig n).length c], .int .i64 0]) ∧ Row W a (M.dig n) c
def errN (n w : Nat) : Nat := chI n w * 255 ^ w
theorem pow255 (w : Nat) : 255 ^ w ≤ 2 ^ (8 * w) := by rw [← pow256]; exact Nat.pow_le_pow_left (by omega) w
theorem errN_le (n w : Nat) : errN n w ≤ 2 ^ (n + 1 + 8 * w) := mul_bits (Nat.le_of_lt (chI_len n (w : Int))) (pow255 w)

set_option maxRecDepth 100000 in
set_option maxHeartbeats 1000000 in
/-- **chance.Errors** -/
theorem errors_any {D C F : Nat} (hc : Ok D C F) (w : Nat) (hw : w ≤ D + C) (u : World) :
    Calls Tryd.prog 37 #[codeV D C F, .int .i64 (w : Int)] u fun e W => NumE (errN (D + C) w) e W ∧ Below u.heap.size u W := by
  have h2 := hc.d2
  have h4 := hc.c2
  have HRF := Lib.hid (fun W => refusal_yes hc w hw W)
  have HLE := Lib.hid (fun W => length_any (F := F) (show D ≤ 100 by omega) (show C ≤ 100 by omega) W)
  unfold codeV at *
  obtain ⟨n, hn⟩ : ∃ n, D + C = n := ⟨_, rfl⟩
  have hn40 : n ≤ 40 := by omega
  rw [hn] at HLE hw ⊢
  clear hn
  obtain ⟨u1, hu1, hbx1, hB1, hs1⟩ := CBox.new u D C F
  have hr0 := Bx.zero u1
  obtain ⟨u3, hu3⟩ : ∃ u3, u1.alloc (.cells #[.slice none 0 0] 24) = u3 := ⟨_, rfl⟩
  have hB3 : Below u1.heap.size u1 u3 := by rw [← hu3]; exact (Below.refl _ u1).alloc (Nat.le_refl _) _
  rw [hu3] at hr0
  obtain ⟨pr, hpr⟩ : ∃ pr, u1.heap.size = pr := ⟨_, rfl⟩
  rw [hpr] at hr0
  have HCB := Lib.hid (hbx1.below hB3)
  have HR3 := Lib.hid hr0
  have hsz1 := hB1.size
  have hpr0 : u.heap.size ≤ pr := by omega
  have HB3 := Lib.hid (hB1.trans (hB3.mono (by omega)))
  obtain ⟨k0, k1, k2, k3⟩ := HCB.out.at
  have HCH := Lib.hid (fun W => (show Calls Tryd.prog 49 #[.int .i64 (n : Int), .int .i64 (w : Int)] W fun e W' => NumR (chI n w) e W' ∧ Below W.heap.size W W' from by
    have h := choose_any (n : Int) (w : Int) W (by omega)
    rwa [if_neg (by omega), Int.toNat_natCast] at h))
  have HPW := Lib.hid (fun W => (show Calls Tryd.prog 59 #[.int .i64 255, .int .i64 (w : Int)] W (fun e W' => NumR (255 ^ w) e W' ∧ Below W.heap.size W W') from power_any 255 w W (by omega) (by omega)))
  have hl1 := Nat.le_of_lt (chI_len n (w : Int))
  have HLN := Lib.hid (show (M.dig (chI n w)).length ≤ 200 ∧ (M.dig (255 ^ w)).length ≤ 200 ∧ (M.dig (chI n w * 255 ^ w)).length ≤ 200 from
    ⟨bits_len hl1 (by omega), bits_len (pow255 w) (by omega), bits_len (mul_bits hl1 (pow255 w)) (by omega)⟩)
  rw [show errN n w = chI n w * 255 ^ w from rfl]
  obtain ⟨E, hE⟩ : ∃ E, 255 ^ w = E := ⟨_, rfl⟩
  obtain ⟨H, hH⟩ : ∃ H, chI n w = H := ⟨_, rfl⟩
  simp only [hE, hH] at HLN HCH HPW ⊢
  clear hE hH hl1 hbx1 hB1 hB3 hr0 hs1
  go_enter Tryd.func37, Tryd.ntmps37
  go_wp2_with fail
  (with_reducible refine (HRF.out _).mono ?_)
  rintro e u4 ⟨rfl, hb4⟩
  obtain ⟨q0, q1, q2, q3⟩ := (HCB.out.below hb4).at
  have HB4 := Lib.hid hb4
  clear hb4 k0 k1 k2 k3 HRF
  go_wp2_with fail
  (with_reducible refine (HLE.out _).mono ?_)
  rintro e u5 ⟨rfl, hb5⟩
  have HB5 := Lib.hid (HB4.out.trans (hb5.mono HB4.out.size))
  clear hb5 q0 q1 q2 q3 HLE
  go_wp2_with fail
  (with_reducible refine (HCH.out _).mono ?_)
  rintro e u6 ⟨⟨a2, c2, rfl, hr2⟩, hb6⟩
  have HB6 := Lib.hid (HB5.out.trans (hb6.mono HB5.out.size))
  have HR2 := Lib.hid hr2
  clear hr2 hb6 HCH HB5
  go_wp2_with fail
  (with_reducible refine (HPW.out _).mono ?_)
  rintro e u7 ⟨⟨a3, c3, rfl, hr3⟩, hb7⟩
  have HPR := Lib.hid (product2 (HR2.out.below hb7) hr3 HLN.out.1 HLN.out.2.1 HLN.out.2.2)
  have HB7 := Lib.hid (HB6.out.trans (hb7.mono HB6.out.size))
  clear hr3 hb7 HPW HB6 HR2
  go_wp2_with fail
  (with_reducible refine HPR.out.mono ?_)
  rintro e uB ⟨⟨b6, c6, rfl, r6⟩, hbB⟩
  have HB8 := Lib.hid (HB7.out.trans (hbB.mono HB7.out.size))
  have hr4 := HR3.out.below HB8.out
  obtain ⟨_, _, d1, _⟩ := hr4.cell
  have d2 := hr4.free
  have hB9 := Lib.hid ((HB3.out.trans (HB8.out.mono HB3.out.size)).setCell (p := ⟨pr, 0, none⟩) hpr0 (.slice b6 (M.dig (H * E)).length c6))
  have d4 : (uB.setCell ⟨pr, 0, none⟩ (.slice b6 (M.dig (H * E)).length c6)).cell? ⟨pr, 0, none⟩ = some (.slice b6 (M.dig (H * E)).length c6) := World.cell?_setCell_same' _ _ _ (by rw [d1]; rfl)
  have HZ := Lib.hid (r6.store d1 (.slice b6 (M.dig (H * E)).length c6))
  clear hr4 hbB r6 HB7 HB8 HPR
  go_wp2_with fail
  exact bodyPost_ret (v := .tuple #[.agg #[.slice b6 (M.dig (H * E)).length c6], .int .i64 0]) (by simp [results, Tryd.results37, go_sem, d4]) rfl ⟨⟨b6, c6, rfl, HZ.out⟩, hB9.out⟩

set_option maxRecDepth 100000 in
set_option maxHeartbeats 1000000 in
/-- **chance.Words** -/
theorem Words_any {D C F : Nat} (hc : Ok D C F) (w : Nat) (hw : w ≤ D + C) (u : World) :
    Calls Tryd.prog 18 #[codeV D C F, .int .i64 (w : Int)] u fun e W => NumE (wordsN (D + C) C w) e W ∧ Below u.heap.size u W := by
  have h2 := hc.d2
  have h4 := hc.c2
  have HRF := Lib.hid (fun W => refusal_yes hc w hw W)
  have HWO := Lib.hid (fun W => words_any (F := F) h2 h4 w (by omega) W)
  unfold codeV at *
  obtain ⟨n, hn⟩ : ∃ n, D + C = n := ⟨_, rfl⟩
  obtain ⟨R, hR⟩ : ∃ R, wordsN (D + C) C w = R := ⟨_, rfl⟩
  rw [hR] at HWO ⊢
  clear hn hR
  obtain ⟨u1, hu1, hbx1, hB1, hs1⟩ := CBox.new u D C F
  have hr0 := Bx.zero u1
  obtain ⟨u3, hu3⟩ : ∃ u3, u1.alloc (.cells #[.slice none 0 0] 24) = u3 := ⟨_, rfl⟩
  have hB3 : Below u1.heap.size u1 u3 := by rw [← hu3]; exact (Below.refl _ u1).alloc (Nat.le_refl _) _
  rw [hu3] at hr0
  obtain ⟨pr, hpr⟩ : ∃ pr, u1.heap.size = pr := ⟨_, rfl⟩
  rw [hpr] at hr0
  have HCB := Lib.hid (hbx1.below hB3)
  have HR3 := Lib.hid hr0
  have hsz1 := hB1.size
  have hpr0 : u.heap.size ≤ pr := by omega
  have HB3 := Lib.hid (hB1.trans (hB3.mono (by omega)))
  obtain ⟨k0, k1, k2, k3⟩ := HCB.out.at
  clear hbx1 hB1 hB3 hr0 hs1
  go_enter Tryd.func18, Tryd.ntmps18
  go_wp2_with fail
  (with_reducible refine (HRF.out _).mono ?_)
  rintro e u4 ⟨rfl, hb4⟩
  obtain ⟨q0, q1, q2, q3⟩ := (HCB.out.below hb4).at
  have HB4 := Lib.hid hb4
  clear hb4 k0 k1 k2 k3 HRF
  go_wp2_with fail
  (with_reducible refine (HWO.out _).mono ?_)
  rintro e uB ⟨⟨b6, c6, rfl, r6⟩, hbB⟩
  have HB8 := Lib.hid (HB4.out.trans (hbB.mono HB4.out.size))
  have hr4 := HR3.out.below HB8.out
  obtain ⟨_, _, d1, _⟩ := hr4.cell
  have d2 := hr4.free
  have hB9 := Lib.hid ((HB3.out.trans (HB8.out.mono HB3.out.size)).setCell (p := ⟨pr, 0, none⟩) hpr0 (.slice b6 (M.dig R).length c6))
  have d4 : (uB.setCell ⟨pr, 0, none⟩ (.slice b6 (M.dig R).length c6)).cell? ⟨pr, 0, none⟩ = some (.slice b6 (M.dig R).length c6) := World.cell?_setCell_same' _ _ _ (by rw [d1]; rfl)
  have HZ := Lib.hid (r6.store d1 (.slice b6 (M.dig R).length c6))
  clear hr4 hbB r6 HB4 HB8
  go_wp2_with fail
  exact bodyPost_ret (v := .tuple #[.agg #[.slice b6 (M.dig R).length c6], .int .i64 0]) (by simp [results, Tryd.results18, go_sem, d4]) rfl ⟨⟨b6, c6, rfl, HZ.out⟩, hB9.out⟩
end C
end Go.Proofs.YtmejneobfkbgeaaDoor
