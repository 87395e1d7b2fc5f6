/- chance.bitWords. -/
import Derived.Test.YtmejneobfkbgeaaDoorB7
namespace Go.Proofs.YtmejneobfkbgeaaDoor
open Go Go.RowKit Go.Shelf

namespace C
open G (Box el)
set_option maxRecDepth 100000 in
set_option maxHeartbeats 1000000 in
theorem bitWords1_any (k w : Nat) (hk : k ≤ w) (hw : w ≤ 73) (pc pw : Nat) (u : World) (hc : u.heap[pc]? = some (.cells (arrN CNT) 32 (0, 0))) (hpw : u.cell? ⟨pw, 0, none⟩ = some (.int .i64 (w : Int))) :
    Calls Tryd.prog 27 #[.int .i64 (k : Int), .pointer (some ⟨pc, 0, none⟩), .pointer (some ⟨pw, 0, none⟩)] u fun e W => NumR (setsN k (w - k)) e W ∧ Below u.heap.size u W := by
  have hlpw := lt_of_cell hpw
  have hlpc : pc < u.heap.size := (Array.getElem?_eq_some_iff.1 hc).1
  have hr0 := Bx.zero u
  have hB0 := (Below.refl _ u).alloc (Nat.le_refl _) (.cells #[.slice none 0 0] 24)
  obtain ⟨u0, hu0⟩ : ∃ u0, u.alloc (.cells #[.slice none 0 0] 24) = u0 := ⟨_, rfl⟩
  rw [hu0] at hr0 hB0
  have q1 : u0.cell? ⟨pw, 0, none⟩ = some (.int .i64 (w : Int)) := (hB0.cell (p := ⟨pw, 0, none⟩) hlpw).trans hpw
  have HROW := Lib.hid (show u0.heap[pc]? = some (.cells (arrN CNT) 32 (0, 0)) from (hB0.block _ hlpc).trans hc)
  have HS := Lib.hid (fun W => sets_any k (w - k) (by omega) (by omega) W)
  obtain ⟨av, hav⟩ : ∃ v, arrN CNT = v := ⟨_, rfl⟩
  have hsz : av.size = 73 := by rw [← hav, arrN_size, CNT_eq]; rfl
  have HSZ := Lib.hid (show (Tryd.prog.info? 32).map (·.size) = some av.size by rw [size_arrN, hsz])
  obtain ⟨m, hm⟩ : ∃ m : Nat, w - k = m := ⟨_, rfl⟩
  have hmI : (w : Int) - (k : Int) = (m : Int) := by omega
  have hwm : IntKind.i64.wrap (m : Int) = (m : Int) := by rw [IntKind.wrap_i64]; omega
  rw [hav] at HROW HS
  rw [hm] at HS ⊢
  obtain ⟨R, hR⟩ : ∃ R, setsN k m = R := ⟨_, rfl⟩
  rw [hR] at HS ⊢
  have HR0 := Lib.hid hr0
  have HB0 := Lib.hid hB0
  clear hav hsz hm hR hr0 hB0 hc hpw
  go_enter Tryd.func27, Tryd.ntmps27
  go_wp2_with (refine wpList_load_row rfl 32 _ rfl pc rfl 32 av (0, 0) _ HROW.out Tryd.underlying32 rfl HSZ.out ?_)
  (with_reducible refine (HS.out _).mono ?_)
  rintro e u4 ⟨⟨a4, c4, rfl, hr4⟩, hb4⟩
  have hr5 := HR0.out.below hb4
  obtain ⟨_, _, d1, _⟩ := hr5.cell
  have d2 := hr5.free
  have d4 : (u4.setCell ⟨u.heap.size, 0, none⟩ (.slice a4 (M.dig R).length c4)).cell? ⟨u.heap.size, 0, none⟩ = some (.slice a4 (M.dig R).length c4) := World.cell?_setCell_same' _ _ _ (by rw [d1]; rfl)
  have HZ := Lib.hid (hr4.store d1 (.slice a4 (M.dig R).length c4))
  have HB6 := Lib.hid ((HB0.out.trans (hb4.mono HB0.out.size)).setCell (p := ⟨u.heap.size, 0, none⟩) (Nat.le_refl _) (.slice a4 (M.dig R).length c4))
  clear hr5 hb4 hr4
  go_wp2_with fail
  exact bodyPost_ret (v := .agg #[.slice a4 (M.dig R).length c4]) (by simp [results, Tryd.results27, go_sem, d4]) rfl ⟨⟨a4, c4, rfl, HZ.out⟩, HB6.out⟩

/-- A world behind a variable that was made ahead of a call. -/
theorem unal {W W' : World} {o : Obj} (h : Below (W.alloc o).heap.size (W.alloc o) W') : Below W.heap.size W W' := ((Below.refl _ W).alloc (Nat.le_refl _) o).trans (h.mono (by simp))
theorem one_al {W W' : World} (h : Below (W.alloc (.cells #[.slice none 0 0] 24)).heap.size (W.alloc (.cells #[.slice none 0 0] 24)) W') : W'.cell? ⟨W.heap.size, 0, none⟩ = some (.slice none 0 0) ∧ W'.frozen? ⟨W.heap.size, 0, none⟩ = false :=
  ⟨(h.cell (p := ⟨W.heap.size, 0, none⟩) (by simp)).trans (cell_new _ _ _), (h.frozen (p := ⟨W.heap.size, 0, none⟩) (by simp)).trans (frozen_new _ _ _)⟩
theorem two_al {W W' : World} (h : Below ((W.alloc (.cells #[.slice none 0 0] 24)).alloc (.cells #[.slice none 0 0] 24)).heap.size ((W.alloc (.cells #[.slice none 0 0] 24)).alloc (.cells #[.slice none 0 0] 24)) W') :
    (W'.cell? ⟨W.heap.size, 0, none⟩ = some (.slice none 0 0) ∧ W'.frozen? ⟨W.heap.size, 0, none⟩ = false) ∧ W'.cell? ⟨W.heap.size + 1, 0, none⟩ = some (.slice none 0 0) ∧ W'.frozen? ⟨W.heap.size + 1, 0, none⟩ = false := by
  refine ⟨one_al (unal h), ?_⟩
  have := one_al h
  rwa [World.size_alloc] at this
/-- What bitWords needs of the world behind its division. -/
structure Kp (u : World) (pr : Nat) (b : Option Addr) (d Q : Nat) (W : World) : Prop where
  res : Bx W pr 0
  row : Row W b (M.dig Q) d
  bel : Below u.heap.size u W
  lo : u.heap.size ≤ pr
theorem Kp.alloc {u W : World} {pr d Q : Nat} {b : Option Addr} (h : Kp u pr b d Q W) (o : Obj) : Kp u pr b d Q (W.alloc o) :=
  have hb : Below W.heap.size W (W.alloc o) := (Below.refl _ W).alloc (Nat.le_refl _) o
  ⟨h.res.below hb, h.row.below hb, h.bel.trans (hb.mono h.bel.size), h.lo⟩
theorem Kp.store {u W : World} {pr d Q : Nat} {b : Option Addr} (h : Kp u pr b d Q W) {g : Nat} {s : Option Addr} {n c : Nat} (hc : W.cell? ⟨g, 0, none⟩ = some (.slice s n c)) (hg : pr < g) (v : Value) : Kp u pr b d Q (W.setCell ⟨g, 0, none⟩ v) := by
  obtain ⟨a0, c0, h1, h2⟩ := h.res.cell
  refine ⟨⟨⟨a0, c0, ?_, h2.store hc _⟩, ?_⟩, h.row.store hc _, h.bel.setCell (p := ⟨g, 0, none⟩) (by show u.heap.size ≤ g; have := h.lo; omega) _, h.lo⟩
  · rw [cell_other v (show pr ≠ g by omega)]; exact h1
  · rw [World.frozen?_setCell]; exact h.res.free

section
variable {u W : World} {pr d d' Q R : Nat} {b b' : Option Addr}
theorem kp1 (h : Kp u pr b d Q W) : ((W.alloc (.cells #[.slice b (M.dig Q).length d] 24)).alloc (.cells #[.slice b' (M.dig R).length d'] 24)).cell? ⟨W.heap.size, 0, none⟩ = some (.slice b (M.dig Q).length d) ∧ Kp u pr b d Q ((W.alloc (.cells #[.slice b (M.dig Q).length d] 24)).alloc (.cells #[.slice b' (M.dig R).length d'] 24)) :=
  ⟨cell_later _ (cell_new _ _ _), (h.alloc _).alloc _⟩
theorem kp2 (h : Kp u pr b d Q W) : ((W.alloc (.cells #[.slice b' (M.dig R).length d'] 24)).alloc (.cells #[.slice b (M.dig Q).length d] 24)).cell? ⟨W.heap.size + 1, 0, none⟩ = some (.slice b (M.dig Q).length d) ∧ Kp u pr b d Q ((W.alloc (.cells #[.slice b' (M.dig R).length d'] 24)).alloc (.cells #[.slice b (M.dig Q).length d] 24)) := by
  have := cell_new (W.alloc (.cells #[.slice b' (M.dig R).length d'] 24)) (.slice b (M.dig Q).length d) 24
  rw [World.size_alloc] at this
  exact ⟨this, (h.alloc _).alloc _⟩
theorem kp3 (h : Kp u pr b d Q W) {g : Nat} (hc : W.cell? ⟨g, 0, none⟩ = some (.slice none 0 0)) (hg : pr < g) : ((W.setCell ⟨g, 0, none⟩ (.slice b (M.dig Q).length d)).alloc (.cells #[.slice b' (M.dig R).length d'] 24)).cell? ⟨g, 0, none⟩ = some (.slice b (M.dig Q).length d) ∧ Kp u pr b d Q ((W.setCell ⟨g, 0, none⟩ (.slice b (M.dig Q).length d)).alloc (.cells #[.slice b' (M.dig R).length d'] 24)) :=
  ⟨cell_later _ (World.cell?_setCell_same' _ _ _ (by rw [hc]; rfl)), (h.store hc hg _).alloc _⟩
theorem kp4 (h : Kp u pr b d Q W) {g : Nat} (hc : W.cell? ⟨g, 0, none⟩ = some (.slice none 0 0)) (hg : pr < g) : ((W.setCell ⟨g, 0, none⟩ (.slice b' (M.dig R).length d')).alloc (.cells #[.slice b (M.dig Q).length d] 24)).cell? ⟨W.heap.size, 0, none⟩ = some (.slice b (M.dig Q).length d) ∧ Kp u pr b d Q ((W.setCell ⟨g, 0, none⟩ (.slice b' (M.dig R).length d')).alloc (.cells #[.slice b (M.dig Q).length d] 24)) := by
  have := cell_new (W.setCell ⟨g, 0, none⟩ (.slice b' (M.dig R).length d')) (.slice b (M.dig Q).length d) 24
  rw [World.size_setCell] at this
  exact ⟨this, (h.store hc hg _).alloc _⟩
theorem kp5 (h : Kp u pr b d Q W) {g g' : Nat} (hc : W.cell? ⟨g, 0, none⟩ = some (.slice none 0 0)) (hg : pr < g) (hc' : W.cell? ⟨g', 0, none⟩ = some (.slice none 0 0)) (hg' : pr < g') (hne : g ≠ g') : ((W.setCell ⟨g, 0, none⟩ (.slice b (M.dig Q).length d)).setCell ⟨g', 0, none⟩ (.slice b' (M.dig R).length d')).cell? ⟨g, 0, none⟩ = some (.slice b (M.dig Q).length d) ∧ Kp u pr b d Q ((W.setCell ⟨g, 0, none⟩ (.slice b (M.dig Q).length d)).setCell ⟨g', 0, none⟩ (.slice b' (M.dig R).length d')) := by
  refine ⟨?_, (h.store hc hg _).store (s := none) (n := 0) (c := 0) ?_ hg' _⟩
  · rw [cell_other _ (show g ≠ g' from hne)]
    exact World.cell?_setCell_same' _ _ _ (by rw [hc]; rfl)
  · rw [cell_other _ (show g' ≠ g from hne.symm)]
    exact hc'
end
def bt (w k : Nat) : Nat := setsN k (w - k)
/-- What alternating gives for the terms of bitWords. -/
def altB (w : Nat) : Nat := ev (bt w) (w + 1) - od (bt w) (w + 1)
/-- The number of code words with w bits that are 1, but for that of zeros. -/
def bwN (w : Int) : Nat := if w < 1 then 0 else altB w.toNat / 256
theorem bt_le (w k : Nat) : bt w k ≤ 2 ^ 163 := bits128 (sets_part k (w - k) 73 (Nat.le_refl _))
theorem evb_le (w k : Nat) (hk : k ≤ 128) : ev (bt w) k ≤ 2 ^ 170 := by
  refine bits128 (B := 163) (Nat.le_trans (ev_le k (fun z _ => bt_le w z)) (Nat.mul_le_mul_right _ hk))
theorem odb_le (w k : Nat) (hk : k ≤ 128) : od (bt w) k ≤ 2 ^ 170 := by
  refine bits128 (B := 163) (Nat.le_trans (od_le k (fun z _ => bt_le w z)) (Nat.mul_le_mul_right _ hk))
theorem altB_le (w : Nat) (hw : w ≤ 100) : altB w ≤ 2 ^ 170 := Nat.le_trans (Nat.sub_le _ _) (evb_le w (w + 1) (by omega))
theorem bwN_le (w : Int) (hw : w ≤ 100) : bwN w ≤ 2 ^ 170 := by
  unfold bwN
  split
  · exact Nat.zero_le _
  · exact Nat.le_trans (Nat.div_le_self _ _) (altB_le _ (by omega))
theorem call_bitWords1 : ∀ (args : Array Value) (W : World), Sem.run Tryd.prog (callFunc 27 args) W = .ok (.enter 27 args) W := by
  intro args W
  simp [callFunc, go_sem, Tryd.func27, Tryd.f27]

set_option maxRecDepth 100000 in
set_option maxHeartbeats 1000000 in
theorem bitWords_zero (w : Int) (hw : w < 1) (u : World) :
    Calls Tryd.prog 12 #[.agg (arrN CNT), .int .i64 w] u fun e W => NumR 0 e W ∧ Below u.heap.size u W := by
  obtain ⟨av, hav⟩ : ∃ v, arrN CNT = v := ⟨_, rfl⟩
  rw [hav]
  clear hav
  obtain ⟨u1, hu1⟩ : ∃ u1, u.alloc (.cells av 32) = u1 := ⟨_, rfl⟩
  have hB1 : Below u.heap.size u u1 := by rw [← hu1]; exact (Below.refl _ u).alloc (Nat.le_refl _) _
  obtain ⟨u2, hu2⟩ : ∃ u2, u1.alloc (.cells #[.int .i64 w] 3) = u2 := ⟨_, rfl⟩
  have hB2 : Below u1.heap.size u1 u2 := by rw [← hu2]; exact (Below.refl _ u1).alloc (Nat.le_refl _) _
  obtain ⟨pw, hpw⟩ : ∃ pw, u1.heap.size = pw := ⟨_, rfl⟩
  have hcw : u2.cell? ⟨pw, 0, none⟩ = some (.int .i64 w) := by rw [← hu2, ← hpw]; exact cell_new _ _ _
  have hr0 := Bx.zero u2
  obtain ⟨u3, hu3⟩ : ∃ u3, u2.alloc (.cells #[.slice none 0 0] 24) = u3 := ⟨_, rfl⟩
  have hB3 : Below u2.heap.size u2 u3 := by rw [← hu3]; exact (Below.refl _ u2).alloc (Nat.le_refl _) _
  obtain ⟨pr, hpr⟩ : ∃ pr, u2.heap.size = pr := ⟨_, rfl⟩
  rw [hu3, hpr] at hr0
  have q1 : u3.cell? ⟨pw, 0, none⟩ = some (.int .i64 w) := (hB3.cell (p := ⟨pw, 0, none⟩) (lt_of_cell hcw)).trans hcw
  obtain ⟨_, _, d1, _⟩ := hr0.cell
  have d2 := hr0.free
  have s1 := hB1.size
  have s2 := hB2.size
  have hpr0 : u.heap.size ≤ pr := by omega
  have HB4 := Lib.hid (((hB1.trans (hB2.mono (by omega))).trans (hB3.mono (by omega))).setCell (p := ⟨pr, 0, none⟩) hpr0 (.slice none 0 0))
  have d4 : (u3.setCell ⟨pr, 0, none⟩ (.slice none 0 0)).cell? ⟨pr, 0, none⟩ = some (.slice none 0 0) := World.cell?_setCell_same' _ _ _ (by rw [d1]; rfl)
  clear hB1 hB2 hB3 hr0 hcw s1 s2
  go_enter Tryd.func12, Tryd.ntmps12
  go_wp2_with fail
  exact bodyPost_ret (v := .agg #[.slice none 0 0]) (by simp [results, Tryd.results12, go_sem, d4]) rfl ⟨⟨none, 0, by rw [M.dig_zero]; rfl, row_nil _⟩, HB4.out⟩

set_option maxRecDepth 100000 in
set_option maxHeartbeats 20000000 in
theorem bitWords_pos (w : Nat) (hw : 1 ≤ w) (hw2 : w ≤ 73) (u : World) :
    Calls Tryd.prog 12 #[.agg (arrN CNT), .int .i64 (w : Int)] u fun e W => NumR (altB w / 256) e W ∧ Below u.heap.size u W := by
  obtain ⟨u1, hu1⟩ : ∃ u1, u.alloc (.cells (arrN CNT) 32) = u1 := ⟨_, rfl⟩
  have hrow : u1.heap[u.heap.size]? = some (.cells (arrN CNT) 32 (0, 0)) := by rw [← hu1]; exact heap_alloc_new _ _
  have hB1 : Below u.heap.size u u1 := by rw [← hu1]; exact (Below.refl _ u).alloc (Nat.le_refl _) _
  have hs1 : u1.heap.size = u.heap.size + 1 := by rw [← hu1]; exact World.size_alloc _ _
  obtain ⟨u2, hu2⟩ : ∃ u2, u1.alloc (.cells #[.int .i64 (w : Int)] 3) = u2 := ⟨_, rfl⟩
  have hB2 : Below u1.heap.size u1 u2 := by rw [← hu2]; exact (Below.refl _ u1).alloc (Nat.le_refl _) _
  obtain ⟨pw, hpw⟩ : ∃ pw, u1.heap.size = pw := ⟨_, rfl⟩
  have hcw : u2.cell? ⟨pw, 0, none⟩ = some (.int .i64 (w : Int)) := by rw [← hu2, ← hpw]; exact cell_new _ _ _
  have hr0 := Bx.zero u2
  obtain ⟨u3, hu3⟩ : ∃ u3, u2.alloc (.cells #[.slice none 0 0] 24) = u3 := ⟨_, rfl⟩
  have hB3 : Below u2.heap.size u2 u3 := by rw [← hu3]; exact (Below.refl _ u2).alloc (Nat.le_refl _) _
  obtain ⟨pr, hpr⟩ : ∃ pr, u2.heap.size = pr := ⟨_, rfl⟩
  rw [hu3, hpr] at hr0
  have q1 : u3.cell? ⟨pw, 0, none⟩ = some (.int .i64 (w : Int)) := (hB3.cell (p := ⟨pw, 0, none⟩) (lt_of_cell hcw)).trans hcw
  have hr3 : u3.heap[u.heap.size]? = some (.cells (arrN CNT) 32 (0, 0)) := (hB3.block _ (by have := hB2.size; omega)).trans ((hB2.block _ (by omega)).trans hrow)
  have hl3 : u.heap.size < u3.heap.size := by have := hB2.size; have := hB3.size; omega
  have hal := alternating_any 27 (.pointer (some ⟨u.heap.size, 0, none⟩)) (.pointer (some ⟨pw, 0, none⟩)) (bt w) w u3 (by omega) call_bitWords1 (fun k hk W hb => bitWords1_any k w hk (by omega) u.heap.size pw W ((hb.block _ hl3).trans hr3) ((hb.cell (p := ⟨pw, 0, none⟩) (lt_of_cell q1)).trans q1))
    (fun k _ => bits_len (bt_le w k) (by omega)) (fun k hk => bits_len (evb_le w k (by omega)) (by omega)) (fun k hk => bits_len (odb_le w k (by omega)) (by omega))
  rw [show ev (bt w) (w + 1) - od (bt w) (w + 1) = altB w from rfl] at hal
  have hA := altB_le w (by omega)
  obtain ⟨X, hX⟩ : ∃ X, altB w = X := ⟨_, rfl⟩
  rw [hX] at hal hA ⊢
  have HLX := Lib.hid (bits_len hA (by omega))
  have HAL := Lib.hid hal
  have hmf : ∀ (fn : Fn) (first cap : Array Value) (w : World), (Instr.makeFunc fn first cap).run Tryd.prog w = .ok (.func fn first cap) w := fun _ _ _ _ => rfl
  have s1 := hB1.size
  have s2 := hB2.size
  have hpr0 : u.heap.size ≤ pr := by omega
  have HR3 := Lib.hid hr0
  have HB3 := Lib.hid ((hB1.trans (hB2.mono (by omega))).trans (hB3.mono (by omega)))
  have HN := Lib.hid (fun W => (show Calls Tryd.prog 11 #[.int .i64 256] W (fun e W' => NumR 256 e W' ∧ Below W.heap.size W W') from number_any 256 W (by omega)))
  have hwI : ¬ (w : Int) < 1 := by omega
  obtain ⟨av, hav⟩ : ∃ v, arrN CNT = v := ⟨_, rfl⟩
  rw [hav] at hu1 ⊢
  clear hav hal hA hX hB1 hB2 hB3 hr0 hcw s1 s2 hrow hr3 hs1
  go_enter Tryd.func12, Tryd.ntmps12
  go_wp2_with fail
  (with_reducible refine HAL.out.mono ?_)
  rintro e u4 ⟨⟨a4, c4, rfl, hr4⟩, hb4⟩
  obtain ⟨pe, hpe⟩ : ∃ pe, u4.heap.size = pe := ⟨_, rfl⟩
  obtain ⟨u5, hu5⟩ : ∃ u5, u4.alloc (.cells #[.slice a4 (M.dig X).length c4] 24) = u5 := ⟨_, rfl⟩
  have hb5 : Below u4.heap.size u4 u5 := by rw [← hu5]; exact (Below.refl _ u4).alloc (Nat.le_refl _) _
  have hce : u5.cell? ⟨pe, 0, none⟩ = some (.slice a4 (M.dig X).length c4) := by rw [← hu5, ← hpe]; exact cell_new _ _ _
  have hb35 := hb4.trans (hb5.mono hb4.size)
  have q5 : u5.drew.cell? ⟨pe, 0, none⟩ = some (.slice a4 (M.dig X).length c4) := hce
  have HRE := Lib.hid (show Row u5.drew a4 (M.dig X) c4 from (hr4.below hb5).drewN 1)
  have HR5 := Lib.hid (show Bx u5.drew pr 0 from (HR3.out.below hb35).drewN 1)
  have HB5 := Lib.hid (show Below u.heap.size u u5.drew from (HB3.out.trans (hb35.mono HB3.out.size)).drew)
  clear hr4 hb4 hb5 hce hb35 HAL HR3 HB3 q1
  go_wp2_with fail
  go_cut [6] (fun s6 wx => ∃ (g d : Nat) (b : Option Addr), s6 = .pointer (some ⟨g, 0, none⟩) ∧ wx.cell? ⟨g, 0, none⟩ = some (.slice b (M.dig (X / 256)).length d) ∧ Kp u pr b d (X / 256) wx)
  case first =>
    have q5a : u5.cell? ⟨pe, 0, none⟩ = some (.slice a4 (M.dig X).length c4) := q5
    have q5b := cell_later (.cells #[.slice none 0 0] 24) q5a
    have q5c := cell_later (.cells #[.slice none 0 0] 24) q5b
    have hp5 : pr < u5.heap.size := HR5.out.lt
    go_region_law (first
      | (go_simp; go_at_call 11; (with_reducible refine (HN.out _).mono ?_); go_must (rintro e w10 ⟨⟨a0, c0, rfl, r0⟩, hb10⟩; have hv : Below u5.drew.heap.size u5.drew w10 := (by first | exact hb10 | exact unal (W := u5.drew) hb10 | exact unal (W := u5.drew) (unal (W := u5.drew.alloc (.cells #[.slice none 0 0] 24)) hb10)); (first | (have hq := two_al (W := u5.drew) hb10; obtain ⟨⟨hA, hAf⟩, hB, hBf⟩ := (show (w10.cell? ⟨u5.heap.size, 0, none⟩ = some (.slice none 0 0) ∧ w10.frozen? ⟨u5.heap.size, 0, none⟩ = false) ∧ w10.cell? ⟨u5.heap.size + 1, 0, none⟩ = some (.slice none 0 0) ∧ w10.frozen? ⟨u5.heap.size + 1, 0, none⟩ = false from hq)) | (have hq := one_al (W := u5.drew) hb10; obtain ⟨hA, hAf⟩ := (show w10.cell? ⟨u5.heap.size, 0, none⟩ = some (.slice none 0 0) ∧ w10.frozen? ⟨u5.heap.size, 0, none⟩ = false from hq)) | skip); have q6 := (hv.cell (p := ⟨pe, 0, none⟩) (lt_of_cell q5)).trans q5; have q6b := cell_later (.cells #[.slice none 0 0] 24) q6; have q6c := cell_later (.cells #[.slice none 0 0] 24) q6b; have R0 := Lib.hid r0; have HV10 := Lib.hid hv; have hs10 : u5.heap.size ≤ w10.heap.size := hv.size; clear r0 hv; go_simp))
      | (go_simp; go_at_call 29; (with_reducible refine (divide_any a4 a0 c4 c0 X 256 _ (by omega) HLX.out (small_len (n := 256) (by decide)) (by first | exact HRE.out.below HV10.out | exact (HRE.out.below HV10.out).alloc _ | exact ((HRE.out.below HV10.out).alloc _).alloc _) (by first | exact R0.out | exact R0.out.alloc _ | exact (R0.out.alloc _).alloc _)).mono ?_); go_must (rintro e w11 ⟨⟨b1, d1, b2, d2, rfl, rq, rr⟩, hb11⟩; have hv11 : Below w10.heap.size w10 w11 := (by first | exact hb11 | exact unal hb11 | exact unal (unal hb11)); (try (have hA1 := (hv11.cell (lt_of_cell hA)).trans hA; have hA1f := (hv11.frozen (lt_of_cell hA)).trans hAf; have lAw := lt_of_cell hA; simp only [] at lAw; have nAw := Nat.ne_of_lt lAw; have nAx := Nat.ne_of_gt lAw)); (try (have hB1 := (hv11.cell (lt_of_cell hB)).trans hB; have hB1f := (hv11.frozen (lt_of_cell hB)).trans hBf)); (first | (have hq := two_al hb11; obtain ⟨⟨hC1, hC1f⟩, hD1, hD1f⟩ := hq) | (have hq := one_al hb11; obtain ⟨hC1, hC1f⟩ := hq) | skip); (try (have hA2 := cell_later (.cells #[.slice none 0 0] 24) hA1; have hA2f := frozen_later (.cells #[.slice none 0 0] 24) hA1 hA1f; have hA3 := cell_later (.cells #[.slice b1 (M.dig (X / 256)).length d1] 24) hA1; have hA3f := frozen_later (.cells #[.slice b1 (M.dig (X / 256)).length d1] 24) hA1 hA1f; have hA4 := cell_later (.cells #[.slice b2 (M.dig (X % 256)).length d2] 24) hA1; have hA4f := frozen_later (.cells #[.slice b2 (M.dig (X % 256)).length d2] 24) hA1 hA1f; have lA := lt_of_cell hA1; simp only [] at lA; have nA1 := Nat.ne_of_lt lA; have nA2 := Nat.ne_of_gt lA)); (try (have hB2 := cell_later (.cells #[.slice none 0 0] 24) hB1; have hB2f := frozen_later (.cells #[.slice none 0 0] 24) hB1 hB1f; have hB3 := cell_later (.cells #[.slice b1 (M.dig (X / 256)).length d1] 24) hB1; have hB3f := frozen_later (.cells #[.slice b1 (M.dig (X / 256)).length d1] 24) hB1 hB1f; have hB4 := cell_later (.cells #[.slice b2 (M.dig (X % 256)).length d2] 24) hB1; have hB4f := frozen_later (.cells #[.slice b2 (M.dig (X % 256)).length d2] 24) hB1 hB1f; have lB := lt_of_cell hB1; simp only [] at lB; have nB1 := Nat.ne_of_lt lB; have nB2 := Nat.ne_of_gt lB)); (try (have hC2 := cell_later (.cells #[.slice none 0 0] 24) hC1; have hC2f := frozen_later (.cells #[.slice none 0 0] 24) hC1 hC1f; have hC3 := cell_later (.cells #[.slice b1 (M.dig (X / 256)).length d1] 24) hC1; have hC3f := frozen_later (.cells #[.slice b1 (M.dig (X / 256)).length d1] 24) hC1 hC1f; have hC4 := cell_later (.cells #[.slice b2 (M.dig (X % 256)).length d2] 24) hC1; have hC4f := frozen_later (.cells #[.slice b2 (M.dig (X % 256)).length d2] 24) hC1 hC1f; have lC := lt_of_cell hC1; simp only [] at lC; have nC1 := Nat.ne_of_lt lC; have nC2 := Nat.ne_of_gt lC)); (try (have hD2 := cell_later (.cells #[.slice none 0 0] 24) hD1; have hD2f := frozen_later (.cells #[.slice none 0 0] 24) hD1 hD1f; have hD3 := cell_later (.cells #[.slice b1 (M.dig (X / 256)).length d1] 24) hD1; have hD3f := frozen_later (.cells #[.slice b1 (M.dig (X / 256)).length d1] 24) hD1 hD1f; have hD4 := cell_later (.cells #[.slice b2 (M.dig (X % 256)).length d2] 24) hD1; have hD4f := frozen_later (.cells #[.slice b2 (M.dig (X % 256)).length d2] 24) hD1 hD1f; have lD := lt_of_cell hD1; simp only [] at lD; have nD1 := Nat.ne_of_lt lD; have nD2 := Nat.ne_of_gt lD)); have hb5 : Below u5.drew.heap.size u5.drew w11 := HV10.out.trans (hv11.mono HV10.out.size); have HK := Lib.hid (show Kp u pr b1 d1 (X / 256) w11 from ⟨HR5.out.below hb5, rq, HB5.out.trans (hb5.mono HB5.out.size), hpr0⟩); have hs11 := hv11.size; clear rq rr hb5 hv11 hb11; go_simp)))
    all_goals (
      go_wp2_with fail
      go_meet
      first
        | with_reducible exact ⟨_, d1, b1, rfl, kp1 HK.out⟩
        | with_reducible exact ⟨_, d1, b1, rfl, kp2 HK.out⟩
        | with_reducible exact ⟨_, d1, b1, rfl, kp3 HK.out hA1 (by omega)⟩
        | with_reducible exact ⟨_, d1, b1, rfl, kp4 HK.out hA1 (by omega)⟩
        | with_reducible exact ⟨_, d1, b1, rfl, kp3 HK.out hC1 (by omega)⟩
        | with_reducible exact ⟨_, d1, b1, rfl, kp4 HK.out hC1 (by omega)⟩
        | with_reducible exact ⟨_, d1, b1, rfl, kp3 HK.out hB1 (by omega)⟩
        | with_reducible exact ⟨_, d1, b1, rfl, kp4 HK.out hB1 (by omega)⟩
        | with_reducible exact ⟨_, d1, b1, rfl, kp3 HK.out hD1 (by omega)⟩
        | with_reducible exact ⟨_, d1, b1, rfl, kp4 HK.out hD1 (by omega)⟩
        | with_reducible exact ⟨_, d1, b1, rfl, kp5 HK.out hA1 (by omega) hB1 (by omega) (by omega)⟩
        | with_reducible exact ⟨_, d1, b1, rfl, kp5 HK.out hB1 (by omega) hA1 (by omega) (by omega)⟩
        | with_reducible exact ⟨_, d1, b1, rfl, kp5 HK.out hC1 (by omega) hD1 (by omega) (by omega)⟩
        | with_reducible exact ⟨_, d1, b1, rfl, kp5 HK.out hD1 (by omega) hC1 (by omega) (by omega)⟩
        | with_reducible exact ⟨_, d1, b1, rfl, kp5 HK.out hA1 (by omega) hC1 (by omega) (by omega)⟩
        | with_reducible exact ⟨_, d1, b1, rfl, kp5 HK.out hC1 (by omega) hA1 (by omega) (by omega)⟩)
  case rest =>
    obtain ⟨g, d, b, rfl, hg, hk⟩ := hcut
    obtain ⟨_, _, e1, _⟩ := hk.res.cell
    have e2 := hk.res.free
    have e4 : (wc.setCell ⟨pr, 0, none⟩ (.slice b (M.dig (X / 256)).length d)).cell? ⟨pr, 0, none⟩ = some (.slice b (M.dig (X / 256)).length d) := World.cell?_setCell_same' _ _ _ (by rw [e1]; rfl)
    have HZ := Lib.hid (hk.row.store e1 (.slice b (M.dig (X / 256)).length d))
    have HB6 := Lib.hid (hk.bel.setCell (p := ⟨pr, 0, none⟩) hpr0 (.slice b (M.dig (X / 256)).length d))
    clear hk q5
    go_wp2_with fail
    exact bodyPost_ret (v := .agg #[.slice b (M.dig (X / 256)).length d]) (by simp [results, Tryd.results12, go_sem, e4]) rfl ⟨⟨b, d, rfl, HZ.out⟩, HB6.out⟩
/-- **chance.bitWords** -/
theorem bitWords_any (w : Int) (hw2 : w ≤ 73) (u : World) :
    Calls Tryd.prog 12 #[.agg (arrN CNT), .int .i64 w] u fun e W => NumR (bwN w) e W ∧ Below u.heap.size u W := by
  by_cases h : w < 1
  · rw [show bwN w = 0 from if_pos h]
    exact bitWords_zero w h u
  · obtain ⟨m, rfl⟩ : ∃ m : Nat, w = m := ⟨w.toNat, by omega⟩
    rw [show bwN (m : Int) = altB m / 256 from if_neg h]
    exact bitWords_pos m (by omega) (by omega) u
end C
end Go.Proofs.YtmejneobfkbgeaaDoor
