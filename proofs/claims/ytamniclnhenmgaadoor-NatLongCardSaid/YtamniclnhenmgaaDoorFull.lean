/- law01.long: a number of a given number of limbs. -/
import Derived.Test.YtamniclnhenmgaaDoorDiceNat
namespace Go.Proofs.YtamniclnhenmgaaDoor
open Go Go.RowKit Go.Shelf

/-- The state of law01.long: the dice; the list of the limbs in block g, owned; nothing else that lay before has turned. -/
structure LgSt (w : World) (dp : Nat) (a : Option Addr) (cap : Nat) (ts : List Int) (g L lc : Nat) (zs : List Int) (W : World) : Prop where
  dice : ∃ k, Dice W dp a cap ts k
  own : Own W (w.heap.size + 1) (.slice (some ⟨g, 0, none⟩) L lc) zs
  len : zs.length = L
  grown : w.grownBy W (some dp)
  bnd : dp < w.heap.size ∧ w.heap.size < g ∧ w.heap.size < W.heap.size
  res : W.cell? ⟨w.heap.size, 0, none⟩ = some (.slice none 0 0) ∧ W.frozen? ⟨w.heap.size, 0, none⟩ = false
  far : ∀ b off, a = some ⟨b, off, none⟩ → 0 < ts.length → b < w.heap.size
  lim : M.Lim zs

section
variable {w : World} {dp : Nat} {a : Option Addr} {cap : Nat} {ts : List Int} {g L lc : Nat} {zs : List Int} {W : World}
theorem LgSt.set (h : LgSt w dp a cap ts g L lc zs W) (j : Nat) {u : Int} (h0 : 0 ≤ u) (h1 : u < 16777216) : LgSt w dp a cap ts g L lc (zs.set j u) (W.setCell ⟨g, j, none⟩ (.int .i64 u)) := by
  have hb := h.bnd
  have hg : W.grownBy (W.setCell ⟨g, j, none⟩ (.int .i64 u)) (some g) := grown_setCell (World.grownBy.refl W _) _ (.inr rfl)
  have ho := h.own
  have hl := h.len
  refine ⟨?_, ?_, by rw [List.length_set]; exact hl, grown_setCell h.grown _ (.inl (show w.heap.size ≤ g by omega)), ⟨hb.1, hb.2.1, ?_⟩, ⟨?_, ?_⟩, h.far, h.lim.set j h0 h1⟩
  · obtain ⟨k, d⟩ := h.dice
    exact ⟨k, d.grown hg (by intro e; cases e; omega) fun b off e hl => by intro e2; cases e2; have := h.far _ off e hl; omega⟩
  · subst hl
    exact ho.set j u
  · rw [show (W.setCell ⟨g, j, none⟩ (.int .i64 u)).heap.size = W.heap.size by simp [World.setCell]]
    exact hb.2.2
  · rw [cell_other _ (show w.heap.size ≠ g by omega)]; exact h.res.1
  · rw [World.frozen?_setCell]; exact h.res.2
theorem LgSt.drewN (h : LgSt w dp a cap ts g L lc zs W) (n : Nat) : LgSt w dp a cap ts g L lc zs (W.drewN n) :=
  ⟨h.dice.imp fun _ d => d.drewN n, h.own.drewN n, h.len, grown_drewN h.grown n, h.bnd, h.res, h.far, h.lim⟩
theorem LgSt.next (h : LgSt w dp a cap ts g L lc zs W) {W' : World} {k : Nat} (hd : Dice W' dp a cap ts k) (hg : W.grownBy W' (some dp)) : LgSt w dp a cap ts g L lc zs W' := by
  have hb := h.bnd
  have cR : some w.heap.size ≠ some dp := by intro e; cases e; omega
  refine ⟨⟨k, hd⟩, World.ownsRow.kept h.own hg (.inr ?_), h.len, ⟨hg.os.trans h.grown.os, hg.tape.trans h.grown.tape, hg.output.trans h.grown.output, Nat.le_trans h.grown.size hg.size, fun x hx hne => (hg.block x (Nat.lt_of_lt_of_le hx h.grown.size) hne).trans (h.grown.block x hx hne)⟩,
    ⟨hb.1, hb.2.1, Nat.lt_of_lt_of_le hb.2.2 hg.size⟩, ⟨hg.cell h.res.1 cR, (World.frozen?_of_block (hg.block _ (lt_of_cell h.res.1) cR)).trans h.res.2⟩, h.far, h.lim⟩
  intro e
  simp [Value.ownBlock] at e
  omega
theorem LgSt.throw (h : LgSt w dp a cap ts g L lc zs W) (n : Int) (hn : 0 < n) (hn2 : n ≤ 4611686018427387904) :
    Calls Tryd.prog 50 #[.pointer (some ⟨dp, 0, none⟩), .int .i64 n] W fun e W' => ∃ r : Nat, (r : Int) < n ∧ e = .returned (.int .i64 (r : Int)) ∧ LgSt w dp a cap ts g L lc zs W' := by
  obtain ⟨m, rfl⟩ := Int.eq_ofNat_of_zero_le (Int.le_of_lt hn)
  obtain ⟨k, hd⟩ := h.dice
  refine (next_any W dp a cap ts k m (by omega) (by omega) hd).mono ?_
  rintro e W' ⟨r, k', hr, he, hd', hg⟩
  exact ⟨r, by omega, he, h.next hd' hg⟩
end

theorem grown_of' {w W : World} {row : Option Nat} (h : Below w.heap.size w W) : w.grownBy W row := ⟨h.os, h.tape, h.output, h.size, fun k hk _ => h.block k hk⟩

/-- What long gives: a number of at most 200 limbs, that outlasts later throws. -/
def FullPost (w : World) (dp : Nat) (a : Option Addr) (cap : Nat) (ts : List Int) (e : Ending) (W : World) : Prop :=
  ∃ (s : Option Addr) (c x k' : Nat), e = .returned (.agg #[.slice s (M.dig x).length c]) ∧ Row W s (M.dig x) c ∧ (M.dig x).length ≤ 200 ∧ Dice W dp a cap ts k' ∧ w.grownBy W (some dp) ∧ ∀ W', W.grownBy W' (some dp) → Row W' s (M.dig x) c

theorem LgSt.done {w : World} {dp : Nat} {a : Option Addr} {cap : Nat} {ts : List Int} {g L lc : Nat} {zs : List Int} {W : World} (h : LgSt w dp a cap ts g L lc zs W) (h0 : 0 < L) (hm : L ≤ 200) (hz : M.el zs (L - 1) ≠ 0) :
    FullPost w dp a cap ts (.returned (.agg #[.slice (some ⟨g, 0, none⟩) L lc])) (W.setCell ⟨w.heap.size, 0, none⟩ (.slice (some ⟨g, 0, none⟩) L lc)) := by
  have hb := h.bnd
  have hl := h.len
  have ho := h.own
  subst hl
  obtain ⟨k', d⟩ := h.dice
  have hd : M.dig (M.val zs).toNat = zs := by
    rw [← M.trimL_dig h.lim]
    refine M.trimL_last (.inr fun e => hz ?_)
    rw [List.getLast?_eq_getElem?] at e
    unfold M.el
    rw [e]; rfl
  have ho2 := ho.setBelow (p := ⟨w.heap.size, 0, none⟩) (show w.heap.size < w.heap.size + 1 by omega) (.slice (some ⟨g, 0, none⟩) zs.length lc)
  refine ⟨_, lc, (M.val zs).toNat, k', by rw [hd], ?_, by rw [hd]; exact hm, d.store h.res.1 (show w.heap.size ≠ dp by omega) _, grown_setCell h.grown _ (.inl (Nat.le_refl _)), fun W' hg => ?_⟩
  · rw [hd]; exact ho2.rowAt
  · rw [hd]
    refine Own.rowAt (B := w.heap.size + 1) (World.ownsRow.kept ho2 hg (.inr ?_))
    intro e
    simp [Value.ownBlock] at e
    omega

set_option maxRecDepth 100000 in
set_option maxHeartbeats 1000000 in
/-- **law01.long** -/
theorem full_any (w : World) (dp : Nat) (a : Option Addr) (cap : Nat) (ts : List Int) (k : Nat) (n : Int) (hD : Dice w dp a cap ts k) :
    Calls Tryd.prog 25 #[.pointer (some ⟨dp, 0, none⟩), .int .i64 n] w (FullPost w dp a cap ts) := by
  have hlt := hD.lt
  have c0 := cell_of_new w (.slice none 0 0) 24
  obtain ⟨q, hq, hq2⟩ := mod_nat n 200 (by omega)
  have HQ := Lib.hid hq
  have HM := Lib.hid (show ∀ W : World, Calls Tryd.prog 45 #[.int .i64 n, .int .i64 200] W fun e W' => e = .returned (.int .i64 (q : Int)) ∧ W' = W from fun W => by rw [← hq]; exact mod_any n 200 W (by omega) (by omega))
  have HD := Lib.hid hD
  have HC := Lib.hid c0
  clear hD c0 hq
  go_enter Tryd.func25, Tryd.ntmps25
  go_wp2_with fail
  refine (HM.out _).mono ?_
  rintro e w' ⟨rfl, rfl⟩
  go_wp2_with (at_make; refine wpList_make1 rfl _ _ rfl (q + 1) rfl rfl (by omega) (by omega) (B := w.heap.size + 1) (by simp) ?_; intro w6 hown6 hb6; have HO := Lib.hid hown6; have HB := Lib.hid hb6; clear hown6 hb6)
  have hst : LgSt w dp a cap ts (w.heap.size + 1) (q + 1) (q + 1) (List.replicate (q + 1) 0) w6 := by
    have ho := HO.out
    have hb := HB.out
    rw [List.length_replicate, World.size_alloc] at ho
    have hb2 : Below (w.alloc (.cells #[.slice none 0 0] 24)).heap.size (w.alloc (.cells #[.slice none 0 0] 24)) w6 := by rw [World.size_alloc]; exact hb
    have hs := hb.size
    rw [World.size_alloc] at hs
    exact ⟨⟨k, (HD.out.alloc _).below hb2⟩, ho, List.length_replicate .., grown_of' (((Below.refl _ w).alloc (Nat.le_refl _) _).trans (hb.mono (by omega))), ⟨hlt, by omega, by omega⟩,
      ⟨(hb.cell (p := ⟨w.heap.size, 0, none⟩) (by show w.heap.size < _; omega)).trans HC.out.1, (hb.frozen (p := ⟨w.heap.size, 0, none⟩) (by show w.heap.size < _; omega)).trans HC.out.2⟩, HD.out.far, M.Lim.replicate _⟩
  have HST := Lib.hid hst
  clear hst HO HB HC HD HQ HM
  go_loopw [6] (fun i wr => ∃ (j : Nat) (zs : List Int), i = .int .i64 (j : Int) ∧ j ≤ q + 1 ∧ LgSt w dp a cap ts (w.heap.size + 1) (q + 1) (q + 1) zs wr) (fun i _ => q + 1 - (intOf i).toNat)
  case atStart => exact ⟨0, _, rfl, Nat.zero_le _, HST.out⟩
  case round =>
    clear HST
    obtain ⟨j, zs, rfl, hj, hst⟩ := hrel
    have HST := Lib.hid hst
    clear hst
    by_cases hlt : j < q + 1
    · obtain ⟨_, e', _, hgw, _, _, hcz, hfz⟩ := HST.out.own.at2 j (by rw [HST.out.len]; exact hlt)
      cases e'
      go_wp2_with fail
      go_roundw
      case rel => exact ⟨j + 1, _, by go_num, by omega, HST.out.set j (by omega) (by omega)⟩
      case measure => simp [intOf]; omega
    · have hlt0 := HST.out.bnd.2.2
      go_wp2_with fail
      refine (HST.out.throw 16777216 (by omega) (by omega)).mono ?_
      rintro e w7 ⟨r, hr, rfl, hst7⟩
      obtain ⟨_, e', -, hgw, -, -, hcz, hfz⟩ := hst7.own.at2 0 (by rw [hst7.len]; omega)
      cases e'
      have HS8 := Lib.hid (hst7.set 0 (u := (r : Int)) (by omega) hr)
      clear hst7
      go_wp2_with fail
      refine (HS8.out.throw 16777215 (by omega) (by omega)).mono ?_
      rintro e w9 ⟨r2, hr2, rfl, hst9⟩
      have hr20 : 0 ≤ (r2 : Int) := Int.natCast_nonneg _
      generalize (r2 : Int) = z2 at *
      obtain ⟨_, e', -, hgw9, -, -, hcz9, hfz9⟩ := hst9.own.at2 q (by rw [hst9.len]; omega)
      cases e'
      have HS := Lib.hid (hst9.set q (u := 1 + z2) (by omega) (by omega))
      have HR := Lib.hid HS.out.res.1
      have hln := hst9.len
      have HLN := Lib.hid hln
      clear hst9 hln hcz hfz hgw hlt hj
      obtain ⟨zq, hzq⟩ : ∃ zq, M.el (zs.set 0 (r : Int)) q = zq := ⟨_, rfl⟩
      rw [hzq] at hcz9
      have HZQ := Lib.hid hzq
      clear hzq
      have c0 := HR.out
      have hwr : IntKind.i64.wrap (1 + z2) = 1 + z2 := by rw [IntKind.wrap_i64]; omega
      have HZ1 := Lib.hid (show 1 + z2 ≠ 0 by omega)
      clear hr2 hr20
      go_upto_region 8 with fail
      have f0 := HS.out.res.2
      have hlz := HS.out.bnd.2.2
      have HDN := Lib.hid (HS.out.done (by omega) (by omega) (by rw [Nat.add_sub_cancel, M.el_set _ _ _ _ (by rw [HLN.out]; omega), if_pos rfl]; exact HZ1.out))
      generalize (w9.setCell ⟨w.heap.size + 1, q, none⟩ (.int .i64 (1 + z2))) = wz at *
      clear hwr hcz9 hfz9 hgw9 HR HS
      go_wp2_with fail
      refine bodyPost_ret (v := .agg #[.slice (some ⟨w.heap.size + 1, 0, none⟩) (q + 1) (q + 1)]) (by simp [results, Tryd.results25, go_sem, c0]) rfl HDN.out
end Go.Proofs.YtamniclnhenmgaaDoor
