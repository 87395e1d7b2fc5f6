/- nat.Int. -/
import Derived.Test.YtbhfhekjcnnfeaaDoorB12
namespace Go.Proofs.YtbhfhekjcnnfeaaDoor
open Go Go.RowKit Go.Shelf
attribute [local go_sem] Oper.semAt_some

theorem drop_val (x k : Nat) (hk : k < (M.dig x).length) : M.val ((M.dig x).drop k) = M.val ((M.dig x).drop (k + 1)) * 16777216 + M.el (M.dig x) k := by
  rw [M.drop_el _ _ hk]
  show M.el (M.dig x) k + 16777216 * M.val ((M.dig x).drop (k + 1)) = _
  omega

theorem drop_le (x k : Nat) (hk : k < (M.dig x).length) : M.val ((M.dig x).drop (k + 1)) * 16777216 ≤ x := by
  have h1 := drop_val x k hk
  have h2 := (M.lim_dig x).get k
  have h3 : M.val ((M.dig x).drop k) ≤ x := by
    have h := M.val_append ((M.dig x).take k) ((M.dig x).drop k)
    rw [List.take_append_drop, M.val_dig] at h
    have h4 := M.val_nonneg ((M.lim_dig x).take k)
    have h5 := M.val_nonneg ((M.lim_dig x).drop k)
    have h6 : (1 : Int) * M.val ((M.dig x).drop k) ≤ 16777216 ^ ((M.dig x).take k).length * M.val ((M.dig x).drop k) := Int.mul_le_mul_of_nonneg_right (by have := M.pow_pos ((M.dig x).take k).length; omega) h5
    omega
  omega

theorem Var.new' {W : World} {a : Option Addr} {cap n : Nat} (h : Row W a (M.dig n) cap) : Row (W.alloc (.cells #[.slice a (M.dig n).length cap] 31)) a (M.dig n) cap := h.alloc _

set_option maxRecDepth 100000 in
set_option maxHeartbeats 1000000 in
theorem int_any (a : Option Addr) (ca x : Nat) (w : World) (hx : (x : Int) ≤ 4611686018427387904) (hA : Row w a (M.dig x) ca) :
    Calls Tryd.prog 18 #[.agg #[.slice a (M.dig x).length ca]] w fun e W' => e = .returned (.tuple #[.int .i64 (x : Int), .int .i64 0]) ∧ Below w.heap.size w W' := by
  have hx200 : (M.dig x).length ≤ 200 := Nat.le_trans (M.dig_len_le.2 (Nat.lt_of_le_of_lt (by omega : x ≤ 4611686018427387904) (by decide : 4611686018427387904 < 16777216 ^ 3))) (by omega)
  have HV := Lib.hid (vld_dig hx200)
  obtain ⟨N, hN⟩ : ∃ N : Nat, (N : Int) = 4611686018427387904 := ⟨4611686018427387904, rfl⟩
  have ho := fun W : World => of_any N W (by omega)
  rw [hN] at ho
  have HO := Lib.hid ho
  have HN := Lib.hid hN
  clear ho hN
  refine (callsIn_wide (n := 6)).1 ?_
  refine callsIn_of_wp_marks Tryd.func18 rfl trivial ?_ rfl
  simp only [Tryd.ntmps18, List.size_toArray, List.length_cons, List.length_nil, Nat.reduceAdd, Nat.reduceSub, Array.replicate_succ, Array.replicate_zero, List.push_toArray, List.append_toArray, List.nil_append, List.cons_append]
  have c0 := cell_new w (.slice a (M.dig x).length ca) 31
  have HB0 := Lib.hid ((Below.refl _ w).alloc (Nat.le_refl _) (.cells #[.slice a (M.dig x).length ca] 31))
  gi_wp2_with fail
  refine ⟨trivial, ?_⟩
  refine (callsIn_wide.2 (valid_yes a _ ca _ (hA.below HB0.out) HV.out)).mono ?_
  rintro e w1 ⟨rfl, hb1⟩
  have c1 := (hb1.cell (p := ⟨w.heap.size, 0, none⟩) (by simp)).trans c0
  have HB1 := Lib.hid (HB0.out.trans (hb1.mono (by simp)))
  clear hb1 c0 HB0
  gi_wp2_with fail
  refine ⟨trivial, ?_⟩
  refine (callsIn_wide.2 (HO.out w1)).mono ?_
  rintro e w2 ⟨v, rfl, ⟨a2, p2, rfl, hr2⟩, hb2⟩
  have c2 := (hb2.cell (p := ⟨w.heap.size, 0, none⟩) (lt_of_cell c1)).trans c1
  have HB2 := Lib.hid (HB1.out.trans (hb2.mono HB1.out.size))
  have HR2 := Lib.hid hr2
  clear hb2 c1 HB1 hr2
  have d2 := cell_later (.cells #[.slice a2 (M.dig N).length p2] 31) c2
  have hl2 : w.heap.size < w2.heap.size := lt_of_cell c2
  have hn2 : ¬ w.heap.size = w2.heap.size := by omega
  have VN := Lib.hid (Var.new' HR2.out)
  gi_wp2_with fail
  refine ⟨trivial, ?_⟩
  refine (callsIn_wide.2 (cmp_any a a2 ca p2 x N (w2.alloc (.cells #[.slice a2 (M.dig N).length p2] 31)) ((hA.below HB2.out).alloc _) VN.out)).mono ?_
  rintro e w3 ⟨rfl, hb3⟩
  have c3 := (hb3.cell (p := ⟨w.heap.size, 0, none⟩) (lt_of_cell d2)).trans d2
  have HB3 := Lib.hid ((HB2.out.alloc (Nat.le_of_lt hl2) (.cells #[.slice a2 (M.dig N).length p2] 31)).trans (hb3.mono (by simp; omega)))
  have hl3 : w.heap.size < w3.heap.size := lt_of_cell c3
  clear hb3 c2 d2 HB2 hl2 hn2
  obtain ⟨s, hs, hs0⟩ : ∃ s, Lib.compareInt (x : Int) (N : Int) = s ∧ s ≤ 0 := by
    rcases Int.lt_or_eq_of_le hx with h | h
    · exact ⟨-1, compare_lt (by rw [HN.out]; exact h), by decide⟩
    · exact ⟨0, compare_eq (by rw [HN.out]; exact h), by decide⟩
  rw [hs]
  gi_wp2_with fail
  refine ⟨trivial, ?_⟩
  refine (callsIn_wide.2 (backward_any _ _ _ _)).mono ?_
  rintro e w' ⟨rfl, rfl⟩
  gi_wp2_with fail
  have i0 := cell_new w3 (.int .i64 0) 3
  have j0 := frozen_new w3 (.int .i64 0) 3
  have i1 := cell_new (w3.alloc (.cells #[.int .i64 0] 3)) (.slice a (M.dig x).length ca) 22
  simp only [World.size_alloc] at i1
  refine wpIn_back (n := 6) (by omega) (Bs := w3.heap.size + 1) rfl rfl a (M.dig x).length ca (by have := hA.room; have := hA.most; omega) (fun j => M.el (M.dig x) j)
    (fun k W => (W.cell? ⟨w3.heap.size, 0, none⟩ = some (.int .i64 (M.val ((M.dig x).drop k))) ∧ W.frozen? ⟨w3.heap.size, 0, none⟩ = false ∧ W.cell? ⟨w3.heap.size + 1, 0, none⟩ = some (.slice a (M.dig x).length ca)) ∧ Below w.heap.size w W)
    (fun c k W => False ∧ Below w.heap.size w W)
    (OwnFrom.and (Own.from (fun s A B row hs hg hr => ⟨cell_kept hs.1 hg hr, (frozen_kept hs.1 hg hr).trans hs.2.1, cell_kept hs.2.2 hg hr⟩) _) (ownFrom_below (Nat.le_refl _) (by simp; omega)))
    (fun c => OwnFrom.and (Own.from (fun s A B row hs hg hr => hs) _) (ownFrom_below (Nat.le_refl _) (by simp; omega)))
    ⟨⟨by rw [List.drop_length]; exact cell_later _ i0, frozen_later _ i0 j0, i1⟩, (HB3.out.alloc (by omega) _).alloc (by simp; omega) _⟩
    (fun k W h => h.1.2.2)
    (fun k W h hk => by
      obtain ⟨b, off, e, hc⟩ := hA.el k hk
      exact ⟨b, off, e, (h.2.cell (p := ⟨b, off + k, none⟩) (lt_of_cell hc)).trans hc⟩)
    (fun k => { tmps := List.toArray ((.agg #[.slice a (M.dig x).length ca]) :: (.pointer (some ⟨w.heap.size, 0, none⟩)) :: (.int .i64 0) :: (.int .i64 0) :: (.pointer (some ⟨w2.heap.size, 0, none⟩)) :: (.int .i64 0) :: (.pointer (some ⟨w3.heap.size, 0, none⟩)) :: undef :: (.int .i64 (M.el (M.dig x) k)) :: (.agg #[.slice a (M.dig x).length ca]) :: (.bool true) :: (.bool false) :: (.tuple #[.agg #[.slice a2 (M.dig N).length p2], .int .i64 0]) :: (.tuple #[.agg #[.slice a2 (M.dig N).length p2], .int .i64 0]) :: (.agg #[.slice a2 (M.dig N).length p2]) :: (.int .i64 0) :: (.agg #[.slice a (M.dig x).length ca]) :: (.agg #[.slice a2 (M.dig N).length p2]) :: (.int .i64 s) :: (.bool (decide (0 < s))) :: (.pointer (some ⟨w.heap.size, 0, none⟩)) :: (.slice a (M.dig x).length ca) :: (.func (.func 71) #[] #[.pointer (some ⟨w3.heap.size + 1, 0, none⟩)]) :: (.int .i64 (k : Int)) :: (.int .i64 (M.el (M.dig x) k)) :: undef :: undef :: undef :: undef :: undef :: []), defers := [] }) ?assign ?body ?done ?stop
  case assign =>
    intro l k W K hk hK
    gi_wp2
    exact hK
  case body =>
    rintro l k W hl hrec ⟨⟨hc1, hf1, hc2⟩, hB'⟩ hk
    have h1 := drop_val x k hk
    have h2 := drop_le x k hk
    have h3 := M.val_nonneg ((M.lim_dig x).drop (k + 1))
    have hel := (M.lim_dig x).get k
    have H1 := Lib.hid h1
    clear h1
    generalize hr : M.val ((M.dig x).drop (k + 1)) = r at *
    have hor := or24 r (M.el (M.dig x) k) h3 (by omega) hel.1 hel.2
    gi_wp2
    exact ⟨(KeepsOthers.setCell _ _ _).from _, ⟨by rw [H1.out]; exact World.cell?_setCell_same' _ _ _ (by rw [hc1]; rfl), by rw [World.frozen?_setCell]; exact hf1, (World.cell?_setCell_other _ _ _ _ (by intro e; have := congrArg Addr.block e; simp at this)).trans hc2⟩, hB'.setCell (p := ⟨w3.heap.size, 0, none⟩) (by simp; omega) _⟩
  case done =>
    rintro D W hD ⟨⟨hc1, hf1, _⟩, hB'⟩ hK
    rw [List.drop_zero, M.val_dig] at hc1
    gi_wp2
    refine ⟨by simp, .inl ⟨_, _, rfl, run_takeDeferred hK, ?_⟩⟩
    refine ⟨.tuple #[.int .i64 (x : Int), .int .i64 0], ?_, rfl, hB'.trans (belowK_b (w := w) (Nat.le_refl _) W D _ _ (by simp at hD; omega) hK rfl rfl)⟩
    simp [results, Tryd.f18, go_sem]
  case stop =>
    rintro D c k W _ _ h _
    exact h.1.elim
end Go.Proofs.YtbhfhekjcnnfeaaDoor
