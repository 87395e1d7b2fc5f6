/- hamming.columns. -/
import Derived.Test.YtdafapionedooaaHOnes
import Derived.Laws.Rows
import Derived.Laws.Tables
import Derived.Deep.WholeRow
namespace Go.Proofs.Ytdafapionedooaa.G.H
open Go Go.RowKit Go.Shelf

/-- An array of bytes. -/
def arrV (l : List Y) : Array Value := (l.map (fun y : Y => Value.int .u8 (y.toNat : Int))).toArray
theorem arr_size (l : List Y) : (arrV l).size = l.length := by simp [arrV]
theorem arr_all (l : List Y) : (arrV l).all (·.oneCell') = true := by
  rw [Array.all_eq_true_iff_forall_mem]
  intro v hv
  simp only [arrV, List.mem_toArray, List.mem_map] at hv
  obtain ⟨y, _, rfl⟩ := hv
  rfl
theorem arr_get (l : List Y) (k : Nat) (h : k < l.length) : (arrV l)[k]? = some (.int .u8 ((el l k).toNat : Int)) := by
  simp only [arrV, List.getElem?_toArray, List.getElem?_map, List.getElem?_eq_getElem h, el_lt h]
  rfl
theorem arr_set (l : List Y) (k : Nat) (y : Y) : (arrV l).setIfInBounds k (.int .u8 (y.toNat : Int)) = arrV (l.set k y) := by
  apply Array.ext'
  simp [arrV, List.map_set]

theorem zero_arr : (Try.prog.info? 52).map (fun i => (i.zero, i.size)) = some (some (.agg (arrV (List.replicate 72 0))), 72) := by kernel_rfl
theorem size_arr : (Try.prog.info? 52).map (·.size) = some 72 := (zero_of_info zero_arr).2
theorem zeroV_arr : ∀ w, Sem.run Try.prog (zeroValue 52) w = .ok (.agg (arrV (List.replicate 72 0))) w := (zero_of_info zero_arr).1

/-- The block g holds the array l; nothing that lay before B has changed. -/
structure ArrSt (w W : World) (g0 g : Nat) (l : List Y) : Prop where
  res : W.heap[g0]? = some (.cells (arrV (List.replicate 72 0)) 52 (0, 0))
  arr : W.heap[g]? = some (.cells (arrV l) 52 (0, 0))
  b0 : w.heap.size ≤ g0
  b1 : w.heap.size ≤ g
  ne : g0 ≠ g
  len : l.length = 72
  below : Below w.heap.size w W
theorem ArrSt.cell {w W : World} {g0 g : Nat} {l : List Y} (h : ArrSt w W g0 g l) (k : Nat) (hk : k < 72) : W.cell? ⟨g, k, none⟩ = some (.int .u8 ((el l k).toNat : Int)) := by
  rw [cell_of_row _ _ _ _ _ _ h.arr, arr_get _ _ (by rw [h.len]; exact hk)]
theorem ArrSt.free {w W : World} {g0 g : Nat} {l : List Y} (h : ArrSt w W g0 g l) (k : Nat) : W.frozen? ⟨g, k, none⟩ = false := frozen_of_row _ _ _ _ _ h.arr
theorem ArrSt.set {w W : World} {g0 g : Nat} {l : List Y} (h : ArrSt w W g0 g l) (k n : Nat) (hn : n < 256) : ArrSt w (W.setCell ⟨g, k, none⟩ (.int .u8 (n : Int))) g0 g (l.set k (BitVec.ofNat 8 n)) := by
  refine ⟨?_, ?_, h.b0, h.b1, h.ne, by rw [List.length_set]; exact h.len, h.below.setCell (p := ⟨g, k, none⟩) h.b1 _⟩
  · exact (heap_setCell_other _ _ _ _ h.ne).trans h.res
  · rw [heap_setCell_same _ _ _ _ _ _ h.arr, ← ofNat_Y n hn, arr_set]
theorem ArrSt.drewN {w W : World} {g0 g : Nat} {l : List Y} (h : ArrSt w W g0 g l) (n : Nat) : ArrSt w (W.drewN n) g0 g l := ⟨h.res, h.arr, h.b0, h.b1, h.ne, h.len, belowN h.below n⟩

theorem crun_bounds (k : Nat) (h : k ≤ 256) : (crun k).n3 ≤ 56 ∧ (crun k).n1 ≤ 72 := by
  have := crun_mono k 256 h
  rwa [crun_n3, crun_n1] at this
theorem below_setRow {B : Nat} {w W : World} (h : Below B w W) {g : Nat} (hg : B ≤ g) (cs : Array Value) : Below B w (W.setRow g cs) :=
  ⟨h.os, h.tape, h.output, by rw [size_setRow]; exact h.size, fun k hk => (setRow_other W g k cs (by omega)).trans (h.block k hk)⟩
def ColRel (w : World) (g0 g : Nat) (a b c n : Value) (W : World) : Prop :=
  ∃ k : Nat, n = .int .i64 (k : Int) ∧ k ≤ 256 ∧ a = .int .i64 ((crun k).n3 : Int) ∧ b = .int .i64 ((crun k).n5 : Int) ∧ c = .int .i64 ((crun k).n1 : Int) ∧ ArrSt w W g0 g (crun k).l

set_option maxRecDepth 100000 in
set_option maxHeartbeats 4000000 in
/-- **hamming.columns** -/
theorem columns_any (w : World) :
    Calls Try.prog 27 #[] w fun e W => e = .returned (.agg (arrV cols)) ∧ Below w.heap.size w W := by
  have hst : ArrSt w ((w.alloc (.cells (arrV (List.replicate 72 0)) 52)).alloc (.cells (arrV (List.replicate 72 0)) 52)) w.heap.size (w.heap.size + 1) (crun 0).l :=
    ⟨heap_alloc2_old _ _ _, by rw [crun_0]; exact heap_alloc2_new _ _ _, Nat.le_refl _, Nat.le_succ _, by omega, crun_len 0, ((Below.refl _ w).alloc (Nat.le_refl _) _).alloc (by simp) _⟩
  have HST := Lib.hid hst
  have zv := zeroV_arr
  clear hst
  obtain ⟨z72, hz72⟩ : ∃ z, arrV (List.replicate 72 0) = z := ⟨_, rfl⟩
  rw [hz72] at HST zv
  go_enter Try.func27, Try.ntmps27
  go_wp2_with fail
  have HZ := Lib.hid hz72
  clear hz72
  obtain ⟨wa, hwa⟩ : ∃ wa, (w.alloc (.cells z72 52)).alloc (.cells z72 52) = wa := ⟨_, rfl⟩
  rw [hwa] at HST ⊢
  obtain ⟨g0, hg0⟩ : ∃ g, w.heap.size = g := ⟨_, rfl⟩
  have HST' : Hid (ArrSt w wa g0 (g0 + 1) (crun 0).l) := Lib.hid (by rw [← hg0]; exact HST.out)
  rw [hg0]
  clear hwa HST zv
  have HG := Lib.hid hg0
  clear hg0
  go_loopw [2, 3, 4, 6] (fun a b c n wr => ColRel w g0 (g0 + 1) a b c n wr) (fun _ _ _ n _ => 256 - (intOf n).toNat)
  case atStart => exact ⟨0, rfl, by omega, by rw [crun_0]; rfl, by rw [crun_0]; rfl, by rw [crun_0]; rfl, HST'.out⟩
  case round =>
    clear HST'
    obtain ⟨k, rfl, hk, rfl, rfl, rfl, hs⟩ := hrel
    have HS := Lib.hid hs
    clear hs
    obtain ⟨x3, hx3⟩ : ∃ x, (crun k).n3 = x := ⟨_, rfl⟩
    obtain ⟨x5, hx5⟩ : ∃ x, (crun k).n5 = x := ⟨_, rfl⟩
    obtain ⟨x1, hx1⟩ : ∃ x, (crun k).n1 = x := ⟨_, rfl⟩
    obtain ⟨xl, hxl⟩ : ∃ x, (crun k).l = x := ⟨_, rfl⟩
    rw [hxl] at HS
    have hb := crun_bounds k hk
    rw [hx3, hx1] at hb
    obtain ⟨hb3, hb1⟩ := hb
    have HE := Lib.hid (show crun k = ⟨xl, x3, x5, x1⟩ by rw [← hx3, ← hx5, ← hx1, ← hxl])
    rw [hx3, hx5, hx1]
    clear hx3 hx5 hx1 hxl
    by_cases hlt : k < 256
    · obtain ⟨p, hp⟩ : ∃ p, pc k = p := ⟨_, rfl⟩
      have ho := ones_any k hlt
      rw [hp] at ho
      have HO := Lib.hid ho
      clear ho
      have HP := Lib.hid hp
      clear hp
      by_cases h3 : p = 3
      · subst h3
        obtain ⟨ha, hb⟩ := crun_3 hlt HP.out
        rw [HE.out] at ha hb
        replace ha : x3 < 56 := ha
        have HB := Lib.hid hb
        have c1 := HS.out.cell x3 (by omega)
        have f1 := HS.out.free x3
        have HN := Lib.hid (HS.out.set x3 k hlt)
        clear hb
        go_wp2_with fail
        refine (HO.out _).mono ?_
        rintro e w' ⟨rfl, rfl⟩
        go_wp2_with fail
        go_roundw
        case rel => exact ⟨k + 1, by go_num, hlt, by first | (rw [HB.out]; done) | (rw [HB.out]; go_num), by first | (rw [HB.out]; done) | (rw [HB.out]; go_num), by first | (rw [HB.out]; done) | (rw [HB.out]; go_num), by rw [HB.out]; exact HN.out⟩
        case measure => simp [intOf]; omega
      · by_cases h5 : p = 5
        · subst h5
          by_cases h64 : x5 < 64
          · have hb := crun_5 HP.out (by rw [HE.out]; exact h64)
            rw [HE.out] at hb
            have HB := Lib.hid hb
            have c1 := HS.out.cell x5 (by omega)
            have f1 := HS.out.free x5
            have HN := Lib.hid (HS.out.set x5 k hlt)
            clear hb
            go_wp2_with fail
            refine (HO.out _).mono ?_
            rintro e w' ⟨rfl, rfl⟩
            go_wp2_with fail
            go_roundw
            case rel => exact ⟨k + 1, by go_num, hlt, by first | (rw [HB.out]; done) | (rw [HB.out]; go_num), by first | (rw [HB.out]; done) | (rw [HB.out]; go_num), by first | (rw [HB.out]; done) | (rw [HB.out]; go_num), by rw [HB.out]; exact HN.out⟩
            case measure => simp [intOf]; omega
          · have HB := Lib.hid ((crun_5no HP.out (by rw [HE.out]; exact h64)).trans HE.out)
            have HN := HS
            go_wp2_with fail
            refine (HO.out _).mono ?_
            rintro e w' ⟨rfl, rfl⟩
            go_wp2_with fail
            go_roundw
            case rel => exact ⟨k + 1, by go_num, hlt, by first | (rw [HB.out]; done) | (rw [HB.out]; go_num), by first | (rw [HB.out]; done) | (rw [HB.out]; go_num), by first | (rw [HB.out]; done) | (rw [HB.out]; go_num), by rw [HB.out]; exact HN.out⟩
            case measure => simp [intOf]; omega
        · by_cases h1 : p = 1
          · subst h1
            obtain ⟨ha, hb⟩ := crun_1 hlt HP.out
            rw [HE.out] at ha hb
            replace ha : x1 < 72 := ha
            have HB := Lib.hid hb
            have c1 := HS.out.cell x1 (by omega)
            have f1 := HS.out.free x1
            have HN := Lib.hid (HS.out.set x1 k hlt)
            clear hb
            go_wp2_with fail
            refine (HO.out _).mono ?_
            rintro e w' ⟨rfl, rfl⟩
            go_wp2_with fail
            go_roundw
            case rel => exact ⟨k + 1, by go_num, hlt, by first | (rw [HB.out]; done) | (rw [HB.out]; go_num), by first | (rw [HB.out]; done) | (rw [HB.out]; go_num), by first | (rw [HB.out]; done) | (rw [HB.out]; go_num), by rw [HB.out]; exact HN.out⟩
            case measure => simp [intOf]; omega
          · have HB := Lib.hid ((crun_no (n := k) (by rw [HP.out]; exact h3) (by rw [HP.out]; exact h5) (by rw [HP.out]; exact h1)).trans HE.out)
            have HN := HS
            have q3 : ((p : Int) == 3) = false := by rw [beq_eq_false_iff_ne]; omega
            have q5 : ((p : Int) == 5) = false := by rw [beq_eq_false_iff_ne]; omega
            have q1 : ((p : Int) == 1) = false := by rw [beq_eq_false_iff_ne]; omega
            go_wp2_with fail
            refine (HO.out _).mono ?_
            rintro e w' ⟨rfl, rfl⟩
            go_wp2_with fail
            go_roundw
            case rel => exact ⟨k + 1, by go_num, hlt, by first | (rw [HB.out]; done) | (rw [HB.out]; go_num), by first | (rw [HB.out]; done) | (rw [HB.out]; go_num), by first | (rw [HB.out]; done) | (rw [HB.out]; go_num), by rw [HB.out]; exact HN.out⟩
            case measure => simp [intOf]; omega
    · obtain rfl : k = 256 := by omega
      have hend := HS.out
      rw [show xl = cols by have := crun_l; rw [HE.out] at this; exact this] at hend
      have HEND := Lib.hid hend
      clear hend
      go_wp2_with (first | (refine wpList_load_row rfl 52 _ rfl (g0 + 1) rfl 52 (arrV cols) (0, 0) _ HEND.out.arr Try.underlying52 rfl (by rw [size_arr, arr_size, cols_len]) ?_) | (refine wpList_store_row rfl 52 _ _ rfl g0 (arrV cols) rfl rfl 52 (arrV (List.replicate 72 0)) HEND.out.res (by rw [size_arr, arr_size, cols_len]) (by rw [arr_size, arr_size, cols_len, List.length_replicate]) (arr_all _) ?_))
      refine bodyPost_ret (v := .agg (arrV cols)) (results_cell_row rfl _ _ g0 52 (arrV cols) (0, 0) _ rfl (setRow_heap _ _ _ _ _ _ HEND.out.res) Try.underlying52 rfl (by rw [size_arr, arr_size, cols_len])) rfl ⟨rfl, below_setRow HEND.out.below HEND.out.b0 _⟩
end Go.Proofs.Ytdafapionedooaa.G.H
