/- chance.characters. chance.characters: the walk. A range over slices.Backward: what a loop body must keep, and what then holds behind the loop. -/
import Derived.Test.YtmejneobfkbgeaaGreatDoorB1
import Derived.RangeFuncNested
import Derived.RangeFuncBound
import Derived.RangeFuncCalls
import Derived.RangeFuncLeaves
import Derived.Shelf.Abstract
import Derived.Shelf.RegionOpen
import Derived.WalkKit
import Derived.OwnWalkIn
import Derived.TacticsInMore
import Derived.LoopNIn
import Derived.LoopIn
import Derived.Test.YtmejneobfkbgeaaGreatDoorProg
namespace Go.Proofs.YtmejneobfkbgeaaGreatDoor
open Go Go.RowKit Go.Shelf

namespace C
open G (Box el)
open G.H (pc col cols arrV arr_size arr_all ones_any index_arr column_yes cols_len col_eq size_arr)
abbrev Y := G.Y
/-- Is column j odd on the character? -/
def pcs (j ch : Nat) : Nat := pc (col j &&& BitVec.ofNat 8 ch).toNat % 2
/-- How many of the first k columns are odd. -/
def oddN (ch : Nat) : Nat → Nat
  | 0 => 0
  | k + 1 => oddN ch k + pcs k ch
theorem pcs_def (j ch : Nat) : pcs j ch = pc (col j &&& BitVec.ofNat 8 ch).toNat % 2 := rfl
theorem oddN_0 (ch : Nat) : oddN ch 0 = 0 := rfl
theorem oddN_succ (ch k : Nat) : oddN ch (k + 1) = oddN ch k + pcs k ch := rfl
theorem oddN_le (ch : Nat) : ∀ k, oddN ch k ≤ k
  | 0 => Nat.le_refl _
  | k + 1 => by
    have := oddN_le ch k
    have : pcs k ch < 2 := Nat.mod_lt _ (by omega)
    rw [oddN_succ]; omega
/-- The counts after n characters. -/
def cnt : Nat → List Nat
  | 0 => List.replicate 73 0
  | n + 1 => (cnt n).set (oddN n 72) (el (cnt n) (oddN n 72) + 1)
theorem cnt_succ (n : Nat) : cnt (n + 1) = (cnt n).set (oddN n 72) (el (cnt n) (oddN n 72) + 1) := rfl
theorem cnt_0 : cnt 0 = List.replicate 73 0 := rfl
theorem cnt_len : ∀ n, (cnt n).length = 73
  | 0 => List.length_replicate
  | n + 1 => by rw [cnt_succ, List.length_set]; exact cnt_len n
theorem cnt_le : ∀ n j, j < 73 → el (cnt n) j ≤ n
  | 0, j, hj => by rw [cnt_0, G.el_lt (by rw [List.length_replicate]; exact hj), List.getElem_replicate]; exact Nat.le_refl _
  | n + 1, j, hj => by
    have h1 := cnt_le n j hj
    have h2 := cnt_le n (oddN n 72) (by have := oddN_le n 72; omega)
    rw [cnt_succ, G.el_set (by rw [cnt_len]; have := oddN_le n 72; omega)]
    split <;> omega
theorem cnt_count (n : Nat) : ∀ j, j < 73 → el (cnt n) j = ((List.range n).map (fun ch => oddN ch 72)).count j := by
  induction n with
  | zero => intro j hj; rw [cnt_0, G.el_lt (by rw [List.length_replicate]; exact hj), List.getElem_replicate]; rfl
  | succ n ih =>
    intro j hj
    have hl := oddN_le n 72
    rw [cnt_succ, G.el_set (by rw [cnt_len]; omega), List.range_succ, List.map_append, List.count_append, ← ih j hj, List.map_cons, List.map_nil, List.count_singleton]
    by_cases e : j = oddN n 72
    · rw [if_pos e, ← e]; simp
    · rw [if_neg e, if_neg (by simp; exact fun h => e h.symm)]; rfl
def CNT : List Nat := cnt 256
def ODDS : List Nat := [0, 29, 29, 34, 29, 34, 34, 39, 28, 35, 35, 38, 35, 38, 38, 37, 28, 35, 35, 38, 35, 38, 38, 37, 36, 37, 37, 38, 37, 38, 38, 31, 27, 36, 36, 37, 36, 37, 37, 38, 35, 38, 38, 37, 38, 37, 37, 32, 35, 38, 38, 37, 38, 37, 37, 32, 39, 36, 36, 33, 36, 33, 33, 38, 24, 37, 37, 38, 37, 38, 38, 35, 38, 37, 37, 36, 37, 36, 36, 35, 38, 37, 37, 36, 37, 36, 36, 35, 36, 37, 37, 34, 37, 34, 34, 35, 39, 36, 36, 37, 36, 37, 37, 34, 37, 36, 36, 35, 36, 35, 35, 34, 37, 36, 36, 35, 36, 35, 35, 34, 35, 36, 36, 33, 36, 33, 33, 50, 22, 39, 39, 36, 39, 36, 36, 37, 38, 37, 37, 36, 37, 36, 36, 35, 38, 37, 37, 36, 37, 36, 36, 35, 38, 35, 35, 36, 35, 36, 36, 33, 37, 38, 38, 35, 38, 35, 35, 36, 37, 36, 36, 35, 36, 35, 35, 34, 37, 36, 36, 35, 36, 35, 35, 34, 37, 34, 34, 35, 34, 35, 35, 48, 34, 39, 39, 36, 39, 36, 36, 33, 40, 35, 35, 34, 35, 34, 34, 37, 40, 35, 35, 34, 35, 34, 34, 37, 34, 35, 35, 36, 35, 36, 36, 45, 41, 34, 34, 35, 34, 35, 35, 36, 35, 34, 34, 37, 34, 37, 37, 44, 35, 34, 34, 37, 34, 37, 37, 44, 33, 38, 38, 43, 38, 43, 43, 72]
theorem odds_eq : (List.range 256).map (fun ch => oddN ch 72) = ODDS := by decide +kernel
/-- The counts, as a list. -/
def CL : List Nat := [1, 0, 0, 0, 0, 0, 0, 0, 0, 0, 0, 0, 0, 0, 0, 0, 0, 0, 0, 0, 0, 0, 1, 0, 1, 0, 0, 1, 2, 3, 0, 1, 2, 9, 31, 50, 52, 50, 31, 9, 2, 1, 0, 3, 2, 1, 0, 0, 1, 0, 1, 0, 0, 0, 0, 0, 0, 0, 0, 0, 0, 0, 0, 0, 0, 0, 0, 0, 0, 0, 0, 0, 1]
theorem odds_count : ∀ j, j < 73 → ODDS.count j = el CL j := by decide +kernel
theorem CNT_eq : CNT = CL := G.el_ext ((cnt_len 256).trans rfl) (fun j hj => by
  have hj' : j < 73 := by rwa [show CNT.length = 73 from cnt_len 256] at hj
  rw [show el CNT j = el (cnt 256) j from rfl, cnt_count 256 j hj', odds_eq, odds_count j hj'])
def vsY (l : List Y) : List Value := l.map (fun y : Y => Value.int .u8 (y.toNat : Int))
def vsN (l : List Nat) : List Value := l.map (fun n : Nat => Value.int .i64 (n : Int))
def arrN (l : List Nat) : Array Value := (vsN l).toArray
theorem arrN_size (l : List Nat) : (arrN l).size = l.length := by simp [arrN, vsN]
theorem arrN_all (l : List Nat) : (arrN l).all (·.oneCell') = true := by
  rw [Array.all_eq_true_iff_forall_mem]
  intro v hv
  simp only [arrN, vsN, List.mem_toArray, List.mem_map] at hv
  obtain ⟨y, _, rfl⟩ := hv
  rfl
theorem zero_arrN : (Tryz.prog.info? 73).map (fun i => (i.zero, i.size)) = some (some (.agg (arrN (List.replicate 73 0))), 73) := by kernel_rfl
theorem size_arrN : (Tryz.prog.info? 73).map (·.size) = some 73 := (zero_of_info zero_arrN).2
theorem zeroV_arrN : ∀ w, Sem.run Tryz.prog (zeroValue 73) w = .ok (.agg (arrN (List.replicate 73 0))) w := (zero_of_info zero_arrN).1
theorem vsN_at {l : List Nat} {k : Nat} (h : k < l.length) : (vsN l)[k]? = some (.int .i64 ((el l k : Nat) : Int)) := by
  unfold vsN
  rw [List.getElem?_map, List.getElem?_eq_getElem h, G.el_lt h]; rfl
theorem vsN_set (l : List Nat) (k n : Nat) : (vsN l).set k (.int .i64 (n : Int)) = vsN (l.set k n) := by unfold vsN; rw [List.map_set]
theorem vsY_set (l : List Y) (k : Nat) (y : Y) : (vsY l).set k (.int .u8 (y.toNat : Int)) = vsY (l.set k y) := by unfold vsY; rw [List.map_set]
theorem vsY_at {l : List Y} {k : Nat} (h : k < l.length) : (vsY l)[k]? = some (.int .u8 ((el l k).toNat : Int)) := by
  unfold vsY
  rw [List.getElem?_map, List.getElem?_eq_getElem h, G.el_lt h]; rfl

/-- The two arrays in memory. -/
structure ChSt (w W : World) (g0 g1 : Nat) (l : List Y) : Prop where
  res : Box W g0 73 (vsN (List.replicate 73 0))
  col : Box W g1 107 (vsY l)
  len : l.length = 72
  b0 : w.heap.size ≤ g0
  b1 : g0 < g1
  bel : Below w.heap.size w W
theorem ChSt.below {w W W' : World} {g0 g1 : Nat} {l : List Y} (h : ChSt w W g0 g1 l) (hb : Below W.heap.size W W') : ChSt w W' g0 g1 l :=
  ⟨h.res.below hb, h.col.below hb, h.len, h.b0, h.b1, h.bel.trans (hb.mono h.bel.size)⟩
theorem ChSt.set {w W : World} {g0 g1 : Nat} {l : List Y} (h : ChSt w W g0 g1 l) (k : Nat) (y : Y) : ChSt w (W.setCell ⟨g1, k, none⟩ (.int .u8 (y.toNat : Int))) g0 g1 (l.set k y) := by
  have h1 := h.b1
  have h0 := h.b0
  refine ⟨h.res.other (q := ⟨g1, k, none⟩) (by show g1 ≠ g0; omega) _, ?_, by rw [List.length_set]; exact h.len, h.b0, h.b1, h.bel.setCell (p := ⟨g1, k, none⟩) (by show w.heap.size ≤ g1; omega) _⟩
  have := h.col.set k (.int .u8 (y.toNat : Int))
  rwa [vsY_set] at this
attribute [irreducible] oddN cnt pcs
end C
end Go.Proofs.YtmejneobfkbgeaaGreatDoor

namespace Go.Proofs.YtmejneobfkbgeaaGreatDoor
open Go Go.RowKit Go.Shelf

namespace C
open G (Box el)
open G.H (pc col cols arrV arr_size arr_all ones_any index_arr column_yes cols_len col_eq size_arr zeroV_arr)

set_option maxRecDepth 100000 in
set_option maxHeartbeats 4000000 in
/-- **chance.characters** -/
theorem characters_any (w : World) :
    Calls Tryz.prog 42 #[] w fun e W => e = .returned (.agg (arrN CNT)) ∧ Below w.heap.size w W := by
  have hst : ChSt w ((w.alloc (.cells (arrN (List.replicate 73 0)) 73)).alloc (.cells (arrV (List.replicate 72 0)) 107)) w.heap.size (w.heap.size + 1) (List.replicate 72 0) := by
    have h1 := Box.new w 73 (vsN (List.replicate 73 0))
    have h2 := Box.new (w.alloc (.cells (arrN (List.replicate 73 0)) 73)) 107 (vsY (List.replicate 72 0))
    rw [World.size_alloc] at h2
    exact ⟨h1.below ((Below.refl _ _).alloc (Nat.le_refl _) _), h2, List.length_replicate, Nat.le_refl _, Nat.lt_succ_self _, ((Below.refl _ w).alloc (Nat.le_refl _) _).alloc (by simp) _⟩
  have HST := Lib.hid hst
  have zv := zeroV_arr
  have zn := zeroV_arrN
  clear hst
  obtain ⟨z72, hz72⟩ : ∃ z, arrV (List.replicate 72 0) = z := ⟨_, rfl⟩
  obtain ⟨z73, hz73⟩ : ∃ z, arrN (List.replicate 73 0) = z := ⟨_, rfl⟩
  have HZ := Lib.hid hz73
  rw [hz72] at zv
  rw [hz73] at zn
  rw [hz72, hz73] at HST
  clear hz72 hz73
  go_enter Tryz.func42, Tryz.ntmps42
  go_wp2_with fail
  obtain ⟨wa, hwa⟩ : ∃ wa, (w.alloc (.cells z73 73)).alloc (.cells z72 107) = wa := ⟨_, rfl⟩
  rw [hwa] at HST ⊢
  obtain ⟨g0, hg0⟩ : ∃ g, w.heap.size = g := ⟨_, rfl⟩
  have HST' : Hid (ChSt w wa g0 (g0 + 1) (List.replicate 72 0)) := Lib.hid (by rw [← hg0]; exact HST.out)
  rw [hg0]
  clear hwa HST
  have HG := Lib.hid hg0
  clear hg0
  go_loopw [8] (fun i wr => ∃ (k : Nat) (l : List Y), i = .int .i64 (k : Int) ∧ k ≤ 72 ∧ Hid (∀ j, j < k → el l j = col j) ∧ Hid (ChSt w wr g0 (g0 + 1) l)) (fun i _ => 72 - (intOf i).toNat)
  case atStart => exact ⟨0, _, rfl, by omega, Lib.hid (fun j hj => absurd hj (Nat.not_lt_zero j)), HST'⟩
  case round => as_aux_lemma =>
    clear HST'
    obtain ⟨k, l, rfl, hk, HL, HS⟩ := hrel
    by_cases hlt : k < 72
    · have hkI : (k : Int) < 72 := by omega
      have HC := Lib.hid (column_yes k hlt wr)
      obtain ⟨y, hy⟩ : ∃ y, col k = y := ⟨_, rfl⟩
      rw [hy] at HC
      have HY := Lib.hid hy
      clear hy
      go_wp2_with fail
      (with_reducible refine HC.out.mono ?_)
      rintro e w1 ⟨rfl, hb1⟩
      have hs := HS.out.below hb1
      have c1 := hs.col.cell k (vsY_at (show k < l.length by rw [hs.len]; exact hlt))
      have f1 := hs.col.free k
      have HN := Lib.hid (hs.set k y)
      have hlen := hs.len
      have HL2 := Lib.hid (show ∀ j, j < k + 1 → el (l.set k y) j = col j from fun j hj => by
        rw [G.el_set (by rw [hlen]; exact hlt)]
        by_cases e : j = k
        · rw [if_pos e, e, HY.out]
        · rw [if_neg e]; exact HL.out j (by omega))
      clear hb1 hs HS HC HL hlen
      go_wp2_with fail
      go_roundw
      case rel => exact ⟨k + 1, _, by go_num, by omega, HL2, HN⟩
      case measure => simp [intOf]; omega
    · obtain rfl : k = 72 := by omega
      rw [show ((72 : Nat) : Int) = 72 from rfl]
      have hl : l = cols := G.el_ext (HS.out.len.trans cols_len.symm) (fun j hj => by rw [HL.out j (by rw [HS.out.len] at hj; exact hj), col_eq])
      subst hl
      clear HL
      have hb3 := Box.new wr 73 (vsN (cnt 0))
      obtain ⟨g3, hg3⟩ : ∃ g, wr.heap.size = g := ⟨_, rfl⟩
      obtain ⟨w3, hw3⟩ : ∃ w3, wr.alloc (.cells z73 73) = w3 := ⟨_, rfl⟩
      have hw3' : wr.alloc (.cells (vsN (cnt 0)).toArray 73) = w3 := by rw [← hw3, ← HZ.out, cnt_0]; rfl
      rw [hw3', hg3] at hb3
      have hbel3 : Below wr.heap.size wr w3 := by rw [← hw3]; exact (Below.refl _ wr).alloc (Nat.le_refl _) _
      have hg13 : g0 + 1 < g3 := by have := HS.out.col.lt; omega
      have HS3 := Lib.hid (HS.out.below hbel3)
      have HB3 := Lib.hid hb3
      clear HS hb3 hbel3 hw3'
      go_wp2_with fail
      go_loopw [19] (fun i wz => ∃ n : Nat, i = .int .i64 (n : Int) ∧ n ≤ 256 ∧ Hid (ChSt w wz g0 (g0 + 1) cols) ∧ Hid (Box wz g3 73 (vsN (cnt n)))) (fun i _ => 256 - (intOf i).toNat)
      case atStart => exact ⟨0, rfl, by omega, HS3, HB3⟩
      case round => as_aux_lemma =>
        clear HS3 HB3 hw3
        obtain ⟨n, rfl, hn, HS, HB⟩ := hrel
        by_cases hn2 : n < 256
        · have hnI : (n : Int) < 256 := by omega
          have hcn := G.u8_wrap n hn2
          have HROW := Lib.hid (show wr.heap[g0 + 1]? = some (.cells (arrV cols) 107 (0, 0)) from HS.out.col)
          have ix := index_arr
          obtain ⟨av, hav⟩ : ∃ v, arrV cols = v := ⟨_, rfl⟩
          have HSZ := Lib.hid (show (Tryz.prog.info? 107).map (·.size) = some av.size by rw [size_arr, ← hav, arr_size, cols_len])
          rw [hav] at HROW ix
          have IX := Lib.hid ix
          clear hav ix
          go_wp2_with (refine wpList_load_row rfl 107 _ rfl (g0 + 1) rfl 107 av (0, 0) _ HROW.out Tryz.underlying107 rfl HSZ.out ?_)
          go_loopw [5, 23] (fun o j wz => ∃ k : Nat, j = .int .i64 (k : Int) ∧ k ≤ 72 ∧ o = .int .i64 (oddN n k : Int) ∧ wr = wz) (fun _ j _ => 72 - (intOf j).toNat)
          case atStart => exact ⟨0, rfl, by omega, by rw [oddN_0]; rfl, rfl⟩
          case round => as_aux_lemma =>
            obtain ⟨k, rfl, hk, rfl, rfl⟩ := hrel
            by_cases hlt : k < 72
            · have hkI : (k : Int) < 72 := by omega
              have ix := IX.out k hlt
              obtain ⟨y, hy⟩ : ∃ y, col k = y := ⟨_, rfl⟩
              rw [hy] at ix
              have hand : bits BinOp.and IntKind.u8 (y.toNat : Int) (n : Int) = ((y &&& BitVec.ofNat 8 n).toNat : Int) := by
                have := G.and_Y y (BitVec.ofNat 8 n)
                rwa [G.ofNat_Y n hn2] at this
              obtain ⟨q, hq⟩ : ∃ q, (y &&& BitVec.ofNat 8 n).toNat = q := ⟨_, rfl⟩
              have hq256 : q < 256 := by rw [← hq]; exact (y &&& BitVec.ofNat 8 n).isLt
              rw [hq] at hand
              obtain ⟨p, hp⟩ : ∃ p, pc q = p := ⟨_, rfl⟩
              have ho := ones_any q hq256
              rw [hp] at ho
              have HO := Lib.hid ho
              obtain ⟨r, hr⟩ : ∃ r, p % 2 = r := ⟨_, rfl⟩
              have hrI : (p : Int) % 2 = (r : Int) := by omega
              have hr2 : r < 2 := by omega
              have hstep := oddN_succ n k
              rw [show pcs k n = r by rw [pcs_def, hy, hq, hp, hr]] at hstep
              have hle := oddN_le n k
              obtain ⟨od, hod⟩ : ∃ od, oddN n k = od := ⟨_, rfl⟩
              rw [hod] at hstep hle ⊢
              have HST := Lib.hid hstep
              clear hy hq hp ho hr hstep hod
              go_wp2_with fail
              refine (HO.out _).mono ?_
              rintro e w' ⟨rfl, rfl⟩
              go_wp2_with fail
              go_roundw
              case rel => exact ⟨k + 1, by go_num, by omega, by rw [HST.out]; go_num, trivial⟩
              case measure => simp [intOf]; omega
            · obtain rfl : k = 72 := by omega
              clear IX HROW HSZ
              have hle := oddN_le n 72
              have hcle := cnt_le n (oddN n 72) (by omega)
              have c3 := HB.out.cell (oddN n 72) (vsN_at (show oddN n 72 < (cnt n).length by rw [cnt_len]; omega))
              have f3 := HB.out.free (oddN n 72)
              have hset := HB.out.set (oddN n 72) (.int .i64 ((el (cnt n) (oddN n 72) + 1 : Nat) : Int))
              rw [vsN_set, ← cnt_succ] at hset
              obtain ⟨od, hod⟩ : ∃ od, oddN n 72 = od := ⟨_, rfl⟩
              rw [hod] at hle hcle c3 f3 hset ⊢
              obtain ⟨x, hx⟩ : ∃ x, el (cnt n) od = x := ⟨_, rfl⟩
              rw [hx] at hcle c3 hset
              have hin : ((x + 1 : Nat) : Int) = (x : Int) + 1 := rfl
              rw [hin] at hset
              have HB2 := Lib.hid hset
              have hs2 := HS.out
              have HS2 := Lib.hid (show ChSt w (wr.setCell ⟨g3, od, none⟩ (.int .i64 ((x : Int) + 1))) g0 (g0 + 1) cols from
                ⟨hs2.res.other (q := ⟨g3, od, none⟩) (by show g3 ≠ g0; omega) _, hs2.col.other (q := ⟨g3, od, none⟩) (by show g3 ≠ g0 + 1; omega) _, hs2.len, hs2.b0, hs2.b1, hs2.bel.setCell (p := ⟨g3, od, none⟩) (by show w.heap.size ≤ g3; have := hs2.b0; omega) _⟩)
              clear hod hx hset hs2 hin HS HB
              go_wp2_with fail
              go_roundw
              case rel => exact ⟨n + 1, by go_num, by omega, HS2, HB2⟩
              case measure => simp [intOf]; omega
        · obtain rfl : n = 256 := by omega
          have HROW := Lib.hid (show wr.heap[g3]? = some (.cells (arrN CNT) 73 (0, 0)) from HB.out)
          have HRES := Lib.hid (show wr.heap[g0]? = some (.cells z73 73 (0, 0)) from by rw [← HZ.out]; exact HS.out.res)
          have HBE := Lib.hid HS.out.bel
          have hb0 := HS.out.b0
          obtain ⟨av, hav⟩ : ∃ v, arrN CNT = v := ⟨_, rfl⟩
          have hsz : av.size = 73 := by rw [← hav, arrN_size]; exact cnt_len 256
          have HSZ := Lib.hid (show (Tryz.prog.info? 73).map (·.size) = some av.size by rw [size_arrN, hsz])
          have HOL := Lib.hid (show z73.size = av.size by rw [hsz, ← HZ.out, arrN_size, List.length_replicate])
          have HAL := Lib.hid (show av.all (·.oneCell') = true by rw [← hav]; exact arrN_all _)
          have HAV := Lib.hid hav
          rw [hav] at HROW
          clear hav HS HB hsz
          go_wp2_with (first | (refine wpList_load_row rfl 73 _ rfl g3 rfl 73 av (0, 0) _ HROW.out Tryz.underlying73 rfl HSZ.out ?_) | (refine wpList_store_row rfl 73 _ _ rfl g0 av rfl rfl 73 z73 HRES.out HSZ.out HOL.out HAL.out ?_))
          refine bodyPost_ret (v := .agg av) (results_cell_row rfl _ _ g0 73 av (0, 0) _ rfl (setRow_heap _ _ _ _ _ _ HRES.out) Tryz.underlying73 rfl HSZ.out) rfl ⟨by rw [HAV.out], G.H.below_setRow HBE.out hb0 _⟩
end C
end Go.Proofs.YtmejneobfkbgeaaGreatDoor

namespace Go.Proofs.YtmejneobfkbgeaaGreatDoor
open Go Go.RowKit Go.Shelf
attribute [local go_sem] Oper.semAt_some

set_option maxRecDepth 100000 in
set_option maxHeartbeats 2000000 in
/-- The closure of slices.Backward: J k: k elements are still to come. -/
theorem back1_in (n : Nat) (hn : 1 ≤ n) (l Bs : Nat) (s : Option Addr) (len cap : Nat) (hlen : len ≤ 9223372036854775807) (J Jx : Nat → World → Prop)
    (hbox : ∀ k W, J k W → W.cell? ⟨Bs, 0, none⟩ = some (.slice s len cap))
    (hY : ∀ k W, J (k + 1) W → k < len → ∃ b off v, s = some ⟨b, off, none⟩ ∧ W.cell? ⟨b, off + k, none⟩ = some (.int .i64 v) ∧
      YieldAt Fence.wide (n - 1) Tryz.prog l #[.int .i64 (k : Int), .int .i64 v] W fun e W' => (e = .returned (.bool true) ∧ J k W') ∨ (e = .returned (.bool false) ∧ Jx k W'))
    (W : World) (h0 : J len W) :
    CallsIn Fence.wide n Tryz.prog 136 #[.func (.yield l) #[] #[], .pointer (some ⟨Bs, 0, none⟩)] W fun e W' => (∃ v, e = .returned v) ∧ (J 0 W' ∨ ∃ k, k < len ∧ Jx k W') := by
  refine callsIn_of_wp Tryz.func136 rfl trivial ?_ rfl
  simp only [Tryz.ntmps136, List.size_toArray, List.length_cons, List.length_nil, Nat.reduceAdd, Nat.reduceSub, Array.replicate_succ, Array.replicate_zero, List.push_toArray, List.append_toArray, List.nil_append, List.cons_append]
  have hB0 := hbox _ _ h0
  gi_wp2
  gi_loopw [3] (fun i wr => ∃ k : Nat, k ≤ len ∧ i = .int .i64 ((k : Int) - 1) ∧ J k wr) (fun i _ => (intOf i + 1).toNat)
  case atStart => exact ⟨len, Nat.le_refl _, by first | rfl | go_num, h0⟩
  case round =>
    obtain ⟨k, hk, rfl, hJ⟩ := hrel
    cases k with
    | zero =>
      gi_wp2
      go_end0
      exact ⟨⟨_, rfl⟩, .inl hJ⟩
    | succ k =>
      obtain ⟨b, off, v, rfl, hc, fn, tmps, assign, body, hy, hR⟩ := hY k wr hJ (by omega)
      have hbx := hbox _ _ hJ
      have e1 : ((k + 1 : Nat) : Int) - 1 = (k : Int) := by omega
      rw [e1]
      have hk0 : k < len := by omega
      gi_wp2
      refine hR.mono ?_
      rintro e W3 (⟨rfl, hJ3⟩ | ⟨rfl, hJx3⟩)
      · have hbx3 := hbox _ _ hJ3
        gi_wp2
        go_roundw
        case rel => exact ⟨k, by omega, by go_num, hJ3⟩
        case measure => simp [intOf]
      · gi_wp2
        refine bodyPost_ret (results_none rfl _ _ _) rfl ?_
        exact ⟨⟨_, rfl⟩, .inr ⟨k, hk0, hJx3⟩⟩

/-- How the body of a round may be left: k elements are still to come. -/
def backPost (B : Nat) (I : Nat → World → Prop) (Ix : Code → Nat → World → Prop) (k : Nat) (W : World) : Exit → Act → World → Prop
  | .normal, _, W' => KeepsFrom B W W' ∧ I k W'
  | .ret, _, W' => KeepsFrom B W W' ∧ Ix .ret k W'
  | .exit id, _, W' => KeepsFrom B W W' ∧ Ix (.exit id) k W'
  | .goto t, _, W' => KeepsFrom B W W' ∧ Ix (.goto t) k W'
  | .panic _, _, _ => False
  | .outgrown, _, _ => False

/-- **'for i, x := range slices.Backward(s) { body }'.** I k: k elements are still to come; element k is then vs k. -/
theorem wpIn_back {g : Operand} {ps : Array Tmp} {assign body : Code} {Q : Exit → Act → World → Prop} {a : Act} {w : World} {n : Nat} (h3 : 3 ≤ n) {Bs : Nat}
    (hg : a.eval g = .func (.func 136) #[] #[.pointer (some ⟨Bs, 0, none⟩)]) (hps : ps.size = 2) (s : Option Addr) (len cap : Nat) (hlen : len ≤ 9223372036854775807) (vs : Nat → Int)
    (I : Nat → World → Prop) (Ix : Code → Nat → World → Prop) (hI : OwnFrom w.heap.size I) (hIx : ∀ c, OwnFrom w.heap.size (Ix c)) (h0 : I len w)
    (hbox : ∀ k W, I k W → W.cell? ⟨Bs, 0, none⟩ = some (.slice s len cap))
    (hread : ∀ k W, I (k + 1) W → k < len → ∃ b off, s = some ⟨b, off, none⟩ ∧ W.cell? ⟨b, off + k, none⟩ = some (.int .i64 (vs k)))
    (a₁ : Nat → Act)
    (hassign : ∀ (l k : Nat) (W : World) (K : Act → World → Prop), k < len → K (a₁ k) W →
      assign.wpIn (Fence.wide.inRound l) (n - 1 - 1) Tryz.prog (Exit.then K (fun _ _ _ => False)) { tmps := (ps.zip #[.int .i64 (k : Int), .int .i64 (vs k)]).foldl (fun t (p, v) => t.setIfInBounds p v) a.tmps, defers := [] } W)
    (hbody : ∀ (l k : Nat) (W : World), w.heap.size ≤ l → (∃ r, W.heap[l]? = some (.loop r)) → I (k + 1) W → k < len → body.wpIn (Fence.wide.inRound l) (n - 1 - 1) Tryz.prog (backPost w.heap.size I Ix k W) (a₁ k) W)
    (hdone : ∀ (D : Nat) (W : World), w.heap.size ≤ D → I 0 W → W.heap[D]? = some (.deferred (some [])) → Q .normal { a with defers := { target := .collected D, args := #[] } :: a.defers } W)
    (hstop : ∀ (D : Nat) (c : Code) (k : Nat) (W : World), w.heap.size ≤ D → k < len → Ix c k W → W.heap[D]? = some (.deferred (some [])) → c.wpIn Fence.wide n Tryz.prog Q { a with defers := { target := .collected D, args := #[] } :: a.defers } W) :
    (Code.rangeFunc g ps assign body).wpIn Fence.wide n Tryz.prog Q a w := by
  refine wpIn_rangeFunc ?_
  intro fn hfn
  rw [show Fence.wide.round = none from rfl]
  obtain ⟨rec, hrec⟩ : ∃ rec : LoopState → Option Code → Loop, rec = fun st pe => { state := st, pending := pe, fn, tmps := a.tmps, params := ps, assign, body, defers := w.heap.size } := ⟨_, rfl⟩
  obtain ⟨W1, hW1⟩ : ∃ W1, (w.alloc (.deferred (some []))).alloc (.loop (rec .ready none)) = W1 := ⟨_, rfl⟩
  have hL1 : W1.heap[w.heap.size + 1]? = some (.loop (rec .ready none)) := by
    rw [← hW1]; have := World.alloc_heap_new (w.alloc (.deferred (some []))) (.loop (rec .ready none)); rwa [World.size_alloc] at this
  have hK1 : W1.heap[w.heap.size]? = some (.deferred (some [])) := by
    rw [← hW1]; exact (Below.heap_alloc _ _ _ (by simp)).trans (World.alloc_heap_new w _)
  have hI1 : I len W1 := by rw [← hW1]; exact hI.alloc _ (hI.alloc _ h0)
  refine ⟨w.heap.size + 1, [{ target := .collected w.heap.size, args := #[] }], W1, { target := .fn (.func 136) #[.pointer (some ⟨Bs, 0, none⟩)], args := #[.func (.yield (w.heap.size + 1)) #[] #[]] }, W1, 136,
    #[.func (.yield (w.heap.size + 1)) #[] #[]] ++ #[.pointer (some ⟨Bs, 0, none⟩)], W1, ?_, ?_, ?_, ?_, fun _ => (by omega), ?_⟩
  · rw [← hW1, hrec]; exact run_enterLoop_outer _ _ _ _ _
  · simp only [resolve, hg]
    simp [go_sem]
  · intro f' hf'; trivial
  · simp [invoke, go_sem]
  · refine (back1_in (n - 1) (by omega) (w.heap.size + 1) Bs s len cap hlen
      (fun k W => I k W ∧ W.heap[w.heap.size + 1]? = some (.loop (rec .ready none)) ∧ W.heap[w.heap.size]? = some (.deferred (some [])))
      (fun k W => ∃ c, Ix c k W ∧ W.heap[w.heap.size + 1]? = some (.loop (rec .done (some c))) ∧ W.heap[w.heap.size]? = some (.deferred (some [])))
      (fun k W h => hbox k W h.1) ?_ W1 ⟨hI1, hL1, hK1⟩).mono ?_
    · rintro k W ⟨hi, hl, hk⟩ hlt
      obtain ⟨b, off, hs, hc⟩ := hread k W hi hlt
      refine ⟨b, off, vs k, hs, hc, ?_⟩
      have hy := run_yield (P := Tryz.prog) (args := #[.int .i64 (k : Int), .int .i64 (vs k)]) hl (by rw [hrec]; exact hps.symm)
      rw [hrec] at hy
      refine ⟨fn, _, assign, body, hy, roundIn_of_wpIn hfn (hassign _ k W _ hlt ?_)⟩
      clear hy
      have hlt2 : w.heap.size + 1 < W.heap.size := (Array.getElem?_eq_some_iff.1 hl).1
      refine ⟨_, run_beginRound hl (by rw [hrec]), ?_⟩
      have hl2 : (W.putObj (w.heap.size + 1) (.loop { rec .ready none with state := .busy })).heap[w.heap.size + 1]? = some (.loop { rec .ready none with state := .busy }) := World.putObj_heap_same hlt2
      have hk2 : (W.putObj (w.heap.size + 1) (.loop { rec .ready none with state := .busy })).heap[w.heap.size]? = some (.deferred (some [])) := (World.putObj_heap_other (by omega)).trans hk
      refine wpIn_mono (hbody _ k _ (by omega) ⟨_, hl2⟩ (hI.putObj _ hi (by omega) hl rfl) hlt) ?_
      have fin : ∀ (jump : Option Code) (W3 : World), KeepsFrom w.heap.size (W.putObj (w.heap.size + 1) (.loop { rec .ready none with state := .busy })) W3 →
          (Instr.endRound (w.heap.size + 1) jump).run Tryz.prog W3 = .ok (.bool jump.isNone) (W3.putObj (w.heap.size + 1) (.loop (rec (if jump.isNone then .ready else .done) jump))) ∧
          W3.heap[w.heap.size + 1]? = some (.loop { rec .ready none with state := .busy }) ∧
          (W3.putObj (w.heap.size + 1) (.loop (rec (if jump.isNone then .ready else .done) jump))).heap[w.heap.size + 1]? = some (.loop (rec (if jump.isNone then .ready else .done) jump)) ∧
          (W3.putObj (w.heap.size + 1) (.loop (rec (if jump.isNone then .ready else .done) jump))).heap[w.heap.size]? = some (.deferred (some [])) := fun jump W3 hk3 => by
        have hl3 := hk3.same _ _ (by omega) hl2 rfl
        have := run_endRound (P := Tryz.prog) jump hl3
        rw [hrec] at this ⊢
        exact ⟨this, by rw [hrec] at hl3; exact hl3, World.putObj_heap_same (Array.getElem?_eq_some_iff.1 hl3).1, (World.putObj_heap_other (by omega)).trans (hk3.same _ _ (Nat.le_refl _) hk2 rfl)⟩
      rintro e a3 W3 hp
      cases e with
      | normal =>
        obtain ⟨hk3, hi3⟩ := hp
        obtain ⟨hr, hl3, hl4, hk4⟩ := fin none W3 hk3
        exact ⟨_, _, hr, .inl ⟨rfl, hI.putObj _ hi3 (by omega) hl3 rfl, hl4, hk4⟩⟩
      | ret =>
        obtain ⟨hk3, hi3⟩ := hp
        obtain ⟨hr, hl3, hl4, hk4⟩ := fin (some .ret) W3 hk3
        exact ⟨_, _, hr, .inr ⟨rfl, .ret, (hIx _).putObj _ hi3 (by omega) hl3 rfl, hl4, hk4⟩⟩
      | exit id =>
        obtain ⟨hk3, hi3⟩ := hp
        obtain ⟨hr, hl3, hl4, hk4⟩ := fin (some (.exit id)) W3 hk3
        exact ⟨_, _, hr, .inr ⟨rfl, .exit id, (hIx _).putObj _ hi3 (by omega) hl3 rfl, hl4, hk4⟩⟩
      | goto t =>
        obtain ⟨hk3, hi3⟩ := hp
        obtain ⟨hr, hl3, hl4, hk4⟩ := fin (some (.goto t)) W3 hk3
        exact ⟨_, _, hr, .inr ⟨rfl, .goto t, (hIx _).putObj _ hi3 (by omega) hl3 rfl, hl4, hk4⟩⟩
      | panic ch => exact hp.elim
      | outgrown => exact hp.elim
    · rintro e W2 ⟨⟨v, rfl⟩, (⟨hi, hl, hk⟩ | ⟨k, hlt, c, hi, hl, hk⟩)⟩
      · exact ⟨none, _, by have := run_endLoop (P := Tryz.prog) hl (by rw [hrec]; simp); rw [hrec] at this; exact this, hdone _ _ (Nat.le_refl _) (hI.putObj _ hi (by omega) hl rfl) ((World.putObj_heap_other (by omega)).trans hk)⟩
      · exact ⟨some c, _, by have := run_endLoop (P := Tryz.prog) hl (by rw [hrec]; simp); rw [hrec] at this; exact this, hstop _ c k _ (Nat.le_refl _) hlt ((hIx c).putObj _ hi (by omega) hl rfl) ((World.putObj_heap_other (by omega)).trans hk)⟩

/-- **slices.Backward(s)**: the slice value is boxed; the function value captures the box. -/
theorem backward_any (s : Option Addr) (len cap : Nat) (w : World) :
    Calls Tryz.prog 97 #[.slice s len cap] w fun e w' => e = .returned (.func (.func 136) #[] #[.pointer (some ⟨w.heap.size, 0, none⟩)]) ∧ w' = w.alloc (.cells #[.slice s len cap] 24) := by
  go_enter Tryz.func97, Tryz.ntmps97
  go_wp2
  go_ret
  exact ⟨rfl, rfl⟩
end Go.Proofs.YtmejneobfkbgeaaGreatDoor
