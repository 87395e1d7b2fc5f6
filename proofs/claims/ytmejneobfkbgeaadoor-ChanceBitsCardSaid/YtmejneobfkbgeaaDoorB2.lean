/- chance.characters. chance.characters: the walk. A range over slices.Backward: what a loop body must keep, and what then holds behind the loop. Plain arithmetic of limbs: lists of integers from 0 to 2^24 - 1, lowest first, and their values. No program is named here. Slices of ints in memory; nat.trim and nat.within over them. nat.within and nat.limbAt. Slices of ints that a call has made itself. Go's bit operations that the limbs use, as arithmetic. nat.Of. nat.Valid. -/
import Derived.Test.YtmejneobfkbgeaaDoorB1
import Derived.RangeFuncNested
import Derived.RangeFuncBound
import Derived.RangeFuncCalls
import Derived.RangeFuncLeaves
import Derived.Shelf.Abstract
import Derived.Shelf.RegionOpen
import Derived.WalkKit
import Derived.OwnWalkIn
import Derived.TacticsInMore
import Derived.LoopNIn
import Derived.LoopIn
import Derived.Test.YtmejneobfkbgeaaDoorProg
import Derived.Lib.Hide
import Derived.Outline
import Derived.BigQuiet
import Derived.Deep.QuietTactic
import Derived.Laws.ResultCell
import Derived.Laws.Bits64b
namespace Go.Proofs.YtmejneobfkbgeaaDoor
open Go Go.RowKit Go.Shelf

namespace C
open G (Box el)
open G.H (pc col cols arrV arr_size arr_all ones_any index_arr column_yes cols_len col_eq size_arr)
abbrev Y := G.Y
/-- Is column j odd on the character? -/
def pcs (j ch : Nat) : Nat := pc (col j &&& BitVec.ofNat 8 ch).toNat % 2
/-- How many of the first k columns are odd. -/
def oddN (ch : Nat) : Nat → Nat
  | 0 => 0
  | k + 1 => oddN ch k + pcs k ch
theorem pcs_def (j ch : Nat) : pcs j ch = pc (col j &&& BitVec.ofNat 8 ch).toNat % 2 := rfl
theorem oddN_0 (ch : Nat) : oddN ch 0 = 0 := rfl
theorem oddN_succ (ch k : Nat) : oddN ch (k + 1) = oddN ch k + pcs k ch := rfl
theorem oddN_le (ch : Nat) : ∀ k, oddN ch k ≤ k
  | 0 => Nat.le_refl _
  | k + 1 => by
    have := oddN_le ch k
    have : pcs k ch < 2 := Nat.mod_lt _ (by omega)
    rw [oddN_succ]; omega
/-- The counts after n characters. -/
def cnt : Nat → List Nat
  | 0 => List.replicate 73 0
  | n + 1 => (cnt n).set (oddN n 72) (el (cnt n) (oddN n 72) + 1)
theorem cnt_succ (n : Nat) : cnt (n + 1) = (cnt n).set (oddN n 72) (el (cnt n) (oddN n 72) + 1) := rfl
theorem cnt_0 : cnt 0 = List.replicate 73 0 := rfl
theorem cnt_len : ∀ n, (cnt n).length = 73
  | 0 => List.length_replicate
  | n + 1 => by rw [cnt_succ, List.length_set]; exact cnt_len n
theorem cnt_le : ∀ n j, j < 73 → el (cnt n) j ≤ n
  | 0, j, hj => by rw [cnt_0, G.el_lt (by rw [List.length_replicate]; exact hj), List.getElem_replicate]; exact Nat.le_refl _
  | n + 1, j, hj => by
    have h1 := cnt_le n j hj
    have h2 := cnt_le n (oddN n 72) (by have := oddN_le n 72; omega)
    rw [cnt_succ, G.el_set (by rw [cnt_len]; have := oddN_le n 72; omega)]
    split <;> omega
theorem cnt_count (n : Nat) : ∀ j, j < 73 → el (cnt n) j = ((List.range n).map (fun ch => oddN ch 72)).count j := by
  induction n with
  | zero => intro j hj; rw [cnt_0, G.el_lt (by rw [List.length_replicate]; exact hj), List.getElem_replicate]; rfl
  | succ n ih =>
    intro j hj
    have hl := oddN_le n 72
    rw [cnt_succ, G.el_set (by rw [cnt_len]; omega), List.range_succ, List.map_append, List.count_append, ← ih j hj, List.map_cons, List.map_nil, List.count_singleton]
    by_cases e : j = oddN n 72
    · rw [if_pos e, ← e]; simp
    · rw [if_neg e, if_neg (by simp; exact fun h => e h.symm)]; rfl
def CNT : List Nat := cnt 256
def ODDS : List Nat := [0, 29, 29, 34, 29, 34, 34, 39, 28, 35, 35, 38, 35, 38, 38, 37, 28, 35, 35, 38, 35, 38, 38, 37, 36, 37, 37, 38, 37, 38, 38, 31, 27, 36, 36, 37, 36, 37, 37, 38, 35, 38, 38, 37, 38, 37, 37, 32, 35, 38, 38, 37, 38, 37, 37, 32, 39, 36, 36, 33, 36, 33, 33, 38, 24, 37, 37, 38, 37, 38, 38, 35, 38, 37, 37, 36, 37, 36, 36, 35, 38, 37, 37, 36, 37, 36, 36, 35, 36, 37, 37, 34, 37, 34, 34, 35, 39, 36, 36, 37, 36, 37, 37, 34, 37, 36, 36, 35, 36, 35, 35, 34, 37, 36, 36, 35, 36, 35, 35, 34, 35, 36, 36, 33, 36, 33, 33, 50, 22, 39, 39, 36, 39, 36, 36, 37, 38, 37, 37, 36, 37, 36, 36, 35, 38, 37, 37, 36, 37, 36, 36, 35, 38, 35, 35, 36, 35, 36, 36, 33, 37, 38, 38, 35, 38, 35, 35, 36, 37, 36, 36, 35, 36, 35, 35, 34, 37, 36, 36, 35, 36, 35, 35, 34, 37, 34, 34, 35, 34, 35, 35, 48, 34, 39, 39, 36, 39, 36, 36, 33, 40, 35, 35, 34, 35, 34, 34, 37, 40, 35, 35, 34, 35, 34, 34, 37, 34, 35, 35, 36, 35, 36, 36, 45, 41, 34, 34, 35, 34, 35, 35, 36, 35, 34, 34, 37, 34, 37, 37, 44, 35, 34, 34, 37, 34, 37, 37, 44, 33, 38, 38, 43, 38, 43, 43, 72]
theorem odds_eq : (List.range 256).map (fun ch => oddN ch 72) = ODDS := by decide +kernel
/-- The counts, as a list. -/
def CL : List Nat := [1, 0, 0, 0, 0, 0, 0, 0, 0, 0, 0, 0, 0, 0, 0, 0, 0, 0, 0, 0, 0, 0, 1, 0, 1, 0, 0, 1, 2, 3, 0, 1, 2, 9, 31, 50, 52, 50, 31, 9, 2, 1, 0, 3, 2, 1, 0, 0, 1, 0, 1, 0, 0, 0, 0, 0, 0, 0, 0, 0, 0, 0, 0, 0, 0, 0, 0, 0, 0, 0, 0, 0, 1]
theorem odds_count : ∀ j, j < 73 → ODDS.count j = el CL j := by decide +kernel
theorem CNT_eq : CNT = CL := G.el_ext ((cnt_len 256).trans rfl) (fun j hj => by
  have hj' : j < 73 := by rwa [show CNT.length = 73 from cnt_len 256] at hj
  rw [show el CNT j = el (cnt 256) j from rfl, cnt_count 256 j hj', odds_eq, odds_count j hj'])
def vsY (l : List Y) : List Value := l.map (fun y : Y => Value.int .u8 (y.toNat : Int))
def vsN (l : List Nat) : List Value := l.map (fun n : Nat => Value.int .i64 (n : Int))
def arrN (l : List Nat) : Array Value := (vsN l).toArray
theorem arrN_size (l : List Nat) : (arrN l).size = l.length := by simp [arrN, vsN]
theorem arrN_all (l : List Nat) : (arrN l).all (·.oneCell') = true := by
  rw [Array.all_eq_true_iff_forall_mem]
  intro v hv
  simp only [arrN, vsN, List.mem_toArray, List.mem_map] at hv
  obtain ⟨y, _, rfl⟩ := hv
  rfl
theorem zero_arrN : (Tryd.prog.info? 32).map (fun i => (i.zero, i.size)) = some (some (.agg (arrN (List.replicate 73 0))), 73) := by kernel_rfl
theorem size_arrN : (Tryd.prog.info? 32).map (·.size) = some 73 := (zero_of_info zero_arrN).2
theorem zeroV_arrN : ∀ w, Sem.run Tryd.prog (zeroValue 32) w = .ok (.agg (arrN (List.replicate 73 0))) w := (zero_of_info zero_arrN).1
theorem vsN_at {l : List Nat} {k : Nat} (h : k < l.length) : (vsN l)[k]? = some (.int .i64 ((el l k : Nat) : Int)) := by
  unfold vsN
  rw [List.getElem?_map, List.getElem?_eq_getElem h, G.el_lt h]; rfl
theorem vsN_set (l : List Nat) (k n : Nat) : (vsN l).set k (.int .i64 (n : Int)) = vsN (l.set k n) := by unfold vsN; rw [List.map_set]
theorem vsY_set (l : List Y) (k : Nat) (y : Y) : (vsY l).set k (.int .u8 (y.toNat : Int)) = vsY (l.set k y) := by unfold vsY; rw [List.map_set]
theorem vsY_at {l : List Y} {k : Nat} (h : k < l.length) : (vsY l)[k]? = some (.int .u8 ((el l k).toNat : Int)) := by
  unfold vsY
  rw [List.getElem?_map, List.getElem?_eq_getElem h, G.el_lt h]; rfl

/-- The two arrays in memory. -/
structure ChSt (w W : World) (g0 g1 : Nat) (l : List Y) : Prop where
  res : Box W g0 32 (vsN (List.replicate 73 0))
  col : Box W g1 52 (vsY l)
  len : l.length = 72
  b0 : w.heap.size ≤ g0
  b1 : g0 < g1
  bel : Below w.heap.size w W
theorem ChSt.below {w W W' : World} {g0 g1 : Nat} {l : List Y} (h : ChSt w W g0 g1 l) (hb : Below W.heap.size W W') : ChSt w W' g0 g1 l :=
  ⟨h.res.below hb, h.col.below hb, h.len, h.b0, h.b1, h.bel.trans (hb.mono h.bel.size)⟩
theorem ChSt.set {w W : World} {g0 g1 : Nat} {l : List Y} (h : ChSt w W g0 g1 l) (k : Nat) (y : Y) : ChSt w (W.setCell ⟨g1, k, none⟩ (.int .u8 (y.toNat : Int))) g0 g1 (l.set k y) := by
  have h1 := h.b1
  have h0 := h.b0
  refine ⟨h.res.other (q := ⟨g1, k, none⟩) (by show g1 ≠ g0; omega) _, ?_, by rw [List.length_set]; exact h.len, h.b0, h.b1, h.bel.setCell (p := ⟨g1, k, none⟩) (by show w.heap.size ≤ g1; omega) _⟩
  have := h.col.set k (.int .u8 (y.toNat : Int))
  rwa [vsY_set] at this
attribute [irreducible] oddN cnt pcs
end C
end Go.Proofs.YtmejneobfkbgeaaDoor

namespace Go.Proofs.YtmejneobfkbgeaaDoor
open Go Go.RowKit Go.Shelf

namespace C
open G (Box el)
open G.H (pc col cols arrV arr_size arr_all ones_any index_arr column_yes cols_len col_eq size_arr zeroV_arr)

set_option maxRecDepth 100000 in
set_option maxHeartbeats 4000000 in
/-- **chance.characters** -/
theorem characters_any (w : World) :
    Calls Tryd.prog 9 #[] w fun e W => e = .returned (.agg (arrN CNT)) ∧ Below w.heap.size w W := by
  have hst : ChSt w ((w.alloc (.cells (arrN (List.replicate 73 0)) 32)).alloc (.cells (arrV (List.replicate 72 0)) 52)) w.heap.size (w.heap.size + 1) (List.replicate 72 0) := by
    have h1 := Box.new w 32 (vsN (List.replicate 73 0))
    have h2 := Box.new (w.alloc (.cells (arrN (List.replicate 73 0)) 32)) 52 (vsY (List.replicate 72 0))
    rw [World.size_alloc] at h2
    exact ⟨h1.below ((Below.refl _ _).alloc (Nat.le_refl _) _), h2, List.length_replicate, Nat.le_refl _, Nat.lt_succ_self _, ((Below.refl _ w).alloc (Nat.le_refl _) _).alloc (by simp) _⟩
  have HST := Lib.hid hst
  have zv := zeroV_arr
  have zn := zeroV_arrN
  clear hst
  obtain ⟨z72, hz72⟩ : ∃ z, arrV (List.replicate 72 0) = z := ⟨_, rfl⟩
  obtain ⟨z73, hz73⟩ : ∃ z, arrN (List.replicate 73 0) = z := ⟨_, rfl⟩
  have HZ := Lib.hid hz73
  rw [hz72] at zv
  rw [hz73] at zn
  rw [hz72, hz73] at HST
  clear hz72 hz73
  go_enter Tryd.func9, Tryd.ntmps9
  go_wp2_with fail
  obtain ⟨wa, hwa⟩ : ∃ wa, (w.alloc (.cells z73 32)).alloc (.cells z72 52) = wa := ⟨_, rfl⟩
  rw [hwa] at HST ⊢
  obtain ⟨g0, hg0⟩ : ∃ g, w.heap.size = g := ⟨_, rfl⟩
  have HST' : Hid (ChSt w wa g0 (g0 + 1) (List.replicate 72 0)) := Lib.hid (by rw [← hg0]; exact HST.out)
  rw [hg0]
  clear hwa HST
  have HG := Lib.hid hg0
  clear hg0
  go_loopw [8] (fun i wr => ∃ (k : Nat) (l : List Y), i = .int .i64 (k : Int) ∧ k ≤ 72 ∧ Hid (∀ j, j < k → el l j = col j) ∧ Hid (ChSt w wr g0 (g0 + 1) l)) (fun i _ => 72 - (intOf i).toNat)
  case atStart => exact ⟨0, _, rfl, by omega, Lib.hid (fun j hj => absurd hj (Nat.not_lt_zero j)), HST'⟩
  case round => as_aux_lemma =>
    clear HST'
    obtain ⟨k, l, rfl, hk, HL, HS⟩ := hrel
    by_cases hlt : k < 72
    · have hkI : (k : Int) < 72 := by omega
      have HC := Lib.hid (column_yes k hlt wr)
      obtain ⟨y, hy⟩ : ∃ y, col k = y := ⟨_, rfl⟩
      rw [hy] at HC
      have HY := Lib.hid hy
      clear hy
      go_wp2_with fail
      (with_reducible refine HC.out.mono ?_)
      rintro e w1 ⟨rfl, hb1⟩
      have hs := HS.out.below hb1
      have c1 := hs.col.cell k (vsY_at (show k < l.length by rw [hs.len]; exact hlt))
      have f1 := hs.col.free k
      have HN := Lib.hid (hs.set k y)
      have hlen := hs.len
      have HL2 := Lib.hid (show ∀ j, j < k + 1 → el (l.set k y) j = col j from fun j hj => by
        rw [G.el_set (by rw [hlen]; exact hlt)]
        by_cases e : j = k
        · rw [if_pos e, e, HY.out]
        · rw [if_neg e]; exact HL.out j (by omega))
      clear hb1 hs HS HC HL hlen
      go_wp2_with fail
      go_roundw
      case rel => exact ⟨k + 1, _, by go_num, by omega, HL2, HN⟩
      case measure => simp [intOf]; omega
    · obtain rfl : k = 72 := by omega
      rw [show ((72 : Nat) : Int) = 72 from rfl]
      have hl : l = cols := G.el_ext (HS.out.len.trans cols_len.symm) (fun j hj => by rw [HL.out j (by rw [HS.out.len] at hj; exact hj), col_eq])
      subst hl
      clear HL
      have hb3 := Box.new wr 32 (vsN (cnt 0))
      obtain ⟨g3, hg3⟩ : ∃ g, wr.heap.size = g := ⟨_, rfl⟩
      obtain ⟨w3, hw3⟩ : ∃ w3, wr.alloc (.cells z73 32) = w3 := ⟨_, rfl⟩
      have hw3' : wr.alloc (.cells (vsN (cnt 0)).toArray 32) = w3 := by rw [← hw3, ← HZ.out, cnt_0]; rfl
      rw [hw3', hg3] at hb3
      have hbel3 : Below wr.heap.size wr w3 := by rw [← hw3]; exact (Below.refl _ wr).alloc (Nat.le_refl _) _
      have hg13 : g0 + 1 < g3 := by have := HS.out.col.lt; omega
      have HS3 := Lib.hid (HS.out.below hbel3)
      have HB3 := Lib.hid hb3
      clear HS hb3 hbel3 hw3'
      go_wp2_with fail
      go_loopw [19] (fun i wz => ∃ n : Nat, i = .int .i64 (n : Int) ∧ n ≤ 256 ∧ Hid (ChSt w wz g0 (g0 + 1) cols) ∧ Hid (Box wz g3 32 (vsN (cnt n)))) (fun i _ => 256 - (intOf i).toNat)
      case atStart => exact ⟨0, rfl, by omega, HS3, HB3⟩
      case round => as_aux_lemma =>
        clear HS3 HB3 hw3
        obtain ⟨n, rfl, hn, HS, HB⟩ := hrel
        by_cases hn2 : n < 256
        · have hnI : (n : Int) < 256 := by omega
          have hcn := G.u8_wrap n hn2
          have HROW := Lib.hid (show wr.heap[g0 + 1]? = some (.cells (arrV cols) 52 (0, 0)) from HS.out.col)
          have ix := index_arr
          obtain ⟨av, hav⟩ : ∃ v, arrV cols = v := ⟨_, rfl⟩
          have HSZ := Lib.hid (show (Tryd.prog.info? 52).map (·.size) = some av.size by rw [size_arr, ← hav, arr_size, cols_len])
          rw [hav] at HROW ix
          have IX := Lib.hid ix
          clear hav ix
          go_wp2_with (refine wpList_load_row rfl 52 _ rfl (g0 + 1) rfl 52 av (0, 0) _ HROW.out Tryd.underlying52 rfl HSZ.out ?_)
          go_loopw [5, 23] (fun o j wz => ∃ k : Nat, j = .int .i64 (k : Int) ∧ k ≤ 72 ∧ o = .int .i64 (oddN n k : Int) ∧ wr = wz) (fun _ j _ => 72 - (intOf j).toNat)
          case atStart => exact ⟨0, rfl, by omega, by rw [oddN_0]; rfl, rfl⟩
          case round => as_aux_lemma =>
            obtain ⟨k, rfl, hk, rfl, rfl⟩ := hrel
            by_cases hlt : k < 72
            · have hkI : (k : Int) < 72 := by omega
              have ix := IX.out k hlt
              obtain ⟨y, hy⟩ : ∃ y, col k = y := ⟨_, rfl⟩
              rw [hy] at ix
              have hand : bits BinOp.and IntKind.u8 (y.toNat : Int) (n : Int) = ((y &&& BitVec.ofNat 8 n).toNat : Int) := by
                have := G.and_Y y (BitVec.ofNat 8 n)
                rwa [G.ofNat_Y n hn2] at this
              obtain ⟨q, hq⟩ : ∃ q, (y &&& BitVec.ofNat 8 n).toNat = q := ⟨_, rfl⟩
              have hq256 : q < 256 := by rw [← hq]; exact (y &&& BitVec.ofNat 8 n).isLt
              rw [hq] at hand
              obtain ⟨p, hp⟩ : ∃ p, pc q = p := ⟨_, rfl⟩
              have ho := ones_any q hq256
              rw [hp] at ho
              have HO := Lib.hid ho
              obtain ⟨r, hr⟩ : ∃ r, p % 2 = r := ⟨_, rfl⟩
              have hrI : (p : Int) % 2 = (r : Int) := by omega
              have hr2 : r < 2 := by omega
              have hstep := oddN_succ n k
              rw [show pcs k n = r by rw [pcs_def, hy, hq, hp, hr]] at hstep
              have hle := oddN_le n k
              obtain ⟨od, hod⟩ : ∃ od, oddN n k = od := ⟨_, rfl⟩
              rw [hod] at hstep hle ⊢
              have HST := Lib.hid hstep
              clear hy hq hp ho hr hstep hod
              go_wp2_with fail
              refine (HO.out _).mono ?_
              rintro e w' ⟨rfl, rfl⟩
              go_wp2_with fail
              go_roundw
              case rel => exact ⟨k + 1, by go_num, by omega, by rw [HST.out]; go_num, trivial⟩
              case measure => simp [intOf]; omega
            · obtain rfl : k = 72 := by omega
              clear IX HROW HSZ
              have hle := oddN_le n 72
              have hcle := cnt_le n (oddN n 72) (by omega)
              have c3 := HB.out.cell (oddN n 72) (vsN_at (show oddN n 72 < (cnt n).length by rw [cnt_len]; omega))
              have f3 := HB.out.free (oddN n 72)
              have hset := HB.out.set (oddN n 72) (.int .i64 ((el (cnt n) (oddN n 72) + 1 : Nat) : Int))
              rw [vsN_set, ← cnt_succ] at hset
              obtain ⟨od, hod⟩ : ∃ od, oddN n 72 = od := ⟨_, rfl⟩
              rw [hod] at hle hcle c3 f3 hset ⊢
              obtain ⟨x, hx⟩ : ∃ x, el (cnt n) od = x := ⟨_, rfl⟩
              rw [hx] at hcle c3 hset
              have hin : ((x + 1 : Nat) : Int) = (x : Int) + 1 := rfl
              rw [hin] at hset
              have HB2 := Lib.hid hset
              have hs2 := HS.out
              have HS2 := Lib.hid (show ChSt w (wr.setCell ⟨g3, od, none⟩ (.int .i64 ((x : Int) + 1))) g0 (g0 + 1) cols from
                ⟨hs2.res.other (q := ⟨g3, od, none⟩) (by show g3 ≠ g0; omega) _, hs2.col.other (q := ⟨g3, od, none⟩) (by show g3 ≠ g0 + 1; omega) _, hs2.len, hs2.b0, hs2.b1, hs2.bel.setCell (p := ⟨g3, od, none⟩) (by show w.heap.size ≤ g3; have := hs2.b0; omega) _⟩)
              clear hod hx hset hs2 hin HS HB
              go_wp2_with fail
              go_roundw
              case rel => exact ⟨n + 1, by go_num, by omega, HS2, HB2⟩
              case measure => simp [intOf]; omega
        · obtain rfl : n = 256 := by omega
          have HROW := Lib.hid (show wr.heap[g3]? = some (.cells (arrN CNT) 32 (0, 0)) from HB.out)
          have HRES := Lib.hid (show wr.heap[g0]? = some (.cells z73 32 (0, 0)) from by rw [← HZ.out]; exact HS.out.res)
          have HBE := Lib.hid HS.out.bel
          have hb0 := HS.out.b0
          obtain ⟨av, hav⟩ : ∃ v, arrN CNT = v := ⟨_, rfl⟩
          have hsz : av.size = 73 := by rw [← hav, arrN_size]; exact cnt_len 256
          have HSZ := Lib.hid (show (Tryd.prog.info? 32).map (·.size) = some av.size by rw [size_arrN, hsz])
          have HOL := Lib.hid (show z73.size = av.size by rw [hsz, ← HZ.out, arrN_size, List.length_replicate])
          have HAL := Lib.hid (show av.all (·.oneCell') = true by rw [← hav]; exact arrN_all _)
          have HAV := Lib.hid hav
          rw [hav] at HROW
          clear hav HS HB hsz
          go_wp2_with (first | (refine wpList_load_row rfl 32 _ rfl g3 rfl 32 av (0, 0) _ HROW.out Tryd.underlying32 rfl HSZ.out ?_) | (refine wpList_store_row rfl 32 _ _ rfl g0 av rfl rfl 32 z73 HRES.out HSZ.out HOL.out HAL.out ?_))
          refine bodyPost_ret (v := .agg av) (results_cell_row rfl _ _ g0 32 av (0, 0) _ rfl (setRow_heap _ _ _ _ _ _ HRES.out) Tryd.underlying32 rfl HSZ.out) rfl ⟨by rw [HAV.out], G.H.below_setRow HBE.out hb0 _⟩
end C
end Go.Proofs.YtmejneobfkbgeaaDoor

namespace Go.Proofs.YtmejneobfkbgeaaDoor
open Go Go.RowKit Go.Shelf
attribute [local go_sem] Oper.semAt_some

set_option maxRecDepth 100000 in
set_option maxHeartbeats 2000000 in
/-- The closure of slices.Backward: J k: k elements are still to come. -/
theorem back1_in (n : Nat) (hn : 1 ≤ n) (l Bs : Nat) (s : Option Addr) (len cap : Nat) (hlen : len ≤ 9223372036854775807) (J Jx : Nat → World → Prop)
    (hbox : ∀ k W, J k W → W.cell? ⟨Bs, 0, none⟩ = some (.slice s len cap))
    (hY : ∀ k W, J (k + 1) W → k < len → ∃ b off v, s = some ⟨b, off, none⟩ ∧ W.cell? ⟨b, off + k, none⟩ = some (.int .i64 v) ∧
      YieldAt Fence.wide (n - 1) Tryd.prog l #[.int .i64 (k : Int), .int .i64 v] W fun e W' => (e = .returned (.bool true) ∧ J k W') ∨ (e = .returned (.bool false) ∧ Jx k W'))
    (W : World) (h0 : J len W) :
    CallsIn Fence.wide n Tryd.prog 74 #[.func (.yield l) #[] #[], .pointer (some ⟨Bs, 0, none⟩)] W fun e W' => (∃ v, e = .returned v) ∧ (J 0 W' ∨ ∃ k, k < len ∧ Jx k W') := by
  refine callsIn_of_wp Tryd.func74 rfl trivial ?_ rfl
  simp only [Tryd.ntmps74, List.size_toArray, List.length_cons, List.length_nil, Nat.reduceAdd, Nat.reduceSub, Array.replicate_succ, Array.replicate_zero, List.push_toArray, List.append_toArray, List.nil_append, List.cons_append]
  have hB0 := hbox _ _ h0
  gi_wp2
  gi_loopw [3] (fun i wr => ∃ k : Nat, k ≤ len ∧ i = .int .i64 ((k : Int) - 1) ∧ J k wr) (fun i _ => (intOf i + 1).toNat)
  case atStart => exact ⟨len, Nat.le_refl _, by first | rfl | go_num, h0⟩
  case round =>
    obtain ⟨k, hk, rfl, hJ⟩ := hrel
    cases k with
    | zero =>
      gi_wp2
      go_end0
      exact ⟨⟨_, rfl⟩, .inl hJ⟩
    | succ k =>
      obtain ⟨b, off, v, rfl, hc, fn, tmps, assign, body, hy, hR⟩ := hY k wr hJ (by omega)
      have hbx := hbox _ _ hJ
      have e1 : ((k + 1 : Nat) : Int) - 1 = (k : Int) := by omega
      rw [e1]
      have hk0 : k < len := by omega
      gi_wp2
      refine hR.mono ?_
      rintro e W3 (⟨rfl, hJ3⟩ | ⟨rfl, hJx3⟩)
      · have hbx3 := hbox _ _ hJ3
        gi_wp2
        go_roundw
        case rel => exact ⟨k, by omega, by go_num, hJ3⟩
        case measure => simp [intOf]
      · gi_wp2
        refine bodyPost_ret (results_none rfl _ _ _) rfl ?_
        exact ⟨⟨_, rfl⟩, .inr ⟨k, hk0, hJx3⟩⟩

/-- How the body of a round may be left: k elements are still to come. -/
def backPost (B : Nat) (I : Nat → World → Prop) (Ix : Code → Nat → World → Prop) (k : Nat) (W : World) : Exit → Act → World → Prop
  | .normal, _, W' => KeepsFrom B W W' ∧ I k W'
  | .ret, _, W' => KeepsFrom B W W' ∧ Ix .ret k W'
  | .exit id, _, W' => KeepsFrom B W W' ∧ Ix (.exit id) k W'
  | .goto t, _, W' => KeepsFrom B W W' ∧ Ix (.goto t) k W'
  | .panic _, _, _ => False
  | .outgrown, _, _ => False

/-- **'for i, x := range slices.Backward(s) { body }'.** I k: k elements are still to come; element k is then vs k. -/
theorem wpIn_back {g : Operand} {ps : Array Tmp} {assign body : Code} {Q : Exit → Act → World → Prop} {a : Act} {w : World} {n : Nat} (h3 : 3 ≤ n) {Bs : Nat}
    (hg : a.eval g = .func (.func 74) #[] #[.pointer (some ⟨Bs, 0, none⟩)]) (hps : ps.size = 2) (s : Option Addr) (len cap : Nat) (hlen : len ≤ 9223372036854775807) (vs : Nat → Int)
    (I : Nat → World → Prop) (Ix : Code → Nat → World → Prop) (hI : OwnFrom w.heap.size I) (hIx : ∀ c, OwnFrom w.heap.size (Ix c)) (h0 : I len w)
    (hbox : ∀ k W, I k W → W.cell? ⟨Bs, 0, none⟩ = some (.slice s len cap))
    (hread : ∀ k W, I (k + 1) W → k < len → ∃ b off, s = some ⟨b, off, none⟩ ∧ W.cell? ⟨b, off + k, none⟩ = some (.int .i64 (vs k)))
    (a₁ : Nat → Act)
    (hassign : ∀ (l k : Nat) (W : World) (K : Act → World → Prop), k < len → K (a₁ k) W →
      assign.wpIn (Fence.wide.inRound l) (n - 1 - 1) Tryd.prog (Exit.then K (fun _ _ _ => False)) { tmps := (ps.zip #[.int .i64 (k : Int), .int .i64 (vs k)]).foldl (fun t (p, v) => t.setIfInBounds p v) a.tmps, defers := [] } W)
    (hbody : ∀ (l k : Nat) (W : World), w.heap.size ≤ l → (∃ r, W.heap[l]? = some (.loop r)) → I (k + 1) W → k < len → body.wpIn (Fence.wide.inRound l) (n - 1 - 1) Tryd.prog (backPost w.heap.size I Ix k W) (a₁ k) W)
    (hdone : ∀ (D : Nat) (W : World), w.heap.size ≤ D → I 0 W → W.heap[D]? = some (.deferred (some [])) → Q .normal { a with defers := { target := .collected D, args := #[] } :: a.defers } W)
    (hstop : ∀ (D : Nat) (c : Code) (k : Nat) (W : World), w.heap.size ≤ D → k < len → Ix c k W → W.heap[D]? = some (.deferred (some [])) → c.wpIn Fence.wide n Tryd.prog Q { a with defers := { target := .collected D, args := #[] } :: a.defers } W) :
    (Code.rangeFunc g ps assign body).wpIn Fence.wide n Tryd.prog Q a w := by
  refine wpIn_rangeFunc ?_
  intro fn hfn
  rw [show Fence.wide.round = none from rfl]
  obtain ⟨rec, hrec⟩ : ∃ rec : LoopState → Option Code → Loop, rec = fun st pe => { state := st, pending := pe, fn, tmps := a.tmps, params := ps, assign, body, defers := w.heap.size } := ⟨_, rfl⟩
  obtain ⟨W1, hW1⟩ : ∃ W1, (w.alloc (.deferred (some []))).alloc (.loop (rec .ready none)) = W1 := ⟨_, rfl⟩
  have hL1 : W1.heap[w.heap.size + 1]? = some (.loop (rec .ready none)) := by
    rw [← hW1]; have := World.alloc_heap_new (w.alloc (.deferred (some []))) (.loop (rec .ready none)); rwa [World.size_alloc] at this
  have hK1 : W1.heap[w.heap.size]? = some (.deferred (some [])) := by
    rw [← hW1]; exact (Below.heap_alloc _ _ _ (by simp)).trans (World.alloc_heap_new w _)
  have hI1 : I len W1 := by rw [← hW1]; exact hI.alloc _ (hI.alloc _ h0)
  refine ⟨w.heap.size + 1, [{ target := .collected w.heap.size, args := #[] }], W1, { target := .fn (.func 74) #[.pointer (some ⟨Bs, 0, none⟩)], args := #[.func (.yield (w.heap.size + 1)) #[] #[]] }, W1, 74,
    #[.func (.yield (w.heap.size + 1)) #[] #[]] ++ #[.pointer (some ⟨Bs, 0, none⟩)], W1, ?_, ?_, ?_, ?_, fun _ => (by omega), ?_⟩
  · rw [← hW1, hrec]; exact run_enterLoop_outer _ _ _ _ _
  · simp only [resolve, hg]
    simp [go_sem]
  · intro f' hf'; trivial
  · simp [invoke, go_sem]
  · refine (back1_in (n - 1) (by omega) (w.heap.size + 1) Bs s len cap hlen
      (fun k W => I k W ∧ W.heap[w.heap.size + 1]? = some (.loop (rec .ready none)) ∧ W.heap[w.heap.size]? = some (.deferred (some [])))
      (fun k W => ∃ c, Ix c k W ∧ W.heap[w.heap.size + 1]? = some (.loop (rec .done (some c))) ∧ W.heap[w.heap.size]? = some (.deferred (some [])))
      (fun k W h => hbox k W h.1) ?_ W1 ⟨hI1, hL1, hK1⟩).mono ?_
    · rintro k W ⟨hi, hl, hk⟩ hlt
      obtain ⟨b, off, hs, hc⟩ := hread k W hi hlt
      refine ⟨b, off, vs k, hs, hc, ?_⟩
      have hy := run_yield (P := Tryd.prog) (args := #[.int .i64 (k : Int), .int .i64 (vs k)]) hl (by rw [hrec]; exact hps.symm)
      rw [hrec] at hy
      refine ⟨fn, _, assign, body, hy, roundIn_of_wpIn hfn (hassign _ k W _ hlt ?_)⟩
      clear hy
      have hlt2 : w.heap.size + 1 < W.heap.size := (Array.getElem?_eq_some_iff.1 hl).1
      refine ⟨_, run_beginRound hl (by rw [hrec]), ?_⟩
      have hl2 : (W.putObj (w.heap.size + 1) (.loop { rec .ready none with state := .busy })).heap[w.heap.size + 1]? = some (.loop { rec .ready none with state := .busy }) := World.putObj_heap_same hlt2
      have hk2 : (W.putObj (w.heap.size + 1) (.loop { rec .ready none with state := .busy })).heap[w.heap.size]? = some (.deferred (some [])) := (World.putObj_heap_other (by omega)).trans hk
      refine wpIn_mono (hbody _ k _ (by omega) ⟨_, hl2⟩ (hI.putObj _ hi (by omega) hl rfl) hlt) ?_
      have fin : ∀ (jump : Option Code) (W3 : World), KeepsFrom w.heap.size (W.putObj (w.heap.size + 1) (.loop { rec .ready none with state := .busy })) W3 →
          (Instr.endRound (w.heap.size + 1) jump).run Tryd.prog W3 = .ok (.bool jump.isNone) (W3.putObj (w.heap.size + 1) (.loop (rec (if jump.isNone then .ready else .done) jump))) ∧
          W3.heap[w.heap.size + 1]? = some (.loop { rec .ready none with state := .busy }) ∧
          (W3.putObj (w.heap.size + 1) (.loop (rec (if jump.isNone then .ready else .done) jump))).heap[w.heap.size + 1]? = some (.loop (rec (if jump.isNone then .ready else .done) jump)) ∧
          (W3.putObj (w.heap.size + 1) (.loop (rec (if jump.isNone then .ready else .done) jump))).heap[w.heap.size]? = some (.deferred (some [])) := fun jump W3 hk3 => by
        have hl3 := hk3.same _ _ (by omega) hl2 rfl
        have := run_endRound (P := Tryd.prog) jump hl3
        rw [hrec] at this ⊢
        exact ⟨this, by rw [hrec] at hl3; exact hl3, World.putObj_heap_same (Array.getElem?_eq_some_iff.1 hl3).1, (World.putObj_heap_other (by omega)).trans (hk3.same _ _ (Nat.le_refl _) hk2 rfl)⟩
      rintro e a3 W3 hp
      cases e with
      | normal =>
        obtain ⟨hk3, hi3⟩ := hp
        obtain ⟨hr, hl3, hl4, hk4⟩ := fin none W3 hk3
        exact ⟨_, _, hr, .inl ⟨rfl, hI.putObj _ hi3 (by omega) hl3 rfl, hl4, hk4⟩⟩
      | ret =>
        obtain ⟨hk3, hi3⟩ := hp
        obtain ⟨hr, hl3, hl4, hk4⟩ := fin (some .ret) W3 hk3
        exact ⟨_, _, hr, .inr ⟨rfl, .ret, (hIx _).putObj _ hi3 (by omega) hl3 rfl, hl4, hk4⟩⟩
      | exit id =>
        obtain ⟨hk3, hi3⟩ := hp
        obtain ⟨hr, hl3, hl4, hk4⟩ := fin (some (.exit id)) W3 hk3
        exact ⟨_, _, hr, .inr ⟨rfl, .exit id, (hIx _).putObj _ hi3 (by omega) hl3 rfl, hl4, hk4⟩⟩
      | goto t =>
        obtain ⟨hk3, hi3⟩ := hp
        obtain ⟨hr, hl3, hl4, hk4⟩ := fin (some (.goto t)) W3 hk3
        exact ⟨_, _, hr, .inr ⟨rfl, .goto t, (hIx _).putObj _ hi3 (by omega) hl3 rfl, hl4, hk4⟩⟩
      | panic ch => exact hp.elim
      | outgrown => exact hp.elim
    · rintro e W2 ⟨⟨v, rfl⟩, (⟨hi, hl, hk⟩ | ⟨k, hlt, c, hi, hl, hk⟩)⟩
      · exact ⟨none, _, by have := run_endLoop (P := Tryd.prog) hl (by rw [hrec]; simp); rw [hrec] at this; exact this, hdone _ _ (Nat.le_refl _) (hI.putObj _ hi (by omega) hl rfl) ((World.putObj_heap_other (by omega)).trans hk)⟩
      · exact ⟨some c, _, by have := run_endLoop (P := Tryd.prog) hl (by rw [hrec]; simp); rw [hrec] at this; exact this, hstop _ c k _ (Nat.le_refl _) hlt ((hIx c).putObj _ hi (by omega) hl rfl) ((World.putObj_heap_other (by omega)).trans hk)⟩

/-- **slices.Backward(s)**: the slice value is boxed; the function value captures the box. -/
theorem backward_any (s : Option Addr) (len cap : Nat) (w : World) :
    Calls Tryd.prog 63 #[.slice s len cap] w fun e w' => e = .returned (.func (.func 74) #[] #[.pointer (some ⟨w.heap.size, 0, none⟩)]) ∧ w' = w.alloc (.cells #[.slice s len cap] 22) := by
  go_enter Tryd.func63, Tryd.ntmps63
  go_wp2
  go_ret
  exact ⟨rfl, rfl⟩
end Go.Proofs.YtmejneobfkbgeaaDoor

namespace Go.Proofs.YtmejneobfkbgeaaDoor
namespace M

/-- Element k of a list, 0 behind its end. -/
def el (zs : List Int) (k : Nat) : Int := zs[k]?.getD 0
@[simp] theorem el_nil (k : Nat) : el [] k = 0 := rfl
@[simp] theorem el_zero (z : Int) (zs : List Int) : el (z :: zs) 0 = z := rfl
@[simp] theorem el_succ (z : Int) (zs : List Int) (k : Nat) : el (z :: zs) (k + 1) = el zs k := rfl
theorem el_lt {zs : List Int} {k : Nat} (h : k < zs.length) : el zs k = zs[k] := by unfold el; rw [List.getElem?_eq_getElem h]; rfl
theorem el_ge {zs : List Int} {k : Nat} (h : zs.length ≤ k) : el zs k = 0 := by unfold el; rw [List.getElem?_eq_none h]; rfl
theorem el_append_left {a b : List Int} {k : Nat} (h : k < a.length) : el (a ++ b) k = el a k := by unfold el; rw [List.getElem?_append_left h]
theorem el_append_right {a b : List Int} {k : Nat} (h : a.length ≤ k) : el (a ++ b) k = el b (k - a.length) := by unfold el; rw [List.getElem?_append_right h]
theorem el_take {zs : List Int} {k n : Nat} (h : k < n) : el (zs.take n) k = el zs k := by unfold el; rw [List.getElem?_take_of_lt h]
theorem el_drop (zs : List Int) (k n : Nat) : el (zs.drop n) k = el zs (n + k) := by unfold el; rw [List.getElem?_drop]
theorem el_set (zs : List Int) (i : Nat) (v : Int) (k : Nat) (h : i < zs.length) : el (zs.set i v) k = if i = k then v else el zs k := by
  unfold el; rw [List.getElem?_set]; split
  · rename_i e; subst e; simp
  · rfl
theorem ext_el {a b : List Int} (hl : a.length = b.length) (h : ∀ k, k < a.length → el a k = el b k) : a = b :=
  List.ext_getElem hl fun i h1 h2 => by have := h i h1; rwa [el_lt h1, el_lt h2] at this

theorem el_replicate (n k : Nat) : el (List.replicate n 0) k = 0 := by
  unfold el; rw [List.getElem?_replicate]; split <;> rfl

/-- The value of limbs. -/
def val : List Int → Int
  | [] => 0
  | z :: zs => z + 16777216 * val zs

/-- Each limb is from 0 to 2^24 - 1. -/
def Lim (zs : List Int) : Prop := ∀ z ∈ zs, 0 ≤ z ∧ z < 16777216

/-- The limbs without the zeros at their end. -/
def trimL : List Int → List Int
  | [] => []
  | z :: zs => if trimL zs = [] ∧ z = 0 then [] else z :: trimL zs

/-- The one list of limbs of a natural number. -/
def dig (n : Nat) : List Int :=
  if h : n = 0 then [] else ((n % 16777216 : Nat) : Int) :: dig (n / 16777216)
termination_by n
decreasing_by omega

theorem dig_zero : dig 0 = [] := by rw [dig]; simp
theorem dig_pos {n : Nat} (h : n ≠ 0) : dig n = ((n % 16777216 : Nat) : Int) :: dig (n / 16777216) := by
  rw [dig]; simp [h]
theorem dig_nil {n : Nat} : dig n = [] ↔ n = 0 := by
  constructor
  · intro h
    by_cases e : n = 0
    · exact e
    · rw [dig_pos e] at h; cases h
  · intro h; subst h; exact dig_zero

theorem Lim.nil : Lim [] := fun _ h => by cases h
theorem Lim.cons {z : Int} {zs : List Int} (h0 : 0 ≤ z) (h1 : z < 16777216) (h : Lim zs) : Lim (z :: zs) := by
  intro y hy
  cases hy with
  | head => exact ⟨h0, h1⟩
  | tail _ hy => exact h y hy
theorem Lim.head {z : Int} {zs : List Int} (h : Lim (z :: zs)) : 0 ≤ z ∧ z < 16777216 := h z (List.mem_cons_self ..)
theorem Lim.tail {z : Int} {zs : List Int} (h : Lim (z :: zs)) : Lim zs := fun y hy => h y (List.mem_cons_of_mem _ hy)
theorem Lim.append {a b : List Int} (ha : Lim a) (hb : Lim b) : Lim (a ++ b) := fun y hy => by
  rcases List.mem_append.1 hy with h | h
  · exact ha y h
  · exact hb y h
theorem Lim.get {zs : List Int} (h : Lim zs) (i : Nat) : 0 ≤ el zs i ∧ el zs i < 16777216 := by
  by_cases hi : i < zs.length
  · rw [el_lt hi]; exact h _ (List.getElem_mem hi)
  · rw [el_ge (by omega)]; simp
theorem Lim.take {zs : List Int} (h : Lim zs) (k : Nat) : Lim (zs.take k) := fun y hy => h y (List.mem_of_mem_take hy)
theorem Lim.drop {zs : List Int} (h : Lim zs) (k : Nat) : Lim (zs.drop k) := fun y hy => h y (List.mem_of_mem_drop hy)
theorem lim_of_get {zs : List Int} (h : ∀ i, i < zs.length → 0 ≤ el zs i ∧ el zs i < 16777216) : Lim zs := fun y hy => by
  obtain ⟨i, hi, rfl⟩ := List.mem_iff_getElem.1 hy
  have := h i hi
  rw [el_lt hi] at this
  exact this

theorem val_nonneg {zs : List Int} (h : Lim zs) : 0 ≤ val zs := by
  induction zs with
  | nil => simp [val]
  | cons z zs ih => have := ih h.tail; have := h.head; simp only [val]; omega

theorem lim_dig (n : Nat) : Lim (dig n) := by
  induction n using Nat.strongRecOn with
  | ind n ih =>
    by_cases e : n = 0
    · subst e; rw [dig_zero]; exact Lim.nil
    · rw [dig_pos e]; exact Lim.cons (by omega) (by omega) (ih _ (by omega))

theorem val_dig (n : Nat) : val (dig n) = n := by
  induction n using Nat.strongRecOn with
  | ind n ih =>
    by_cases e : n = 0
    · subst e; rw [dig_zero]; rfl
    · rw [dig_pos e, val, ih _ (by omega)]; omega

theorem trimL_eq_nil {zs : List Int} (h : Lim zs) : trimL zs = [] ↔ val zs = 0 := by
  induction zs with
  | nil => simp [trimL, val]
  | cons z zs ih =>
    have i := ih h.tail
    have := val_nonneg h.tail
    have := h.head
    simp only [trimL, val]
    constructor
    · intro e
      split at e
      · rename_i h'; have := i.1 h'.1; omega
      · cases e
    · intro e
      rw [if_pos ⟨i.2 (by omega), by omega⟩]

/-- Trimmed limbs are the limbs of the value. -/
theorem trimL_dig {zs : List Int} (h : Lim zs) : trimL zs = dig (val zs).toNat := by
  induction zs with
  | nil => simp [trimL, val, dig_zero]
  | cons z zs ih =>
    have i := ih h.tail
    have h0 := val_nonneg h.tail
    have hz := h.head
    by_cases e : val (z :: zs) = 0
    · rw [(trimL_eq_nil h).2 e, e]; simp [dig_zero]
    · have hne : (val (z :: zs)).toNat ≠ 0 := by have := val_nonneg h; omega
      rw [dig_pos hne]
      simp only [trimL, val] at *
      rw [if_neg (by rintro ⟨h1, h2⟩; rw [trimL_eq_nil h.tail] at h1; omega), i]
      congr 1
      · omega
      · congr 1; omega

theorem trimL_len (zs : List Int) : (trimL zs).length ≤ zs.length := by
  induction zs with
  | nil => simp [trimL]
  | cons z zs ih => simp only [trimL]; split <;> simp <;> omega

theorem trimL_take (zs : List Int) : zs.take (trimL zs).length = trimL zs := by
  induction zs with
  | nil => simp [trimL]
  | cons z zs ih => simp only [trimL]; split <;> simp [ih]

theorem trimL_idem (zs : List Int) : trimL (trimL zs) = trimL zs := by
  induction zs with
  | nil => simp [trimL]
  | cons z zs ih =>
    simp only [trimL]
    split
    · simp [trimL]
    · rename_i h; simp only [trimL, ih]; rw [if_neg h]

/-- Limbs whose last one is not 0 are those of their value. -/
theorem trimL_last {zs : List Int} (h : zs = [] ∨ zs.getLast? ≠ some 0) : trimL zs = zs := by
  induction zs with
  | nil => rfl
  | cons z zs ih =>
    rcases h with h | h
    · cases h
    · simp only [trimL]
      by_cases e : zs = []
      · subst e; simp at h; simp [trimL, h]
      · have hz : zs.getLast? ≠ some 0 := by
          intro hh; apply h
          cases zs with
          | nil => exact absurd rfl e
          | cons y ys => simpa [List.getLast?_cons_cons] using hh
        rw [ih (.inr hz), if_neg (by rintro ⟨h1, _⟩; exact e h1)]

/-- Behind the trimmed limbs there are zeros alone. -/
theorem trimL_zero (zs : List Int) : ∀ i : Nat, (trimL zs).length ≤ i → el zs i = 0 := by
  induction zs with
  | nil => simp
  | cons z zs ih =>
    intro i hi
    simp only [trimL] at hi
    split at hi
    · rename_i h
      have h1 : (trimL zs).length = 0 := by rw [h.1]; rfl
      cases i with
      | zero => simp [h.2]
      | succ i => rw [el_succ]; exact ih i (by omega)
    · cases i with
      | zero => simp at hi
      | succ i => rw [el_succ]; exact ih i (by simp at hi; omega)

theorem trimL_at (zs : List Int) (k : Nat) (hk : el zs k ≠ 0) (hz : ∀ i, k < i → el zs i = 0) : (trimL zs).length = k + 1 := by
  induction zs generalizing k with
  | nil => simp at hk
  | cons z zs ih =>
    simp only [trimL]
    cases k with
    | zero =>
      simp at hk
      have : trimL zs = [] := by
        have hall : ∀ i : Nat, el zs i = 0 := fun i => by have := hz (i + 1) (by omega); simpa using this
        clear ih hz hk
        induction zs with
        | nil => rfl
        | cons y ys ih2 =>
          have h0 := hall 0
          simp at h0
          simp only [trimL]
          rw [if_pos ⟨ih2 (fun i => by have := hall (i + 1); simpa using this), h0⟩]
      rw [if_neg (by rintro ⟨_, h2⟩; exact hk h2), this]; rfl
    | succ k =>
      have h2 := ih k (by simpa using hk) (fun i hi => by have := hz (i + 1) (by omega); simpa using this)
      rw [if_neg (by rintro ⟨h1, _⟩; rw [h1] at h2; simp at h2)]
      simp [h2]

theorem trimL_none (zs : List Int) (hz : ∀ i : Nat, el zs i = 0) : trimL zs = [] := by
  induction zs with
  | nil => rfl
  | cons y ys ih2 =>
    have h0 := hz 0
    simp at h0
    simp only [trimL]
    rw [if_pos ⟨ih2 (fun i => by have := hz (i + 1); simpa using this), h0⟩]

theorem val_append (a b : List Int) : val (a ++ b) = val a + 16777216 ^ a.length * val b := by
  induction a with
  | nil => simp [val]
  | cons z zs ih =>
    simp only [List.cons_append, val, ih, List.length_cons, Int.pow_succ]
    rw [Int.mul_add, Int.mul_comm (16777216 ^ zs.length) 16777216, Int.mul_assoc]; omega

theorem val_lt {zs : List Int} (h : Lim zs) : val zs < 16777216 ^ zs.length := by
  induction zs with
  | nil => simp [val]
  | cons z zs ih =>
    have := ih h.tail
    have := h.head
    simp only [val, List.length_cons, Int.pow_succ]
    omega

theorem dig_len_le {n k : Nat} : (dig n).length ≤ k ↔ n < 16777216 ^ k := by
  induction k generalizing n with
  | zero =>
    simp [dig_nil]
  | succ k ih =>
    by_cases e : n = 0
    · subst e; simp [dig_zero]; exact Nat.pow_pos (by omega)
    · rw [dig_pos e]
      simp only [List.length_cons, Nat.add_le_add_iff_right, ih, Nat.pow_succ]
      omega

theorem dig_last {n : Nat} (h : n ≠ 0) : (dig n).getLast? ≠ some 0 := by
  induction n using Nat.strongRecOn with
  | ind n ih =>
    rw [dig_pos h]
    by_cases e : n / 16777216 = 0
    · rw [e, dig_zero]; simp; omega
    · have := ih (n / 16777216) (by omega) e
      rw [dig_pos e] at this ⊢
      simpa [List.getLast?_cons_cons] using this

theorem trimL_of_dig (n : Nat) : trimL (dig n) = dig n := by
  rw [trimL_dig (lim_dig n), val_dig]; simp

theorem dig_inj {a b : Nat} (h : dig a = dig b) : a = b := by
  have := congrArg val h
  rw [val_dig, val_dig] at this; omega

theorem val_take_succ (zs : List Int) (k : Nat) (hk : k < zs.length) : val (zs.take (k + 1)) = val (zs.take k) + 16777216 ^ k * (el zs k) := by
  rw [List.take_succ_eq_append_getElem hk, val_append]
  simp only [val, List.length_take, Nat.min_eq_left (by omega : k ≤ zs.length), el_lt hk, Int.mul_zero, Int.add_zero]

theorem val_take_succ' (zs : List Int) (k : Nat) : val (zs.take (k + 1)) = val (zs.take k) + 16777216 ^ k * el zs k := by
  by_cases h : k < zs.length
  · exact val_take_succ zs k h
  · rw [List.take_of_length_le (by omega), List.take_of_length_le (by omega), el_ge (by omega)]; simp

theorem take_set_succ (zs : List Int) (k : Nat) (u : Int) (h : k < zs.length) : (zs.set k u).take (k + 1) = zs.take k ++ [u] := by
  rw [List.take_succ_eq_append_getElem (by simpa using h), List.getElem_set_self, List.take_set_of_le (Nat.le_refl _)]

theorem val_set_succ (zs : List Int) (k : Nat) (u : Int) (h : k < zs.length) : val ((zs.set k u).take (k + 1)) = val (zs.take k) + 16777216 ^ k * u := by
  rw [take_set_succ zs k u h, val_append]
  simp [val, Nat.min_eq_left (Nat.le_of_lt h)]

theorem Lim.set {zs : List Int} (h : Lim zs) (k : Nat) {u : Int} (h0 : 0 ≤ u) (h1 : u < 16777216) : Lim (zs.set k u) := fun y hy => by
  rcases List.mem_or_eq_of_mem_set hy with h' | h'
  · exact h y h'
  · subst h'; exact ⟨h0, h1⟩

theorem Lim.replicate (n : Nat) : Lim (List.replicate n 0) := fun y hy => by
  have := List.eq_of_mem_replicate hy; subst this; omega

theorem pow_split (P c : Int) : P * (c % 16777216) + P * 16777216 * (c / 16777216) = P * c := by
  rw [Int.mul_assoc, ← Int.mul_add, Int.emod_add_mul_ediv]

theorem pow_pos (k : Nat) : (0 : Int) < 16777216 ^ k := Int.pow_pos (by decide)

/-- One step of an addition: u and c' are what is written and what is carried on. -/
theorem add_step {P V c s t A B : Int} (h : V + P * c = A + B) : (V + P * ((c + (s + t)) % 16777216)) + P * 16777216 * ((c + (s + t)) / 16777216) = (A + P * s) + (B + P * t) := by
  have := pow_split P (c + (s + t))
  rw [Int.add_assoc, this, Int.mul_add, Int.mul_add]; omega

theorem val_replicate (n : Nat) : val (List.replicate n 0) = 0 := by
  induction n with
  | zero => rfl
  | succ n ih => rw [List.replicate_succ, val, ih]; rfl

theorem pow_cast (k : Nat) : ((16777216 ^ k : Nat) : Int) = 16777216 ^ k := Int.natCast_pow 16777216 k
theorem pow_mono {a b : Nat} (h : a ≤ b) : (16777216 : Int) ^ a ≤ 16777216 ^ b := by
  rw [← pow_cast, ← pow_cast]; exact Int.ofNat_le.2 (Nat.pow_le_pow_right (by omega) h)
theorem val_le_of_len {zs : List Int} (h : Lim zs) {n : Nat} (hn : zs.length ≤ n) : val zs < 16777216 ^ n :=
  Int.lt_of_lt_of_le (val_lt h) (pow_mono hn)

/-- The end of an addition. -/
theorem add_end {zs : List Int} {x y n : Nat} {c : Int} (hz : Lim zs) (hx : (dig x).length ≤ n) (hy : (dig y).length ≤ n) (hc : 0 ≤ c) (h : val zs + 16777216 ^ (n + 1) * c = x + y) : trimL zs = dig (x + y) := by
  have h1 := val_le_of_len (lim_dig x) hx
  have h2 := val_le_of_len (lim_dig y) hy
  rw [val_dig] at h1 h2
  have h0 := val_nonneg hz
  have hp := pow_pos n
  have e : c = 0 := by
    by_cases h3 : c = 0
    · exact h3
    · have : 16777216 ^ (n + 1) * 1 ≤ (16777216 : Int) ^ (n + 1) * c := Int.mul_le_mul_of_nonneg_left (by omega) (by have := pow_pos (n + 1); omega)
      rw [Int.pow_succ] at this h
      omega
  subst e
  rw [trimL_dig hz]
  congr 1
  omega

theorem val_set (zs : List Int) (k : Nat) (u : Int) (h : k < zs.length) : val (zs.set k u) = val zs + 16777216 ^ k * (u - el zs k) := by
  induction zs generalizing k with
  | nil => simp at h
  | cons z zs ih =>
    cases k with
    | zero => simp only [List.set_cons_zero, val, el_zero, Int.pow_zero]; omega
    | succ k =>
      simp only [List.set_cons_succ, val, el_succ, Int.pow_succ]
      rw [ih k (by simpa using h), Int.mul_add, Int.mul_comm (16777216 ^ k) 16777216, Int.mul_assoc]; omega

/-- One step of a product: t is what is to be written and carried on at place i + j. -/
theorem mul_step {V P Pi Pj c e a b q t : Int} (hP : P = Pi * Pj) (h : V + P * c = q + Pi * (a * t)) :
    (V + P * ((c + (e + a * b)) % 16777216 - e)) + P * 16777216 * ((c + (e + a * b)) / 16777216) = q + Pi * (a * (t + Pj * b)) := by
  have h1 := pow_split P (c + (e + a * b))
  have h2 : P * ((c + (e + a * b)) % 16777216 - e) = P * ((c + (e + a * b)) % 16777216) - P * e := Int.mul_sub ..
  have h3 : P * (c + (e + a * b)) = P * c + P * e + P * (a * b) := by rw [Int.mul_add, Int.mul_add]; omega
  have h4 : Pi * (a * (t + Pj * b)) = Pi * (a * t) + P * (a * b) := by
    rw [hP, Int.mul_add, Int.mul_add, Int.mul_assoc Pi Pj, Int.mul_left_comm Pj a b]
  omega

theorem mul_bound {a b : Int} (ha : 0 ≤ a ∧ a < 16777216) (hb : 0 ≤ b ∧ b < 16777216) : 0 ≤ a * b ∧ a * b ≤ 281474943156225 := by
  refine ⟨Int.mul_nonneg ha.1 hb.1, ?_⟩
  have := Int.mul_le_mul (a := a) (b := b) (c := 16777215) (d := 16777215) (by omega) (by omega) hb.1 (by decide)
  omega

theorem mul_row {V P q A Pk e y : Int} (h : V + P * q = A * y + Pk * (e * y)) : V + P * (q - 0) = (A + Pk * e) * y := by
  rw [Int.sub_zero, Int.add_mul, Int.mul_assoc, h]

/-- The end of a product. -/
theorem mul_end {zs : List Int} {x y : Nat} (hz : Lim zs) (h : val zs = x * y) : trimL zs = dig (x * y) := by
  rw [trimL_dig hz, h]; congr 1

/-- A division by a small number: the rest and the limbs of the quotient. -/
def shr (d : Int) : List Int → Int × List Int
  | [] => (0, [])
  | z :: zs => (((shr d zs).1 * 16777216 + z) % d, ((shr d zs).1 * 16777216 + z) / d :: (shr d zs).2)

theorem shr_len (d : Int) (zs : List Int) : (shr d zs).2.length = zs.length := by
  induction zs with
  | nil => rfl
  | cons z zs ih => simp [shr, ih]

theorem shr_rest (d : Int) (hd : 0 < d) (zs : List Int) : 0 ≤ (shr d zs).1 ∧ (shr d zs).1 < d := by
  cases zs with
  | nil => exact ⟨Int.le_refl _, hd⟩
  | cons z zs => exact ⟨Int.emod_nonneg _ (by omega), Int.emod_lt_of_pos _ hd⟩

theorem shr_val (d : Int) (zs : List Int) : val (shr d zs).2 * d + (shr d zs).1 = val zs := by
  induction zs with
  | nil => simp [shr, val]
  | cons z zs ih =>
    simp only [shr, val]
    have h := Int.mul_ediv_add_emod ((shr d zs).1 * 16777216 + z) d
    rw [Int.add_mul, Int.mul_assoc, Int.mul_comm (_ / d) d, ← ih]
    omega

theorem shr_lim (d : Int) (hd : 0 < d) {zs : List Int} (h : Lim zs) : Lim (shr d zs).2 := by
  induction zs with
  | nil => exact Lim.nil
  | cons z zs ih =>
    have hr := shr_rest d hd zs
    have hz := h.head
    refine Lim.cons ?_ ?_ (ih h.tail)
    · exact Int.ediv_nonneg (by omega) (by omega)
    · exact Int.ediv_lt_of_lt_mul hd (by have : ((shr d zs).1 + 1) * 16777216 ≤ d * 16777216 := Int.mul_le_mul_of_nonneg_right (by omega) (by decide)
                                         rw [Int.mul_comm 16777216 d]; omega)

theorem shr_nat {zs : List Int} {d : Nat} (hd : 0 < d) {n : Nat} (h : Lim zs) (hv : val zs = n) : trimL (shr d zs).2 = dig (n / d) ∧ (shr d zs).1 = ((n % d : Nat) : Int) := by
  have h1 := shr_val d zs
  have h2 := shr_rest d (by omega) zs
  have h3 := val_nonneg (shr_lim (d : Int) (by omega) h)
  obtain ⟨q, hq⟩ := Int.eq_ofNat_of_zero_le h3
  obtain ⟨r, hr⟩ := Int.eq_ofNat_of_zero_le h2.1
  rw [hq, hr, hv] at h1
  have h4 : q * d + r = n := by have : ((q * d + r : Nat) : Int) = (n : Int) := by rw [Int.natCast_add, Int.natCast_mul]; exact h1
                                omega
  have h5 : r < d := by rw [hr] at h2; omega
  have e1 : n / d = q := by rw [← h4, Nat.mul_comm q d, Nat.mul_add_div hd, Nat.div_eq_of_lt h5]; omega
  have e2 : n % d = r := by rw [← h4, Nat.mul_comm q d, Nat.mul_add_mod, Nat.mod_eq_of_lt h5]
  rw [trimL_dig (shr_lim (d : Int) (by omega) h), hq, hr, e1, e2]
  exact ⟨by simp, rfl⟩

theorem drop_el (zs : List Int) (k : Nat) (h : k < zs.length) : zs.drop k = el zs k :: zs.drop (k + 1) := by
  rw [List.drop_eq_getElem_cons h, el_lt h]

/-- The limbs while those from k on have been divided. -/
def shrAt (d : Int) (zs : List Int) (k : Nat) : List Int := zs.take k ++ (shr d (zs.drop k)).2
theorem shrAt_len (d : Int) (zs : List Int) (k : Nat) : (shrAt d zs k).length = zs.length := by
  unfold shrAt; rw [List.length_append, shr_len, List.length_take, List.length_drop]; omega
theorem shrAt_el (d : Int) (zs : List Int) (k : Nat) (j : Nat) (h : j < k) (hj : j < zs.length) : el (shrAt d zs k) j = el zs j := by
  unfold shrAt; rw [el_append_left (by rw [List.length_take]; omega), el_take h]
theorem shrAt_set (d : Int) (zs : List Int) (k : Nat) (h : k < zs.length) : (shrAt d zs (k + 1)).set k (((shr d (zs.drop (k + 1))).1 * 16777216 + el zs k) / d) = shrAt d zs k := by
  unfold shrAt
  rw [drop_el zs k h, List.take_succ_eq_append_getElem h, List.append_assoc, List.set_append_right _ _ (by rw [List.length_take]; omega)]
  have : k - (zs.take k).length = 0 := by rw [List.length_take]; omega
  rw [this]
  rfl
theorem shrAt_zero (d : Int) (zs : List Int) : shrAt d zs 0 = (shr d zs).2 := rfl
theorem shrAt_all (d : Int) (zs : List Int) : shrAt d zs zs.length = zs := by
  unfold shrAt; rw [List.take_length, List.drop_length]; simp [shr]
theorem shr_drop (d : Int) (zs : List Int) (k : Nat) (h : k < zs.length) : (shr d (zs.drop k)).1 = ((shr d (zs.drop (k + 1))).1 * 16777216 + el zs k) % d := by
  rw [drop_el zs k h]; rfl

end M
end Go.Proofs.YtmejneobfkbgeaaDoor

namespace Go.Proofs.YtmejneobfkbgeaaDoor
open Go Go.RowKit Go.Shelf
attribute [local go_sem] Oper.semAt_some

theorem cell_new (w : World) (v : Value) (t : TypeId) : (w.alloc (.cells #[v] t)).cell? ⟨w.heap.size, 0, none⟩ = some v := by
  simp
theorem frozen_new (w : World) (v : Value) (t : TypeId) : (w.alloc (.cells #[v] t)).frozen? ⟨w.heap.size, 0, none⟩ = false := by
  simp
theorem cell_later {w : World} {a : Addr} {v : Value} (o : Obj) (h : w.cell? a = some v) : (w.alloc o).cell? a = some v :=
  cell_kept h (World.grownBy_alloc w o none) (fun r e => by cases e)
theorem frozen_later {w : World} {a : Addr} {v : Value} (o : Obj) (h : w.cell? a = some v) (hf : w.frozen? a = false) : (w.alloc o).frozen? a = false :=
  (frozen_kept h (World.grownBy_alloc w o none) (fun r e => by cases e)).trans hf
theorem lt_of_cell {w : World} {a : Addr} {v : Value} (h : w.cell? a = some v) : a.block < w.heap.size := by
  obtain ⟨o, ho, _⟩ := cells_of_cell h
  exact (Array.getElem?_eq_some_iff.1 ho).1

/-- The slice at a, of capacity cap, holds the ints zs. -/
structure Row (w : World) (a : Option Addr) (zs : List Int) (cap : Nat) : Prop where
  room : zs.length ≤ cap
  most : cap ≤ 9223372036854775807
  el : ∀ j, j < zs.length → ∃ b off, a = some ⟨b, off, none⟩ ∧ w.cell? ⟨b, off + j, none⟩ = some (.int .i64 (M.el zs j))

theorem Row.below {w w' : World} {a : Option Addr} {zs : List Int} {cap : Nat} (h : Row w a zs cap) (hb : Below w.heap.size w w') : Row w' a zs cap :=
  ⟨h.room, h.most, fun j hj => by
    obtain ⟨b, off, e, hc⟩ := h.el j hj
    exact ⟨b, off, e, (hb.cell (p := ⟨b, off + j, none⟩) (lt_of_cell hc)).trans hc⟩⟩

/-- The cell of element j, at the address that is known. -/
theorem Row.cell {w : World} {b off : Nat} {zs : List Int} {cap : Nat} (h : Row w (some ⟨b, off, none⟩) zs cap) (j : Nat) (hj : j < zs.length) : w.cell? ⟨b, off + j, none⟩ = some (.int .i64 (M.el zs j)) := by
  obtain ⟨b', off', e, hc⟩ := h.el j hj
  cases e
  exact hc

/-- The slice that trim hands back. -/
def cut (a : Option Addr) (cap : Nat) (ts : List Int) : Value := if ts = [] then .slice none 0 0 else .slice a ts.length cap

set_option maxRecDepth 100000 in
set_option maxHeartbeats 2000000 in
/-- **nat.trim**: the slice without the zeros at its end. -/
theorem trim_any (a : Option Addr) (zs : List Int) (cap : Nat) (w : World) (hR : Row w a zs cap) :
    Calls Tryd.prog 41 #[.slice a zs.length cap] w fun e W' => e = .returned (cut a cap (M.trimL zs)) ∧ Below w.heap.size w W' := by
  refine (callsIn_wide (n := 6)).1 ?_
  refine callsIn_of_wp_marks Tryd.func41 rfl trivial ?_ rfl
  simp only [Tryd.ntmps41, List.size_toArray, List.length_cons, List.length_nil, Nat.reduceAdd, Nat.reduceSub, Array.replicate_succ, Array.replicate_zero, List.push_toArray, List.append_toArray, List.nil_append, List.cons_append]
  gi_wp2_with (refine ⟨trivial, ?_⟩; gi_at_call 63; refine (callsIn_wide.2 (backward_any _ _ _ _)).mono ?_; rintro e w' ⟨rfl, rfl⟩)
  have c0 := cell_new w (.slice a zs.length cap) 22
  have c1 := cell_new (w.alloc (.cells #[.slice a zs.length cap] 22)) (.slice none 0 0) 22
  have f1 := frozen_new (w.alloc (.cells #[.slice a zs.length cap] 22)) (.slice none 0 0) 22
  have c2 := cell_new ((w.alloc (.cells #[.slice a zs.length cap] 22)).alloc (.cells #[.slice none 0 0] 22)) (.slice a zs.length cap) 22
  simp only [World.size_alloc] at c1 f1 c2
  have hB0 : Below w.heap.size w (((w.alloc (.cells #[.slice a zs.length cap] 22)).alloc (.cells #[.slice none 0 0] 22)).alloc (.cells #[.slice a zs.length cap] 22)) := (((Below.refl _ w).alloc (Nat.le_refl _) _).alloc (by simp) _).alloc (by simp; omega) _
  refine wpIn_back (n := 6) (by omega) (Bs := w.heap.size + 1 + 1) rfl rfl a zs.length cap (by have := hR.room; have := hR.most; omega) (fun j => M.el zs j)
    (fun k W => ((∀ j : Nat, k ≤ j → M.el zs j = 0) ∧ W.cell? ⟨w.heap.size, 0, none⟩ = some (.slice a zs.length cap) ∧ W.cell? ⟨w.heap.size + 1, 0, none⟩ = some (.slice none 0 0) ∧ W.frozen? ⟨w.heap.size + 1, 0, none⟩ = false ∧ W.cell? ⟨w.heap.size + 1 + 1, 0, none⟩ = some (.slice a zs.length cap)) ∧ Below w.heap.size w W)
    (fun c k W => (c = .ret ∧ M.el zs k ≠ 0 ∧ (∀ j : Nat, k < j → M.el zs j = 0) ∧ W.cell? ⟨w.heap.size + 1, 0, none⟩ = some (.slice a (k + 1) cap)) ∧ Below w.heap.size w W)
    (OwnFrom.and (Own.from (fun s A B row hs hg hr => ⟨hs.1, cell_kept hs.2.1 hg hr, cell_kept hs.2.2.1 hg hr, (frozen_kept hs.2.2.1 hg hr).trans hs.2.2.2.1, cell_kept hs.2.2.2.2 hg hr⟩) _) (ownFrom_below (Nat.le_refl _) (by simp; omega)))
    (fun c => OwnFrom.and (Own.from (fun s A B row hs hg hr => ⟨hs.1, hs.2.1, hs.2.2.1, cell_kept hs.2.2.2 hg hr⟩) _) (ownFrom_below (Nat.le_refl _) (by simp; omega)))
    ⟨⟨fun j hj => by exact M.el_ge hj, cell_later _ (cell_later _ c0), cell_later _ c1, frozen_later _ c1 f1, c2⟩, hB0⟩
    (fun k W h => h.1.2.2.2.2)
    (fun k W h hk => by
      obtain ⟨b, off, e, hc⟩ := hR.el k hk
      exact ⟨b, off, e, (h.2.cell (p := ⟨b, off + k, none⟩) (lt_of_cell hc)).trans hc⟩)
    (fun k => { tmps := #[.slice a zs.length cap, .pointer (some ⟨w.heap.size, 0, none⟩), .pointer (some ⟨w.heap.size + 1, 0, none⟩), .int .i64 (k : Int), .int .i64 (M.el zs k), .slice a zs.length cap, .func (.func 74) #[] #[.pointer (some ⟨w.heap.size + 1 + 1, 0, none⟩)], .int .i64 (k : Int), .int .i64 (M.el zs k), undef, undef, undef, undef, undef, undef], defers := [] }) ?assign ?body ?done ?stop
  case assign =>
    intro l k W K hk hK
    gi_wp2
    exact hK
  case body =>
    rintro l k W hl hrec ⟨⟨hz, hc0, hc1, hf1, hc2⟩, hB⟩ hk
    have hroom := hR.room
    have hmost := hR.most
    have hz' : ∀ j : Nat, k < j → M.el zs j = 0 := fun j hj => hz j hj
    have HZ := Lib.hid hz
    have HZ' := Lib.hid hz'
    clear hz hz'
    by_cases hne : M.el zs k = 0
    · have hb : ((M.el zs k) != 0) = false := by simp [hne]
      have HN := Lib.hid hne
      clear hne
      gi_wp2
      refine ⟨(KeepsOthers.refl _).from _, ⟨fun j hj => ?_, hc0, hc1, hf1, hc2⟩, hB⟩
      by_cases e : j = k
      · rw [e]; exact HN.out
      · exact HZ'.out j (by omega)
    · have hb : ((M.el zs k) != 0) = true := by simp [hne]
      have HN := Lib.hid hne
      clear hne
      gi_wp2
      exact ⟨(KeepsOthers.setCell _ _ _).from _, ⟨rfl, HN.out, HZ'.out, World.cell?_setCell_same' _ _ _ (by rw [hc1]; rfl)⟩, hB.setCell (p := ⟨w.heap.size + 1, 0, none⟩) (by simp) _⟩
  case done =>
    rintro D W hD ⟨⟨hz, _, hc1, hf1, _⟩, hB⟩ hK
    have HZ := Lib.hid (M.trimL_none zs (fun j => hz j (Nat.zero_le _)))
    clear hz
    gi_wp2
    have hK' := (KeepsOthers.setCell W ⟨w.heap.size + 1, 0, none⟩ (.slice none 0 0)).same D _ hK rfl
    refine ⟨by simp, .inl ⟨_, _, rfl, run_takeDeferred hK', ?_⟩⟩
    have hc5 := cell_kept (World.cell?_setCell_same' W ⟨w.heap.size + 1, 0, none⟩ (.slice none 0 0) (by rw [hc1]; rfl)) (grownBy_putObj' _ D (.deferred none)) (fun r e => by cases e; exact ⟨_, hK', rfl⟩)
    refine ⟨.slice none 0 0, ?_, by rw [HZ.out]; rfl, (hB.setCell (p := ⟨w.heap.size + 1, 0, none⟩) (by simp) _).trans (belowK_b (w := w) (Nat.le_refl _) _ D _ _ (by simp at hD; omega) hK' rfl rfl)⟩
    simp [results, Tryd.f41, go_sem, hc5]
  case stop =>
    rintro D c k W hD hk ⟨⟨rfl, hne, hz, hc1⟩, hB⟩ hK
    have HZ := Lib.hid (M.trimL_at zs k hne hz)
    clear hz hne
    gi_wp2
    refine ⟨by simp, .inl ⟨_, _, rfl, run_takeDeferred hK, ?_⟩⟩
    have hc5 := cell_kept hc1 (grownBy_putObj' _ D (.deferred none)) (fun r e => by cases e; exact ⟨_, hK, rfl⟩)
    refine ⟨.slice a (k + 1) cap, ?_, ?_, hB.trans (belowK_b (w := w) (Nat.le_refl _) W D _ _ (by simp at hD; omega) hK rfl rfl)⟩
    · simp [results, Tryd.f41, go_sem, hc5]
    · have hh := HZ.out
      unfold cut
      rw [if_neg (by intro e; rw [e] at hh; simp at hh), hh]
end Go.Proofs.YtmejneobfkbgeaaDoor

namespace Go.Proofs.YtmejneobfkbgeaaDoor
open Go Go.RowKit Go.Shelf

set_option maxHeartbeats 400000 in
/-- **nat.limbAt**: limb i, 0 behind the end. -/
theorem limbAt_any (a : Option Addr) (zs : List Int) (cap : Nat) (k : Nat) (w : World) (hR : Row w a zs cap) :
    Calls Tryd.prog 51 #[.slice a zs.length cap, .int .i64 (k : Int)] w fun e W' => e = .returned (.int .i64 (M.el zs k)) ∧ W' = w := by
  have hroom := hR.room
  have hmost := hR.most
  by_cases h : k < zs.length
  · obtain ⟨b, off, rfl, hc⟩ := hR.el k h
    go_enter Tryd.func51, Tryd.ntmps51
    go_wp2
    go_ret
    exact ⟨rfl, rfl⟩
  · have hz := Lib.hid (M.el_ge (zs := zs) (k := k) (by omega))
    go_enter Tryd.func51, Tryd.ntmps51
    go_wp2
    go_ret
    exact ⟨by rw [hz.out]; rfl, rfl⟩

theorem Row.alloc {w : World} {a : Option Addr} {zs : List Int} {cap : Nat} (h : Row w a zs cap) (o : Obj) : Row (w.alloc o) a zs cap :=
  h.below ((Below.refl _ w).alloc (Nat.le_refl _) _)

/-- What lies behind a call that only makes memory. -/
theorem bcell {W w1 : World} (hb : Below W.heap.size W w1) : (∀ b o, b < W.heap.size → w1.cell? ⟨b, o, none⟩ = W.cell? ⟨b, o, none⟩) ∧ (∀ b o, b < W.heap.size → w1.frozen? ⟨b, o, none⟩ = W.frozen? ⟨b, o, none⟩) :=
  ⟨fun b o h => hb.cell (p := ⟨b, o, none⟩) h, fun b o h => hb.frozen (p := ⟨b, o, none⟩) h⟩

theorem cut_slice (a : Option Addr) (cap : Nat) (ts : List Int) : ∃ a' c', cut a cap ts = .slice a' ts.length c' := by
  unfold cut
  split
  · rename_i h; exact ⟨none, 0, by rw [h]; rfl⟩
  · exact ⟨a, cap, rfl⟩

set_option maxHeartbeats 400000 in
/-- **nat.within**: the trimmed slice; ErrLimit, if it has too many elements. -/
theorem within_any (a : Option Addr) (zs : List Int) (cap : Nat) (w : World) (hR : Row w a zs cap) :
    Calls Tryd.prog 47 #[.slice a zs.length cap] w fun e W' => e = .returned (if (M.trimL zs).length ≤ 200 then .tuple #[.agg #[cut a cap (M.trimL zs)], .int .i64 0] else .tuple #[.agg #[.slice none 0 0], .int .i64 3]) ∧ Below w.heap.size w W' := by
  obtain ⟨a', c', hc⟩ := cut_slice a cap (M.trimL zs)
  have hl := M.trimL_len zs
  have hroom := hR.room
  have hmost := hR.most
  have ht := trim_any a zs cap (w.alloc (.cells #[.slice none 0 0] 24)) (hR.alloc _)
  rw [hc] at ht ⊢
  clear hc
  generalize (M.trimL zs).length = n at *
  have Ht := Lib.hid ht
  clear ht
  by_cases h : n ≤ 200
  · have HE := Lib.hid (show (if n ≤ 200 then Value.tuple #[.agg #[.slice a' n c'], .int .i64 0] else .tuple #[.agg #[.slice none 0 0], .int .i64 3]) = .tuple #[.agg #[.slice a' n c'], .int .i64 0] from if_pos h)
    go_enter Tryd.func47, Tryd.ntmps47
    go_wp2_with (go_at_call 41; refine Ht.out.mono ?_; rintro e w' ⟨rfl, hb⟩; obtain ⟨hcc, hff⟩ := bcell hb)
    exact bodyPost_ret (v := .tuple #[.agg #[.slice a' n c'], .int .i64 0]) (by simp [results, Tryd.results47, go_sem, hcc]) rfl ⟨rfl, (((Below.refl _ w).alloc (Nat.le_refl _) _).trans (hb.mono (by simp))).setCell (p := ⟨w.heap.size, 0, none⟩) (Nat.le_refl _) _⟩
  · have HE := Lib.hid (show (if n ≤ 200 then Value.tuple #[.agg #[.slice a' n c'], .int .i64 0] else .tuple #[.agg #[.slice none 0 0], .int .i64 3]) = .tuple #[.agg #[.slice none 0 0], .int .i64 3] from if_neg h)
    go_enter Tryd.func47, Tryd.ntmps47
    go_wp2_with (go_at_call 41; refine Ht.out.mono ?_; rintro e w' ⟨rfl, hb⟩; obtain ⟨hcc, hff⟩ := bcell hb)
    exact bodyPost_ret (v := .tuple #[.agg #[.slice none 0 0], .int .i64 3]) (by simp [results, Tryd.results47, go_sem, hcc]) rfl ⟨rfl, (((Below.refl _ w).alloc (Nat.le_refl _) _).trans (hb.mono (by simp))).setCell (p := ⟨w.heap.size, 0, none⟩) (Nat.le_refl _) _⟩
end Go.Proofs.YtmejneobfkbgeaaDoor

namespace Go.Proofs.YtmejneobfkbgeaaDoor
open Go Go.RowKit Go.Shelf

/-- The slice v, made from block B on, holds the ints zs. -/
def Own (W : World) (B : Nat) (v : Value) (zs : List Int) : Prop := W.ownsRow B 3 1 v zs.length (zs.map (Value.int .i64))

theorem Own.nil (W : World) (B : Nat) : Own W B (.slice none 0 0) [] := World.ownsRow_nil _ _ _ _

theorem grown_of_below {W W' : World} (h : Below W.heap.size W W') : W.grownBy W' none := ⟨h.os, h.tape, h.output, h.size, fun k hk _ => h.block k hk⟩

theorem Own.below {W W' : World} {B : Nat} {v : Value} {zs : List Int} (h : Own W B v zs) (hb : Below W.heap.size W W') : Own W' B v zs :=
  World.ownsRow.kept h (grown_of_below hb) (by cases v.ownBlock with | none => exact .inl rfl | some k => exact .inr (by intro e; cases e))
theorem Own.alloc {W : World} {B : Nat} {v : Value} {zs : List Int} (h : Own W B v zs) (o : Obj) : Own (W.alloc o) B v zs :=
  h.below ((Below.refl _ W).alloc (Nat.le_refl _) _)

theorem Own.mono {W : World} {B B' : Nat} {v : Value} {zs : List Int} (h : Own W B v zs) (hB : B' ≤ B) : Own W B' v zs := by
  obtain ⟨h1, h2 | ⟨g, cap, cur, hv, hg, r⟩⟩ := h
  · exact ⟨h1, .inl h2⟩
  · exact ⟨h1, .inr ⟨g, cap, cur, hv, Nat.le_trans hB hg, r⟩⟩

/-- What is known of the slice value: its address, its capacity, the cells. -/
theorem Own.parts {W : World} {B : Nat} {v : Value} {zs : List Int} (h : Own W B v zs) :
    (v = .slice none 0 0 ∧ zs = []) ∨ ∃ g cap, v = .slice (some ⟨g, 0, none⟩) zs.length cap ∧ B ≤ g ∧ g < W.heap.size ∧ zs.length ≤ cap ∧ cap ≤ 9223372036854775807 ∧
      ∀ j, j < zs.length → W.cell? ⟨g, j, none⟩ = some (.int .i64 (M.el zs j)) ∧ W.frozen? ⟨g, j, none⟩ = false := by
  have h' := h
  obtain ⟨h1, h2 | ⟨g, cap, cur, hv, hg, hh, r1, r2, r3⟩⟩ := h
  · exact .inl ⟨h2.1, List.length_eq_zero_iff.1 h2.2⟩
  · refine .inr ⟨g, cap, hv, hg, (Array.getElem?_eq_some_iff.1 hh).1, r1, r2, fun j hj => ?_⟩
    subst hv
    refine ⟨?_, World.ownsRow.frozenAt h' j⟩
    rw [World.ownsRow.cellAt h' j (by simpa using hj), List.getElem?_map, List.getElem?_eq_getElem hj, M.el_lt hj]
    rfl

theorem Own.row {W : World} {B : Nat} {v : Value} {zs : List Int} (h : Own W B v zs) : ∃ a cap, v = .slice a zs.length cap ∧ Row W a zs cap := by
  rcases h.parts with ⟨rfl, rfl⟩ | ⟨g, cap, rfl, _, _, r1, r2, hc⟩
  · exact ⟨none, 0, rfl, Nat.le_refl _, by omega, fun j hj => by simp at hj⟩
  · exact ⟨_, cap, rfl, r1, r2, fun j hj => ⟨g, 0, rfl, by simpa using (hc j hj).1⟩⟩

/-- The slice's first elements are owned, too. -/
theorem Own.take {W : World} {B : Nat} {a : Option Addr} {cap : Nat} {zs : List Int} (h : Own W B (.slice a zs.length cap) zs) (k : Nat) (hk : k ≤ zs.length) : Own W B (cut a cap (zs.take k)) (zs.take k) := by
  unfold cut
  split
  · rename_i e; rw [e]; exact Own.nil _ _
  · obtain ⟨h1, h2 | ⟨g, cap', cur, hv, hg, hh, r1, r2, r3, r4⟩⟩ := h
    · rename_i e
      have hz : zs = [] := List.length_eq_zero_iff.1 h2.2
      subst hz; simp at e
    · cases hv
      have e1 : (zs.take k).length = k := by simp [hk]
      refine ⟨by simp, .inr ⟨g, cap, cur, rfl, hg, hh, by omega, r2, r3, ?_⟩⟩
      rw [List.map_take, ← r4, List.take_take, e1]
      congr 1; omega

theorem Own.trimmed {W : World} {B : Nat} {a : Option Addr} {cap : Nat} {zs : List Int} (h : Own W B (.slice a zs.length cap) zs) : Own W B (cut a cap (M.trimL zs)) (M.trimL zs) := by
  have := h.take (M.trimL zs).length (M.trimL_len zs)
  rwa [M.trimL_take] at this

/-- A store into an owned slice. -/
theorem Own.set {W : World} {B : Nat} {g cap : Nat} {zs : List Int} (h : Own W B (.slice (some ⟨g, 0, none⟩) zs.length cap) zs) (j : Nat) (u : Int) : Own (W.setCell ⟨g, j, none⟩ (.int .i64 u)) B (.slice (some ⟨g, 0, none⟩) zs.length cap) (zs.set j u) := by
  unfold Own
  rw [List.length_set, List.map_set]
  exact (World.ownsRow.stored h j (.int .i64 u)).1

/-- A store below what is owned. -/
theorem Own.setBelow {W : World} {B : Nat} {v : Value} {zs : List Int} (h : Own W B v zs) {p : Addr} (hp : p.block < B) (u : Value) : Own (W.setCell p u) B v zs :=
  ownsRow_setCell_below h hp u

theorem cell_of_new (w : World) (v : Value) (t : TypeId) : (w.alloc (.cells #[v] t)).cell? ⟨w.heap.size, 0, none⟩ = some v ∧ (w.alloc (.cells #[v] t)).frozen? ⟨w.heap.size, 0, none⟩ = false :=
  ⟨cell_new _ _ _, frozen_new _ _ _⟩

theorem info_int : (Tryd.prog.info? 3).map (fun i => (i.zero, i.size, i.bytes)) = some (some (.int .i64 0), 1, 8) := by kernel_rfl

theorem Row.drewN {w : World} {a : Option Addr} {zs : List Int} {cap : Nat} (h : Row w a zs cap) (n : Nat) : Row (w.drewN n) a zs cap := ⟨h.room, h.most, h.el⟩

theorem Own.drewN {W : World} {B : Nat} {v : Value} {zs : List Int} (h : Own W B v zs) (n : Nat) : Own (W.drewN n) B v zs := h
theorem belowN {B : Nat} {w W : World} (h : Below B w W) (n : Nat) : Below B w (W.drewN n) := ⟨h.os, h.tape, h.output, h.size, h.block⟩

theorem Own.rowAt {W : World} {B : Nat} {a : Option Addr} {cap : Nat} {zs : List Int} (h : Own W B (.slice a zs.length cap) zs) : Row W a zs cap := by
  obtain ⟨a', cap', e, r⟩ := h.row
  cases e
  exact r

/-- Element k of a slice that is owned. -/
theorem Own.at {W : World} {B g cap : Nat} {zs : List Int} (h : Own W B (.slice (some ⟨g, 0, none⟩) zs.length cap) zs) (k : Nat) (hk : k < zs.length) : B ≤ g ∧ W.cell? ⟨g, k, none⟩ = some (.int .i64 (M.el zs k)) ∧ W.frozen? ⟨g, k, none⟩ = false := by
  rcases h.parts with ⟨e, rfl⟩ | ⟨g', cap', e, hb, _, _, _, hc⟩
  · simp at hk
  · cases e
    exact ⟨hb, hc k hk⟩

theorem Own.at2 {W : World} {B n cap : Nat} {a : Option Addr} {zs : List Int} (h : Own W B (.slice a n cap) zs) (k : Nat) (hk : k < zs.length) : ∃ g, a = some ⟨g, 0, none⟩ ∧ B ≤ g ∧ g < W.heap.size ∧ n ≤ cap ∧ cap ≤ 9223372036854775807 ∧ W.cell? ⟨g, k, none⟩ = some (.int .i64 (M.el zs k)) ∧ W.frozen? ⟨g, k, none⟩ = false := by
  rcases h.parts with ⟨e, rfl⟩ | ⟨g', cap', e, hb, h2, h3, h4, hc⟩
  · simp at hk
  · cases e
    exact ⟨g', rfl, hb, h2, h3, h4, hc k hk⟩
theorem Own.len {W : World} {B n cap : Nat} {a : Option Addr} {zs : List Int} (h : Own W B (.slice a n cap) zs) : n = zs.length := by
  rcases h.parts with ⟨e, rfl⟩ | ⟨g', cap', e, _⟩
  · cases e; rfl
  · cases e; rfl
/-- A store into another block. -/
theorem Own.other {W : World} {B : Nat} {v : Value} {zs : List Int} (h : Own W B v zs) {p : Addr} (u : Value) (hp : v.ownBlock ≠ some p.block) : Own (W.setCell p u) B v zs :=
  World.ownsRow.kept h (row := some p.block) ⟨rfl, rfl, rfl, by simp [World.setCell], fun k _ hk => Below.heap_setCell W p u k (fun e => hk (by rw [e]))⟩ (.inr hp)

theorem below_of_grown {W W' : World} {B : Nat} {v : Value} {zs : List Int} (h : Own W B v zs) (hg : W.grownBy W' v.ownBlock) (hB : B ≤ W.heap.size) : Below B W W' :=
  (Below.refl B W).grown hg hB (fun k e => (World.ownsRow.lt h k e).1)

/-- **make([]int, n)** -/
theorem wpList_make1 {W : World} {ops : Array Oper} {rest : List Oper} {o : Oper} {a : Act} {Q : Exit → Act → World → Prop} (hgd : o.guard = none) (l c : Operand) (hop : o.op = Op.makeSlice 22 l c)
    {B : Nat} (n : Nat) {L : Int} (hl : a.eval l = .int .i64 L) (hc : a.eval c = .int .i64 L) (hL : L = (n : Int)) (hn : n < 1000000) (hbase : B ≤ W.heap.size)
    (h : ∀ W', Own W' B (.slice (some ⟨W.heap.size, 0, none⟩) (List.replicate n (0 : Int)).length n) (List.replicate n 0) → Below B W W' → wpList Tryd.prog ops Q rest (a.put o.dst (.slice (some ⟨W.heap.size, 0, none⟩) n n)) W') : wpList Tryd.prog ops Q (o :: rest) a W := by
  obtain ⟨i0, hi, hz0, hz1, hz2⟩ := info_parts info_int
  refine wpList_make_full W hgd l c 22 hop B 3 i0 (.int .i64 0) 1 Tryd.underlying22 hi hz0 hz1 .i64 .i64 L L n hl hc hL hL (by rw [hz2]; omega) (by unfold maxLen; omega) hbase ?_
  intro W' hown hgrow
  refine h W' ?_ ((Below.refl B W).grown hgrow hbase (fun k e => by cases e))
  unfold Own
  rw [List.length_replicate, List.map_replicate]
  have e : (madeCells (Value.int .i64 0).cells (n * 1)).toList = List.replicate n (Value.int .i64 0) := by
    refine List.eq_replicate_iff.2 ⟨by simp [madeCells, Value.cells], fun b hb => ?_⟩
    simp [madeCells, Value.cells, Nat.mod_one] at hb
    exact hb.2.symm
  rw [e] at hown
  exact hown

/-- The value v is the number n. -/
def Num (W : World) (v : Value) (n : Nat) : Prop := ∃ a cap, v = .agg #[.slice a (M.dig n).length cap] ∧ Row W a (M.dig n) cap

/-- The result is the number n, or ErrLimit if it is too long. -/
def NatRes (n : Nat) (e : Ending) (W : World) : Prop := if (M.dig n).length ≤ 200 then ∃ v, e = .returned (.tuple #[v, .int .i64 0]) ∧ Num W v n else e = .returned (.tuple #[.agg #[.slice none 0 0], .int .i64 3])
theorem natRes_ok {n : Nat} {v : Value} {W : World} (h : (M.dig n).length ≤ 200) (hv : Num W v n) : NatRes n (.returned (.tuple #[v, .int .i64 0])) W := by
  unfold NatRes; rw [if_pos h]; exact ⟨v, rfl, hv⟩
theorem natRes_limit {n : Nat} {W : World} (h : ¬ (M.dig n).length ≤ 200) : NatRes n (.returned (.tuple #[.agg #[.slice none 0 0], .int .i64 3])) W := by
  unfold NatRes; rw [if_neg h]
theorem NatRes.ok {n : Nat} {e : Ending} {W : World} (h : NatRes n e W) (hl : (M.dig n).length ≤ 200) : ∃ v, e = .returned (.tuple #[v, .int .i64 0]) ∧ Num W v n := by
  unfold NatRes at h; rwa [if_pos hl] at h
theorem NatRes.limit {n : Nat} {e : Ending} {W : World} (h : NatRes n e W) (hl : ¬ (M.dig n).length ≤ 200) : e = .returned (.tuple #[.agg #[.slice none 0 0], .int .i64 3]) := by
  unfold NatRes at h; rwa [if_neg hl] at h

theorem Num.below {W W' : World} {v : Value} {n : Nat} (h : Num W v n) (hb : Below W.heap.size W W') : Num W' v n := by
  obtain ⟨a, cap, e, hr⟩ := h
  exact ⟨a, cap, e, hr.below hb⟩
theorem Own.num {W : World} {B : Nat} {v : Value} {n : Nat} (h : Own W B v (M.dig n)) : Num W (.agg #[v]) n := by
  obtain ⟨a, cap, rfl, hr⟩ := h.row
  exact ⟨a, cap, rfl, hr⟩

/-- **append(s, x)**, s owned. -/
theorem wpList_app1 {W : World} {ops : Array Oper} {rest : List Oper} {o : Oper} {a : Act} {Q : Exit → Act → World → Prop} (hgd : o.guard = none) (s x : Operand)
    (ho : o.op = .call { callee := .builtin .append, args := #[s, x], argTypes := #[22, 22] }) {B : Nat} {v : Value} {zs : List Int} {z : Int} (hs : a.eval s = v) (hown : Own W B v zs)
    {b : Nat} (hx : a.eval x = .slice (some ⟨b, 0, none⟩) 1 1) (hc : W.cell? ⟨b, 0, none⟩ = some (.int .i64 z)) (hl : zs.length < 1000000) (hbase : B ≤ W.heap.size)
    (h : ∀ a' cap' W', Own W' B (.slice a' (zs ++ [z]).length cap') (zs ++ [z]) → Below B W W' → wpList Tryd.prog ops Q rest (a.put o.dst (.slice a' (zs.length + 1) cap')) W') : wpList Tryd.prog ops Q (o :: rest) a W := by
  obtain ⟨i0, hi, hz0, hz1, hz2⟩ := info_parts info_int
  refine wpList_append_own W hgd s x 22 ho B 3 i0 (.int .i64 0) 1 8 Tryd.underlying22 hi hz0 hz1 hz2 rfl (by decide) v zs.length (zs.map (Value.int .i64)) hs hown ⟨b, 0, none⟩ 1 1 [.int .i64 z] hx rfl ?_ ?_ (by unfold maxLen; omega) (by omega) hbase ?_
  · intro j u hj
    match j, hj with
    | 0, hj => simp at hj; subst hj; simpa [Addr.add] using hc
  · intro u hu; simp at hu; subst hu; rfl
  · intro v' W' hown' hgrow _
    have ho2 : Own W' B v' (zs ++ [z]) := by unfold Own; simpa using hown'
    have hB2 : Below B W W' := (Below.refl B W).grown hgrow hbase (fun k e => (World.ownsRow.lt hown k e).1)
    obtain ⟨a', cap', rfl, _⟩ := ho2.row
    have := h a' cap' W' ho2 hB2
    simpa using this
end Go.Proofs.YtmejneobfkbgeaaDoor

namespace Go.Proofs.YtmejneobfkbgeaaDoor
open Go Go.RowKit

theorem toNat_ofInt64 (x : Int) : ((BitVec.ofInt 64 x).toNat : Int) = x % 18446744073709551616 := by
  rw [BitVec.toNat_ofInt]
  have : (0 : Int) ≤ x % ((2 ^ 64 : Nat) : Int) := Int.emod_nonneg _ (by decide)
  rw [Int.toNat_of_nonneg this]
  rfl

theorem mask24 (x : Int) : bits BinOp.and IntKind.i64 x 16777215 = x % 16777216 := by
  show IntKind.i64.wrap ((BitVec.ofInt 64 x &&& BitVec.ofInt 64 16777215).toNat : Int) = _
  have h1 := toNat_ofInt64 x
  have h2 : (BitVec.ofInt 64 16777215).toNat = 2 ^ 24 - 1 := by decide
  rw [BitVec.toNat_and, h2, Nat.and_two_pow_sub_one_eq_mod, IntKind.wrap_i64]
  omega

theorem or24 (x y : Int) (hx : 0 ≤ x) (hx2 : x < 549755813888) (hy : 0 ≤ y) (hy2 : y < 16777216) : bits BinOp.or IntKind.i64 (x * 16777216) y = x * 16777216 + y := by
  show IntKind.i64.wrap ((BitVec.ofInt 64 (x * 16777216) ||| BitVec.ofInt 64 y).toNat : Int) = _
  have h1 := toNat_ofInt64 (x * 16777216)
  have h2 := toNat_ofInt64 y
  obtain ⟨a, rfl⟩ := Int.eq_ofNat_of_zero_le hx
  obtain ⟨b, rfl⟩ := Int.eq_ofNat_of_zero_le hy
  have e1 : (BitVec.ofInt 64 ((a : Int) * 16777216)).toNat = 2 ^ 24 * a := by omega
  have e2 : (BitVec.ofInt 64 (b : Int)).toNat = b := by omega
  rw [BitVec.toNat_or, e1, e2, ← Nat.two_pow_add_eq_or_of_lt (by omega), IntKind.wrap_i64]
  omega
end Go.Proofs.YtmejneobfkbgeaaDoor

namespace Go.Proofs.YtmejneobfkbgeaaDoor
open Go Go.RowKit Go.Shelf
attribute [local go_sem] mask24

/-- What holds in Of when m is still to be taken apart. -/
def OfRel (w : World) (N : Nat) (t v : Value) (wr : World) : Prop :=
  ∃ (m : Nat) (pre : List Int), t = .int .i64 (m : Int) ∧ m ≤ N ∧ Own wr (w.heap.size + 1) v pre ∧ M.dig N = pre ++ M.dig m ∧ wr.cell? ⟨w.heap.size, 0, none⟩ = some (.slice none 0 0) ∧ wr.frozen? ⟨w.heap.size, 0, none⟩ = false ∧ Below w.heap.size w wr

set_option maxRecDepth 100000 in
set_option maxHeartbeats 1000000 in
theorem of_any (N : Nat) (w : World) (hN : N ≤ 9223372036854775807) :
    Calls Tryd.prog 25 #[.int .i64 (N : Int)] w fun e W' => ∃ v, e = .returned (.tuple #[v, .int .i64 0]) ∧ Num W' v N ∧ Below w.heap.size w W' := by
  have HL := Lib.hid (M.dig_len_le.2 (Nat.lt_of_le_of_lt hN (by decide)) : (M.dig N).length ≤ 3)
  have c0 := cell_of_new w (.slice none 0 0) 24
  go_enter Tryd.func25, Tryd.ntmps25
  go_wp2
  go_loopw [0, 4] (fun t v wr => OfRel w N t v wr) (fun t _ _ => (intOf t).toNat)
  case atStart => exact ⟨N, [], rfl, Nat.le_refl _, Own.nil _ _, rfl, c0.1, c0.2, (Below.refl _ w).alloc (Nat.le_refl _) _⟩
  case round =>
    obtain ⟨m, pre, rfl, hm, hown, hdig, hc0, hf0, hB⟩ := hrel
    obtain ⟨a, cap, rfl, hr⟩ := hown.row
    have HR := Lib.hid hr
    clear hr
    have HD := Lib.hid hdig
    clear hdig
    by_cases h0 : m = 0
    · subst h0
      have HE := Lib.hid (show M.dig N = pre by rw [HD.out, M.dig_zero, List.append_nil])
      go_wp2
      refine bodyPost_ret (v := .tuple #[.agg #[.slice a pre.length cap], .int .i64 0]) (by simp [results, Tryd.results25, go_sem, hc0]) rfl ⟨.agg #[.slice a pre.length cap], rfl, ?_, hB.setCell (p := ⟨w.heap.size, 0, none⟩) (Nat.le_refl _) _⟩
      refine Own.num (B := w.heap.size + 1) ?_
      rw [HE.out]
      exact hown.setBelow (Nat.lt_succ_self _) _
    · have hm1 : 0 < m := by omega
      clear h0
      have hpre : pre.length < 1000000 := by have := HL.out; rw [HD.out, List.length_append] at this; omega
      have hsz := hB.size
      go_wp2_with (at_builtin; refine wpList_app1 rfl _ _ rfl rfl (hown.alloc _) rfl (cell_new _ _ _) hpre (by simp; omega) ?_; intro a' cap' W' hown' hb')
      go_roundw
      case rel =>
        refine ⟨m / 16777216, pre ++ [((m % 16777216 : Nat) : Int)], by go_num, by omega, by simpa using hown', by rw [HD.out, M.dig_pos (by omega), List.append_assoc]; rfl, (hb'.cell (p := ⟨w.heap.size, 0, none⟩) (by simp)).trans (cell_later _ hc0), (hb'.frozen (p := ⟨w.heap.size, 0, none⟩) (by simp)).trans (frozen_later _ hc0 hf0), hB.trans (((Below.refl _ wr).alloc hsz _).trans (hb'.mono (by omega)))⟩
      case measure => simp [intOf]; omega
end Go.Proofs.YtmejneobfkbgeaaDoor

namespace Go.Proofs.YtmejneobfkbgeaaDoor
open Go Go.RowKit Go.Shelf

/-- A valid number's limbs. -/
structure Vld (zs : List Int) : Prop where
  len : zs.length ≤ 200
  last : 0 < zs.length → M.el zs (zs.length - 1) ≠ 0
  lim : M.Lim zs

set_option maxHeartbeats 400000 in
theorem valid_yes (a : Option Addr) (zs : List Int) (cap : Nat) (w : World) (hR : Row w a zs cap) (hV : Vld zs) :
    Calls Tryd.prog 39 #[.agg #[.slice a zs.length cap]] w fun e W' => e = .returned (.bool true) ∧ Below w.heap.size w W' := by
  have hroom := hR.room
  have hmost := hR.most
  have hlen := hV.len
  have HR := Lib.hid (hR.alloc (.cells #[.slice a zs.length cap] 24))
  have HV := Lib.hid hV
  clear hR hV
  by_cases h0 : 0 < zs.length
  · obtain ⟨b, off, rfl, hc⟩ := HR.out.el (zs.length - 1) (by omega)
    have hz : (M.el zs (zs.length - 1) == 0) = false := by have := HV.out.last h0; simp [this]
    go_enter Tryd.func39, Tryd.ntmps39
    go_wp2
    go_loop [27] (fun i => ∃ k : Nat, k ≤ zs.length ∧ i = .int .i64 k) (fun i => zs.length - (intOf i).toNat)
    case atStart => exact ⟨0, Nat.zero_le _, rfl⟩
    case round =>
      obtain ⟨k, hk, rfl⟩ := hrel
      have hl := HV.out.lim.get k
      by_cases hlt : k < zs.length
      · have hck := HR.out.cell k hlt
        go_wp2
        go_round
        case rel => exact ⟨k + 1, by omega, by go_num⟩
        case measure => simp [intOf]; omega
      · go_wp2
        go_ret
        exact ⟨rfl, (Below.refl _ w).alloc (Nat.le_refl _) _⟩
  · have h0' : zs.length = 0 := by omega
    have hzs : zs = [] := List.length_eq_zero_iff.1 h0'
    subst hzs
    clear h0 HR HV
    go_enter Tryd.func39, Tryd.ntmps39
    go_wp2
    go_loop [27] (fun i => i = .int .i64 0) (fun _ => 0)
    case atStart => rfl
    case round =>
      obtain rfl := hrel
      go_wp2
      go_ret
      exact ⟨rfl, (Below.refl _ w).alloc (Nat.le_refl _) _⟩
end Go.Proofs.YtmejneobfkbgeaaDoor
