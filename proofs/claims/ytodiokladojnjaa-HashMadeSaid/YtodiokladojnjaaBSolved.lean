/- slices.Clone; bitmat.solved. -/
import Derived.Test.YtodiokladojnjaaBElim
import Derived.Deep.CutBlock
import Derived.Deep.DeepCutAuto
namespace Go.Proofs.Ytodiokladojnjaa.B
open Go Go.RowKit Go.Shelf
open BM (St)

set_option maxRecDepth 100000 in
set_option maxHeartbeats 1000000 in
/-- **slices.Clone** of any slice of uint64s. -/
theorem clone_any (a : Option Addr) (zs : List V) (cap : Nat) (w : World) (hR : Row w a zs cap) (hl : zs.length < 100000) :
    Calls Try.prog 46 #[.slice a zs.length cap] w fun e W' => ∃ a' cap', e = .returned (.slice a' zs.length cap') ∧ Own W' w.heap.size (.slice a' zs.length cap') zs ∧ Below w.heap.size w W' := by
  have HR := Lib.hid (hR.alloc (.cells #[] 32))
  have HO := Lib.hid (own_empty (α := V) w w.heap.size (Nat.le_refl _))
  have q22 : ∀ (w : World) (a : Option Addr) (n c n' c' : Nat), (binOp .eql 22 (.slice a n c) (.slice none n' c')).run Try.prog w = .ok (.bool a.isNone) w := fun w a n c n' c' => Lib.run_eql_slice_nil w _ _ a n c n' c' Try.underlying22
  cases a with
  | none =>
    have hy : zs = [] := by
      cases zs with
      | nil => rfl
      | cons y ys =>
        obtain ⟨b, off, e, _⟩ := hR.el 0 (by simp)
        cases e
    subst hy
    clear hR
    go_enter Try.func46, Try.ntmps46
    go_wp2_with fail
    go_ret
    exact ⟨none, 0, rfl, Own.nil _ _, Below.refl _ _⟩
  | some ad =>
    clear hR
    go_enter Try.func46, Try.ntmps46
    go_wp2_with (at_builtin; refine wpList_appAny (α := V) rfl _ _ rfl rfl HO.out rfl HR.out (by simp; omega) (by simp) ?_; intro a' cap' W' hown' hb')
    go_ret
    exact ⟨a', cap', by simp, by simpa using hown', ((Below.refl _ w).alloc (Nat.le_refl _) _).trans hb'⟩

/-- A new system. -/
theorem Sys.new {w : World} {B m C gr cr gx cx : Nat} {R r : Nat → V} (t : TypeId) (hB : B ≤ w.heap.size) (hR : Own w B (.slice (some ⟨gr, 0, none⟩) m cr) (tab m R)) (hX : Own w B (.slice (some ⟨gx, 0, none⟩) m cx) (tab m r)) (hm : 0 < m) (hn : gr ≠ gx) :
    Sys (w.alloc (.cells #[.int .i64 (C : Int), .slice (some ⟨gr, 0, none⟩) m cr, .slice (some ⟨gx, 0, none⟩) m cx, .slice none 0 0] t)) B w.heap.size m C gr cr gx cx ⟨R, r, []⟩ := by
  have hb : (w.alloc (.cells #[.int .i64 (C : Int), .slice (some ⟨gr, 0, none⟩) m cr, .slice (some ⟨gx, 0, none⟩) m cx, .slice none 0 0] t)).heap[w.heap.size]? = some (.cells #[.int .i64 (C : Int), .slice (some ⟨gr, 0, none⟩) m cr, .slice (some ⟨gx, 0, none⟩) m cx, .slice none 0 0] t) := Array.getElem?_push_size
  have h1 := (hR.at 0 (by rw [tab_len]; exact hm)).2.1
  have h2 := (hX.at 0 (by rw [tab_len]; exact hm)).2.1
  refine ⟨?_, ?_, ?_, ⟨none, 0, ?_, Own.nil _ _, fun b o e => by cases e⟩, ?_, hR.alloc _, hX.alloc _, hB, hn, by omega, by omega⟩
  · rw [cell_of_row _ _ 0 _ _ _ hb]; rfl
  · rw [cell_of_row _ _ 1 _ _ _ hb]; rfl
  · rw [cell_of_row _ _ 2 _ _ _ hb]; rfl
  · rw [cell_of_row _ _ 3 _ _ _ hb]; rfl
  · simp only [World.frozen?, hb]; rfl

theorem belowK {w W : World} {B : Nat} (h : Below B w.drew W) : Below B w W := ⟨h.os, h.tape, h.output, h.size, h.block⟩
theorem step_len (m c : Nat) (s : St) (h : s.P.length ≤ m) : (BM.step m c s).P.length ≤ m ∧ (BM.step m c s).P.length ≤ s.P.length + 1 := by
  unfold BM.step
  by_cases hp : BM.piv m c s < m
  · rw [if_pos hp]
    have h1 : s.P.length ≤ BM.piv m c s := (BM.fnd_le _ _ _ _).1
    show (s.P ++ [c]).length ≤ m ∧ (s.P ++ [c]).length ≤ _
    rw [List.length_append]
    simp only [List.length_cons, List.length_nil]
    omega
  · rw [if_neg hp]; omega
theorem run_len (m : Nat) (s : St) (h : s.P.length ≤ m) : ∀ k, (BM.run m s k).P.length ≤ m
  | 0 => h
  | k + 1 => (step_len m k _ (run_len m s h k)).1

def SolvCut (w : World) (B m C gx cx : Nat) (s : St) (v : Value) (W : World) : Prop :=
  ∃ g gr cr, v = .pointer (some ⟨g, 0, none⟩) ∧ Sys W B g m C gr cr gx cx s ∧ Below B w W
def SolvRel (w : World) (B g m C gr cr gx cx : Nat) (s : St) (v : Value) (W : World) : Prop :=
  ∃ k : Nat, v = .int .i64 (k : Int) ∧ k ≤ C ∧ Sys W B g m C gr cr gx cx (BM.run m s k) ∧ Below B w W

set_option maxRecDepth 100000 in
set_option maxHeartbeats 1000000 in
/-- **bitmat.solved** -/
theorem solved_any (w : World) (B C gx cx : Nat) (a : Option Addr) (cap : Nat) (R : List V) (r : Nat → V) (hB : B ≤ w.heap.size) (hC : C ≤ 64) (hm0 : 0 < R.length) (hm : R.length ≤ 64) (hR : Row w a R cap) (hX : Own w B (.slice (some ⟨gx, 0, none⟩) R.length cx) (tab R.length r)) :
    Calls Try.prog 38 #[.agg #[.int .i64 (C : Int), .slice a R.length cap], .slice (some ⟨gx, 0, none⟩) R.length cx] w fun e W => (∃ g gr cr, e = .returned (.pointer (some ⟨g, 0, none⟩)) ∧ Sys W B g R.length C gr cr gx cx (BM.run R.length ⟨el R, r, []⟩ C)) ∧ Below B w W := by
  have hB1 := MBox.new w C a R.length cap 49
  have hR1 := hR.alloc (.cells #[.int .i64 (C : Int), .slice a R.length cap] 49)
  have hX1 := hX.alloc (.cells #[.int .i64 (C : Int), .slice a R.length cap] 49)
  have hb1 := (Below.refl B w).alloc hB (.cells #[.int .i64 (C : Int), .slice a R.length cap] 49)
  have hgx := (hX.at 0 (by rw [tab_len]; exact hm0)).2.1
  obtain ⟨w1, hw1⟩ : ∃ w1, w.alloc (.cells #[.int .i64 (C : Int), .slice a R.length cap] 49) = w1 := ⟨_, rfl⟩
  have hs1 : w1.heap.size = w.heap.size + 1 := by rw [← hw1]; simp
  rw [hw1] at hB1 hR1 hX1 hb1
  have c0 := hB1.c0
  have c1 := hB1.c1
  have HC := Lib.hid (clone_any a R cap w1.drew (hR1.drewN 1) (by omega))
  have HX1 := Lib.hid hX1
  have HB1 := Lib.hid hB1
  have HS1 := Lib.hid hs1
  have Hb1 := Lib.hid hb1
  clear hR hX hR1 hX1 hb1 hB1 hs1
  go_enter Try.func38, Try.ntmps38
  go_upto_region 1 with fail
  go_cut [5] (fun s5 wx => SolvCut w B R.length C gx cx ⟨el R, r, []⟩ s5 wx)
  case first =>
    go_region_law (go_simp; go_at_call 46; (with_reducible refine HC.out.mono ?_); rintro e w2 ⟨a', cap', rfl, ho2, hb2⟩; have d0 := cell_below hb2 c0; have HO2 := Lib.hid ho2; have Hb2 := Lib.hid hb2; clear ho2 hb2; go_simp)
    all_goals (
      go_wp2_with fail
      go_meet
      obtain ⟨gr, rfl, hg1, hg2⟩ := HO2.out.fresh hm0
      have hs : w.heap.size + 1 ≤ gr := by
        have := HS1.out
        have h2 : w1.drew.heap.size = w1.heap.size := rfl
        omega
      have hsz := Hb2.out.size
      have h2 : w1.drew.heap.size = w1.heap.size := rfl
      have h3 := HS1.out
      refine ⟨_, gr, cap', rfl, Sys.new _ (by omega) (by rw [tab_el]; exact HO2.out.mono (by omega)) (HX1.out.below (belowK Hb2.out)) hm0 (by omega), (Hb1.out.trans ((belowK Hb2.out).mono (by omega))).alloc (by omega) _⟩)
  case rest =>
    obtain ⟨g, gr, cr, rfl, hS, hBw⟩ := hcut
    have d0 := hS.c0
    have HS := Lib.hid hS
    have HBw := Lib.hid hBw
    clear hS hBw c0 c1 HC HX1 HB1 HS1 Hb1
    go_wp2_with fail
    go_loopw [6, 21] (fun _ i wr => SolvRel w B g R.length C gr cr gx cx ⟨el R, r, []⟩ i wr) (fun _ i _ => C - (intOf i).toNat)
    case atStart => exact ⟨0, rfl, Nat.zero_le _, HS.out, HBw.out⟩
    case round =>
      obtain ⟨k, rfl, hk, hs, hB2⟩ := hrel
      by_cases hlt : k < C
      · have HE := Lib.hid (eliminate_any wr B g R.length C gr cr gx cx k _ hm0 hm (run_len R.length _ (Nat.zero_le _) k) (by omega) (Nat.le_trans hB hB2.size) hs)
        have HBB := Lib.hid hB2
        clear hs hB2
        go_wp2_with fail
        refine HE.out.mono ?_
        rintro e w3 ⟨⟨v, rfl⟩, hS3, hb3⟩
        have HS3 := Lib.hid hS3
        have Hb3 := Lib.hid (HBB.out.trans hb3)
        clear hS3 hb3
        go_wp2_with fail
        go_roundw
        case rel => exact ⟨k + 1, by go_num, by omega, HS3.out, Hb3.out⟩
        case measure => simp [intOf]; omega
      · obtain rfl : k = C := by omega
        have HSS := Lib.hid hs
        have HBB := Lib.hid hB2
        clear hs hB2
        go_wp2_with fail
        go_ret
        exact ⟨⟨g, gr, cr, rfl, HSS.out⟩, HBB.out⟩
end Go.Proofs.Ytodiokladojnjaa.B
