/- bitmat.system.addWhere. -/
import Derived.Test.YtodiokladojnjaaBFind
namespace Go.Proofs.Ytodiokladojnjaa.B
open Go Go.RowKit Go.Shelf
open BM (St)

/-- The rows before k have been added to. -/
def mid (R x : Nat → V) (i c k : Nat) : Nat → V := fun j => if j < k then BM.adr R x i c j else x j
theorem mid_k (R x : Nat → V) (i c k : Nat) : mid R x i c k k = x k := by unfold mid; rw [if_neg (Nat.lt_irrefl k)]
theorem mid_i (R x : Nat → V) (i c k : Nat) : mid R x i c k i = x i := by
  unfold mid BM.adr
  split
  · rw [if_neg (fun h => h.1 rfl)]
  · rfl
theorem mid_0 (R x : Nat → V) (i c : Nat) : mid R x i c 0 = x := by funext j; unfold mid; rw [if_neg (Nat.not_lt_zero _)]
theorem mid_same {R x : Nat → V} {i c k : Nat} (h : ¬ (k ≠ i ∧ BM.bt (R k) c = true)) : mid R x i c (k + 1) = mid R x i c k := by
  funext j
  unfold mid
  by_cases e : j = k
  · subst e
    rw [if_pos (Nat.lt_succ_self j), if_neg (Nat.lt_irrefl j)]
    unfold BM.adr; rw [if_neg h]
  · by_cases h1 : j < k
    · rw [if_pos h1, if_pos (by omega)]
    · rw [if_neg h1, if_neg (by omega)]
theorem mid_upd {R x : Nat → V} {i c k : Nat} (h : k ≠ i ∧ BM.bt (R k) c = true) : upd (mid R x i c k) k (x k ^^^ x i) = mid R x i c (k + 1) := by
  funext j
  unfold mid upd
  by_cases e : j = k
  · subst e
    rw [if_pos rfl, if_pos (Nat.lt_succ_self j)]
    unfold BM.adr; rw [if_pos h]
  · rw [if_neg e]
    show (if j < k then BM.adr R x i c j else x j) = _
    by_cases h1 : j < k
    · rw [if_pos h1, if_pos (by omega)]
    · rw [if_neg h1, if_neg (by omega)]
theorem Sys.as {W : World} {B g m C gr cr gx cx : Nat} {R r R' r' : Nat → V} {P : List Nat} (h : Sys W B g m C gr cr gx cx ⟨R, r, P⟩) (hR : ∀ j, j < m → R j = R' j) (hr : ∀ j, j < m → r j = r' j) : Sys W B g m C gr cr gx cx ⟨R', r', P⟩ :=
  ⟨h.c0, h.c1, h.c2, h.c3, h.f3, by have := h.rows; rwa [tab_ext hR] at this, by have := h.right; rwa [tab_ext hr] at this, h.gB, h.n1, h.n2, h.n3⟩

def AddRel (w : World) (B g m C gr cr gx cx i c q : Nat) (R r : Nat → V) (P : List Nat) (v : Value) (W : World) : Prop :=
  ∃ k : Nat, v = .int .i64 (k : Int) ∧ k ≤ m ∧ Sys W B g m C gr cr gx cx ⟨mid R R i c k, mid R r i c k, P⟩ ∧ W.cell? ⟨q, 0, none⟩ = some (.int .i64 (c : Int)) ∧ Below B w W

set_option maxRecDepth 100000 in
set_option maxHeartbeats 1000000 in
theorem addWhere_any (w : World) (B g m C gr cr gx cx i c q : Nat) (s : St) (hi : i < m) (hm : m ≤ 64) (hS : Sys w B g m C gr cr gx cx s) (hq : w.cell? ⟨q, 0, none⟩ = some (.int .i64 (c : Int))) (hq1 : q ≠ gr) (hq2 : q ≠ gx) :
    Calls Try.prog 53 #[.pointer (some ⟨g, 0, none⟩), .int .i64 (i : Int), .func (.func 50) #[] #[.pointer (some ⟨q, 0, none⟩)]] w fun e W => (∃ v, e = .returned v) ∧ Sys W B g m C gr cr gx cx ⟨BM.adr s.R s.R i c, BM.adr s.R s.r i c, s.P⟩ ∧ W.cell? ⟨q, 0, none⟩ = some (.int .i64 (c : Int)) ∧ Below B w W := by
  obtain ⟨R, r, P⟩ := s
  have c1 := hS.c1
  obtain ⟨r1, r2, r3, r4⟩ := hS.room
  have hbR := hS.bR (by omega)
  have hbX := hS.bX (by omega)
  have HS := Lib.hid hS
  have HQ := Lib.hid hq
  clear hS hq
  go_enter Try.func53, Try.ntmps53
  go_wp2_with fail
  go_loopw [6, 7, 14] (fun _ _ v wr => AddRel w B g m C gr cr gx cx i c q R r P v wr) (fun _ _ v _ => m - (intOf v).toNat)
  case atStart => exact ⟨0, rfl, Nat.zero_le _, by rw [mid_0, mid_0]; exact HS.out, HQ.out, Below.refl _ _⟩
  case round =>
    obtain ⟨k, rfl, hk, hs, hq, hB⟩ := hrel
    clear c1 HS HQ
    have c1 := hs.c1
    by_cases hlt : k < m
    · have e1 : wr.cell? ⟨gr, k, none⟩ = some (.int .u64 ((R k).toNat : Int)) := by
        have := (hs.cellR k hlt).1
        rwa [show (⟨mid R R i c k, mid R r i c k, P⟩ : St).R k = R k from mid_k R R i c k] at this
      have f1 := (hs.cellR k hlt).2
      have HSS := Lib.hid hs
      have HBB := Lib.hid hB
      have HQ := Lib.hid hq
      clear hs hB
      by_cases hik : k = i
      · subst hik
        go_wp2_with fail
        go_roundw
        case rel => exact ⟨k + 1, by go_num, by omega, by rw [mid_same (fun h => h.1 rfl), mid_same (fun h => h.1 rfl)]; exact HSS.out, HQ.out, HBB.out⟩
        case measure => simp [intOf]; omega
      · have hne : ((k : Int) != (i : Int)) = true := bne_iff_ne.2 (by omega)
        have hcall := elimBit_any q c (R k) wr hq
        cases hb : BM.bt (R k) c with
        | false =>
          rw [hb] at hcall
          have HC := Lib.hid hcall
          have HN := Lib.hid hb
          clear hcall hb
          go_wp2_with (go_at_call 50; refine HC.out.mono ?_; rintro e w' ⟨rfl, hw⟩; obtain rfl := hw.symm)
          go_roundw
          case rel =>
            have hn : ¬ (k ≠ i ∧ BM.bt (R k) c = true) := by rw [HN.out]; intro h; cases h.2
            exact ⟨k + 1, by go_num, by omega, by rw [mid_same hn, mid_same hn]; exact HSS.out, HQ.out, HBB.out⟩
          case measure => simp [intOf]; omega
        | true =>
          rw [hb] at hcall
          have e2 : wr.cell? ⟨gr, i, none⟩ = some (.int .u64 ((R i).toNat : Int)) := by
            have := (HSS.out.cellR i hi).1
            rwa [show (⟨mid R R i c k, mid R r i c k, P⟩ : St).R i = R i from mid_i R R i c k] at this
          have hx1 := xor_V (R k) (R i)
          have hx2 := xor_V (r k) (r i)
          obtain ⟨y1, hy1⟩ : ∃ y, R k ^^^ R i = y := ⟨_, rfl⟩
          obtain ⟨y2, hy2⟩ : ∃ y, r k ^^^ r i = y := ⟨_, rfl⟩
          rw [hy1] at hx1
          rw [hy2] at hx2
          have S1 := HSS.out.setR k y1
          obtain ⟨w1, hw1⟩ : ∃ w1, wr.setCell ⟨gr, k, none⟩ (.int .u64 (y1.toNat : Int)) = w1 := ⟨_, rfl⟩
          rw [hw1] at S1
          have hB1 : Below B w w1 := by rw [← hw1]; exact HBB.out.setCell (p := ⟨gr, k, none⟩) hbR _
          have hQ1 : w1.cell? ⟨q, 0, none⟩ = some (.int .i64 (c : Int)) := by rw [← hw1]; exact (cell_other _ (show q ≠ gr from hq1)).trans HQ.out
          have d2 := S1.c2
          have e3 : w1.cell? ⟨gx, k, none⟩ = some (.int .u64 ((r k).toNat : Int)) := by
            have := (S1.cellX k hlt).1
            rwa [show (⟨upd (mid R R i c k) k y1, mid R r i c k, P⟩ : St).r k = r k from mid_k R r i c k] at this
          have f3 := (S1.cellX k hlt).2
          have e4 : w1.cell? ⟨gx, i, none⟩ = some (.int .u64 ((r i).toNat : Int)) := by
            have := (S1.cellX i hi).1
            rwa [show (⟨upd (mid R R i c k) k y1, mid R r i c k, P⟩ : St).r i = r i from mid_i R r i c k] at this
          have S2 := S1.setX k y2
          obtain ⟨w2, hw2⟩ : ∃ w2, w1.setCell ⟨gx, k, none⟩ (.int .u64 (y2.toNat : Int)) = w2 := ⟨_, rfl⟩
          rw [hw2] at S2
          have hB2 : Below B w w2 := by rw [← hw2]; exact hB1.setCell (p := ⟨gx, k, none⟩) hbX _
          have hQ2 : w2.cell? ⟨q, 0, none⟩ = some (.int .i64 (c : Int)) := by rw [← hw2]; exact (cell_other _ (show q ≠ gx from hq2)).trans hQ1
          have hS2 : Sys w2 B g m C gr cr gx cx ⟨mid R R i c (k + 1), mid R r i c (k + 1), P⟩ := by
            have hh : k ≠ i ∧ BM.bt (R k) c = true := ⟨hik, hb⟩
            have := S2
            rwa [show (⟨upd (mid R R i c k) k y1, upd (mid R r i c k) k y2, P⟩ : St) = ⟨mid R R i c (k + 1), mid R r i c (k + 1), P⟩ by rw [← hy1, ← hy2, mid_upd hh, mid_upd hh]] at this
          clear hy1 hy2
          have HS2 := Lib.hid hS2
          have HQ2 := Lib.hid hQ2
          have HB2 := Lib.hid hB2
          have HC := Lib.hid hcall
          clear hcall hb hS2 hQ2 hB2 S2 S1 hB1 hQ1 HSS HBB HQ
          go_wp2_with (go_at_call 50; refine HC.out.mono ?_; rintro e w' ⟨rfl, hw⟩; obtain rfl := hw.symm)
          go_region
          go_wp2_with fail
          go_region
          go_wp2_with fail
          go_roundw
          case rel => exact ⟨k + 1, by go_num, by omega, HS2.out.drewN 2, HQ2.out, belowN HB2.out 2⟩
          case measure => simp [intOf]; omega
    · have hkm : k = m := by omega
      have HSS := Lib.hid hs
      have HBB := Lib.hid hB
      have HQ := Lib.hid hq
      clear hs hB hq
      go_wp2_with fail
      go_end0
      refine ⟨⟨_, rfl⟩, HSS.out.as (fun j hj => ?_) (fun j hj => ?_), HQ.out, HBB.out⟩
      · unfold mid; rw [if_pos (by omega)]
      · unfold mid; rw [if_pos (by omega)]
end Go.Proofs.Ytodiokladojnjaa.B
