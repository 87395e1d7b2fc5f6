/- bitmat.system.exchange. -/
import Derived.Test.YtodiokladojnjaaBSys
import Derived.BigRegion
namespace Go.Proofs.Ytodiokladojnjaa.B
open Go Go.RowKit Go.Shelf
open BM (St)

set_option maxRecDepth 100000 in
set_option maxHeartbeats 1000000 in
theorem exchange_any (w : World) (B g m C gr cr gx cx i k : Nat) (s : St) (hi : i < m) (hk : k < m) (hm : m ≤ 64) (hS : Sys w B g m C gr cr gx cx s) :
    Calls Try.prog 52 #[.pointer (some ⟨g, 0, none⟩), .int .i64 (i : Int), .int .i64 (k : Int)] w fun e W => (∃ v, e = .returned v) ∧ Sys W B g m C gr cr gx cx ⟨BM.swp s.R i k, BM.swp s.r i k, s.P⟩ ∧ Below B w W ∧ ∀ p : Addr, p.block ≠ gr → p.block ≠ gx → W.cell? p = w.cell? p := by
  have c1 := hS.c1
  obtain ⟨hi1, hi2⟩ := hS.cellR i hi
  obtain ⟨hk1, hk2⟩ := hS.cellR k hk
  have S1 := hS.setR i (s.R k)
  obtain ⟨w1, hw1⟩ : ∃ w1, w.setCell ⟨gr, i, none⟩ (.int .u64 ((s.R k).toNat : Int)) = w1 := ⟨_, rfl⟩
  rw [hw1] at S1
  have hB1 : Below B w w1 := by rw [← hw1]; exact (Below.refl B w).setCell (p := ⟨gr, i, none⟩) (hS.bR (by omega)) _
  obtain ⟨hl1, hl2⟩ := S1.cellR k hk
  have S2 := S1.setR k (s.R i)
  obtain ⟨w2, hw2⟩ : ∃ w2, w1.setCell ⟨gr, k, none⟩ (.int .u64 ((s.R i).toNat : Int)) = w2 := ⟨_, rfl⟩
  rw [hw2] at S2
  have hB2 : Below B w w2 := by rw [← hw2]; exact hB1.setCell (p := ⟨gr, k, none⟩) (hS.bR (by omega)) _
  rw [show (⟨upd (⟨upd s.R i (s.R k), s.r, s.P⟩ : St).R k (s.R i), (⟨upd s.R i (s.R k), s.r, s.P⟩ : St).r, (⟨upd s.R i (s.R k), s.r, s.P⟩ : St).P⟩ : St) = ⟨BM.swp s.R i k, s.r, s.P⟩ by rw [← swp_upd]] at S2
  have d2 := S2.c2
  have hj1 : w2.cell? ⟨gx, i, none⟩ = some (.int .u64 ((s.r i).toNat : Int)) := (S2.cellX i hi).1
  have hj2 := (S2.cellX i hi).2
  have hm1 : w2.cell? ⟨gx, k, none⟩ = some (.int .u64 ((s.r k).toNat : Int)) := (S2.cellX k hk).1
  have S3 := S2.setX i (s.r k)
  obtain ⟨w3, hw3⟩ : ∃ w3, w2.setCell ⟨gx, i, none⟩ (.int .u64 ((s.r k).toNat : Int)) = w3 := ⟨_, rfl⟩
  rw [hw3] at S3
  have hB3 : Below B w w3 := by rw [← hw3]; exact hB2.setCell (p := ⟨gx, i, none⟩) (hS.bX (by omega)) _
  obtain ⟨ho1, ho2⟩ := S3.cellX k hk
  have S4 := S3.setX k (s.r i)
  obtain ⟨w4, hw4⟩ : ∃ w4, w3.setCell ⟨gx, k, none⟩ (.int .u64 ((s.r i).toNat : Int)) = w4 := ⟨_, rfl⟩
  rw [hw4] at S4
  have hB4 : Below B w w4 := by rw [← hw4]; exact hB3.setCell (p := ⟨gx, k, none⟩) (hS.bX (by omega)) _
  have S5 : Sys w4 B g m C gr cr gx cx ⟨BM.swp s.R i k, BM.swp s.r i k, s.P⟩ := by
    have e : BM.swp s.r i k = upd (upd s.r i (s.r k)) k (s.r i) := (swp_upd _ _ _).symm
    rw [e]; exact S4
  obtain ⟨r1, r2, r3, r4⟩ := hS.room
  have hK : ∀ p : Addr, p.block ≠ gr → p.block ≠ gx → w4.cell? p = w.cell? p := fun p h1 h2 => by
    rw [← hw4, cell_other _ (show p.block ≠ gx from h2), ← hw3, cell_other _ (show p.block ≠ gx from h2), ← hw2, cell_other _ (show p.block ≠ gr from h1), ← hw1, cell_other _ (show p.block ≠ gr from h1)]
  have HK := Lib.hid hK
  have H5 := Lib.hid S5
  have HB := Lib.hid hB4
  clear hS S1 S2 S3 S4 S5 hB1 hB2 hB3 hB4 hK
  go_enter Try.func52, Try.ntmps52
  go_wp2_with fail
  go_region
  go_wp2_with fail
  go_region
  go_wp2_with fail
  go_end0
  exact ⟨⟨_, rfl⟩, H5.out.drewN 2, belowN HB.out 2, HK.out⟩
end Go.Proofs.Ytodiokladojnjaa.B
