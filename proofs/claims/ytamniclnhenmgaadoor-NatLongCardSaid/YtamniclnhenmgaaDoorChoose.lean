/- nat.Choose. -/
import Derived.Test.YtamniclnhenmgaaDoorShrink
import Derived.Test.YtamniclnhenmgaaDoorClone
import Derived.Test.YtamniclnhenmgaaDoorBinom
namespace Go.Proofs.YtamniclnhenmgaaDoor
open Go Go.RowKit Go.Shelf

/-- What holds in Choose's loop: the sets of i out of n things. -/
def ChRel (w : World) (n m : Nat) (s i : Value) (W : World) : Prop :=
  ∃ (k : Nat) (a : Option Addr) (cap : Nat), i = .int .i64 (k : Int) ∧ k ≤ m ∧ s = .slice a (M.dig (M.ch n k)).length cap ∧ Own W (w.heap.size + 1) (.slice a (M.dig (M.ch n k)).length cap) (M.dig (M.ch n k)) ∧
    W.cell? ⟨w.heap.size, 0, none⟩ = some (.slice none 0 0) ∧ W.frozen? ⟨w.heap.size, 0, none⟩ = false ∧ Below w.heap.size w W

theorem own_one (w : World) (B : Nat) (h : B ≤ w.heap.size) : Own (w.alloc (.cells #[.int .i64 1] 3)) B (.slice (some ⟨w.heap.size, 0, none⟩) 1 1) [1] := by
  have := World.ownsRow_made (base := B) (e := 3) (size := 1) w #[.int .i64 1] 1 h (by unfold maxLen; omega) rfl
  obtain ⟨h1, h2 | ⟨g, cap, cur, e, hb, hh, r⟩⟩ := this
  · cases h2.1
  · cases e
    refine ⟨rfl, .inr ⟨_, 1, cur, rfl, hb, hh, Nat.le_refl _, r.2.1, r.2.2.1, ?_⟩⟩
    have hh' := World.alloc_heap_new w (.cells #[.int .i64 1] 3)
    rw [hh'] at hh
    cases hh
    rfl
theorem dig_one : M.dig 1 = [1] := by rw [M.dig_pos (by omega), show 1 / 16777216 = 0 from rfl, M.dig_zero]; rfl

theorem pow24 (k : Nat) : 16777216 ^ k = 2 ^ (24 * k) := by rw [show (16777216 : Nat) = 2 ^ 24 from rfl, ← Nat.pow_mul]
theorem len_pow {n e k : Nat} (h : n < 2 ^ e) (he : e ≤ 24 * k) : (M.dig n).length ≤ k :=
  M.dig_len_le.2 (by rw [pow24]; exact Nat.lt_of_lt_of_le h (Nat.pow_le_pow_right (Nat.succ_pos 1) he))
theorem ch_dig_len {n : Nat} (hn : n ≤ 4096) (k : Nat) : (M.dig (M.ch n k)).length ≤ 175 :=
  len_pow (e := n + 1) (Nat.lt_of_le_of_lt (M.ch_le n k) (Nat.pow_lt_pow_right (Nat.lt_succ_self 1) (Nat.lt_succ_self n))) (by omega)

theorem Own.num' {W : World} {B : Nat} {v : Value} {n : Nat} {zs : List Int} (h : Own W B v zs) (e : M.dig n = zs) : Num W (.agg #[v]) n := by
  subst e; exact h.num

/-- One round of Choose, in numbers. -/
theorem ch_round {n k : Nat} (h : k < n) {ys : List Int} (hl : M.Lim ys) (hv : M.val ys = M.val (M.dig (M.ch n k)) * ((n - k : Nat) : Int) + ((0 : Nat) : Int)) : M.trimL (M.shr ((k + 1 : Nat) : Int) ys).2 = M.dig (M.ch n (k + 1)) := by
  have e : M.val ys = ((M.ch n k * (n - k) : Nat) : Int) := by rw [hv, M.val_dig, Int.natCast_mul]; simp
  rw [(M.shr_nat (by omega) hl e).1, Nat.mul_comm, M.ch_next n k h, Nat.mul_comm, Nat.mul_div_cancel _ (by omega)]

set_option maxRecDepth 100000 in
set_option maxHeartbeats 2000000 in
theorem choose_hi (n k0 : Nat) (w : World) (hn : n ≤ 4096) (hk0 : k0 ≤ n) (hle : n - k0 < k0) :
    Calls Tryd.prog 35 #[.int .i64 (n : Int), .int .i64 (k0 : Int)] w fun e W' => ∃ v, e = .returned (.tuple #[v, .int .i64 0]) ∧ Num W' v (M.ch n k0) ∧ Below w.heap.size w W' := by
  have HM := Lib.hid (show M.ch n (n - k0) = M.ch n k0 from M.ch_sym n k0 hk0)
  have HC := Lib.hid (cell_of_new w (.slice none 0 0) 24)
  have ho := own_one (w.alloc (.cells #[.slice none 0 0] 24)) (w.heap.size + 1) (by simp)
  rw [World.size_alloc] at ho
  have HO1 := Lib.hid ho
  clear ho
  have d1 : decide ((n : Int) < 0) = false := by simp
  have d2 : decide ((4096 : Int) < (n : Int)) = false := by simp; omega
  have d3 : decide ((k0 : Int) < 0) = false := by simp
  have d4 : decide (n < k0) = false := by simp; omega
  go_enter Tryd.func35, Tryd.ntmps35
  go_wp2_with fail
  go_loopw [6, 29] (fun s i wr => ChRel w n (n - k0) s i wr) (fun _ i _ => (n - k0) - (intOf i).toNat)
  case atStart => exact ⟨0, _, 1, rfl, Nat.zero_le _, by rw [M.ch_zero, dig_one]; rfl, by rw [M.ch_zero, dig_one]; exact HO1.out, cell_later _ HC.out.1, frozen_later _ HC.out.1 HC.out.2, ((Below.refl _ w).alloc (Nat.le_refl _) _).alloc (by simp) _⟩
  case round =>
    clear HO1 HC
    obtain ⟨k, a, cap, rfl, hk, rfl, hown, hc0, hf0, hbW⟩ := hrel
    have hsW := hbW.size
    have hw1 : w.heap.size + 1 ≤ wr.heap.size := by have := lt_of_cell hc0; simp at this; omega
    have HB := Lib.hid hbW
    clear hbW
    by_cases hlt : k < n - k0
    · have hlen := ch_dig_len hn k
      have hs := scale_any (w.heap.size + 1) a cap (M.dig (M.ch n k)) (n - k) 0 wr hw1 (by omega) (by omega) (M.lim_dig _) (by omega) hown
      rw [show ((n - k : Nat) : Int) = (n : Int) - (k : Int) from by omega] at hs
      have HS := Lib.hid hs
      clear hs hown
      go_wp2_with fail
      refine HS.out.mono ?_
      rintro e w1 ⟨a1, cap1, ys, rfl, ho1, hb1, hlim1, hl1, hv1⟩
      have HR := Lib.hid (ch_round (by omega) hlim1 hv1)
      clear hv1 HS
      have hc1 := (hb1.cell (p := ⟨w.heap.size, 0, none⟩) (by simp)).trans hc0
      have hf1 := (hb1.frozen (p := ⟨w.heap.size, 0, none⟩) (by simp)).trans hf0
      have hsh := shrink_any (w.heap.size + 1) a1 cap1 ys (k + 1) w1 (by omega) (by omega) hlim1 ho1
      have hw2 : w.heap.size + 1 ≤ w1.heap.size := Nat.le_trans hw1 hb1.size
      have HO1 := Lib.hid ho1
      have HB1 := Lib.hid hb1
      have HSH := Lib.hid hsh
      clear ho1 hb1 hsh hc0 hf0
      go_wp2_with fail
      refine HSH.out.mono ?_
      rintro e w2 ⟨rfl, ho2, hg2⟩
      have hb2 := below_of_grown HO1.out hg2 hw2
      have hc2 := (hb2.cell (p := ⟨w.heap.size, 0, none⟩) (by simp)).trans hc1
      have hf2 := (hb2.frozen (p := ⟨w.heap.size, 0, none⟩) (by simp)).trans hf1
      rw [← M.shr_len ((k + 1 : Nat) : Int) ys] at ho2
      have htr := trim_any a1 (M.shr ((k + 1 : Nat) : Int) ys).2 cap1 w2 ho2.rowAt
      have hot := ho2.trimmed
      rw [HR.out] at htr hot
      rw [M.shr_len] at htr
      obtain ⟨a3, cap3, hcut⟩ := cut_slice a1 cap1 (M.dig (M.ch n (k + 1)))
      rw [hcut] at htr hot
      have hw3 : w.heap.size + 1 ≤ w2.heap.size := Nat.le_trans hw2 hb2.size
      have HT := Lib.hid htr
      have HOT := Lib.hid hot
      have HB2 := Lib.hid hb2
      clear htr hot hb2 hg2 ho2 hcut HSH HO1 hc1 hf1
      go_wp2_with fail
      refine HT.out.mono ?_
      rintro e w3 ⟨rfl, hb3⟩
      have HB3 := Lib.hid hb3
      have hc3 := (hb3.cell (p := ⟨w.heap.size, 0, none⟩) hw3).trans hc2
      have hf3 := (hb3.frozen (p := ⟨w.heap.size, 0, none⟩) hw3).trans hf2
      clear hb3
      go_wp2_with fail
      go_roundw
      case rel => exact ⟨k + 1, a3, cap3, by go_num, by omega, rfl, HOT.out.below HB3.out, hc3, hf3, ((HB.out.trans (HB1.out.mono (by omega))).trans (HB2.out.mono (by omega))).trans (HB3.out.mono (by omega))⟩
      case measure => simp [intOf]; omega
    · have hkm : k = n - k0 := by omega
      have hnum : Own wr (w.heap.size + 1) (.slice a (M.dig (M.ch n k)).length cap) (M.dig (M.ch n k0)) := by
        have e : M.ch n k0 = M.ch n k := by first | (rw [hkm]; done) | (rw [hkm]; exact HM.out.symm)
        rw [e]; exact hown
      have HN := Lib.hid hnum
      clear hnum hown hkm
      go_wp2
      exact bodyPost_ret (v := .tuple #[.agg #[.slice a (M.dig (M.ch n k)).length cap], .int .i64 0]) (by simp [results, Tryd.results35, go_sem, hc0]) rfl ⟨.agg #[.slice a (M.dig (M.ch n k)).length cap], rfl, (HN.out.setBelow (p := ⟨w.heap.size, 0, none⟩) (by simp) _).num, HB.out.setCell (p := ⟨w.heap.size, 0, none⟩) (Nat.le_refl _) _⟩

set_option maxRecDepth 100000 in
set_option maxHeartbeats 2000000 in
theorem choose_lo (n k0 : Nat) (w : World) (hn : n ≤ 4096) (hk0 : k0 ≤ n) (hle : k0 ≤ n - k0) :
    Calls Tryd.prog 35 #[.int .i64 (n : Int), .int .i64 (k0 : Int)] w fun e W' => ∃ v, e = .returned (.tuple #[v, .int .i64 0]) ∧ Num W' v (M.ch n k0) ∧ Below w.heap.size w W' := by
  have HM := Lib.hid (show M.ch n (k0) = M.ch n k0 from rfl)
  have HC := Lib.hid (cell_of_new w (.slice none 0 0) 24)
  have ho := own_one (w.alloc (.cells #[.slice none 0 0] 24)) (w.heap.size + 1) (by simp)
  rw [World.size_alloc] at ho
  have HO1 := Lib.hid ho
  clear ho
  have d1 : decide ((n : Int) < 0) = false := by simp
  have d2 : decide ((4096 : Int) < (n : Int)) = false := by simp; omega
  have d3 : decide ((k0 : Int) < 0) = false := by simp
  have d4 : decide (n < k0) = false := by simp; omega
  go_enter Tryd.func35, Tryd.ntmps35
  go_wp2_with fail
  go_loopw [6, 29] (fun s i wr => ChRel w n (k0) s i wr) (fun _ i _ => (k0) - (intOf i).toNat)
  case atStart => exact ⟨0, _, 1, rfl, Nat.zero_le _, by rw [M.ch_zero, dig_one]; rfl, by rw [M.ch_zero, dig_one]; exact HO1.out, cell_later _ HC.out.1, frozen_later _ HC.out.1 HC.out.2, ((Below.refl _ w).alloc (Nat.le_refl _) _).alloc (by simp) _⟩
  case round =>
    clear HO1 HC
    obtain ⟨k, a, cap, rfl, hk, rfl, hown, hc0, hf0, hbW⟩ := hrel
    have hsW := hbW.size
    have hw1 : w.heap.size + 1 ≤ wr.heap.size := by have := lt_of_cell hc0; simp at this; omega
    have HB := Lib.hid hbW
    clear hbW
    by_cases hlt : k < k0
    · have hlen := ch_dig_len hn k
      have hs := scale_any (w.heap.size + 1) a cap (M.dig (M.ch n k)) (n - k) 0 wr hw1 (by omega) (by omega) (M.lim_dig _) (by omega) hown
      rw [show ((n - k : Nat) : Int) = (n : Int) - (k : Int) from by omega] at hs
      have HS := Lib.hid hs
      clear hs hown
      go_wp2_with fail
      refine HS.out.mono ?_
      rintro e w1 ⟨a1, cap1, ys, rfl, ho1, hb1, hlim1, hl1, hv1⟩
      have HR := Lib.hid (ch_round (by omega) hlim1 hv1)
      clear hv1 HS
      have hc1 := (hb1.cell (p := ⟨w.heap.size, 0, none⟩) (by simp)).trans hc0
      have hf1 := (hb1.frozen (p := ⟨w.heap.size, 0, none⟩) (by simp)).trans hf0
      have hsh := shrink_any (w.heap.size + 1) a1 cap1 ys (k + 1) w1 (by omega) (by omega) hlim1 ho1
      have hw2 : w.heap.size + 1 ≤ w1.heap.size := Nat.le_trans hw1 hb1.size
      have HO1 := Lib.hid ho1
      have HB1 := Lib.hid hb1
      have HSH := Lib.hid hsh
      clear ho1 hb1 hsh hc0 hf0
      go_wp2_with fail
      refine HSH.out.mono ?_
      rintro e w2 ⟨rfl, ho2, hg2⟩
      have hb2 := below_of_grown HO1.out hg2 hw2
      have hc2 := (hb2.cell (p := ⟨w.heap.size, 0, none⟩) (by simp)).trans hc1
      have hf2 := (hb2.frozen (p := ⟨w.heap.size, 0, none⟩) (by simp)).trans hf1
      rw [← M.shr_len ((k + 1 : Nat) : Int) ys] at ho2
      have htr := trim_any a1 (M.shr ((k + 1 : Nat) : Int) ys).2 cap1 w2 ho2.rowAt
      have hot := ho2.trimmed
      rw [HR.out] at htr hot
      rw [M.shr_len] at htr
      obtain ⟨a3, cap3, hcut⟩ := cut_slice a1 cap1 (M.dig (M.ch n (k + 1)))
      rw [hcut] at htr hot
      have hw3 : w.heap.size + 1 ≤ w2.heap.size := Nat.le_trans hw2 hb2.size
      have HT := Lib.hid htr
      have HOT := Lib.hid hot
      have HB2 := Lib.hid hb2
      clear htr hot hb2 hg2 ho2 hcut HSH HO1 hc1 hf1
      go_wp2_with fail
      refine HT.out.mono ?_
      rintro e w3 ⟨rfl, hb3⟩
      have HB3 := Lib.hid hb3
      have hc3 := (hb3.cell (p := ⟨w.heap.size, 0, none⟩) hw3).trans hc2
      have hf3 := (hb3.frozen (p := ⟨w.heap.size, 0, none⟩) hw3).trans hf2
      clear hb3
      go_wp2_with fail
      go_roundw
      case rel => exact ⟨k + 1, a3, cap3, by go_num, by omega, rfl, HOT.out.below HB3.out, hc3, hf3, ((HB.out.trans (HB1.out.mono (by omega))).trans (HB2.out.mono (by omega))).trans (HB3.out.mono (by omega))⟩
      case measure => simp [intOf]; omega
    · have hkm : k = k0 := by omega
      have hnum : Own wr (w.heap.size + 1) (.slice a (M.dig (M.ch n k)).length cap) (M.dig (M.ch n k0)) := by
        have e : M.ch n k0 = M.ch n k := by first | (rw [hkm]; done) | (rw [hkm]; exact HM.out.symm)
        rw [e]; exact hown
      have HN := Lib.hid hnum
      clear hnum hown hkm
      go_wp2
      exact bodyPost_ret (v := .tuple #[.agg #[.slice a (M.dig (M.ch n k)).length cap], .int .i64 0]) (by simp [results, Tryd.results35, go_sem, hc0]) rfl ⟨.agg #[.slice a (M.dig (M.ch n k)).length cap], rfl, (HN.out.setBelow (p := ⟨w.heap.size, 0, none⟩) (by simp) _).num, HB.out.setCell (p := ⟨w.heap.size, 0, none⟩) (Nat.le_refl _) _⟩

set_option maxRecDepth 100000 in
set_option maxHeartbeats 1000000 in
theorem choose_none (n : Nat) (k : Int) (w : World) (hn : n ≤ 4096) (hk : k < 0 ∨ (n : Int) < k) :
    Calls Tryd.prog 35 #[.int .i64 (n : Int), .int .i64 k] w fun e W' => e = .returned (.tuple #[.agg #[.slice none 0 0], .int .i64 0]) ∧ Below w.heap.size w W' := by
  have c0 := (cell_of_new w (.slice none 0 0) 24).1
  have d1 : decide ((n : Int) < 0) = false := by simp
  have d2 : decide ((4096 : Int) < (n : Int)) = false := by simp; omega
  by_cases h : k < 0
  · clear hk
    go_enter Tryd.func35, Tryd.ntmps35
    go_wp2
    exact bodyPost_ret (v := .tuple #[.agg #[.slice none 0 0], .int .i64 0]) (by simp [results, Tryd.results35, go_sem]) rfl ⟨rfl, (Below.refl _ w).alloc (Nat.le_refl _) _⟩
  · have h2 : (n : Int) < k := by omega
    have h3 : ¬ k < 0 := h
    clear hk h
    go_enter Tryd.func35, Tryd.ntmps35
    go_wp2
    exact bodyPost_ret (v := .tuple #[.agg #[.slice none 0 0], .int .i64 0]) (by simp [results, Tryd.results35, go_sem]) rfl ⟨rfl, (Below.refl _ w).alloc (Nat.le_refl _) _⟩

/-- The number of sets of k out of n things, for any k. -/
def chI (n : Nat) (k : Int) : Nat := if k < 0 then 0 else M.ch n k.toNat

theorem num_zero (W : World) : Num W (.agg #[.slice none 0 0]) 0 := (Own.nil W 0).num' (by rw [M.dig_zero])

/-- **nat.Choose** -/
theorem choose_num (n : Nat) (k : Int) (w : World) (hn : n ≤ 4096) :
    Calls Tryd.prog 35 #[.int .i64 (n : Int), .int .i64 k] w fun e W' => ∃ v, e = .returned (.tuple #[v, .int .i64 0]) ∧ Num W' v (chI n k) ∧ Below w.heap.size w W' := by
  by_cases h : k < 0 ∨ (n : Int) < k
  · refine (choose_none n k w hn h).mono ?_
    rintro e W' ⟨rfl, hb⟩
    refine ⟨_, rfl, ?_, hb⟩
    have : chI n k = 0 := by
      unfold chI
      split
      · rfl
      · exact M.ch_gt _ _ (by omega)
    rw [this]
    exact num_zero _
  · obtain ⟨k0, rfl⟩ : ∃ k0 : Nat, k = k0 := ⟨k.toNat, by omega⟩
    have e : chI n (k0 : Int) = M.ch n k0 := by unfold chI; rw [if_neg (by omega)]; rfl
    rw [e]
    rcases Nat.lt_or_ge (n - k0) k0 with h1 | h1
    · exact choose_hi n k0 w hn (by omega) h1
    · exact choose_lo n k0 w hn (by omega) h1
end Go.Proofs.YtamniclnhenmgaaDoor
