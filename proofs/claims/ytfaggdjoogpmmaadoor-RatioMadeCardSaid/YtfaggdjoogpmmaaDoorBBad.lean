/- nat.Valid and the reference's Valid of what is no number. -/
import Derived.Test.YtfaggdjoogpmmaaDoorB10
namespace Go.Proofs.YtfaggdjoogpmmaaDoor
open Go Go.RowKit Go.Shelf

/-- Why a list of limbs is no number. -/
theorem not_vld {zs : List Int} (h : ¬ Vld zs) : 200 < zs.length ∨ (zs.length ≤ 200 ∧ 0 < zs.length ∧ M.el zs (zs.length - 1) = 0) ∨
    (zs.length ≤ 200 ∧ (0 < zs.length → M.el zs (zs.length - 1) ≠ 0) ∧ ∃ j, j < zs.length ∧ (M.el zs j < 0 ∨ 16777215 < M.el zs j) ∧ ∀ i, i < j → 0 ≤ M.el zs i ∧ M.el zs i ≤ 16777215) := by
  by_cases h1 : 200 < zs.length
  · exact .inl h1
  by_cases h2 : 0 < zs.length ∧ M.el zs (zs.length - 1) = 0
  · exact .inr (.inl ⟨by omega, h2⟩)
  refine .inr (.inr ⟨by omega, fun h3 h4 => h2 ⟨h3, h4⟩, ?_⟩)
  have hx : ∃ j, j < zs.length ∧ (M.el zs j < 0 ∨ 16777215 < M.el zs j) := by
    refine Classical.byContradiction fun hn => h ⟨by omega, fun h3 h4 => h2 ⟨h3, h4⟩, M.lim_of_get fun i hi => ?_⟩
    refine Classical.byContradiction fun hi2 => hn ⟨i, hi, ?_⟩
    omega
  have : ∀ n : Nat, (∃ j, j < n ∧ j < zs.length ∧ (M.el zs j < 0 ∨ 16777215 < M.el zs j)) → ∃ j, j < zs.length ∧ (M.el zs j < 0 ∨ 16777215 < M.el zs j) ∧ ∀ i, i < j → 0 ≤ M.el zs i ∧ M.el zs i ≤ 16777215 := by
    intro n
    induction n with
    | zero => rintro ⟨j, hj, _⟩; omega
    | succ n ih =>
      rintro ⟨j, hj, hl, hb⟩
      by_cases hs : ∃ i, i < n ∧ i < zs.length ∧ (M.el zs i < 0 ∨ 16777215 < M.el zs i)
      · exact ih hs
      · refine ⟨j, hl, hb, fun i hi => ?_⟩
        refine Classical.byContradiction fun hi2 => hs ⟨i, by omega, by omega, by omega⟩
  obtain ⟨j, hj, hb⟩ := hx
  exact this zs.length ⟨j, hj, hj, hb⟩

set_option maxRecDepth 100000 in
set_option maxHeartbeats 1000000 in
theorem valid_no (a : Option Addr) (zs : List Int) (cap : Nat) (w : World) (hR : Row w a zs cap) (hV : ¬ Vld zs) :
    Calls Tryd.prog 42 #[.agg #[.slice a zs.length cap]] w fun e W' => e = .returned (.bool false) ∧ Below w.heap.size w W' := by
  have hroom := hR.room
  have hmost := hR.most
  have HR := Lib.hid (hR.alloc (.cells #[.slice a zs.length cap] 24))
  clear hR
  rcases not_vld hV with h1 | ⟨h1, h2, h3⟩ | ⟨h1, h2, j, hj, hb, hi⟩
  · clear hV
    go_enter Tryd.func42, Tryd.ntmps42
    go_wp2_with fail
    go_ret
    exact ⟨rfl, (Below.refl _ w).alloc (Nat.le_refl _) _⟩
  · clear hV
    obtain ⟨b, off, rfl, hc⟩ := HR.out.el (zs.length - 1) (by omega)
    have hz : (M.el zs (zs.length - 1) == 0) = true := by rw [h3]; rfl
    clear h3
    go_enter Tryd.func42, Tryd.ntmps42
    go_wp2_with fail
    go_ret
    exact ⟨rfl, (Below.refl _ w).alloc (Nat.le_refl _) _⟩
  · have h0 : 0 < zs.length := by omega
    obtain ⟨b, off, rfl, hc⟩ := HR.out.el (zs.length - 1) (by omega)
    have hz : (M.el zs (zs.length - 1) == 0) = false := by simp [h2 h0]
    have HI := Lib.hid hi
    clear hV h2 hi
    go_enter Tryd.func42, Tryd.ntmps42
    go_wp2_with fail
    go_loop [27] (fun i => ∃ k : Nat, k ≤ j ∧ i = .int .i64 k) (fun i => zs.length - (intOf i).toNat)
    case atStart => exact ⟨0, Nat.zero_le _, rfl⟩
    case round =>
      obtain ⟨k, hk, rfl⟩ := hrel
      have hck := HR.out.cell k (by omega)
      by_cases hlt : k < j
      · have hl := HI.out k hlt
        obtain ⟨l1, l2⟩ := hl
        go_wp2_with fail
        go_round
        case rel => exact ⟨k + 1, by omega, by go_num⟩
        case measure => simp [intOf]; omega
      · obtain rfl : k = j := by omega
        by_cases hn : M.el zs k < 0
        · clear hb
          go_wp2_with fail
          go_ret
          exact ⟨rfl, (Below.refl _ w).alloc (Nat.le_refl _) _⟩
        · have hm : 16777215 < M.el zs k := by omega
          clear hb
          go_wp2_with fail
          go_ret
          exact ⟨rfl, (Below.refl _ w).alloc (Nat.le_refl _) _⟩

set_option maxRecDepth 100000 in
set_option maxHeartbeats 1000000 in
theorem rvalid_no (a : Option Addr) (zs : List Int) (cap : Nat) (w : World) (hR : Row w a zs cap) (hV : ¬ Vld zs) :
    Calls Tryd.prog 67 #[.agg #[.slice a zs.length cap]] w fun e W' => e = .returned (.bool false) ∧ Below w.heap.size w W' := by
  have hroom := hR.room
  have hmost := hR.most
  have HR := Lib.hid (hR.alloc (.cells #[.slice a zs.length cap] 24))
  clear hR
  rcases not_vld hV with h1 | ⟨h1, h2, h3⟩ | ⟨h1, h2, j, hj, hb, hi⟩
  · clear hV
    go_enter Tryd.func67, Tryd.ntmps67
    go_wp2_with fail
    go_ret
    exact ⟨rfl, (Below.refl _ w).alloc (Nat.le_refl _) _⟩
  · clear hV
    obtain ⟨b, off, rfl, hc⟩ := HR.out.el (zs.length - 1) (by omega)
    have e1 : off + ((zs.length : Int) - 1).toNat = off + (zs.length - 1) := by omega
    have hz : (M.el zs (zs.length - 1) == 0) = true := by rw [h3]; rfl
    clear h3
    go_enter Tryd.func67, Tryd.ntmps67
    go_wp2_with fail
    go_ret
    exact ⟨rfl, (Below.refl _ w).alloc (Nat.le_refl _) _⟩
  · have h0 : 0 < zs.length := by omega
    obtain ⟨b, off, rfl, hc⟩ := HR.out.el (zs.length - 1) (by omega)
    have e1 : off + ((zs.length : Int) - 1).toNat = off + (zs.length - 1) := by omega
    have hz : (M.el zs (zs.length - 1) == 0) = false := by simp [h2 h0]
    have HI := Lib.hid hi
    clear hV h2 hi
    go_enter Tryd.func67, Tryd.ntmps67
    go_wp2_with fail
    go_loop [4] (fun i => ∃ k : Nat, k ≤ j ∧ i = .int .i64 k) (fun i => zs.length - (intOf i).toNat)
    case atStart => exact ⟨0, Nat.zero_le _, rfl⟩
    case round =>
      obtain ⟨k, hk, rfl⟩ := hrel
      have hck := HR.out.cell k (by omega)
      by_cases hlt : k < j
      · have hl := HI.out k hlt
        obtain ⟨l1, l2⟩ := hl
        go_wp2_with fail
        go_round
        case rel => exact ⟨k + 1, by omega, by go_num⟩
        case measure => simp [intOf]; omega
      · obtain rfl : k = j := by omega
        by_cases hn : M.el zs k < 0
        · clear hb
          go_wp2_with fail
          go_ret
          exact ⟨rfl, (Below.refl _ w).alloc (Nat.le_refl _) _⟩
        · have hm : 16777215 < M.el zs k := by omega
          clear hb
          go_wp2_with fail
          go_ret
          exact ⟨rfl, (Below.refl _ w).alloc (Nat.le_refl _) _⟩
end Go.Proofs.YtfaggdjoogpmmaaDoor
