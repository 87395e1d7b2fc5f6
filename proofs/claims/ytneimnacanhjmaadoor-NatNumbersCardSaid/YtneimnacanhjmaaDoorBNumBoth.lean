/- Both Of, both Power, both Choose, both Parse answer the same. -/
import Derived.Test.YtneimnacanhjmaaDoorBBoth
import Derived.Test.YtneimnacanhjmaaDoorBOfAll
import Derived.Test.YtneimnacanhjmaaDoorBRefPow
import Derived.Test.YtneimnacanhjmaaDoorBNumBad
import Derived.Test.YtneimnacanhjmaaDoorBRefChoose
import Derived.Test.YtneimnacanhjmaaDoorBRefParse
namespace Go.Proofs.YtneimnacanhjmaaDoor
open Go Go.RowKit Go.Shelf

theorem rchoose_num (n : Nat) (k : Int) (w : World) (hn : n ≤ 4096) :
    Calls Tryd.prog 36 #[.int .i64 (n : Int), .int .i64 k] w fun e W' => ∃ v, e = .returned (.tuple #[v, .int .i64 0]) ∧ Num W' v (chI n k) ∧ Below w.heap.size w W' := by
  by_cases h : k < 0 ∨ (n : Int) < k
  · refine (rchoose_none n k w hn h).mono ?_
    rintro e W' ⟨rfl, hb⟩
    refine ⟨_, rfl, ?_, hb⟩
    have : chI n k = 0 := by
      unfold chI
      split
      · rfl
      · exact M.ch_gt _ _ (by omega)
    rw [this]
    exact num_zero _
  · obtain ⟨k0, rfl⟩ : ∃ k0 : Nat, k = k0 := ⟨k.toNat, by omega⟩
    have e : chI n (k0 : Int) = M.ch n k0 := by unfold chI; rw [if_neg (by omega)]; rfl
    rw [e]
    rcases Nat.lt_or_ge (n - k0) k0 with h1 | h1
    · exact rchoose_hi n k0 w hn (by omega) h1
    · exact rchoose_lo n k0 w hn (by omega) h1

theorem of_two (n : Int) (hn : n ≤ 9223372036854775807) : ∃ (E : Int) (m : Nat),
    (∀ w : World, Calls Tryd.prog 31 #[.int .i64 n] w fun e W' => NRes E m e W' ∧ Below w.heap.size w W') ∧
    (∀ w : World, Calls Tryd.prog 32 #[.int .i64 n] w fun e W' => NRes E m e W' ∧ Below w.heap.size w W') := by
  by_cases h : n < 0
  · exact ⟨2, 0, fun w => (of_neg n w h).mono fun e W ⟨he, hb⟩ => ⟨by subst he; exact NRes.none, hb⟩, fun w => (rof_neg n w h).mono fun e W ⟨he, hb⟩ => ⟨by subst he; exact NRes.none, hb⟩⟩
  · obtain ⟨N, rfl⟩ : ∃ N : Nat, n = N := ⟨n.toNat, by omega⟩
    exact ⟨0, N, fun w => (of_any N w (by omega)).mono fun e W ⟨v, he, hv, hb⟩ => ⟨by subst he; exact hv.res, hb⟩, fun w => (rof_any N w (by omega)).mono fun e W ⟨v, he, hv, hb⟩ => ⟨by subst he; exact hv.res, hb⟩⟩

theorem power_two (x : Nat) (n : Int) (hx : (M.dig x).length ≤ 200) : ∃ (E : Int) (m : Nat),
    (∀ (a : Option Addr) (ca : Nat) (w : World), Row w a (M.dig x) ca → Calls Tryd.prog 33 #[.agg #[.slice a (M.dig x).length ca], .int .i64 n] w fun e W' => NRes E m e W' ∧ Below w.heap.size w W') ∧
    (∀ (a : Option Addr) (ca : Nat) (w : World), Row w a (M.dig x) ca → Calls Tryd.prog 34 #[.agg #[.slice a (M.dig x).length ca], .int .i64 n] w fun e W' => NRes E m e W' ∧ Below w.heap.size w W') := by
  by_cases h : n < 0 ∨ 4800 < n
  · exact ⟨2, 0, fun a ca w hR => (power_range a ca x n w hx h hR).mono fun e W ⟨he, hb⟩ => ⟨by subst he; exact NRes.none, hb⟩, fun a ca w hR => (rpower_range a ca x n w hx h hR).mono fun e W ⟨he, hb⟩ => ⟨by subst he; exact NRes.none, hb⟩⟩
  · obtain ⟨N, rfl⟩ : ∃ N : Nat, n = N := ⟨n.toNat, by omega⟩
    exact ⟨_, _, fun a ca w hR => (power_any a ca x N w hx (by omega) hR).mono fun e W ⟨he, hb⟩ => ⟨he.res, hb⟩, fun a ca w hR => (rpower_any a ca x N w hx (by omega) hR).mono fun e W ⟨he, hb⟩ => ⟨he.res, hb⟩⟩

theorem choose_two (n k : Int) : ∃ (E : Int) (m : Nat),
    (∀ w : World, Calls Tryd.prog 35 #[.int .i64 n, .int .i64 k] w fun e W' => NRes E m e W' ∧ Below w.heap.size w W') ∧
    (∀ w : World, Calls Tryd.prog 36 #[.int .i64 n, .int .i64 k] w fun e W' => NRes E m e W' ∧ Below w.heap.size w W') := by
  by_cases h : n < 0 ∨ 4096 < n
  · exact ⟨2, 0, fun w => (choose_range n k w h).mono fun e W ⟨he, hb⟩ => ⟨by subst he; exact NRes.none, hb⟩, fun w => (rchoose_range n k w h).mono fun e W ⟨he, hb⟩ => ⟨by subst he; exact NRes.none, hb⟩⟩
  · obtain ⟨N, rfl⟩ : ∃ N : Nat, n = N := ⟨n.toNat, by omega⟩
    exact ⟨0, _, fun w => (choose_num N k w (by omega)).mono fun e W ⟨v, he, hv, hb⟩ => ⟨by subst he; exact hv.res, hb⟩, fun w => (rchoose_num N k w (by omega)).mono fun e W ⟨v, he, hv, hb⟩ => ⟨by subst he; exact hv.res, hb⟩⟩

theorem parse_two (s : ByteArray) : ∃ (E : Int) (m : Nat),
    (∀ w : World, Calls Tryd.prog 37 #[.string s] w fun e W' => NRes E m e W' ∧ Below w.heap.size w W') ∧
    (∀ w : World, Calls Tryd.prog 38 #[.string s] w fun e W' => NRes E m e W' ∧ Below w.heap.size w W') := by
  by_cases h : 1445 < s.size
  · exact ⟨3, 0, fun w => (parse_long s w h).mono fun e W ⟨he, hb⟩ => ⟨by subst he; exact NRes.none, hb⟩, fun w => (rparse_long s w h).mono fun e W ⟨he, hb⟩ => ⟨by subst he; exact NRes.none, hb⟩⟩
  · by_cases hd : decB s = true
    · refine ⟨_, _, fun w => (parse_dec s w (by omega) hd).mono fun e W ⟨he, hb⟩ => ⟨he.res, hb⟩, fun w => (rparse_any s w (by omega)).mono fun e W ⟨he, hb⟩ => ⟨?_, hb⟩⟩
      rcases he with ⟨_, he⟩ | ⟨hf, _⟩
      · exact he.res
      · rw [hd] at hf; cases hf
    · have hd' : decB s = false := Bool.eq_false_iff.2 hd
      refine ⟨12, 0, fun w => (parse_form s w (by omega) hd').mono fun e W ⟨he, hb⟩ => ⟨by subst he; exact NRes.none, hb⟩, fun w => (rparse_any s w (by omega)).mono fun e W ⟨he, hb⟩ => ⟨?_, hb⟩⟩
      rcases he with ⟨hf, _⟩ | ⟨_, he⟩
      · rw [hd'] at hf; cases hf
      · subst he; exact NRes.none
end Go.Proofs.YtneimnacanhjmaaDoor
