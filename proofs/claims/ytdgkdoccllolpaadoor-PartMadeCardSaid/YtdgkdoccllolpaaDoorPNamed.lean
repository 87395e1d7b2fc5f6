/- The reference's named. -/
import Derived.Test.YtdgkdoccllolpaaDoorPTab
namespace Go.Proofs.YtdgkdoccllolpaaDoor.P
open Go Go.RowKit Go.Shelf
open G
theorem nm_other {k : Int} (h1 : ¬ k = 1) (h2 : ¬ k = 2) (h3 : ¬ k = 3) (h4 : ¬ k = 4) (h5 : ¬ k = 5) (h6 : ¬ k = 6) : (∀ j, nmB k j = false) ∧ knB k = false := by
  unfold nmB knB
  exact ⟨fun j => by rw [if_neg h1, if_neg h2, if_neg h3, if_neg h4, if_neg h5, if_neg h6], by rw [decide_eq_false_iff_not]; omega⟩
section
attribute [local semireducible] nmB knB
theorem nm_1 : nmB 1 0 = true ∧ nmB 1 1 = true ∧ nmB 1 2 = true ∧ nmB 1 3 = true ∧ nmB 1 4 = true ∧ nmB 1 5 = true ∧ knB 1 = true := by decide
theorem nm_2 : nmB 2 0 = true ∧ nmB 2 1 = true ∧ nmB 2 2 = true ∧ nmB 2 3 = true ∧ nmB 2 4 = true ∧ nmB 2 5 = false ∧ knB 2 = true := by decide
theorem nm_3 : nmB 3 0 = true ∧ nmB 3 1 = true ∧ nmB 3 2 = true ∧ nmB 3 3 = true ∧ nmB 3 4 = false ∧ nmB 3 5 = true ∧ knB 3 = true := by decide
theorem nm_4 : nmB 4 0 = true ∧ nmB 4 1 = true ∧ nmB 4 2 = true ∧ nmB 4 3 = true ∧ nmB 4 4 = false ∧ nmB 4 5 = false ∧ knB 4 = true := by decide
theorem nm_5 : nmB 5 0 = true ∧ nmB 5 1 = true ∧ nmB 5 2 = true ∧ nmB 5 3 = false ∧ nmB 5 4 = false ∧ nmB 5 5 = false ∧ knB 5 = true := by decide
theorem nm_6 : nmB 6 0 = true ∧ nmB 6 1 = true ∧ nmB 6 2 = false ∧ nmB 6 3 = false ∧ nmB 6 4 = false ∧ nmB 6 5 = false ∧ knB 6 = true := by decide
end
set_option maxRecDepth 100000 in
set_option maxHeartbeats 1000000 in
theorem named_any (k : Int) (W : World) :
    Calls Tryd.prog 44 #[.int .i64 k] W fun e W' => e = .returned (.tuple #[.agg #[.bool (nmB k 0), .bool (nmB k 1), .bool (nmB k 2), .bool (nmB k 3), .bool (nmB k 4), .bool (nmB k 5)], .bool (knB k)]) ∧ Below W.heap.size W W' := by
  by_cases h1 : k = 1
  · obtain ⟨n0, n1, n2, n3, n4, n5, nk⟩ := nm_1
    rw [h1, n0, n1, n2, n3, n4, n5, nk]
    clear n0 n1 n2 n3 n4 n5 nk h1
    go_enter Tryd.func44, Tryd.ntmps44
    go_wp2_with fail
    exact bodyPost_ret (v := .tuple #[.agg #[.bool true, .bool true, .bool true, .bool true, .bool true, .bool true], .bool true]) (by simp [results, Tryd.results44, go_sem]) rfl ⟨rfl, (Below.refl _ W).alloc (Nat.le_refl _) _⟩
  by_cases h2 : k = 2
  · obtain ⟨n0, n1, n2, n3, n4, n5, nk⟩ := nm_2
    rw [h2, n0, n1, n2, n3, n4, n5, nk]
    clear n0 n1 n2 n3 n4 n5 nk h1 h2
    go_enter Tryd.func44, Tryd.ntmps44
    go_wp2_with fail
    exact bodyPost_ret (v := .tuple #[.agg #[.bool true, .bool true, .bool true, .bool true, .bool true, .bool false], .bool true]) (by simp [results, Tryd.results44, go_sem]) rfl ⟨rfl, (Below.refl _ W).alloc (Nat.le_refl _) _⟩
  by_cases h3 : k = 3
  · obtain ⟨n0, n1, n2, n3, n4, n5, nk⟩ := nm_3
    rw [h3, n0, n1, n2, n3, n4, n5, nk]
    clear n0 n1 n2 n3 n4 n5 nk h1 h2 h3
    go_enter Tryd.func44, Tryd.ntmps44
    go_wp2_with fail
    exact bodyPost_ret (v := .tuple #[.agg #[.bool true, .bool true, .bool true, .bool true, .bool false, .bool true], .bool true]) (by simp [results, Tryd.results44, go_sem]) rfl ⟨rfl, (Below.refl _ W).alloc (Nat.le_refl _) _⟩
  by_cases h4 : k = 4
  · obtain ⟨n0, n1, n2, n3, n4, n5, nk⟩ := nm_4
    rw [h4, n0, n1, n2, n3, n4, n5, nk]
    clear n0 n1 n2 n3 n4 n5 nk h1 h2 h3 h4
    go_enter Tryd.func44, Tryd.ntmps44
    go_wp2_with fail
    exact bodyPost_ret (v := .tuple #[.agg #[.bool true, .bool true, .bool true, .bool true, .bool false, .bool false], .bool true]) (by simp [results, Tryd.results44, go_sem]) rfl ⟨rfl, (Below.refl _ W).alloc (Nat.le_refl _) _⟩
  by_cases h5 : k = 5
  · obtain ⟨n0, n1, n2, n3, n4, n5, nk⟩ := nm_5
    rw [h5, n0, n1, n2, n3, n4, n5, nk]
    clear n0 n1 n2 n3 n4 n5 nk h1 h2 h3 h4 h5
    go_enter Tryd.func44, Tryd.ntmps44
    go_wp2_with fail
    exact bodyPost_ret (v := .tuple #[.agg #[.bool true, .bool true, .bool true, .bool false, .bool false, .bool false], .bool true]) (by simp [results, Tryd.results44, go_sem]) rfl ⟨rfl, (Below.refl _ W).alloc (Nat.le_refl _) _⟩
  by_cases h6 : k = 6
  · obtain ⟨n0, n1, n2, n3, n4, n5, nk⟩ := nm_6
    rw [h6, n0, n1, n2, n3, n4, n5, nk]
    clear n0 n1 n2 n3 n4 n5 nk h1 h2 h3 h4 h5 h6
    go_enter Tryd.func44, Tryd.ntmps44
    go_wp2_with fail
    exact bodyPost_ret (v := .tuple #[.agg #[.bool true, .bool true, .bool false, .bool false, .bool false, .bool false], .bool true]) (by simp [results, Tryd.results44, go_sem]) rfl ⟨rfl, (Below.refl _ W).alloc (Nat.le_refl _) _⟩
  obtain ⟨hn, hk⟩ := nm_other h1 h2 h3 h4 h5 h6
  rw [hn, hn, hn, hn, hn, hn, hk]
  clear hn hk
  go_enter Tryd.func44, Tryd.ntmps44
  go_wp2_with fail
  exact bodyPost_ret (v := .tuple #[.agg #[.bool false, .bool false, .bool false, .bool false, .bool false, .bool false], .bool false]) (by simp [results, Tryd.results44, go_sem]) rfl ⟨rfl, (Below.refl _ W).alloc (Nat.le_refl _) _⟩
end Go.Proofs.YtdgkdoccllolpaaDoor.P
