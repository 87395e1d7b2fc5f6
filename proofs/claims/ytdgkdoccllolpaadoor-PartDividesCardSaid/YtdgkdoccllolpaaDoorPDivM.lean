/- PartDivides: the parts of one kind divide the words: mathematics. -/
import Derived.Test.YtdgkdoccllolpaaDoorPCovM
import Derived.Test.YtdgkdoccllolpaaDoorGInt
namespace Go.Proofs.YtdgkdoccllolpaaDoor.P
open Go Go.RowKit Go.Shelf
section
attribute [local semireducible] covB Cov
theorem cov_iff {k : Int} {a b : Nat → Int} (hk : knB k = true) : covB k a b = true ↔ ∀ j, j < 6 → nmB k j = true → a j = b j := by
  unfold covB
  rw [hk, Bool.true_and, decide_eq_true_iff]
  exact Iff.rfl
end
theorem cov_refl {k : Int} (hk : knB k = true) (a : Nat → Int) : covB k a a = true := (cov_iff hk).2 (fun _ _ _ => rfl)
theorem cov_symm {k : Int} {a b : Nat → Int} (hk : knB k = true) (h : covB k a b = true) : covB k b a = true := (cov_iff hk).2 (fun j hj hn => ((cov_iff hk).1 h j hj hn).symm)
theorem cov_trans {k : Int} {a b c : Nat → Int} (hk : knB k = true) (h : covB k a b = true) (h2 : covB k b c = true) : covB k a c = true := (cov_iff hk).2 (fun j hj hn => ((cov_iff hk).1 h j hj hn).trans ((cov_iff hk).1 h2 j hj hn))
/-- The part of i. -/
def LL (x : Nat → Int) (k : Int) (sz i : Nat) : List Nat := cvF x k (atP x (i : Int)) sz
theorem LL_eq (x : Nat → Int) (k : Int) (sz i : Nat) : cvF x k (atP x (i : Int)) sz = LL x k sz i := rfl
def CC (x : Nat → Int) (k : Int) (i y : Nat) : Bool := covB k (atP x (i : Int)) (atP x (y : Int))
theorem mem_LL {x : Nat → Int} {k : Int} {sz i y : Nat} : y ∈ LL x k sz i ↔ y < sz ∧ CC x k i y = true := by
  unfold LL CC cvF
  rw [List.mem_filter, List.mem_range]
theorem LL_sorted (x : Nat → Int) (k : Int) (sz i : Nat) : (LL x k sz i).Pairwise (· < ·) := by
  unfold LL cvF
  exact List.Pairwise.filter _ List.pairwise_lt_range
theorem LL_len (x : Nat → Int) (k : Int) (sz i : Nat) : (LL x k sz i).length ≤ sz := cvF_len _ _ _ _
def hdL (x : Nat → Int) (k : Int) (sz i : Nat) : Nat := G.el (LL x k sz i) 0
theorem hd_spec {x : Nat → Int} {k : Int} {sz i : Nat} (hk : knB k = true) (hi : i < sz) : 0 < (LL x k sz i).length ∧ hdL x k sz i ∈ LL x k sz i ∧ ∀ y, y ∈ LL x k sz i → hdL x k sz i ≤ y := by
  have hm : i ∈ LL x k sz i := mem_LL.2 ⟨hi, cov_refl hk _⟩
  have hl : 0 < (LL x k sz i).length := List.length_pos_of_mem hm
  refine ⟨hl, G.el_mem hl, fun y hy => ?_⟩
  obtain ⟨j, hj, rfl⟩ := List.getElem_of_mem hy
  unfold hdL
  rw [G.el_lt hl]
  by_cases e : j = 0
  · subst e; exact Nat.le_refl _
  · exact Nat.le_of_lt (List.pairwise_iff_getElem.1 (LL_sorted x k sz i) 0 j hl hj (by omega))
theorem hdL_eq (x : Nat → Int) (k : Int) (sz i : Nat) : G.el (LL x k sz i) 0 = hdL x k sz i := rfl
/-- How often y has been counted. -/
def TT (x : Nat → Int) (k : Int) (sz m y : Nat) : Nat := if (List.range m).any (fun i => hdL x k sz i == i && CC x k i y) then 1 else 0
theorem TT_zero (x : Nat → Int) (k : Int) (sz y : Nat) : TT x k sz 0 y = 0 := rfl
theorem TT_le (x : Nat → Int) (k : Int) (sz m y : Nat) : TT x k sz m y ≤ 1 := by unfold TT; split <;> omega
theorem TT_no {x : Nat → Int} {k : Int} {sz m : Nat} (h : hdL x k sz m ≠ m) (y : Nat) : TT x k sz (m + 1) y = TT x k sz m y := by
  unfold TT
  rw [List.range_succ, List.any_append]
  have : (hdL x k sz m == m) = false := by simpa using h
  simp [this]
theorem TT_yes {x : Nat → Int} {k : Int} {sz m y : Nat} (hk : knB k = true) (hm : m < sz) (h : hdL x k sz m = m) : TT x k sz (m + 1) y = TT x k sz m y + (if CC x k m y then 1 else 0) := by
  unfold TT
  rw [List.range_succ, List.any_append]
  have h1 : (hdL x k sz m == m) = true := by simpa using h
  cases hc : CC x k m y with
  | false => simp [h1, hc]
  | true =>
    have hno : (List.range m).any (fun i => hdL x k sz i == i && CC x k i y) = false := by
      rw [List.any_eq_false]
      intro i hi hb
      rw [List.mem_range] at hi
      simp only [Bool.and_eq_true] at hb
      have hmi : CC x k m i = true := cov_trans hk hc (cov_symm hk hb.2)
      have := (hd_spec hk hm).2.2 i (mem_LL.2 ⟨by omega, hmi⟩)
      rw [h] at this
      omega
    simp [h1, hc, hno]
theorem TT_all {x : Nat → Int} {k : Int} {sz y : Nat} (hk : knB k = true) (hy : y < sz) : TT x k sz sz y = 1 := by
  obtain ⟨_, h1, h2⟩ := hd_spec (x := x) hk hy
  obtain ⟨h3, h4⟩ := mem_LL.1 h1
  have hs : CC x k (hdL x k sz y) y = true := cov_symm hk h4
  have hh : hdL x k sz (hdL x k sz y) = hdL x k sz y := by
    obtain ⟨_, g1, g2⟩ := hd_spec (x := x) hk h3
    have a1 := g2 _ (mem_LL.2 ⟨h3, cov_refl hk _⟩)
    obtain ⟨g3, g4⟩ := mem_LL.1 g1
    have a2 := h2 _ (mem_LL.2 ⟨g3, cov_trans hk h4 g4⟩)
    omega
  unfold TT
  rw [if_pos]
  rw [List.any_eq_true]
  exact ⟨hdL x k sz y, List.mem_range.2 h3, by simp only [Bool.and_eq_true]; exact ⟨by simpa using hh, hs⟩⟩
/-- In the midst of a part: k of its words have been counted. -/
def IN (x : Nat → Int) (kd : Int) (sz m k y : Nat) : Nat := TT x kd sz m y + (if y ∈ (LL x kd sz m).take k then 1 else 0)
theorem IN_zero (x : Nat → Int) (kd : Int) (sz m y : Nat) : IN x kd sz m 0 y = TT x kd sz m y := by unfold IN; simp
theorem IN_le (x : Nat → Int) (kd : Int) (sz m k y : Nat) : IN x kd sz m k y ≤ 2 := by
  unfold IN
  have := TT_le x kd sz m y
  split <;> omega
theorem IN_all {x : Nat → Int} {kd : Int} {sz m : Nat} (hk : knB kd = true) (hm : m < sz) (h : hdL x kd sz m = m) (y : Nat) (hy : y < sz) : IN x kd sz m (LL x kd sz m).length y = TT x kd sz (m + 1) y := by
  unfold IN
  rw [List.take_length, TT_yes hk hm h]
  by_cases hc : CC x kd m y = true
  · rw [if_pos (mem_LL.2 ⟨hy, hc⟩), if_pos hc]
  · rw [if_neg (fun e => hc (mem_LL.1 e).2), if_neg hc]
theorem IN_step {x : Nat → Int} {kd : Int} {sz m k : Nat} (hk : k < (LL x kd sz m).length) :
    G.tab sz (G.upd (IN x kd sz m k) (G.el (LL x kd sz m) k) (IN x kd sz m k (G.el (LL x kd sz m) k) + 1)) = G.tab sz (IN x kd sz m (k + 1)) := by
  have ht : (LL x kd sz m).take (k + 1) = (LL x kd sz m).take k ++ [G.el (LL x kd sz m) k] := by
    rw [List.take_add_one, List.getElem?_eq_getElem hk, G.el_lt hk]; rfl
  have hni : G.el (LL x kd sz m) k ∉ (LL x kd sz m).take k := by
    intro hmem
    obtain ⟨j, hj, e⟩ := List.getElem_of_mem hmem
    rw [List.length_take] at hj
    rw [List.getElem_take, G.el_lt hk] at e
    have := List.pairwise_iff_getElem.1 (LL_sorted x kd sz m) j k (by omega) hk (by omega)
    omega
  refine G.tab_ext (fun y hy => ?_)
  unfold G.upd IN
  rw [ht]
  by_cases e : y = G.el (LL x kd sz m) k
  · subst e
    rw [if_pos rfl, if_neg hni, if_pos (by simp)]
  · rw [if_neg e]
    have : (y ∈ (LL x kd sz m).take k ++ [G.el (LL x kd sz m) k]) ↔ y ∈ (LL x kd sz m).take k := by simp [e]
    by_cases h : y ∈ (LL x kd sz m).take k
    · rw [if_pos h, if_pos (this.2 h)]
    · rw [if_neg h, if_neg (fun g => h (this.1 g))]
theorem el_LL {x : Nat → Int} {kd : Int} {sz m k : Nat} (hk : k < (LL x kd sz m).length) : G.el (LL x kd sz m) k < sz := (mem_LL.1 (G.el_mem hk)).1
attribute [irreducible] LL TT IN hdL
end Go.Proofs.YtdgkdoccllolpaaDoor.P
