/- What SymbolLinear says, as mathematics. -/
import Derived.Test.YtcpjekggagcinaaK4
namespace Go.Proofs.Ytcpjekggagcinaa.P
open Go Go.RowKit Go.Shelf
open PM (el)

/-- The sum of one list and a multiple of another, the first m elements. -/
def linL (f : PM.G) (a b : List PM.G) (m : Nat) : List PM.G := tab m (fun k => el a k + f * el b k)
theorem linL_0 (f : PM.G) (a b : List PM.G) : linL f a b 0 = [] := rfl
theorem linL_len (f : PM.G) (a b : List PM.G) (m : Nat) : (linL f a b m).length = m := tab_len _ _
theorem linL_step (f : PM.G) (a b : List PM.G) (m : Nat) : linL f a b m ++ [el a m + f * el b m] = linL f a b (m + 1) := by simp [linL, tab, List.range_succ]
theorem el_linL (f : PM.G) (a b : List PM.G) {m k : Nat} (h : k < m) : el (linL f a b m) k = el a k + f * el b k := el_tab _ _ _ h
attribute [irreducible] linL
theorem lin_enc {D C : Nat} {f : PM.G} {a b x y z : List PM.G} (hn : D + C ≤ 255) (hx : IsEnc D C a x) (hy : IsEnc D C b y) (hz : IsEnc D C (linL f a b D) z) : ∀ i, i < D + C → el x i + f * el y i = el z i := by
  have h : IsEnc D C (linL f a b D) (linL f x y (D + C)) := by
    refine ⟨⟨linL_len _ _ _ _, fun j hj => ?_⟩, fun i hi => ?_⟩
    · have e : SM.syn (D + C) (SM.XE (D + C)) (el (linL f x y (D + C))) j = SM.syn (D + C) (SM.XE (D + C)) (fun i => el x i + f * el y i) j := by
        unfold SM.syn
        refine SM.lsum_ext (fun i hi => ?_)
        rw [List.mem_range] at hi
        rw [el_linL _ _ _ hi]
      rw [e, SM.syn_add, SM.syn_smul, hx.cw.syn j hj, hy.cw.syn j hj, PM.G.mul_zero, PM.G.add_zero]
    · rw [el_linL _ _ _ (by omega), el_linL _ _ _ hi, hx.data i hi, hy.data i hi]
  intro i hi
  rw [IsEnc.one hn hz h, el_linL _ _ _ hi]
/-- Two different ones differ in more places than there are checks. -/
theorem far_enc {D C : Nat} {a b x y : List PM.G} (hn : D + C ≤ 255) (ha : a.length = D) (hb : b.length = D) (hx : IsEnc D C a x) (hy : IsEnc D C b y) (hne : a ≠ b) : C < (diff x y (D + C)).length := by
  refine Nat.lt_of_not_le (fun hle => hne ?_)
  have h := SM.near_one (n := D + C) (m := C) (X := SM.XE (D + C)) (c := el x) (c' := el y) (w := el y) (E := []) (O := diff x y (D + C)) (O' := []) (SM.xe_inj hn) hx.cw.syn hy.cw.syn
    (fun i hi hne => .inr (mem_diff.2 ⟨hi, hne⟩)) (fun i hi hne => absurd rfl hne) (by simpa using hle)
  refine PM.ext_el (by rw [ha, hb]) (fun k hk => ?_)
  rw [← hx.data k (by omega), ← hy.data k (by omega)]
  exact h k (by omega)
theorem syn_el {D C : Nat} {xs : List PM.G} (h : CW D C xs) {j : Nat} (hj : j < C) : el (synL D C xs) j = 0 := by
  unfold synL
  rw [el_tab _ _ _ hj]
  exact h.syn j hj
end Go.Proofs.Ytcpjekggagcinaa.P
