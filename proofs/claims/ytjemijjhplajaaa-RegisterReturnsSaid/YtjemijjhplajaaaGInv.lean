/- A region that draws its order, walked by an invariant over what has come up: each operation once, in any state that the invariant allows, instead of once for each order. -/
import Derived.Test.YtjemijjhplajaaaGRow
import Derived.Orders
import Derived.RegionTactic
namespace Go.Proofs.Ytjemijjhplajaaa.G
open Go Go.RowKit Go.Shelf

section
variable {P : Program} {ops : Array Oper} {Q : Exit → Act → World → Prop} {md : Region.Mode}
/-- I n l a w: n operations are still to come, l says which have come up. -/
theorem wpAny_inv (I : Nat → Array Bool → Act → World → Prop)
    (hend : ∀ n l a w, I n l a w → Region.ready md ops l = [] → Q .normal a w)
    (h0 : ∀ l a w, I 0 l a w → Region.ready md ops l = [])
    (hstep : ∀ n l a w i, I (n + 1) l a w → i ∈ Region.ready md ops l → wpOp P ops Q i (I n (l.setIfInBounds i true)) a w) :
    ∀ n l a w, I n l a w → wpAny P md ops Q n l a w := by
  intro n
  induction n with
  | zero => exact fun l a w h => ⟨h0 l a w h, hend 0 l a w h (h0 l a w h)⟩
  | succ n ih =>
    intro l a w h
    exact ⟨hend _ l a w h, fun i hi => wpOp_mono (fun a' w' h' => ih _ a' w' h') (hstep n l a w i h hi)⟩
/-- What is ready: it has not come up, and all that must come before it has. -/
theorem ready_spec {l : Array Bool} {i : Nat} (h : i ∈ Region.ready md ops l) :
    l.getD i true = false ∧ ∃ o, ops[i]? = some o ∧ (o.after.all fun e => !Region.binds md e || l.getD e.on false) = true := by
  unfold Region.ready at h
  rw [List.mem_filter, Bool.and_eq_true, Bool.not_eq_true'] at h
  refine ⟨h.2.1, ?_⟩
  have h2 := h.2.2
  cases ho : ops[i]? with
  | none => rw [ho] at h2; simp at h2
  | some o => rw [ho] at h2; exact ⟨o, rfl, by simpa using h2⟩
theorem ready_lt {l : Array Bool} {i : Nat} (h : i ∈ Region.ready md ops l) : i < ops.size := by
  unfold Region.ready at h
  rw [List.mem_filter] at h
  exact List.mem_range.1 h.1
theorem wp_named {c : Code} {Q : Exit → Act → World → Prop} {a : Act} {w : World} (h : ∀ a0, a0 = a → c.wp P Q a0 w) : c.wp P Q a w := h a rfl
theorem lt_6 {i : Nat} (h : i < 6) : i = 0 ∨ i = 1 ∨ i = 2 ∨ i = 3 ∨ i = 4 ∨ i = 5 := by omega
theorem lt_7 {i : Nat} (h : i < 7) : i = 0 ∨ i = 1 ∨ i = 2 ∨ i = 3 ∨ i = 4 ∨ i = 5 ∨ i = 6 := by omega
theorem lt_8 {i : Nat} (h : i < 8) : i = 0 ∨ i = 1 ∨ i = 2 ∨ i = 3 ∨ i = 4 ∨ i = 5 ∨ i = 6 ∨ i = 7 := by omega
theorem lt_9 {i : Nat} (h : i < 9) : i = 0 ∨ i = 1 ∨ i = 2 ∨ i = 3 ∨ i = 4 ∨ i = 5 ∨ i = 6 ∨ i = 7 ∨ i = 8 := by omega
theorem lt_10 {i : Nat} (h : i < 10) : i = 0 ∨ i = 1 ∨ i = 2 ∨ i = 3 ∨ i = 4 ∨ i = 5 ∨ i = 6 ∨ i = 7 ∨ i = 8 ∨ i = 9 := by omega
theorem lt_11 {i : Nat} (h : i < 11) : i = 0 ∨ i = 1 ∨ i = 2 ∨ i = 3 ∨ i = 4 ∨ i = 5 ∨ i = 6 ∨ i = 7 ∨ i = 8 ∨ i = 9 ∨ i = 10 := by omega
theorem lt_12 {i : Nat} (h : i < 12) : i = 0 ∨ i = 1 ∨ i = 2 ∨ i = 3 ∨ i = 4 ∨ i = 5 ∨ i = 6 ∨ i = 7 ∨ i = 8 ∨ i = 9 ∨ i = 10 ∨ i = 11 := by omega
/-- How many have not come up. -/
def nf (b : Bool) : Nat := if b then 0 else 1
/-- pre i: some of the operations that must come before i. -/
def preOk (ops : Array Oper) (pre : Nat → List Nat) : Bool :=
  (List.range ops.size).all fun i => (pre i).all fun j => ((ops[i]?).map fun o => o.after.any fun e => Region.binds .any e && (e.on == j)).getD false
theorem pre_spec {pre : Nat → List Nat} (hp : preOk ops pre = true) {l : Array Bool} {i : Nat} (h : i ∈ Region.ready .any ops l) : ∀ j ∈ pre i, l.getD j false = true := by
  intro j hj
  obtain ⟨_, o, ho, hall⟩ := ready_spec h
  unfold preOk at hp
  rw [List.all_eq_true] at hp
  have h1 := hp i (List.mem_range.2 (ready_lt h))
  rw [List.all_eq_true] at h1
  have h2 := h1 j hj
  rw [ho, Option.map_some, Option.getD_some, Array.any_eq_true] at h2
  obtain ⟨k, hk, h3⟩ := h2
  rw [Bool.and_eq_true, beq_iff_eq] at h3
  rw [Array.all_eq_true] at hall
  have h4 := hall k hk
  rw [h3.1, h3.2] at h4
  simpa using h4
/-- What is listed of n operations, of which m are still to come. -/
theorem all_listed {l : Array Bool} (h : ∀ i, i < ops.size → l.getD i true = true) : Region.ready md ops l = [] := by
  unfold Region.ready
  rw [List.filter_eq_nil_iff]
  intro i hi
  rw [h i (List.mem_range.1 hi)]
  simp
def ordOk (ops : Array Oper) : Bool :=
  (List.range ops.size).all fun i => ((ops[i]?).map fun o => o.after.all fun e => decide (e.on < i)).getD false
theorem none_ready (ho : ordOk ops = true) {l : Array Bool} (h : Region.ready md ops l = []) : ∀ i, i < ops.size → l.getD i true = true := by
  intro i
  induction i using Nat.strongRecOn with
  | _ i ih =>
    intro hi
    cases hb : l.getD i true with
    | true => rfl
    | false =>
      exfalso
      unfold Region.ready at h
      rw [List.filter_eq_nil_iff] at h
      refine h i (List.mem_range.2 hi) ?_
      rw [hb]
      unfold ordOk at ho
      rw [List.all_eq_true] at ho
      have h1 := ho i (List.mem_range.2 hi)
      cases hq : ops[i]? with
      | none => rw [hq] at h1; simp at h1
      | some o =>
        rw [hq, Option.map_some, Option.getD_some, Array.all_eq_true] at h1
        rw [Option.map_some, Option.getD_some]
        simp only [Bool.not_false, Bool.true_and]
        rw [Array.all_eq_true]
        intro k hk
        have h2 := h1 k hk
        rw [decide_eq_true_iff] at h2
        have h3 := ih _ h2 (by omega)
        rw [Bool.or_eq_true]
        right
        have h4 : o.after[k].on < l.size := by
          rcases Nat.lt_or_ge o.after[k].on l.size with hlt | hge
          · exact hlt
          · exfalso
            have hi' : l.getD i true = true := by
              rw [Array.getD_eq_getD_getElem?, Array.getElem?_eq_none (by omega)]; rfl
            rw [hb] at hi'; cases hi'
        rw [Array.getD_eq_getD_getElem?, Array.getElem?_eq_getElem h4] at h3 ⊢
        exact h3
theorem wp_region_inv {id : Nat} {a : Act} {w : World} (hm : P.follows .mixedOrders = true) (N : Nat) (pre : Nat → List Nat) (I : Nat → Array Bool → Act → World → Prop)
    (hN : ops.size = N) (hp : (preOk ops pre && ordOk ops) = true)
    (hat : I N (Array.replicate N false) a w.drew)
    (hend : ∀ n l a w, I n l a w → (∀ i, i < N → l.getD i true = true) → Q .normal a w)
    (h0 : ∀ l a w, I 0 l a w → ∀ i, i < N → l.getD i true = true)
    (hstep : ∀ i, i < N → ∀ n l a w, I (n + 1) l a w → l.getD i true = false → (∀ j ∈ pre i, l.getD j false = true) → wpOp P ops Q i (I n (l.setIfInBounds i true)) a w) :
    (Code.region id ops true).wp P Q a w := by
  subst hN
  rw [Bool.and_eq_true] at hp
  exact wp_region_any hm (wpAny_inv I (fun n l a w h hr => hend n l a w h (none_ready hp.2 hr)) (fun l a w h => all_listed (h0 l a w h)) (fun n l a w i h hi => hstep i (ready_lt hi) n l a w h (ready_spec hi).1 (pre_spec hp.1 hi)) _ _ _ _ hat)
end
end Go.Proofs.Ytjemijjhplajaaa.G
