/- What SymbolNotices says, as mathematics. -/
import Derived.Test.YtijkgplglfmfnaaK5
namespace Go.Proofs.Ytijkgplglfmfnaa.P
open Go Go.RowKit Go.Shelf
open PM (el)

/-- zs differs from xs at each place of O, and at no other one but those of E. -/
structure Bad (n : Nat) (xs zs : List PM.G) (E O : List Nat) : Prop where
  dif : Dif n xs zs E O
  ne : ∀ i ∈ O, i < n ∧ el xs i ≠ el zs i
  nodup : O.Nodup
  out : ∀ i ∈ O, i ∉ E
theorem Bad.start {n : Nat} {xs zs : List PM.G} {E : List Nat} (h : Dif n xs zs E []) : Bad n xs zs E [] := ⟨h, fun _ hi => absurd hi List.not_mem_nil, List.nodup_nil, fun _ hi => absurd hi List.not_mem_nil⟩
theorem Bad.add {n : Nat} {xs zs : List PM.G} {E O : List Nat} (h : Bad n xs zs E O) {p : Nat} (hp : p < n) (hE : p ∉ E) (hO : p ∉ O) {x : PM.G} (hx : x ≠ 0) : Bad n xs (zs.set p (el zs p + x)) E (p :: O) := by
  have hl := h.dif.len
  refine ⟨h.dif.inO p _, fun i hi => ?_, List.nodup_cons.2 ⟨hO, h.nodup⟩, fun i hi => ?_⟩
  · rcases List.mem_cons.1 hi with rfl | hi
    · refine ⟨hp, ?_⟩
      rw [PM.el_set (by rw [hl]; exact hp), if_pos rfl]
      have e : el xs i = el zs i := by
        by_cases e : el xs i = el zs i
        · exact e
        · exact ((h.dif.at' i hp e).elim (fun q => absurd q hE) (fun q => absurd q hO))
      rw [e]
      intro e2
      refine hx ?_
      have := congrArg (fun y => el zs i + y) e2
      simp only [PM.G.add_self] at this
      rw [← PM.G.add_assoc, PM.G.add_self, PM.G.zero_add] at this
      exact this.symm
    · obtain ⟨h1, h2⟩ := h.ne i hi
      refine ⟨h1, ?_⟩
      rw [PM.el_set (by rw [hl]; exact hp), if_neg (fun e : i = p => hO (e ▸ hi))]
      exact h2
  · rcases List.mem_cons.1 hi with rfl | hi
    · exact hE
    · exact h.out i hi
/-- So many wrong places are noticed. -/
theorem Bad.lost {D C t : Nat} {xs zs ws : List PM.G} {E O ch : List Nat} {o : Int} (hn : D + C ≤ 255) (hx : CW D C xs) (h : Bad (D + C) xs zs E O) (hk : t < O.length) (hm : O.length + t + E.length ≤ C) (hd : Dec (D + C) C t zs E o ws ch) : o = 2 ∧ ws = [] := by
  rcases hd with ⟨h1, h2, _, _⟩ | ⟨_, ⟨hs, O', hO', hd'⟩, _, _⟩
  · exact ⟨h1, h2⟩
  · exfalso
    have heq := SM.near_one (n := D + C) (m := C) (X := SM.XE (D + C)) (c := el xs) (c' := el ws) (w := el zs) (E := E) (O := O) (O' := O') (SM.xe_inj hn) hx.syn hs h.dif.at' hd' (by omega)
    have hsub : ∀ i ∈ O, i ∈ O' := fun i hi => by
      obtain ⟨h1, h2⟩ := h.ne i hi
      rw [heq i h1] at h2
      exact (hd' i h1 h2).resolve_left (h.out i hi)
    have hle : ∀ (A B : List Nat), A.Nodup → (∀ i ∈ A, i ∈ B) → A.length ≤ B.length := by
      intro A
      induction A with
      | nil => intro B _ _; exact Nat.zero_le _
      | cons a A ih =>
        intro B hA hB
        rw [List.nodup_cons] at hA
        have ha := hB a List.mem_cons_self
        have h2 := ih (B.erase a) hA.2 (fun i hi => (List.mem_erase_of_ne (by rintro rfl; exact hA.1 hi)).2 (hB i (List.mem_cons_of_mem _ hi)))
        rw [List.length_erase_of_mem ha] at h2
        have := List.length_pos_of_mem ha
        rw [List.length_cons]
        omega
    have := hle O O' h.nodup hsub
    omega
end Go.Proofs.Ytijkgplglfmfnaa.P
