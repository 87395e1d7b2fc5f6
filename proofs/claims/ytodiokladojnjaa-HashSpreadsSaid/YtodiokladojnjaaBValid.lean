/- bitmat.Valid. -/
import Derived.Test.YtodiokladojnjaaBOps
namespace Go.Proofs.Ytodiokladojnjaa.B
open Go Go.RowKit Go.Shelf

/-- A matrix lies in a box. -/
structure MBox (W : World) (p : Nat) (C : Int) (a : Option Addr) (n cap : Nat) : Prop where
  c0 : W.cell? ⟨p, 0, none⟩ = some (.int .i64 C)
  c1 : W.cell? ⟨p, 1, none⟩ = some (.slice a n cap)
  f0 : W.frozen? ⟨p, 0, none⟩ = false
  f1 : W.frozen? ⟨p, 1, none⟩ = false
theorem MBox.below {W W' : World} {p : Nat} {C : Int} {a : Option Addr} {n cap : Nat} (h : MBox W p C a n cap) (hb : Below W.heap.size W W') : MBox W' p C a n cap :=
  ⟨cell_below hb h.c0, cell_below hb h.c1, frozen_below hb h.c0 h.f0, frozen_below hb h.c1 h.f1⟩
theorem MBox.alloc {W : World} {p : Nat} {C : Int} {a : Option Addr} {n cap : Nat} (h : MBox W p C a n cap) (o : Obj) : MBox (W.alloc o) p C a n cap := h.below ((Below.refl _ W).alloc (Nat.le_refl _) o)
theorem MBox.drewN {W : World} {p : Nat} {C : Int} {a : Option Addr} {n cap : Nat} (h : MBox W p C a n cap) (k : Nat) : MBox (W.drewN k) p C a n cap := ⟨h.c0, h.c1, h.f0, h.f1⟩
theorem MBox.lt {W : World} {p : Nat} {C : Int} {a : Option Addr} {n cap : Nat} (h : MBox W p C a n cap) : p < W.heap.size := lt_of_cell h.c0
theorem MBox.other {W : World} {p : Nat} {C : Int} {a : Option Addr} {n cap : Nat} (h : MBox W p C a n cap) {q : Addr} (hq : q.block ≠ p) (u : Value) : MBox (W.setCell q u) p C a n cap :=
  ⟨(cell_other u (show p ≠ q.block from fun e => hq e.symm)).trans h.c0, (cell_other u (show p ≠ q.block from fun e => hq e.symm)).trans h.c1, (World.frozen?_setCell _ _ _ _).trans h.f0, (World.frozen?_setCell _ _ _ _).trans h.f1⟩
theorem MBox.new (w : World) (C : Int) (a : Option Addr) (n cap : Nat) (t : TypeId) : MBox (w.alloc (.cells #[.int .i64 C, .slice a n cap] t)) w.heap.size C a n cap := by
  have hb : (w.alloc (.cells #[.int .i64 C, .slice a n cap] t)).heap[w.heap.size]? = some (.cells #[.int .i64 C, .slice a n cap] t) := Array.getElem?_push_size
  refine ⟨?_, ?_, ?_, ?_⟩
  · rw [cell_of_row _ _ 0 _ _ _ hb]; rfl
  · rw [cell_of_row _ _ 1 _ _ _ hb]; rfl
  · simp only [World.frozen?, hb]; rfl
  · simp only [World.frozen?, hb]; rfl
theorem MBox.set {W : World} {p : Nat} {C C' : Int} {a a' : Option Addr} {n cap n' cap' : Nat} (h : MBox W p C a n cap) : MBox ((W.setCell ⟨p, 0, none⟩ (.int .i64 C')).setCell ⟨p, 1, none⟩ (.slice a' n' cap')) p C' a' n' cap' := by
  have h1 : (W.setCell ⟨p, 0, none⟩ (.int .i64 C')).cell? ⟨p, 1, none⟩ = some (.slice a n cap) := (World.cell?_setCell_other _ _ _ _ (by intro e; cases e)).trans h.c1
  refine ⟨(World.cell?_setCell_other _ _ _ _ (by intro e; cases e)).trans (World.cell?_setCell_same' _ _ _ (by rw [h.c0]; rfl)), World.cell?_setCell_same' _ _ _ (by rw [h1]; rfl), ?_, ?_⟩
  · rw [World.frozen?_setCell, World.frozen?_setCell]; exact h.f0
  · rw [World.frozen?_setCell, World.frozen?_setCell]; exact h.f1

def fitsL (R : List V) (C : Nat) : Bool := R.all (fun v => fitB v C)
def validB (C : Int) (R : List V) : Bool := sideB C && (sideB R.length && fitsL R C.toNat)
theorem fitsL_no {R : List V} {C k : Nat} (hk : k < R.length) (h : fitB (el R k) C = false) : fitsL R C = false := by
  unfold fitsL
  rw [List.all_eq_false]
  exact ⟨_, el_mem hk, by rw [h]; decide⟩
theorem fitsL_yes {R : List V} {C : Nat} (h : ∀ k, k < R.length → fitB (el R k) C = true) : fitsL R C = true := by
  unfold fitsL
  rw [List.all_eq_true]
  intro x hx
  obtain ⟨k, hk, rfl⟩ := List.getElem_of_mem hx
  have := h k hk
  rwa [el_lt hk] at this
theorem fitsL_at {R : List V} {C k : Nat} (h : fitsL R C = true) (hk : k < R.length) : fitB (el R k) C = true := by
  unfold fitsL at h
  rw [List.all_eq_true] at h
  exact h _ (el_mem hk)

set_option maxRecDepth 100000 in
set_option maxHeartbeats 1000000 in
/-- **bitmat.Valid** -/
theorem valid_any (C : Int) (a : Option Addr) (cap : Nat) (R : List V) (w : World) (hR : Row w a R cap) :
    Calls Try.prog 34 #[.agg #[.int .i64 C, .slice a R.length cap]] w fun e W' => e = .returned (.bool (validB C R)) ∧ Below w.heap.size w W' := by
  have hroom := hR.room
  have hmost := hR.most
  have HB := Lib.hid (MBox.new w C a R.length cap 49)
  have HR := Lib.hid (hR.alloc (.cells #[.int .i64 C, .slice a R.length cap] 49))
  have hb0 := HB.out.c0
  have hb1 := HB.out.c1
  have HW := Lib.hid ((Below.refl _ w).alloc (Nat.le_refl _) (.cells #[.int .i64 C, .slice a R.length cap] 49))
  have hs1 := isSide_any C (w.alloc (.cells #[.int .i64 C, .slice a R.length cap] 49))
  have hs2 := isSide_any (R.length : Int) (w.alloc (.cells #[.int .i64 C, .slice a R.length cap] 49))
  clear hR
  cases hc : sideB C with
  | false =>
    have e0 : validB C R = false := by unfold validB; rw [hc]; rfl
    rw [hc] at hs1
    rw [e0]
    have H1 := Lib.hid hs1
    clear hs1 hs2 e0 hc
    go_enter Try.func34, Try.ntmps34
    go_wp2_with fail
    refine H1.out.mono ?_
    rintro e w1 ⟨rfl, hw1⟩
    have HW1 := Lib.hid hw1
    clear hw1
    go_wp2_with fail
    go_ret
    exact ⟨rfl, by rw [HW1.out]; exact HW.out⟩
  | true =>
    rw [hc] at hs1
    cases hl : sideB R.length with
    | false =>
      have e0 : validB C R = false := by unfold validB; rw [hl, hc]; rfl
      rw [hl] at hs2
      rw [e0]
      have H1 := Lib.hid hs1
      have H2 := Lib.hid hs2
      clear hs1 hs2 e0 hc hl
      go_enter Try.func34, Try.ntmps34
      go_wp2_with fail
      refine H1.out.mono ?_
      rintro e w1 ⟨rfl, hw1⟩
      obtain rfl := hw1.symm
      go_wp2_with fail
      refine H2.out.mono ?_
      rintro e w1 ⟨rfl, hw1⟩
      obtain rfl := hw1.symm
      go_wp2_with fail
      go_ret
      exact ⟨rfl, HW.out⟩
    | true =>
      have e0 : validB C R = fitsL R C.toNat := by unfold validB; rw [hl, hc]; rfl
      have hC1 : 0 ≤ C := by
        unfold sideB at hc
        simp at hc
        omega
      obtain ⟨D, rfl⟩ : ∃ D : Nat, C = (D : Int) := ⟨C.toNat, by omega⟩
      rw [hl] at hs2
      rw [e0, Int.toNat_natCast]
      have H1 := Lib.hid hs1
      have H2 := Lib.hid hs2
      clear hs1 hs2 e0 hc hl
      go_enter Try.func34, Try.ntmps34
      go_wp2_with fail
      refine H1.out.mono ?_
      rintro e w1 ⟨rfl, hw1⟩
      obtain rfl := hw1.symm
      go_wp2_with fail
      refine H2.out.mono ?_
      rintro e w1 ⟨rfl, hw1⟩
      obtain rfl := hw1.symm
      generalize (w.alloc (.cells #[.int .i64 (D : Int), .slice a R.length cap] 49)) = w1 at *
      clear H1 H2
      go_wp2_with fail
      go_loopw [4, 19] (fun _ i wr => ∃ k : Nat, i = .int .i64 (k : Int) ∧ k ≤ R.length ∧ Hid (∀ j, j < k → fitB (el R j) D = true) ∧ wr = w1) (fun _ i _ => R.length - (intOf i).toNat)
      case atStart => exact ⟨0, rfl, Nat.zero_le _, Lib.hid (fun j hj => absurd hj (Nat.not_lt_zero _)), rfl⟩
      case round =>
        obtain ⟨k, rfl, hk, hA, rfl⟩ := hrel
        by_cases hlt : k < R.length
        · obtain ⟨b, off, rfl, hcell⟩ := HR.out.elV k hlt
          have hf := fits_any (el R k) D wr
          cases hq : fitB (el R k) D with
          | true =>
            rw [hq] at hf
            have HF := Lib.hid hf
            have HQ := Lib.hid hq
            clear hf hq
            go_wp2_with fail
            refine HF.out.mono ?_
            rintro e w2 ⟨rfl, hw2⟩
            obtain rfl := hw2.symm
            go_wp2_with fail
            go_roundw
            case rel =>
              refine ⟨k + 1, by go_num, by omega, Lib.hid (fun j hj => ?_), by first | rfl | trivial⟩
              by_cases e : j = k
              · subst e; exact HQ.out
              · exact hA.out j (by omega)
            case measure => simp [intOf]; omega
          | false =>
            rw [hq] at hf
            have HE := Lib.hid (fitsL_no hlt hq)
            have HF := Lib.hid hf
            clear hf hq
            go_wp2_with fail
            refine HF.out.mono ?_
            rintro e w2 ⟨rfl, hw2⟩
            obtain rfl := hw2.symm
            go_wp2_with fail
            go_ret
            exact ⟨ret_bool HE.out.symm, HW.out⟩
        · have e0 : fitsL R D = true := fitsL_yes (fun j hj => hA.out j (by omega))
          have HE := Lib.hid e0
          clear e0
          go_wp2_with fail
          go_ret
          exact ⟨ret_bool HE.out.symm, HW.out⟩
end Go.Proofs.Ytodiokladojnjaa.B
