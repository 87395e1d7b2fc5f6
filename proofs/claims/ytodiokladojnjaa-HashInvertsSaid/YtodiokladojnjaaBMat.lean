/- bitmat.Unit, Apply. -/
import Derived.Test.YtodiokladojnjaaBCode
namespace Go.Proofs.Ytodiokladojnjaa.B
open Go Go.RowKit Go.Shelf
open BM (St)

/-- A valid matrix. -/
structure MV (C : Nat) (R : List V) : Prop where
  c1 : 1 ≤ C
  c2 : C ≤ 64
  r1 : 1 ≤ R.length
  r2 : R.length ≤ 64
  fit : ∀ j, j < R.length → fitB (el R j) C = true
theorem sideB_iff (n : Int) : sideB n = true ↔ 1 ≤ n ∧ n ≤ 64 := by unfold sideB; simp
theorem MV.yes {C : Nat} {R : List V} (h : MV C R) : validB (C : Int) R = true := by
  unfold validB
  have e1 : sideB (C : Int) = true := (sideB_iff _).2 ⟨by have := h.c1; omega, by have := h.c2; omega⟩
  have e2 : sideB (R.length : Int) = true := (sideB_iff _).2 ⟨by have := h.r1; omega, by have := h.r2; omega⟩
  rw [e1, e2, Int.toNat_natCast, fitsL_yes h.fit]; rfl
theorem MV.of {C : Int} {R : List V} (h : validB C R = true) : ∃ D : Nat, C = (D : Int) ∧ MV D R := by
  unfold validB at h
  rw [Bool.and_eq_true, Bool.and_eq_true] at h
  obtain ⟨h1, h2, h3⟩ := h
  obtain ⟨a1, a2⟩ := (sideB_iff _).1 h1
  obtain ⟨b1, b2⟩ := (sideB_iff _).1 h2
  exact ⟨C.toNat, by omega, by omega, by omega, by omega, by omega, fun j hj => fitsL_at h3 hj⟩
/-- The value is the matrix, whose rows lie from block B on. -/
def MatR (B : Nat) (W : World) (v : Value) (C : Int) (R : List V) : Prop := ∃ a cap, v = .agg #[.int .i64 C, .slice a R.length cap] ∧ Row W a R cap ∧ ∀ b o, a = some ⟨b, o, none⟩ → B ≤ b
theorem MatR.none (B : Nat) (W : World) : MatR B W (.agg #[.int .i64 0, .slice none 0 0]) 0 [] := ⟨.none, 0, rfl, Row.nil _ _ _ (by omega), fun b o e => by cases e⟩
theorem MatR.below {B : Nat} {W W' : World} {v : Value} {C : Int} {R : List V} (h : MatR B W v C R) (hb : Below W.heap.size W W') : MatR B W' v C R := by
  obtain ⟨a, cap, e, hr, hf⟩ := h
  exact ⟨a, cap, e, hr.below hb, hf⟩
/-- A row of uint64s does not meet a cell that holds something else. -/
theorem Row.storedV {W : World} {a : Option Addr} {zs : List V} {cap : Nat} (h : Row W a zs cap) {q : Addr} {v : Value} (hq : W.cell? q = some v) (hv : ∀ x : V, v ≠ .int .u64 (x.toNat : Int)) (u : Value) : Row (W.setCell q u) a zs cap :=
  ⟨h.room, h.most, fun j hj => by
    obtain ⟨b, off, e, hc⟩ := h.el j hj
    refine ⟨b, off, e, (World.cell?_setCell_other _ _ _ _ ?_).trans hc⟩
    rintro rfl
    rw [hq] at hc
    injection hc with hc
    exact hv _ hc⟩
/-- A row survives the storing of a matrix into a box. -/
theorem Row.boxed {W : World} {a a' : Option Addr} {zs : List V} {cap p n n' c' c'' : Nat} {C C' : Int} {a'' : Option Addr} (h : Row W a zs cap) (hb : MBox W p C a' n c') : Row ((W.setCell ⟨p, 0, none⟩ (.int .i64 C')).setCell ⟨p, 1, none⟩ (.slice a'' n' c'')) a zs cap := by
  have h1 : (W.setCell ⟨p, 0, none⟩ (.int .i64 C')).cell? ⟨p, 1, none⟩ = some (.slice a' n c') := (World.cell?_setCell_other _ _ _ _ (by intro e; cases e)).trans hb.c1
  exact (h.storedV hb.c0 (fun x e => by cases e) _).storedV h1 (fun x e => by cases e) _

def applyE (C : Int) (R : List V) (v : V) : Int := if validB C R then (if fitB v C.toNat then 0 else 7) else 1
def applyV (C : Int) (R : List V) (v : V) : V := if validB C R then (if fitB v C.toNat then BM.app (el R) R.length v else 0) else 0
theorem tup2 {a b c d : Value} (h1 : a = c) (h2 : b = d) : Ending.returned (.tuple #[a, b]) = .returned (.tuple #[c, d]) := by rw [h1, h2]
set_option maxRecDepth 100000 in
set_option maxHeartbeats 1000000 in
/-- **bitmat.Apply** -/
theorem apply_any (C : Int) (a : Option Addr) (cap : Nat) (R : List V) (v : V) (w : World) (hR : Row w a R cap) :
    Calls Try.prog 32 #[.agg #[.int .i64 C, .slice a R.length cap], .int .u64 (v.toNat : Int)] w fun e W => e = .returned (.tuple #[.int .u64 ((applyV C R v).toNat : Int), .int .i64 (applyE C R v)]) ∧ Below w.heap.size w W := by
  have hroom := hR.room
  have hmost := hR.most
  have hbx := MBox.new w C a R.length cap 49
  have hb1 := (Below.refl w.heap.size w).alloc (Nat.le_refl _) (.cells #[.int .i64 C, .slice a R.length cap] 49)
  have hr1 := hR.alloc (.cells #[.int .i64 C, .slice a R.length cap] 49)
  obtain ⟨w1, hw1⟩ : ∃ w1, w.alloc (.cells #[.int .i64 C, .slice a R.length cap] 49) = w1 := ⟨_, rfl⟩
  rw [hw1] at hbx hb1 hr1
  have hva := valid_any C a cap R w1 hr1
  have c0 := hbx.c0
  have c1 := hbx.c1
  have HBX := Lib.hid hbx
  have HB1 := Lib.hid hb1
  have HR1 := Lib.hid hr1
  clear hR hbx hb1 hr1
  cases hv : validB C R with
  | false =>
    have e1 : applyE C R v = 1 := by unfold applyE; rw [hv]; rfl
    have e2 : applyV C R v = 0 := by unfold applyV; rw [hv]; rfl
    rw [e1, e2]
    rw [hv] at hva
    have HVA := Lib.hid hva
    clear hva e1 e2 hv
    go_enter Try.func32, Try.ntmps32
    go_wp2_with fail
    refine HVA.out.mono ?_
    rintro e w2 ⟨rfl, hb2⟩
    have HB2 := Lib.hid (HB1.out.trans (hb2.mono HB1.out.size))
    clear hb2
    go_wp2_with fail
    exact bodyPost_ret (v := .tuple #[.int .u64 0, .int .i64 1]) (by simp [results, Try.results32, go_sem]) rfl ⟨rfl, HB2.out⟩
  | true =>
    obtain ⟨D, rfl, hM⟩ := MV.of hv
    rw [hv] at hva
    have HVA := Lib.hid hva
    have HM := Lib.hid hM
    cases hf : fitB v D with
    | false =>
      have e1 : applyE D R v = 7 := by unfold applyE; rw [hv, Int.toNat_natCast, hf]; rfl
      have e2 : applyV D R v = 0 := by unfold applyV; rw [hv, Int.toNat_natCast, hf]; rfl
      rw [e1, e2]
      have hfi := fun W => fits_any v D W
      rw [hf] at hfi
      have HFI := Lib.hid hfi
      clear hva e1 e2 hv hf hfi hM
      go_enter Try.func32, Try.ntmps32
      go_wp2_with fail
      refine HVA.out.mono ?_
      rintro e w2 ⟨rfl, hb2⟩
      have HB2 := Lib.hid (HB1.out.trans (hb2.mono HB1.out.size))
      have d0 := cell_below hb2 c0
      clear hb2
      go_wp2_with fail
      refine (HFI.out w2).mono ?_
      rintro e w3 ⟨rfl, hw⟩
      obtain rfl := hw.symm
      go_wp2_with fail
      exact bodyPost_ret (v := .tuple #[.int .u64 0, .int .i64 7]) (by simp [results, Try.results32, go_sem]) rfl ⟨rfl, HB2.out⟩
    | true =>
      have e1 : applyE D R v = 0 := by unfold applyE; rw [hv, Int.toNat_natCast, hf]; rfl
      have e2 : applyV D R v = BM.app (el R) R.length v := by unfold applyV; rw [hv, Int.toNat_natCast, hf]; rfl
      rw [e1, e2]
      have hfi := fun W => fits_any v D W
      rw [hf] at hfi
      have HFI := Lib.hid hfi
      have hl := hM.r2
      clear hva e1 e2 hv hf hfi hM
      go_enter Try.func32, Try.ntmps32
      go_wp2_with fail
      refine HVA.out.mono ?_
      rintro e w2 ⟨rfl, hb2⟩
      have HB2 := Lib.hid (HB1.out.trans (hb2.mono HB1.out.size))
      have HR2 := Lib.hid (HR1.out.below hb2)
      have d0 := cell_below hb2 c0
      have d1 := cell_below hb2 c1
      clear hb2
      go_wp2_with fail
      refine (HFI.out w2).mono ?_
      rintro e w3 ⟨rfl, hw⟩
      obtain rfl := hw.symm
      go_wp2_with fail
      go_loopw [6, 7, 8, 20] (fun s _ _ i wr => ∃ k : Nat, i = .int .i64 (k : Int) ∧ k ≤ R.length ∧ s = .int .u64 ((BM.ofB k (fun i => BM.dot (el R i) v)).toNat : Int) ∧ wr = w2) (fun _ _ _ i _ => R.length - (intOf i).toNat)
      case atStart => exact ⟨0, rfl, Nat.zero_le _, rfl, rfl⟩
      case round =>
        obtain ⟨k, rfl, hk, rfl, rfl⟩ := hrel
        by_cases hlt : k < R.length
        · obtain ⟨b, off, rfl, hcell⟩ := HR2.out.elV k hlt
          have hand := and_V (el R k) v
          obtain ⟨y, hy⟩ : ∃ y, el R k &&& v = y := ⟨_, rfl⟩
          rw [hy] at hand
          have HP := Lib.hid (parity_any y wr)
          have HY := Lib.hid hy
          clear hy
          go_wp2_with fail
          refine HP.out.mono ?_
          rintro e w4 ⟨rfl, hw⟩
          obtain rfl := hw.symm
          go_wp2_with fail
          go_roundw
          case rel =>
            refine ⟨k + 1, by go_num, hlt, u64_v ?_, by first | rfl | trivial⟩
            rw [shl_V, or_V, ← HY.out, par_dot, b1_shl]
            rfl
          case measure => simp [intOf]; omega
        · obtain rfl : k = R.length := by omega
          go_wp2_with fail
          exact bodyPost_ret (v := .tuple #[.int .u64 ((BM.app (el R) R.length v).toNat : Int), .int .i64 0]) (by simp [results, Try.results32, go_sem]; rfl) rfl ⟨rfl, HB2.out⟩
end Go.Proofs.Ytodiokladojnjaa.B
