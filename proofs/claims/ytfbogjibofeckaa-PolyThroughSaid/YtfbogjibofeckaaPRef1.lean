/- ref04.Valid, Trim. -/
import Derived.Test.YtfbogjibofeckaaPClone
import Derived.Test.YtfbogjibofeckaaPAwake
namespace Go.Proofs.Ytfbogjibofeckaa.P
open Go Go.RowKit Go.Shelf

/-- Whether a list is a polynomial. -/
def polB (p : List PM.G) : Bool := decide (p.length ≤ 255) && decide (p.length = 0 ∨ PM.el p (p.length - 1) ≠ 0)
theorem polB_yes {p : List PM.G} (h : Pol p) : polB p = true := by
  unfold polB
  rw [decide_eq_true h.len, decide_eq_true (by rcases Nat.eq_zero_or_pos p.length with e | e; exact .inl e; exact .inr (h.can e))]; rfl
theorem polB_no {p : List PM.G} (h : ¬ Pol p) : polB p = false := by
  unfold polB
  by_cases hl : p.length ≤ 255
  · rw [decide_eq_true hl, Bool.true_and]
    refine decide_eq_false (fun h' => h ⟨fun h0 => ?_, hl⟩)
    rcases h' with e | e
    · omega
    · exact e
  · rw [decide_eq_false hl]; rfl

set_option maxRecDepth 100000 in
set_option maxHeartbeats 1000000 in
theorem rvalid_any (a : Option Addr) (p : List PM.G) (cap : Nat) (w : World) (hR : Row w a p cap) :
    Calls Try.prog 32 #[.slice a p.length cap] w fun e W' => e = .returned (.bool (polB p)) ∧ w = W' := by
  have hroom := hR.room
  have hmost := hR.most
  by_cases hl : p.length ≤ 255
  · rcases Nat.eq_zero_or_pos p.length with h0 | h0
    · have hz : ((p.length : Int) == 0) = true := by rw [h0]; rfl
      have HB := Lib.hid (show polB p = true by unfold polB; rw [decide_eq_true hl, decide_eq_true (.inl h0)]; rfl)
      clear hR h0
      go_enter Try.func32, Try.ntmps32
      go_wp2_with fail
      go_ret
      rw [HB.out]
      exact ⟨rfl, rfl⟩
    · have hz : ((p.length : Int) == 0) = false := beq_false_of_ne (by omega)
      obtain ⟨n, hn⟩ : ∃ n, p.length - 1 = n := ⟨_, rfl⟩
      have hci : (p.length : Int) - 1 = (n : Int) := by omega
      have hcl : n < p.length := by omega
      have hwc : IntKind.i64.wrap (n : Int) = (n : Int) := by rw [IntKind.wrap_i64]; omega
      obtain ⟨b, off, rfl, hc⟩ := hR.el n hcl
      by_cases hv : PM.el p n = 0
      · have hb := gv_zero hv
        have HB := Lib.hid (show polB p = false by unfold polB; rw [decide_eq_true hl, hn, decide_eq_false (by rintro (h | h); omega; exact h hv)]; rfl)
        clear hR hn hv
        go_enter Try.func32, Try.ntmps32
        go_wp2_with fail
        go_ret
        rw [HB.out]
        exact ⟨rfl, rfl⟩
      · have hb := gv_ne hv
        have HB := Lib.hid (show polB p = true by unfold polB; rw [decide_eq_true hl, hn, decide_eq_true (.inr hv)]; rfl)
        clear hR hn hv
        go_enter Try.func32, Try.ntmps32
        go_wp2_with fail
        go_ret
        rw [HB.out]
        exact ⟨rfl, rfl⟩
  · have HB := Lib.hid (show polB p = false by unfold polB; rw [decide_eq_false hl]; rfl)
    go_enter Try.func32, Try.ntmps32
    go_wp2_with fail
    go_ret
    rw [HB.out]
    exact ⟨rfl, rfl⟩

def TrmRel (w : World) (zs : List PM.G) (n : Value) (W : World) : Prop :=
  ∃ k : Nat, n = .int .i64 (k : Int) ∧ k ≤ zs.length ∧ (∀ j, k ≤ j → PM.el zs j = 0) ∧ Below w.heap.size w W
theorem trim_stop {zs : List PM.G} {k : Nat} (hk : k ≤ zs.length) (hz : ∀ j, k ≤ j → PM.el zs j = 0) (ht : k = 0 ∨ PM.el zs (k - 1) ≠ 0) : zs.take k = PM.trimL zs := by
  have hl : (PM.trimL zs).length = k := by
    rcases ht with rfl | h
    · rw [PM.trimL_none zs (fun j => hz j (Nat.zero_le _))]; rfl
    · rcases Nat.eq_zero_or_pos k with rfl | h0
      · rw [PM.trimL_none zs (fun j => hz j (Nat.zero_le _))]; rfl
      · have := PM.trimL_at zs (k - 1) h (fun j hj => hz j (by omega))
        omega
  rw [← PM.trimL_take zs, hl]

set_option maxRecDepth 100000 in
set_option maxHeartbeats 1000000 in
/-- **ref04.Trim** -/
theorem rtrim_any (a : Option Addr) (zs : List PM.G) (cap : Nat) (w : World) (hR : Row w a zs cap) (hl : zs.length < 100000) :
    Calls Try.prog 34 #[.slice a zs.length cap] w fun e W' => (∃ a' cap', e = .returned (.slice a' (PM.trimL zs).length cap') ∧ Own W' w.heap.size (.slice a' (PM.trimL zs).length cap') (PM.trimL zs)) ∧ Below w.heap.size w W' := by
  have hroom := hR.room
  have hmost := hR.most
  have HR := Lib.hid hR
  clear hR
  go_enter Try.func34, Try.ntmps34
  go_wp2_with fail
  go_loopw [3] (fun n wr => TrmRel w zs n wr) (fun n _ => (intOf n).toNat)
  case atStart => exact ⟨zs.length, rfl, Nat.le_refl _, fun j hj => PM.el_ge hj, Below.refl _ _⟩
  case round =>
    obtain ⟨k, rfl, hk, hz, hB⟩ := hrel
    have HZ := Lib.hid hz
    have HB := Lib.hid hB
    have HRW := Lib.hid (HR.out.below hB)
    have hwr := hB.size
    clear hz hB
    have fin : k = 0 ∨ PM.el zs (k - 1) ≠ 0 → zs.take k = PM.trimL zs := trim_stop hk HZ.out
    have hlt : (zs.take k).length = k := by rw [List.length_take]; omega
    have HLT := Lib.hid hlt
    have HF := Lib.hid fin
    clear fin hlt
    have hrt := HRW.out.take k
    have HRT := Lib.hid hrt
    clear hrt
    have hkk : (k : Int) ≤ (zs.length : Int) := by omega
    have hk1 : k ≤ cap := by omega
    cases k with
    | zero =>
      have hf := HF.out (.inl rfl)
      have HFF := Lib.hid hf
      clear hf
      go_wp2_with (at_builtin; refine wpList_appAny rfl _ _ rfl (B := w.heap.size) (zs := []) (ys := zs.take 0) rfl (Own.nil _ _) (by rw [HLT.out]; rfl) HRT.out (by rw [HLT.out]; show 0 + 0 < 1000000; omega) hwr ?_; intro a' cap' W' hown' hb'; rw [HLT.out]; have HO := Lib.hid hown'; have HBB := Lib.hid hb'; clear hown' hb')
      go_ret
      have ho := HO.out
      have hl2 := HLT.out
      rw [List.nil_append, HFF.out] at ho
      rw [HFF.out] at hl2
      exact ⟨⟨a', cap', by rw [hl2]; first | rfl | (congr 1; congr 1; omega), ho⟩, HB.out.trans HBB.out⟩
    | succ k =>
      have e1 : ((k + 1 : Nat) : Int) = (k : Int) + 1 := rfl
      obtain ⟨b, off, rfl, hc⟩ := HRW.out.el k (by omega)
      by_cases h0 : PM.el zs k = 0
      · have hb0 := gv_eq0 h0
        have H0 := Lib.hid h0
        clear h0
        go_wp2_with fail
        go_roundw
        case rel => exact ⟨k, by go_num, by omega, fun j hj => by
          by_cases e : j = k
          · rw [e]; exact H0.out
          · exact HZ.out j (by omega), HB.out⟩
        case measure => simp [intOf]
      · have hb0 := gv_neq h0
        have hf := HF.out (.inr h0)
        have HFF := Lib.hid hf
        clear hf h0
        go_wp2_with (at_builtin; refine wpList_appAny rfl _ _ rfl (B := w.heap.size) (zs := []) (ys := zs.take (k + 1)) rfl (Own.nil _ _) (by rw [HLT.out]; rfl) HRT.out (by rw [HLT.out]; show 0 + (k + 1) < 1000000; omega) hwr ?_; intro a' cap' W' hown' hb'; rw [HLT.out]; have HO := Lib.hid hown'; have HBB := Lib.hid hb'; clear hown' hb')
        go_ret
        have ho := HO.out
        have hl2 := HLT.out
        rw [List.nil_append, HFF.out] at ho
        rw [HFF.out] at hl2
        exact ⟨⟨a', cap', by rw [hl2]; first | rfl | (congr 1; congr 1; omega), ho⟩, HB.out.trans HBB.out⟩
end Go.Proofs.Ytfbogjibofeckaa.P
