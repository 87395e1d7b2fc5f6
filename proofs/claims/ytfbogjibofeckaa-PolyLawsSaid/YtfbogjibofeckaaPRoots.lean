/- poly.Roots. -/
import Derived.Test.YtfbogjibofeckaaPEval
namespace Go.Proofs.Ytfbogjibofeckaa.P
open Go Go.RowKit Go.Shelf

def ofN (k : Nat) : PM.G := ⟨k % 256, Nat.mod_lt _ (by decide)⟩
def allG : List PM.G := (List.range 256).map ofN
theorem allG_len : allG.length = 256 := by simp [allG]
theorem allG_at (k : Nat) (hk : k < 256) : allG[k]? = some (ofN k) := by simp [allG, hk]
theorem allG_take (k : Nat) (hk : k < 256) : allG.take (k + 1) = allG.take k ++ [ofN k] := by
  rw [List.take_add_one, allG_at k hk]; rfl
/-- The roots, ascending. -/
def rootsTo (p : List PM.G) (k : Nat) : List PM.G := (allG.take k).filter (fun x => decide (PM.ev p x = 0))
theorem rootsTo_yes (p : List PM.G) (k : Nat) (hk : k < 256) (h : PM.ev p (ofN k) = 0) : rootsTo p (k + 1) = rootsTo p k ++ [ofN k] := by
  unfold rootsTo; rw [allG_take k hk, List.filter_append]; simp [h]
theorem rootsTo_no (p : List PM.G) (k : Nat) (hk : k < 256) (h : PM.ev p (ofN k) ≠ 0) : rootsTo p (k + 1) = rootsTo p k := by
  unfold rootsTo; rw [allG_take k hk, List.filter_append]; simp [h]
theorem rootsTo_len (p : List PM.G) (k : Nat) : (rootsTo p k).length ≤ 256 := by
  unfold rootsTo
  have h1 := List.length_filter_le (fun x => decide (PM.ev p x = 0)) (allG.take k)
  have h2 := List.length_take_le' k allG
  rw [allG_len] at h2; omega
def rootsL (p : List PM.G) : List PM.G := rootsTo p 256

def RootsRel (w : World) (p : List PM.G) (r i : Value) (W : World) : Prop :=
  ∃ k : Nat, i = .int .i64 (k : Int) ∧ k ≤ 256 ∧ (∃ a' cap', r = .slice a' (rootsTo p k).length cap') ∧ Own W w.heap.size r (rootsTo p k) ∧ Below w.heap.size w W

set_option maxRecDepth 100000 in
set_option maxHeartbeats 1000000 in
theorem roots_yes (a : Option Addr) (cap : Nat) (p : List PM.G) (w : World) (hR : Row w a p cap) (hp : Pol p) (h0 : 0 < p.length) :
    Calls Try.prog 26 #[.slice a p.length cap] w fun e W => (∃ a' cap', e = .returned (.slice a' (rootsL p).length cap') ∧ Row W a' (rootsL p) cap') ∧ Below w.heap.size w W := by
  have hroom := hR.room
  have hmost := hR.most
  have HR := Lib.hid hR
  have HP := Lib.hid hp
  clear hR hp
  have hz : ((p.length : Int) == 0) = false := beq_false_of_ne (by omega)
  go_enter Try.func26, Try.ntmps26
  go_wp2_with fail
  refine (valid_yes a p cap w HR.out HP.out).mono ?_
  rintro e w1 ⟨rfl, hb1⟩
  have HB1 := Lib.hid hb1
  clear hb1
  go_wp2_with fail
  go_loopw [3, 13] (fun r i wr => RootsRel w p r i wr) (fun _ i _ => 256 - (intOf i).toNat)
  case atStart => exact ⟨0, rfl, Nat.zero_le _, ⟨none, 0, rfl⟩, Own.nil _ _, HB1.out⟩
  case round =>
    obtain ⟨k, rfl, hk, ⟨a', cap', rfl⟩, hown, hB⟩ := hrel
    have HO := Lib.hid hown
    have HB := Lib.hid hB
    have HRW := Lib.hid (HR.out.below hB)
    clear hown hB
    by_cases hlt : k < 256
    · have hv : ((ofN k).v : Int) = (k : Int) := by show ((k % 256 : Nat) : Int) = _; omega
      have hek := eval_any a cap p (ofN k) wr HRW.out
      rw [hv] at hek
      have hle := rootsTo_len p k
      have hwr := HB.out.size
      by_cases hroot : PM.ev p (ofN k) = 0
      · have hbz := gv_eq0 hroot
        have HS := Lib.hid (rootsTo_yes p k hlt hroot)
        have HV := Lib.hid hv
        obtain ⟨u, hu⟩ : ∃ u : Int, ((PM.ev p (ofN k)).v : Int) = u := ⟨_, rfl⟩
        rw [hu] at hek hbz
        have HE := Lib.hid hek
        clear hek hv hroot hu
        go_wp2_with fail
        refine HE.out.mono ?_
        rintro e w2 ⟨rfl, hb2⟩
        have HO2 := Lib.hid (HO.out.below hb2)
        have hs2 := hb2.size
        have HB2 := Lib.hid (HB.out.trans (hb2.mono hwr))
        clear hb2
        go_wp2_with (at_builtin; refine wpList_app1 rfl _ _ rfl (ofN k) rfl (HO2.out.alloc _) rfl (cell_new _ _ _) HV.out.symm (by omega) (by simp; omega) ?_; intro a3 cap3 w3 hown3 hg3 hb3)
        go_roundw
        case rel =>
          refine ⟨k + 1, by go_num, by omega, ⟨a3, cap3, by rw [HS.out, List.length_append]; rfl⟩, ?_, HB2.out.trans (((Below.refl w.heap.size w2).alloc (by omega) _).trans hb3)⟩
          rw [HS.out]
          have := hown3
          rwa [List.length_append] at this
        case measure => simp [intOf]; omega
      · have hbz := gv_neq hroot
        have HS := Lib.hid (rootsTo_no p k hlt hroot)
        obtain ⟨u, hu⟩ : ∃ u : Int, ((PM.ev p (ofN k)).v : Int) = u := ⟨_, rfl⟩
        rw [hu] at hek hbz
        have HE := Lib.hid hek
        clear hek hv hroot hu
        go_wp2_with fail
        refine HE.out.mono ?_
        rintro e w2 ⟨rfl, hb2⟩
        have HO2 := Lib.hid (HO.out.below hb2)
        have HB2 := Lib.hid (HB.out.trans (hb2.mono hwr))
        clear hb2
        go_wp2
        go_roundw
        case rel => exact ⟨k + 1, by go_num, by omega, ⟨a', cap', by rw [HS.out]⟩, by rw [HS.out]; exact HO2.out, HB2.out⟩
        case measure => simp [intOf]; omega
    · obtain rfl : k = 256 := by omega
      go_wp2
      go_ret
      exact ⟨⟨a', cap', rfl, HO.out.rowAt⟩, HB.out⟩
set_option maxHeartbeats 400000 in
theorem roots_zero (a : Option Addr) (cap : Nat) (p : List PM.G) (w : World) (hR : Row w a p cap) (hp : Pol p) (h0 : p.length = 0) :
    Calls Try.prog 26 #[.slice a p.length cap] w fun e W => e = .returned (.slice none 0 0) ∧ Below w.heap.size w W := by
  have hroom := hR.room
  have hmost := hR.most
  have HR := Lib.hid hR
  have HP := Lib.hid hp
  have H0 := Lib.hid h0
  clear hR hp h0
  go_enter Try.func26, Try.ntmps26
  go_wp2_with fail
  refine (valid_yes a p cap w HR.out HP.out).mono ?_
  rintro e w1 ⟨rfl, hb1⟩
  have hz : ((p.length : Int) == 0) = true := by rw [H0.out]; rfl
  go_wp2
  go_ret
  exact ⟨rfl, hb1⟩
set_option maxHeartbeats 400000 in
theorem roots_bad (a : Option Addr) (cap : Nat) (p : List PM.G) (w : World) (hR : Row w a p cap) (hp : ¬ Pol p) :
    Calls Try.prog 26 #[.slice a p.length cap] w fun e W => e = .returned (.slice none 0 0) ∧ Below w.heap.size w W := by
  have HR := Lib.hid hR
  have HP := Lib.hid hp
  clear hR hp
  go_enter Try.func26, Try.ntmps26
  go_wp2_with fail
  refine (valid_no a p cap w HR.out HP.out).mono ?_
  rintro e w1 ⟨rfl, hb1⟩
  go_wp2
  go_ret
  exact ⟨rfl, hb1⟩
end Go.Proofs.Ytfbogjibofeckaa.P
