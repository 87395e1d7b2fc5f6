/- poly.Derive. -/
import Derived.Test.YtfbogjibofeckaaPRoots
namespace Go.Proofs.Ytfbogjibofeckaa.P
open Go Go.RowKit Go.Shelf

def DerRel (w1 : World) (g n : Nat) (p : List PM.G) (i : Value) (W : World) : Prop :=
  ∃ (J : Nat) (ys : List PM.G), i = .int .i64 ((J + 1 : Nat) : Int) ∧ J % 2 = 0 ∧ J ≤ n + 1 ∧ ys.length = n ∧ (∀ j, PM.el ys j = if j < J ∧ j % 2 = 0 then PM.el p (j + 1) else 0) ∧ Own W g (.slice (some ⟨g, 0, none⟩) n n) ys ∧ Below g w1 W

set_option maxRecDepth 100000 in
set_option maxHeartbeats 1000000 in
theorem derive_any (a : Option Addr) (cap : Nat) (p : List PM.G) (w : World) (hR : Row w a p cap) (hl : p.length ≤ 255) :
    Calls Try.prog 27 #[.slice a p.length cap] w fun e W => (∃ r a' c, e = .returned (.slice a' r.length c) ∧ Row W a' r c ∧ Pol r ∧ ∀ k, PM.el r k = PM.der (PM.el p) k) ∧ Below w.heap.size w W := by
  have hroom := hR.room
  have hmost := hR.most
  have HR := Lib.hid hR
  clear hR
  obtain ⟨n, hn⟩ : ∃ n, p.length = n := ⟨_, rfl⟩
  rw [hn] at hl hroom ⊢
  have HN := Lib.hid hn
  clear hn
  go_enter Try.func27, Try.ntmps27
  go_wp2_with (at_make; refine wpList_make1 rfl _ _ rfl n rfl rfl (by omega) (by omega) (B := w.heap.size) (Nat.le_refl _) ?_; intro w1 hown1 hb1; have HO1 := Lib.hid hown1; have HB1 := Lib.hid hb1; clear hown1 hb1)
  have hlr : (List.replicate n (0 : PM.G)).length = n := List.length_replicate
  obtain ⟨g, hg⟩ : ∃ g, w.heap.size = g := ⟨_, rfl⟩
  have hO1 := HO1.out
  have hB1 := HB1.out
  rw [hlr, hg] at hO1
  rw [hg] at hB1
  have HO2 := Lib.hid hO1
  have HB2 := Lib.hid hB1
  clear hO1 hB1 HO1 HB1
  rw [hg]
  go_loopw [4] (fun i wr => DerRel w g n p i wr) (fun i _ => n + 1 - (intOf i).toNat)
  case atStart => exact ⟨0, _, rfl, rfl, Nat.zero_le _, hlr, fun j => by rw [PM.el_replicate, if_neg (by omega)], HO2.out, HB2.out⟩
  case round =>
    obtain ⟨J, ys, rfl, hJ2, hJ, hlen, hel, hown, hB⟩ := hrel
    have HLN := Lib.hid hlen
    have HEL := Lib.hid hel
    have HO := Lib.hid hown
    have HB := Lib.hid hB
    have HRW := Lib.hid (HR.out.below (by rw [hg]; exact hB))
    clear hlen hel hown hB
    have e1 : ((J + 1 : Nat) : Int) = (J : Int) + 1 := rfl
    by_cases hlt : J + 1 < n
    · obtain ⟨pb, po, rfl, hcp⟩ := HRW.out.el (J + 1) (by rw [HN.out]; exact hlt)
      obtain ⟨_, hgW, _, _, hcz, hfz⟩ := HO.out.at J (by rw [HLN.out]; omega)
      go_wp2
      go_roundw
      case rel =>
        refine ⟨J + 2, ys.set J (PM.el p (J + 1)), by go_num, by omega, by omega, by rw [List.length_set]; exact HLN.out, fun j => ?_, ?_, HB.out.setCell (p := ⟨g, J, none⟩) (Nat.le_refl _) _⟩
        · rw [PM.el_set (by rw [HLN.out]; omega), HEL.out]
          by_cases e : j = J
          · subst e; rw [if_pos rfl, if_pos (by omega)]
          · rw [if_neg e]
            by_cases h : j < J ∧ j % 2 = 0
            · rw [if_pos h, if_pos (by omega)]
            · rw [if_neg h, if_neg (by omega)]
        · have := (show Own wr g (.slice (some ⟨g, 0, none⟩) ys.length n) ys by rw [HLN.out]; exact HO.out).set J (PM.el p (J + 1))
          rwa [HLN.out] at this
      case measure => simp [intOf]; omega
    · have hder : ∀ k, PM.el ys k = PM.der (PM.el p) k := fun k => by
        rw [HEL.out]
        unfold PM.der
        by_cases h2 : k % 2 = 0
        · rw [if_pos h2]
          by_cases h : k < J
          · rw [if_pos ⟨h, h2⟩]
          · rw [if_neg (fun h' => h h'.1), PM.el_ge (by rw [HN.out]; omega)]
        · rw [if_neg (fun h' => h2 h'.2), if_neg h2]
      have HT := Lib.hid (trim_res (PM.der (PM.el p)) HO.out (by rw [HLN.out]; exact hl) hder)
      clear hder
      go_wp2_with fail
      refine HT.out.mono ?_
      rintro e w6 ⟨⟨r, a6, c6, rfl, hr, hpol, hco, _⟩, hb6⟩
      go_wp2
      go_ret
      have hsz := HB.out.size
      exact ⟨⟨r, a6, c6, rfl, hr, hpol, hco⟩, by rw [hg]; exact HB.out.trans (hb6.mono (by omega))⟩
set_option maxHeartbeats 400000 in
theorem derive_long (a : Option Addr) (cap : Nat) (p : List PM.G) (w : World) (hR : Row w a p cap) (hl : 255 < p.length) :
    Calls Try.prog 27 #[.slice a p.length cap] w fun e W => e = .returned (.slice none 0 0) ∧ Below w.heap.size w W := by
  have hroom := hR.room
  have hmost := hR.most
  clear hR
  go_enter Try.func27, Try.ntmps27
  go_wp2
  go_ret
  exact ⟨rfl, Below.refl _ _⟩
end Go.Proofs.Ytfbogjibofeckaa.P
