/- ref04.Eval, Derive, Roots; poly.Trim. -/
import Derived.Test.YtfbogjibofeckaaPRefGcd
namespace Go.Proofs.Ytfbogjibofeckaa.P
open Go Go.RowKit Go.Shelf

set_option maxRecDepth 100000 in
set_option maxHeartbeats 1000000 in
/-- **ref04.Eval** -/
theorem reval_any (a : Option Addr) (cap : Nat) (p : List PM.G) (x : PM.G) (w : World) (hR : Row w a p cap) :
    Calls Try.prog 35 #[.slice a p.length cap, .int .u8 (x.v : Int)] w fun e W' => e = .returned (.int .u8 ((PM.ev p x).v : Int)) ∧ Dr w W' := by
  have hroom := hR.room
  have hmost := hR.most
  have HR := Lib.hid hR
  clear hR
  go_enter Try.func35, Try.ntmps35
  go_wp2_with fail
  go_loopw [5, 6] (fun v i wr => ∃ k : Nat, k ≤ p.length ∧ i = .int .i64 ((k : Int) - 1) ∧ v = .int .u8 ((hor p x k).v : Int) ∧ Dr w wr) (fun _ i _ => (intOf i + 1).toNat)
  case atStart => exact ⟨p.length, Nat.le_refl _, rfl, by rw [hor_all]; rfl, Dr.refl _⟩
  case round =>
    obtain ⟨k, hk, rfl, rfl, hd⟩ := hrel
    cases k with
    | zero =>
      have e1 : ((0 : Nat) : Int) - 1 = -1 := by omega
      rw [e1]
      have HD := Lib.hid hd
      clear hd
      obtain ⟨v, hv⟩ : ∃ v, hor p x 0 = v := ⟨_, rfl⟩
      rw [hv]
      have HV := Lib.hid hv
      clear hv
      go_wp2_with fail
      go_ret
      exact ⟨by rw [← HV.out, hor_zero]; rfl, HD.out⟩
    | succ k =>
      have e1 : ((k + 1 : Nat) : Int) - 1 = (k : Int) := by omega
      rw [e1]
      obtain ⟨m0, rfl⟩ := hd
      obtain ⟨b, off, rfl, hc0⟩ := HR.out.el k (by omega)
      have hc : (w.drewN m0).cell? ⟨b, off + k, none⟩ = some (.int .u8 ((PM.el p k).v : Int)) := hc0
      have hkl : k < p.length := by omega
      have HS := Lib.hid (hor_step p x k hkl)
      have HD := Lib.hid (show Dr w (w.drewN m0) from ⟨m0, rfl⟩)
      clear hc0
      generalize w.drewN m0 = wr at *
      go_wp2_with fail
      go_quiet ((go_at_call 38; refine Calls.quiet_of_same ((rfmul_any _ _ _).mono fun _ _ h => ⟨h.1, h.2.symm⟩)))
      go_wp2_with fail
      go_roundw
      case rel => exact ⟨k, by omega, by go_num, by rw [xor_G, HS.out], HD.out.drewN _⟩
      case measure => simp [intOf]

def RDerRel (w : World) (p : List PM.G) (o i : Value) (W : World) : Prop :=
  ∃ (k : Nat) (ys : List PM.G) (ao : Option Addr) (co : Nat), i = .int .i64 (k : Int) ∧ k ≤ p.length ∧ (0 < k → k + 1 ≤ p.length) ∧ o = .slice ao k co ∧ ys.length = k ∧ (∀ j, j < k → PM.el ys j = PM.der (PM.el p) j) ∧ Own W w.heap.size (.slice ao k co) ys ∧ Below w.heap.size w W
theorem der_even {p : List PM.G} {k : Nat} (h : k % 2 = 0) : PM.der (PM.el p) k = PM.el p (k + 1) := by unfold PM.der; rw [if_pos h]
theorem der_odd {p : List PM.G} {k : Nat} (h : ¬ k % 2 = 0) : PM.der (PM.el p) k = 0 := by unfold PM.der; rw [if_neg h]
theorem rder_step {w wr w3 : World} {p ys : List PM.G} {k : Nat} {a3 : Option Addr} {cap3 : Nat} {c : PM.G} (hk : k + 1 < p.length) (hl : ys.length = k) (he : ∀ j, j < k → PM.el ys j = PM.der (PM.el p) j) (hc : c = PM.der (PM.el p) k)
    (ho : Own w3 w.heap.size (.slice a3 (ys ++ [c]).length cap3) (ys ++ [c])) (hB : Below w.heap.size w wr) (hb : Below w.heap.size wr w3) : RDerRel w p (.slice a3 (ys.length + 1) cap3) (.int .i64 ((k : Int) + 1)) w3 := by
  refine ⟨k + 1, ys ++ [c], a3, cap3, by go_num, by omega, fun _ => by omega, by rw [hl], by rw [List.length_append, hl]; rfl, fun j hj => ?_, ?_, hB.trans hb⟩
  · rw [PM.el_append, hl]
    by_cases e : j < k
    · rw [if_pos e]; exact he j e
    · rw [if_neg e, show j = k by omega, Nat.sub_self, ← hc]; rfl
  · rw [List.length_append, hl] at ho
    exact ho

set_option maxRecDepth 100000 in
set_option maxHeartbeats 1000000 in
theorem rderive_any (a : Option Addr) (cap : Nat) (p : List PM.G) (w : World) (hR : Row w a p cap) (hl : p.length ≤ 255) :
    Calls Try.prog 36 #[.slice a p.length cap] w fun e W => (∃ r a' c, e = .returned (.slice a' (List.length r) c) ∧ Row W a' r c ∧ Pol r ∧ ∀ k, PM.el r k = PM.der (PM.el p) k) ∧ Below w.heap.size w W := by
  have hroom := hR.room
  have hmost := hR.most
  have HR := Lib.hid hR
  clear hR
  go_enter Try.func36, Try.ntmps36
  go_wp2_with fail
  go_loopw [3, 4] (fun o i wr => RDerRel w p o i wr) (fun _ i _ => p.length - (intOf i).toNat)
  case atStart => exact ⟨0, [], none, 0, rfl, Nat.zero_le _, fun h => absurd h (by omega), rfl, rfl, fun j hj => absurd hj (Nat.not_lt_zero _), Own.nil _ _, Below.refl _ _⟩
  case round =>
    obtain ⟨k, ys, ao, co, rfl, hk, hk1, rfl, hlen, hel, hown, hB⟩ := hrel
    have HLN := Lib.hid hlen
    have HEL := Lib.hid hel
    have HO := Lib.hid hown
    have HBW := Lib.hid hB
    have hsz := hB.size
    have hrow := HR.out.below hB
    clear hlen hel hown hB
    by_cases hlt : k + 1 < p.length
    · have hlt2 : (k : Int) + 1 < (p.length : Int) := by omega
      by_cases h2 : k % 2 = 0
      · have hm2 : ((k : Int) % 2 == 0) = true := by simp; omega
        obtain ⟨b, off, rfl, hc⟩ := hrow.el (k + 1) hlt
        have HE := Lib.hid (der_even (p := p) h2)
        clear hrow h2
        go_wp2_with (at_builtin; refine wpList_app1 rfl _ _ rfl (PM.el p (k + 1)) rfl (show Own _ w.heap.size (.slice ao k co) ys from HO.out.alloc _) rfl (cell_new _ _ _) rfl (by rw [HLN.out]; omega) (by simp; omega) ?_; intro a3 cap3 w3 hown3 hg3 hb3)
        go_roundw
        case rel => exact rder_step hlt HLN.out HEL.out HE.out.symm hown3 HBW.out (((Below.refl w.heap.size wr).alloc hsz _).trans hb3)
        case measure => simp [intOf]; omega
      · have hm2 : ((k : Int) % 2 == 0) = false := by simp; omega
        have HE := Lib.hid (der_odd (p := p) h2)
        clear hrow h2
        go_wp2_with (at_builtin; refine wpList_app1 rfl _ _ rfl (0 : PM.G) rfl (show Own _ w.heap.size (.slice ao k co) ys from HO.out.alloc _) rfl (cell_new _ _ _) rfl (by rw [HLN.out]; omega) (by simp; omega) ?_; intro a3 cap3 w3 hown3 hg3 hb3)
        go_roundw
        case rel => exact rder_step hlt HLN.out HEL.out HE.out.symm hown3 HBW.out (((Below.refl w.heap.size wr).alloc hsz _).trans hb3)
        case measure => simp [intOf]; omega
    · have hlt2 : ¬ (k : Int) + 1 < (p.length : Int) := by omega
      have hcoef : ∀ j, PM.el ys j = PM.der (PM.el p) j := fun j => by
        by_cases h : j < k
        · exact HEL.out j h
        · rw [PM.el_ge (by rw [HLN.out]; omega)]
          by_cases e : j % 2 = 0
          · rw [der_even e, PM.el_ge (by omega)]
          · rw [der_odd e]
      have HT := Lib.hid (rtrim_res (w := wr) _ (show Row wr ao ys co from (show Own wr w.heap.size (.slice ao ys.length co) ys by rw [HLN.out]; exact HO.out).rowAt) HLN.out (by omega) hcoef)
      clear hcoef hrow
      go_wp2_with fail
      (with_reducible refine HT.out.mono ?_)
      rintro e w6 ⟨⟨r, a6, c6, rfl, hr, hpol, hco⟩, hb6⟩
      go_wp2_with fail
      go_ret
      exact ⟨⟨r, a6, c6, rfl, hr, hpol, hco⟩, HBW.out.trans (hb6.mono HBW.out.size)⟩
set_option maxHeartbeats 400000 in
theorem rderive_long (a : Option Addr) (cap : Nat) (p : List PM.G) (w : World) (hR : Row w a p cap) (hl : 255 < p.length) :
    Calls Try.prog 36 #[.slice a p.length cap] w fun e W => e = .returned (.slice none 0 0) ∧ Below w.heap.size w W := by
  have hroom := hR.room
  have hmost := hR.most
  clear hR
  go_enter Try.func36, Try.ntmps36
  go_wp2
  go_ret
  exact ⟨rfl, Below.refl _ _⟩

set_option maxRecDepth 100000 in
set_option maxHeartbeats 1000000 in
theorem rroots_yes (a : Option Addr) (cap : Nat) (p : List PM.G) (w : World) (hR : Row w a p cap) (hp : Pol p) (h0 : 0 < p.length) :
    Calls Try.prog 37 #[.slice a p.length cap] w fun e W => (∃ a' cap', e = .returned (.slice a' (rootsL p).length cap') ∧ Row W a' (rootsL p) cap') ∧ Below w.heap.size w W := by
  have hroom := hR.room
  have hmost := hR.most
  have HR := Lib.hid hR
  have HP := Lib.hid hp
  clear hR hp
  have hz : ((p.length : Int) == 0) = false := beq_false_of_ne (by omega)
  go_enter Try.func37, Try.ntmps37
  go_wp2_with fail
  (with_reducible refine (rvalid_yes a p cap w HR.out HP.out).mono ?_)
  rintro e w1 ⟨rfl, rfl⟩
  go_wp2_with fail
  go_loopw [3, 4] (fun r i wr => RootsRel w p r i wr) (fun _ i _ => 256 - (intOf i).toNat)
  case atStart => exact ⟨0, rfl, Nat.zero_le _, ⟨none, 0, rfl⟩, Own.nil _ _, Below.refl _ _⟩
  case round =>
    obtain ⟨k, rfl, hk, ⟨a', cap', rfl⟩, hown, hB⟩ := hrel
    have HO := Lib.hid hown
    have HB := Lib.hid hB
    have HRW := Lib.hid (HR.out.below hB)
    clear hown hB
    by_cases hlt : k < 256
    · have hv : ((ofN k).v : Int) = (k : Int) := by show ((k % 256 : Nat) : Int) = _; omega
      have hek := reval_any a cap p (ofN k) wr HRW.out
      rw [hv] at hek
      have hle := rootsTo_len p k
      have hwr := HB.out.size
      by_cases hroot : PM.ev p (ofN k) = 0
      · have hbz := gv_eq0 hroot
        have HS := Lib.hid (rootsTo_yes p k hlt hroot)
        have HV := Lib.hid hv
        obtain ⟨u, hu⟩ : ∃ u : Int, ((PM.ev p (ofN k)).v : Int) = u := ⟨_, rfl⟩
        rw [hu] at hek hbz
        have HE := Lib.hid hek
        clear hek hv hroot hu
        go_wp2_with fail
        (with_reducible refine HE.out.mono ?_)
        rintro e w2 ⟨rfl, m2, hm2⟩
        have hb2 : Below w.heap.size wr w2 := by rw [hm2]; exact belowN (Below.refl _ _) m2
        have hO2 : Own w2 w.heap.size (.slice a' (rootsTo p k).length cap') (rootsTo p k) := by rw [hm2]; exact HO.out.drewN m2
        have hs2 := hb2.size
        have HO2 := Lib.hid hO2
        have HB2 := Lib.hid (HB.out.trans hb2)
        have hsw2 : w.heap.size ≤ w2.heap.size := HB2.out.size
        clear hb2 hO2 hm2
        go_wp2_with (at_builtin; refine wpList_app1 rfl _ _ rfl (ofN k) rfl (HO2.out.alloc _) rfl (cell_new _ _ _) HV.out.symm (by omega) (by simp; omega) ?_; intro a3 cap3 w3 hown3 hg3 hb3)
        go_roundw
        case rel =>
          refine ⟨k + 1, by go_num, by omega, ⟨a3, cap3, by rw [HS.out, List.length_append]; rfl⟩, ?_, HB2.out.trans (((Below.refl w.heap.size w2).alloc (by omega) _).trans hb3)⟩
          rw [HS.out]
          have := hown3
          rwa [List.length_append] at this
        case measure => simp [intOf]; omega
      · have hbz := gv_neq hroot
        have HS := Lib.hid (rootsTo_no p k hlt hroot)
        obtain ⟨u, hu⟩ : ∃ u : Int, ((PM.ev p (ofN k)).v : Int) = u := ⟨_, rfl⟩
        rw [hu] at hek hbz
        have HE := Lib.hid hek
        clear hek hv hroot hu
        go_wp2_with fail
        (with_reducible refine HE.out.mono ?_)
        rintro e w2 ⟨rfl, m2, hm2⟩
        have hb2 : Below w.heap.size wr w2 := by rw [hm2]; exact belowN (Below.refl _ _) m2
        have hO2 : Own w2 w.heap.size (.slice a' (rootsTo p k).length cap') (rootsTo p k) := by rw [hm2]; exact HO.out.drewN m2
        have HO2 := Lib.hid hO2
        have HB2 := Lib.hid (HB.out.trans hb2)
        clear hb2 hO2 hm2
        go_wp2
        go_roundw
        case rel => exact ⟨k + 1, by go_num, by omega, ⟨a', cap', by rw [HS.out]⟩, by rw [HS.out]; exact HO2.out, HB2.out⟩
        case measure => simp [intOf]; omega
    · obtain rfl : k = 256 := by omega
      go_wp2
      go_ret
      exact ⟨⟨a', cap', rfl, HO.out.rowAt⟩, HB.out⟩
set_option maxHeartbeats 400000 in
theorem rroots_zero (a : Option Addr) (cap : Nat) (p : List PM.G) (w : World) (hR : Row w a p cap) (hp : Pol p) (h0 : p.length = 0) :
    Calls Try.prog 37 #[.slice a p.length cap] w fun e W => e = .returned (.slice none 0 0) ∧ Below w.heap.size w W := by
  have HR := Lib.hid hR
  have HP := Lib.hid hp
  have hz : ((p.length : Int) == 0) = true := by rw [h0]; rfl
  clear hR hp h0
  go_enter Try.func37, Try.ntmps37
  go_wp2_with fail
  (with_reducible refine (rvalid_yes a p cap w HR.out HP.out).mono ?_)
  rintro e w1 ⟨rfl, rfl⟩
  go_wp2
  go_ret
  exact ⟨rfl, Below.refl _ _⟩
set_option maxHeartbeats 400000 in
theorem rroots_bad (a : Option Addr) (cap : Nat) (p : List PM.G) (w : World) (hR : Row w a p cap) (hp : ¬ Pol p) :
    Calls Try.prog 37 #[.slice a p.length cap] w fun e W => e = .returned (.slice none 0 0) ∧ Below w.heap.size w W := by
  have HR := Lib.hid hR
  have HP := Lib.hid hp
  clear hR hp
  go_enter Try.func37, Try.ntmps37
  go_wp2_with fail
  (with_reducible refine (rvalid_no a p cap w HR.out HP.out).mono ?_)
  rintro e w1 ⟨rfl, rfl⟩
  go_wp2
  go_ret
  exact ⟨rfl, Below.refl _ _⟩

set_option maxHeartbeats 400000 in
/-- **poly.Trim** -/
theorem ptrim_any (a : Option Addr) (zs : List PM.G) (cap : Nat) (w : World) (hR : Row w a zs cap) (hl : zs.length < 100000) :
    Calls Try.prog 33 #[.slice a zs.length cap] w fun e W' => (∃ a' cap', e = .returned (.slice a' (PM.trimL zs).length cap') ∧ Row W' a' (PM.trimL zs) cap') ∧ Below w.heap.size w W' := by
  obtain ⟨a2, c2, hc, hr, _⟩ := hR.cut
  have ht := trimmed_any a zs cap w hR
  rw [hc] at ht
  have HT := Lib.hid ht
  have HR2 := Lib.hid hr
  have hlt := PM.trimL_len zs
  clear ht hc hr hR
  go_enter Try.func33, Try.ntmps33
  go_wp2_with fail
  (with_reducible refine HT.out.mono ?_)
  rintro e w1 ⟨rfl, hb1⟩
  have HC := Lib.hid (clone_any a2 (PM.trimL zs) c2 w1 (HR2.out.below hb1) (by omega))
  have HB1 := Lib.hid hb1
  clear hb1
  go_wp2_with fail
  (with_reducible refine HC.out.mono ?_)
  rintro e w2 ⟨a3, c3, rfl, ho, hb2⟩
  go_wp2_with fail
  go_ret
  exact ⟨⟨a3, c3, rfl, ho.rowAt⟩, HB1.out.trans (hb2.mono HB1.out.size)⟩
end Go.Proofs.Ytfbogjibofeckaa.P
