/- ref04.Add. -/
import Derived.Test.YtfbogjibofeckaaPRef1
import Derived.Deep.RegionLaw
namespace Go.Proofs.Ytfbogjibofeckaa.P
open Go Go.RowKit Go.Shelf

theorem rvalid_yes (a : Option Addr) (p : List PM.G) (cap : Nat) (w : World) (hR : Row w a p cap) (hp : Pol p) :
    Calls Try.prog 32 #[.slice a p.length cap] w fun e W' => e = .returned (.bool true) ∧ w = W' := by
  have := rvalid_any a p cap w hR
  rwa [polB_yes hp] at this
theorem rvalid_no (a : Option Addr) (p : List PM.G) (cap : Nat) (w : World) (hR : Row w a p cap) (hp : ¬ Pol p) :
    Calls Try.prog 32 #[.slice a p.length cap] w fun e W' => e = .returned (.bool false) ∧ w = W' := by
  have := rvalid_any a p cap w hR
  rwa [polB_no hp] at this
/-- ref04.Trim of a list whose coefficients are known. -/
theorem rtrim_res {w : World} (f : PM.Co) {a : Option Addr} {n cap : Nat} {ys : List PM.G} (hr : Row w a ys cap) (hn : ys.length = n) (hl : n ≤ 255) (hf : ∀ k, PM.el ys k = f k) :
    Calls Try.prog 34 #[.slice a n cap] w fun e W => (∃ r a c, e = .returned (.slice a (List.length r) c) ∧ Row W a r c ∧ Pol r ∧ ∀ k, PM.el r k = f k) ∧ Below w.heap.size w W := by
  subst hn
  refine (rtrim_any a ys cap w hr (by omega)).mono ?_
  rintro e W ⟨⟨a', c', rfl, ho⟩, hB⟩
  exact ⟨⟨PM.trimL ys, a', c', rfl, ho.rowAt, ⟨PM.can_trimL ys, by have := PM.trimL_len ys; omega⟩, fun k => by rw [PM.el_trimL, hf]⟩, hB⟩

theorem Own.rowAt' {W : World} {B n cap : Nat} {a : Option Addr} {zs : List PM.G} (h : Own W B (.slice a n cap) zs) (hn : zs.length = n) : n ≤ cap ∧ cap ≤ 9223372036854775807 := by
  subst hn
  exact ⟨h.rowAt.room, h.rowAt.most⟩
def RAddRel (w : World) (a : Option Addr) (cap n m : Nat) (P Q : List PM.G) (i : Value) (W : World) : Prop :=
  ∃ (k : Nat) (ys : List PM.G), i = .int .i64 (k : Int) ∧ k ≤ m ∧ ys.length = n ∧ (∀ j, PM.el ys j = PM.el P j + if j < k then PM.el Q j else 0) ∧ Own W w.heap.size (.slice a n cap) ys ∧ Below w.heap.size w W
theorem radd_step {w wr W' : World} {g cap n m k : Nat} {P Q ys : List PM.G} (hk : k < m) (hmn : m ≤ n) (hl : ys.length = n) (he : ∀ j, PM.el ys j = PM.el P j + if j < k then PM.el Q j else 0)
    (ho : Own wr w.heap.size (.slice (some ⟨g, 0, none⟩) n cap) ys) (hB : Below w.heap.size w wr) (hg : w.heap.size ≤ g) (hW : W' = (wr.drewN 1).setCell ⟨g, k, none⟩ (.int .u8 (bits BinOp.xor IntKind.u8 ((PM.el ys k).v : Int) ((PM.el Q k).v : Int)))) :
    RAddRel w (some ⟨g, 0, none⟩) cap n m P Q (.int .i64 ((k : Int) + 1)) W' := by
  subst hW
  rw [xor_G]
  refine ⟨k + 1, ys.set k (PM.el ys k + PM.el Q k), by go_num, hk, by rw [List.length_set]; exact hl, fun j => ?_, ?_, (belowN hB 1).setCell (p := ⟨g, k, none⟩) hg _⟩
  · rw [PM.el_set (by omega)]
    by_cases e : j = k
    · subst e; rw [if_pos rfl, if_pos (Nat.lt_succ_self j), he, if_neg (Nat.lt_irrefl j), PM.G.add_zero]
    · rw [if_neg e, he]
      congr 1
      by_cases h : j < k
      · rw [if_pos h, if_pos (by omega)]
      · rw [if_neg h, if_neg (by omega)]
  · subst hl
    have := (ho.drewN 1).set k (PM.el ys k + PM.el Q k)
    exact this

set_option maxRecDepth 100000 in
set_option maxHeartbeats 1000000 in
/-- **ref04.Add** of two valid polynomials. -/
theorem radd_yes (a b : Option Addr) (ca cb : Nat) (p q : List PM.G) (w : World) (ha : Row w a p ca) (hb : Row w b q cb) (hp : Pol p) (hq : Pol q) :
    Calls Try.prog 28 #[.slice a p.length ca, .slice b q.length cb] w fun e W => PRes (PM.addC (PM.el p) (PM.el q)) e W ∧ Below w.heap.size w W := by
  have hra := ha.room
  have hma := ha.most
  have hrb := hb.room
  have hmb := hb.most
  have hlp := hp.len
  have hlq := hq.len
  have HA := Lib.hid ha
  have HB := Lib.hid hb
  have HP := Lib.hid hp
  have HQ := Lib.hid hq
  clear ha hb hp hq
  by_cases hl : p.length < q.length
  · go_enter Try.func28, Try.ntmps28
    go_wp2_with fail
    (with_reducible refine (rvalid_yes a p ca w HA.out HP.out).mono ?_)
    rintro e w1 ⟨rfl, rfl⟩
    go_wp2_with fail
    (with_reducible refine (rvalid_yes b q cb w HB.out HQ.out).mono ?_)
    rintro e w1 ⟨rfl, rfl⟩
    go_wp2_with (at_builtin; refine wpList_appAny rfl _ _ rfl (B := w.heap.size) (zs := []) (ys := q) rfl (Own.nil _ _) rfl HB.out (by show 0 + _ < 1000000; omega) (Nat.le_refl _) ?_; intro a' cap' w2 hown' hb'; have HO := Lib.hid hown'; have HB2 := Lib.hid hb'; clear hown' hb')
    obtain ⟨n, hn⟩ : ∃ n, q.length = n := ⟨_, rfl⟩
    have ho := HO.out
    rw [List.nil_append, hn] at ho
    have hcc := ho.rowAt' hn
    have hroomN := hcc.1
    have hmostN := hcc.2
    have HO2 := Lib.hid ho
    have HN := Lib.hid hn
    rw [hn]
    clear HO ho hn hcc
    go_loopw [7] (fun i wr => RAddRel w a' cap' n p.length q p i wr) (fun i _ => p.length - (intOf i).toNat)
    case atStart => exact ⟨0, q, rfl, Nat.zero_le _, HN.out, fun j => by rw [if_neg (Nat.not_lt_zero _), PM.G.add_zero], HO2.out, HB2.out⟩
    case round =>
      obtain ⟨k, ys, rfl, hk, hlen, hel, hown, hB⟩ := hrel
      have HLN := Lib.hid hlen
      have HEL := Lib.hid hel
      have HOY := Lib.hid hown
      have HBW := Lib.hid hB
      have HQW := Lib.hid (HA.out.below hB)
      clear hlen hel hown hB HO2 HB2
      by_cases hlt : k < p.length
      · have hkn : k < n := by have := HN.out; omega
        obtain ⟨g, rfl, hg1, hg2⟩ := HOY.out.fresh (by rw [HLN.out]; omega)
        obtain ⟨_, _, _, _, hcz, hfz⟩ := HOY.out.at k (by rw [HLN.out]; exact hkn)
        obtain ⟨qb, qo, rfl, hcq⟩ := HQW.out.el k hlt
        go_wp2_with fail
        go_region
        go_wp2_with fail
        go_roundw
        case rel => exact radd_step hlt (by have := HN.out; omega) HLN.out HEL.out HOY.out HBW.out hg1 rfl
        case measure => simp [intOf]; omega
      · have hcoef : ∀ j, PM.el ys j = PM.addC (PM.el p) (PM.el q) j := fun j => by
          rw [HEL.out]
          have e : (if j < k then PM.el p j else 0) = PM.el p j := by
            by_cases h : j < k
            · rw [if_pos h]
            · rw [if_neg h, PM.el_ge (by omega)]
          rw [e]
          exact PM.G.add_comm _ _
        have HT := Lib.hid (rtrim_res (w := wr) _ (show Row wr a' ys cap' from (show Own wr w.heap.size (.slice a' ys.length cap') ys by rw [HLN.out]; exact HOY.out).rowAt) HLN.out (by have := HN.out; omega) hcoef)
        clear hcoef
        go_wp2_with fail
        (with_reducible refine HT.out.mono ?_)
        rintro e w6 ⟨⟨r, a6, c6, rfl, hr, hpol, hco⟩, hb6⟩
        go_wp2_with fail
        exact bodyPost_ret (v := .tuple #[.slice a6 r.length c6, .int .i64 0]) (by simp [results, Try.results28, go_sem]) rfl ⟨⟨r, a6, c6, rfl, hr, hpol, hco⟩, HBW.out.trans (hb6.mono HBW.out.size)⟩
  · go_enter Try.func28, Try.ntmps28
    go_wp2_with fail
    (with_reducible refine (rvalid_yes a p ca w HA.out HP.out).mono ?_)
    rintro e w1 ⟨rfl, rfl⟩
    go_wp2_with fail
    (with_reducible refine (rvalid_yes b q cb w HB.out HQ.out).mono ?_)
    rintro e w1 ⟨rfl, rfl⟩
    go_wp2_with (at_builtin; refine wpList_appAny rfl _ _ rfl (B := w.heap.size) (zs := []) (ys := p) rfl (Own.nil _ _) rfl HA.out (by show 0 + _ < 1000000; omega) (Nat.le_refl _) ?_; intro a' cap' w2 hown' hb'; have HO := Lib.hid hown'; have HB2 := Lib.hid hb'; clear hown' hb')
    obtain ⟨n, hn⟩ : ∃ n, p.length = n := ⟨_, rfl⟩
    have ho := HO.out
    rw [List.nil_append, hn] at ho
    have hcc := ho.rowAt' hn
    have hroomN := hcc.1
    have hmostN := hcc.2
    have HO2 := Lib.hid ho
    have HN := Lib.hid hn
    rw [hn]
    clear HO ho hn hcc
    go_loopw [7] (fun i wr => RAddRel w a' cap' n q.length p q i wr) (fun i _ => q.length - (intOf i).toNat)
    case atStart => exact ⟨0, p, rfl, Nat.zero_le _, HN.out, fun j => by rw [if_neg (Nat.not_lt_zero _), PM.G.add_zero], HO2.out, HB2.out⟩
    case round =>
      obtain ⟨k, ys, rfl, hk, hlen, hel, hown, hB⟩ := hrel
      have HLN := Lib.hid hlen
      have HEL := Lib.hid hel
      have HOY := Lib.hid hown
      have HBW := Lib.hid hB
      have HQW := Lib.hid (HB.out.below hB)
      clear hlen hel hown hB HO2 HB2
      by_cases hlt : k < q.length
      · have hkn : k < n := by have := HN.out; omega
        obtain ⟨g, rfl, hg1, hg2⟩ := HOY.out.fresh (by rw [HLN.out]; omega)
        obtain ⟨_, _, _, _, hcz, hfz⟩ := HOY.out.at k (by rw [HLN.out]; exact hkn)
        obtain ⟨qb, qo, rfl, hcq⟩ := HQW.out.el k hlt
        go_wp2_with fail
        go_region
        go_wp2_with fail
        go_roundw
        case rel => exact radd_step hlt (by have := HN.out; omega) HLN.out HEL.out HOY.out HBW.out hg1 rfl
        case measure => simp [intOf]; omega
      · have hcoef : ∀ j, PM.el ys j = PM.addC (PM.el p) (PM.el q) j := fun j => by
          rw [HEL.out]
          have e : (if j < k then PM.el q j else 0) = PM.el q j := by
            by_cases h : j < k
            · rw [if_pos h]
            · rw [if_neg h, PM.el_ge (by omega)]
          rw [e]
          exact rfl
        have HT := Lib.hid (rtrim_res (w := wr) _ (show Row wr a' ys cap' from (show Own wr w.heap.size (.slice a' ys.length cap') ys by rw [HLN.out]; exact HOY.out).rowAt) HLN.out (by have := HN.out; omega) hcoef)
        clear hcoef
        go_wp2_with fail
        (with_reducible refine HT.out.mono ?_)
        rintro e w6 ⟨⟨r, a6, c6, rfl, hr, hpol, hco⟩, hb6⟩
        go_wp2_with fail
        exact bodyPost_ret (v := .tuple #[.slice a6 r.length c6, .int .i64 0]) (by simp [results, Try.results28, go_sem]) rfl ⟨⟨r, a6, c6, rfl, hr, hpol, hco⟩, HBW.out.trans (hb6.mono HBW.out.size)⟩
end Go.Proofs.Ytfbogjibofeckaa.P
