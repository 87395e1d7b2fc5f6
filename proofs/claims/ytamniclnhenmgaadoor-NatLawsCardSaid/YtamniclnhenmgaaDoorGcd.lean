/- nat.Gcd. -/
import Derived.Test.YtamniclnhenmgaaDoorDivide
import Derived.Deep.RegionHeld3
namespace Go.Proofs.YtamniclnhenmgaaDoor
open Go Go.RowKit Go.Shelf

/-- The int in cell j of a slice. -/
def cellInt (W : World) (a : Option Addr) (j : Nat) : Int :=
  match a with
  | some p => match W.cell? ⟨p.block, p.off + j, none⟩ with | some (.int _ z) => z | _ => 0
  | none => 0
/-- The number that a slice holds. -/
def numAt (W : World) : Value → Nat
  | .slice a n _ => (M.val ((List.range n).map (cellInt W a))).toNat
  | _ => 0
theorem numAt_row {W : World} {a : Option Addr} {c v : Nat} (h : Row W a (M.dig v) c) : numAt W (.slice a (M.dig v).length c) = v := by
  have e : (List.range (M.dig v).length).map (cellInt W a) = M.dig v := by
    refine M.ext_el (by simp) fun j hj => ?_
    have hj' : j < (M.dig v).length := by simpa using hj
    obtain ⟨b, off, rfl, hc⟩ := h.el j hj'
    rw [M.el_lt hj, List.getElem_map, List.getElem_range]
    simp [cellInt, hc]
  unfold numAt
  simp only
  rw [e, M.val_dig, Int.toNat_natCast]

def GcdRel (w : World) (x y : Nat) (s t : Value) (W : World) : Prop :=
  ∃ (u v : Nat) (a b : Option Addr) (ca cb : Nat), s = .slice a (M.dig u).length ca ∧ t = .slice b (M.dig v).length cb ∧ Row W a (M.dig u) ca ∧ Row W b (M.dig v) cb ∧ Fresh (w.heap.size + 3) a (M.dig u) ∧ Fresh (w.heap.size + 3) b (M.dig v) ∧
    (M.dig u).length ≤ 200 ∧ (M.dig v).length ≤ 200 ∧ Nat.gcd u v = Nat.gcd x y ∧ W.cell? ⟨w.heap.size + 1 + 1, 0, none⟩ = some (.slice none 0 0) ∧ W.frozen? ⟨w.heap.size + 1 + 1, 0, none⟩ = false ∧ w.heap.size + 3 ≤ W.heap.size ∧ Below w.heap.size w W

set_option maxRecDepth 100000 in
set_option maxHeartbeats 1000000 in
theorem gcd_any (a b : Option Addr) (ca cb x y : Nat) (w : World) (hx200 : (M.dig x).length ≤ 200) (hy200 : (M.dig y).length ≤ 200) (hA : Row w a (M.dig x) ca) (hB : Row w b (M.dig y) cb) :
    Calls Tryd.prog 44 #[.agg #[.slice a (M.dig x).length ca], .agg #[.slice b (M.dig y).length cb]] w fun e W' => (∃ v, e = .returned (.tuple #[v, .int .i64 0]) ∧ Num W' v (Nat.gcd x y)) ∧ Below w.heap.size w W' := by
  have Hvx := Lib.hid (vld_dig hx200)
  have Hvy := Lib.hid (vld_dig hy200)
  have hb3 := boxes_below w (.slice a (M.dig x).length ca) (.slice b (M.dig y).length cb)
  have hs3 := boxes_size w (.slice a (M.dig x).length ca) (.slice b (M.dig y).length cb)
  obtain ⟨c0, c1, c2, f2⟩ := boxes_cells w (.slice a (M.dig x).length ca) (.slice b (M.dig y).length cb)
  have HA := Lib.hid hA
  have HB := Lib.hid hB
  have HB3 := Lib.hid hb3
  clear hA hB hb3
  go_enter Tryd.func44, Tryd.ntmps44
  go_wp2_with fail
  generalize hw3 : (((w.alloc (.cells #[.slice a (M.dig x).length ca] 24)).alloc (.cells #[.slice b (M.dig y).length cb] 24)).alloc (.cells #[.slice none 0 0] 24)) = w3
  obtain rfl : boxes w (.slice a (M.dig x).length ca) (.slice b (M.dig y).length cb) = w3 := hw3
  generalize boxes w (.slice a (M.dig x).length ca) (.slice b (M.dig y).length cb) = w3 at *
  refine (valid_yes a _ ca _ (HA.out.below HB3.out) Hvx.out).mono ?_
  rintro e w5 ⟨rfl, hb5⟩
  have d0 := cell_below hb5 c0
  have d1 := cell_below hb5 c1
  have d2 := cell_below hb5 c2
  have g2 := frozen_below hb5 c2 f2
  have HB5 := Lib.hid (HB3.out.trans (hb5.mono HB3.out.size))
  have hs5 := hb5.size
  clear c0 c1 c2 f2 hb5
  go_wp2_with fail
  refine (valid_yes b _ cb _ (HB.out.below HB5.out) Hvy.out).mono ?_
  rintro e w6 ⟨rfl, hb6⟩
  have c0 := cell_below hb6 d0
  have c1 := cell_below hb6 d1
  have c2 := cell_below hb6 d2
  have f2 := frozen_below hb6 d2 g2
  have HB6 := Lib.hid (HB5.out.trans (hb6.mono HB5.out.size))
  have hs6 := hb6.size
  clear d0 d1 d2 g2 hb6
  have HCA := Lib.hid (fun (W : World) (hb : Below w6.heap.size w6 W) => clone_row a (M.dig x) ca W ((HA.out.below HB6.out).below hb) (by omega))
  have HCB := Lib.hid (fun (W : World) (hb : Below w6.heap.size w6 W) => clone_row b (M.dig y) cb W ((HB.out.below HB6.out).below hb) (by omega))
  have hw6 : w.heap.size + 3 ≤ w6.heap.size := by omega
  go_wp2_with fail
  have hbd : Below w6.heap.size w6 w6.drew := belowN (Below.refl _ _) 1
  have hsd : w6.drew.heap.size = w6.heap.size := rfl
  go_region_held3 (fun w' => w'.cell? ⟨w.heap.size, 0, none⟩ = some (.slice a (M.dig x).length ca) ∧ w'.cell? ⟨w.heap.size + 1, 0, none⟩ = some (.slice b (M.dig y).length cb))
    (first | exact ⟨c0, c1⟩ | exact ⟨cell_below hb1 c0, cell_below hb1 c1⟩ | exact ⟨cell_below (hb1.trans (hb2.mono hb1.size)) c0, cell_below (hb1.trans (hb2.mono hb1.size)) c1⟩)
    (first
      | (go_at_call 80; (with_reducible refine (HCA.out _ hbd).mono ?_); rintro e wa ⟨a1, p1, rfl, ho1, hb1⟩)
      | (go_at_call 80; (with_reducible refine (HCB.out _ (hbd.trans (hb1.mono (Nat.le_refl _)))).mono ?_); rintro e wb ⟨b1, q1, rfl, ho2, hb2⟩))
  have hs1 := hb1.size
  have hs2 := hb2.size
  have hab := hbd.trans (hb1.mono (Nat.le_refl _))
  have hab2 := hab.trans (hb2.mono hab.size)
  have hr0 : GcdRel w x y (.slice a1 (M.dig x).length p1) (.slice b1 (M.dig y).length q1) wb :=
    ⟨x, y, a1, b1, p1, q1, rfl, rfl, ho1.rowAt.below hb2, ho2.rowAt, (ho1.mono (by omega)).fresh, (ho2.mono (by omega)).fresh, hx200, hy200, rfl, cell_below hab2 c2, frozen_below hab2 c2 f2, by omega, HB6.out.trans (hab2.mono (by omega))⟩
  have HR0 := Lib.hid hr0
  clear hr0 hab hab2 hs1 hs2 hsd hbd hb1 hb2 ho1 ho2 HCA HCB c0 c1 c2 f2 HB6 HB5 HB3 HA HB Hvx Hvy hs3 hs5 hs6 hw6
  try clear hHeld
  go_wp2_with fail
  go_loopw [6, 7] (fun s t wr => GcdRel w x y s t wr) (fun _ t wr => numAt wr t)
  case atStart => exact HR0.out
  case round =>
    clear HR0
    obtain ⟨u, v, a, b, ca, cb, rfl, rfl, hra, hrb, hfa, hfb, hu200, hv200, hg, c2, f2, hsz, hbw⟩ := hrel
    have HRA := Lib.hid hra
    have HRB := Lib.hid hrb
    have HFA := Lib.hid hfa
    have HFB := Lib.hid hfb
    have HG := Lib.hid hg
    have HBW := Lib.hid hbw
    clear hra hrb hfa hfb hg hbw
    by_cases hv0 : v = 0
    · subst hv0
      have hg0 := HG.out
      rw [Nat.gcd_zero_right] at hg0
      have HG0 := Lib.hid hg0
      clear hg0
      have hlt : w.heap.size + 1 + 1 < wr.heap.size := by omega
      rw [M.dig_zero]
      go_wp2_with fail
      refine bodyPost_ret (v := .tuple #[.agg #[.slice a (M.dig u).length ca], .int .i64 0]) (by simp [results, Tryd.results44, go_sem, c2]) rfl ⟨⟨_, rfl, a, ca, by rw [HG0.out], ?_⟩, ?_⟩
      · rw [← HG0.out]
        exact HRA.out.setFresh HFA.out (p := ⟨w.heap.size + 1 + 1, 0, none⟩) (by show w.heap.size + 1 + 1 < w.heap.size + 3; omega) _
      · exact HBW.out.setCell (p := ⟨w.heap.size + 1 + 1, 0, none⟩) (by simp; omega) _
    · have hvp : 0 < v := by omega
      have hvl : 0 < (M.dig v).length := by
        rcases Nat.eq_zero_or_pos (M.dig v).length with h | h
        · exact absurd (M.dig_nil.1 (List.length_eq_zero_iff.1 h)) hv0
        · exact h
      go_wp2_with fail
      refine (divideLimbs_any a b ca cb u v wr hvp hu200 hv200 HRA.out HRB.out).mono ?_
      rintro e w2 ⟨a1, c1, a2, p2, rfl, _, hr2, _, hf2, hb2⟩
      have HR2 := Lib.hid hr2
      have HF2 := Lib.hid hf2
      have HB2 := Lib.hid hb2
      clear hr2 hf2 hb2
      go_wp2_with fail
      go_roundw
      case rel =>
        exact ⟨v, u % v, b, a2, cb, p2, rfl, rfl, HRB.out.below HB2.out, HR2.out, HFB.out, fun b off e hl => Nat.le_trans hsz (HF2.out b off e hl), hv200, Nat.le_trans (dig_len_mod u v) hu200, by rw [← HG.out, Nat.gcd_comm v, ← Nat.gcd_rec, Nat.gcd_comm],
          cell_below HB2.out c2, frozen_below HB2.out c2 f2, Nat.le_trans hsz HB2.out.size, HBW.out.trans (HB2.out.mono HBW.out.size)⟩
      case measure =>
        rw [numAt_row HR2.out, numAt_row HRB.out]
        exact Nat.mod_lt u hvp
end Go.Proofs.YtamniclnhenmgaaDoor
