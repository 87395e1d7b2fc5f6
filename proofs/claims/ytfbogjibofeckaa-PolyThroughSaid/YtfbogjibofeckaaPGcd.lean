/- poly.Divide, poly.Gcd. -/
import Derived.Test.YtfbogjibofeckaaPDiv2
namespace Go.Proofs.Ytfbogjibofeckaa.P
open Go Go.RowKit Go.Shelf

theorem divide_res (a b : Option Addr) (ca cb : Nat) (p q : List PM.G) (w : World) (ha : Row w a p ca) (hb : Row w b q cb) (hp : Pol p) (hq : Pol q) (hq0 : 0 < q.length) :
    Calls Try.prog 47 #[.slice a p.length ca, .slice b q.length cb] w fun e W => (∃ A r a1 c1 a2 c2, e = .returned (.tuple #[.slice a1 A.length c1, .slice a2 r.length c2]) ∧ Row W a1 A c1 ∧ Row W a2 r c2 ∧ DivEq p q A r) ∧ Below w.heap.size w W := by
  by_cases hl : q.length ≤ p.length
  · exact divide_long a b ca cb p q w ha hb hp hq hq0 hl
  · refine (divide_short a b ca cb p q w ha hb hp (by omega)).mono ?_
    rintro e W ⟨⟨a', c', rfl, hr⟩, hB⟩
    refine ⟨⟨[], p, none, 0, a', c', rfl, Row.nil _ _ _ (by omega), hr, ⟨fun j => ?_, by omega, hp.can, PM.can_nil, by show 0 = _; omega⟩⟩, hB⟩
    rw [show PM.el [] = PM.zeroC from rfl, PM.conv_zeroC_l, PM.G.zero_add]

/-- What Divide gives for two polynomials. -/
def DRes (p q : List PM.G) (e : Ending) (W : World) : Prop :=
  ∃ A r a1 c1 a2 c2, e = .returned (.tuple #[.slice a1 A.length c1, .slice a2 r.length c2, .int .i64 0]) ∧ Row W a1 A c1 ∧ Row W a2 r c2 ∧ DivEq p q A r

set_option maxRecDepth 100000 in
set_option maxHeartbeats 1000000 in
/-- **poly.Divide** -/
theorem pdiv_yes (a b : Option Addr) (ca cb : Nat) (p q : List PM.G) (w : World) (ha : Row w a p ca) (hb : Row w b q cb) (hp : Pol p) (hq : Pol q) (hq0 : 0 < q.length) :
    Calls Try.prog 22 #[.slice a p.length ca, .slice b q.length cb] w fun e W => DRes p q e W ∧ Below w.heap.size w W := by
  have hrb := hb.room
  have hmb := hb.most
  have HA := Lib.hid ha
  have HB := Lib.hid hb
  have HP := Lib.hid hp
  have HQ := Lib.hid hq
  clear ha hb hp hq
  have hz : ((q.length : Int) == 0) = false := beq_false_of_ne (by omega)
  go_enter Try.func22, Try.ntmps22
  go_wp2_with fail
  refine (valid_yes a p ca w HA.out HP.out).mono ?_
  rintro e w1 ⟨rfl, hb1⟩
  have HB1 := Lib.hid (HB.out.below hb1)
  have HA1 := Lib.hid (HA.out.below hb1)
  go_wp2_with fail
  refine (valid_yes b q cb w1 HB1.out HQ.out).mono ?_
  rintro e w2 ⟨rfl, hb2⟩
  have HA2 := Lib.hid (HA1.out.below hb2)
  have HB2 := Lib.hid (HB1.out.below hb2)
  have HD2 := Lib.hid (hb1.trans (hb2.mono hb1.size))
  clear hb1 hb2 HA1 HB1
  go_wp2_with fail
  refine (divide_res a b ca cb p q w2 HA2.out HB2.out HP.out HQ.out hq0).mono ?_
  rintro e w3 ⟨⟨A, r, a1, c1, a2, c2, rfl, h1, h2, heq⟩, hb3⟩
  go_wp2_with fail
  exact bodyPost_ret (v := .tuple #[.slice a1 A.length c1, .slice a2 r.length c2, .int .i64 0]) (by simp [results, Try.results22, go_sem]) rfl ⟨⟨A, r, a1, c1, a2, c2, rfl, h1, h2, heq⟩, HD2.out.trans (hb3.mono HD2.out.size)⟩

set_option maxHeartbeats 400000 in
theorem pdiv_zero (a b : Option Addr) (ca cb : Nat) (p q : List PM.G) (w : World) (ha : Row w a p ca) (hb : Row w b q cb) (hp : Pol p) (hq : Pol q) (hq0 : q.length = 0) :
    Calls Try.prog 22 #[.slice a p.length ca, .slice b q.length cb] w fun e W => e = .returned (.tuple #[.slice none 0 0, .slice none 0 0, .int .i64 4]) ∧ Below w.heap.size w W := by
  have HA := Lib.hid ha
  have HB := Lib.hid hb
  have HP := Lib.hid hp
  have HQ := Lib.hid hq
  clear ha hb hp hq
  have hz : ((q.length : Int) == 0) = true := by rw [hq0]; rfl
  clear hq0
  go_enter Try.func22, Try.ntmps22
  go_wp2_with fail
  refine (valid_yes a p ca w HA.out HP.out).mono ?_
  rintro e w1 ⟨rfl, hb1⟩
  have HB1 := Lib.hid (HB.out.below hb1)
  go_wp2_with fail
  refine (valid_yes b q cb w1 HB1.out HQ.out).mono ?_
  rintro e w2 ⟨rfl, hb2⟩
  go_wp2
  exact bodyPost_ret (v := .tuple #[.slice none 0 0, .slice none 0 0, .int .i64 4]) (by simp [results, Try.results22, go_sem]) rfl ⟨rfl, hb1.trans (hb2.mono hb1.size)⟩
set_option maxHeartbeats 400000 in
theorem pdiv_bad1 (a b : Option Addr) (ca cb : Nat) (p q : List PM.G) (w : World) (ha : Row w a p ca) (hp : ¬ Pol p) :
    Calls Try.prog 22 #[.slice a p.length ca, .slice b q.length cb] w fun e W => e = .returned (.tuple #[.slice none 0 0, .slice none 0 0, .int .i64 1]) ∧ Below w.heap.size w W := by
  have HA := Lib.hid ha
  have HP := Lib.hid hp
  clear ha hp
  go_enter Try.func22, Try.ntmps22
  go_wp2_with fail
  refine (valid_no a p ca w HA.out HP.out).mono ?_
  rintro e w1 ⟨rfl, hb1⟩
  go_wp2
  exact bodyPost_ret (v := .tuple #[.slice none 0 0, .slice none 0 0, .int .i64 1]) (by simp [results, Try.results22, go_sem]) rfl ⟨rfl, hb1⟩
set_option maxHeartbeats 400000 in
theorem pdiv_bad2 (a b : Option Addr) (ca cb : Nat) (p q : List PM.G) (w : World) (ha : Row w a p ca) (hb : Row w b q cb) (hp : Pol p) (hq : ¬ Pol q) :
    Calls Try.prog 22 #[.slice a p.length ca, .slice b q.length cb] w fun e W => e = .returned (.tuple #[.slice none 0 0, .slice none 0 0, .int .i64 1]) ∧ Below w.heap.size w W := by
  have HA := Lib.hid ha
  have HB := Lib.hid hb
  have HP := Lib.hid hp
  have HQ := Lib.hid hq
  clear ha hp hb hq
  go_enter Try.func22, Try.ntmps22
  go_wp2_with fail
  refine (valid_yes a p ca w HA.out HP.out).mono ?_
  rintro e w1 ⟨rfl, hb1⟩
  have HB1 := Lib.hid (HB.out.below hb1)
  go_wp2_with fail
  refine (valid_no b q cb w1 HB1.out HQ.out).mono ?_
  rintro e w2 ⟨rfl, hb2⟩
  go_wp2
  exact bodyPost_ret (v := .tuple #[.slice none 0 0, .slice none 0 0, .int .i64 1]) (by simp [results, Try.results22, go_sem]) rfl ⟨rfl, hb1.trans (hb2.mono hb1.size)⟩

/-- g is the greatest common divisor of p and q, with 1 as its last element. -/
structure GcdOf (p q g : List PM.G) : Prop where
  pol : Pol g
  dv : ∀ h, PM.Dv h (PM.el g) ↔ PM.Dv h (PM.el p) ∧ PM.Dv h (PM.el q)
  one : 0 < g.length → PM.el g (g.length - 1) = PM.G.one
theorem dv_nil (h : PM.Co) : PM.Dv h (PM.el []) := PM.Dv.zero h
theorem dv_smul {h f f' : PM.Co} {c : PM.G} (hd : PM.Dv h f) (e : ∀ k, f' k = c * f k) : PM.Dv h f' := by
  obtain ⟨d, N, hv, hf⟩ := hd
  exact ⟨PM.smul c d, N, hv.smul c, fun k => by rw [e, hf, PM.conv_smul_l]⟩
theorem dv_smul_iff {h f f' : PM.Co} {c : PM.G} (hc : c ≠ 0) (e : ∀ k, f' k = c * f k) : PM.Dv h f' ↔ PM.Dv h f :=
  ⟨fun hd => dv_smul (c := c.inv) hd (fun k => by rw [e, ← PM.G.mul_assoc, PM.G.mul_comm c.inv, PM.G.mul_inv hc, PM.G.one_mul]), fun hd => dv_smul hd e⟩
/-- One step of Euclid's. -/
theorem dv_step {p q A r : List PM.G} (h : DivEq p q A r) (f : PM.Co) : PM.Dv f (PM.el p) ∧ PM.Dv f (PM.el q) ↔ PM.Dv f (PM.el q) ∧ PM.Dv f (PM.el r) := by
  constructor
  · rintro ⟨h1, h2⟩
    refine ⟨h2, PM.Dv.step h2 h1 (PM.el_van A) (fun k => ?_)⟩
    rw [h.eq k, PM.G.add_cancel]
  · rintro ⟨h1, h2⟩
    exact ⟨PM.Dv.step h1 h2 (PM.el_van A) h.eq, h1⟩
theorem DivEq.pol {p q A r : List PM.G} (h : DivEq p q A r) (hq : Pol q) : Pol r := ⟨h.can, by have := hq.len; have := h.less; omega⟩

def lenV : Value → Nat
  | .slice _ n _ => n
  | _ => 0
def GcdRel (w : World) (p q : List PM.G) (D R : Value) (W : World) : Prop :=
  ∃ d r a1 c1 a2 c2, D = .slice a1 (List.length d) c1 ∧ R = .slice a2 (List.length r) c2 ∧ Row W a1 d c1 ∧ Row W a2 r c2 ∧ Pol d ∧ Pol r ∧ (∀ h, (PM.Dv h (PM.el d) ∧ PM.Dv h (PM.el r)) ↔ (PM.Dv h (PM.el p) ∧ PM.Dv h (PM.el q))) ∧ Below w.heap.size w W

/-- What Gcd gives for two polynomials. -/
def GRes (p q : List PM.G) (e : Ending) (W : World) : Prop := ∃ g a c, e = .returned (.tuple #[.slice a (List.length g) c, .int .i64 0]) ∧ Row W a g c ∧ GcdOf p q g

set_option maxRecDepth 100000 in
set_option maxHeartbeats 1000000 in
/-- **poly.Gcd** -/
theorem gcd_yes (a b : Option Addr) (ca cb : Nat) (p q : List PM.G) (w : World) (ha : Row w a p ca) (hb : Row w b q cb) (hp : Pol p) (hq : Pol q) :
    Calls Try.prog 25 #[.slice a p.length ca, .slice b q.length cb] w fun e W => GRes p q e W ∧ Below w.heap.size w W := by
  have HA := Lib.hid ha
  have HB := Lib.hid hb
  have HP := Lib.hid hp
  have HQ := Lib.hid hq
  clear ha hb hp hq
  go_enter Try.func25, Try.ntmps25
  go_wp2_with fail
  refine (valid_yes a p ca w HA.out HP.out).mono ?_
  rintro e w1 ⟨rfl, hb1⟩
  have HB1 := Lib.hid (HB.out.below hb1)
  have HA1 := Lib.hid (HA.out.below hb1)
  go_wp2_with fail
  refine (valid_yes b q cb w1 HB1.out HQ.out).mono ?_
  rintro e w2 ⟨rfl, hb2⟩
  have HA2 := Lib.hid (HA1.out.below hb2)
  have HB2 := Lib.hid (HB1.out.below hb2)
  have HD2 := Lib.hid (hb1.trans (hb2.mono hb1.size))
  clear hb1 hb2 HA1 HB1
  go_wp2_with fail
  go_loopw [6, 7] (fun d r wr => GcdRel w p q d r wr) (fun _ r _ => lenV r)
  case atStart => exact ⟨p, q, a, ca, b, cb, rfl, rfl, HA2.out, HB2.out, HP.out, HQ.out, fun _ => Iff.rfl, HD2.out⟩
  case round =>
    obtain ⟨d, r, a1, c1, a2, c2, rfl, rfl, h1, h2, hd, hr, hdv, hB⟩ := hrel
    have hr1 := h1.room
    have hm1 := h1.most
    have hr2 := h2.room
    have hm2 := h2.most
    have H1 := Lib.hid h1
    have H2 := Lib.hid h2
    have HDP := Lib.hid hd
    have HRP := Lib.hid hr
    have HDV := Lib.hid hdv
    have HBB := Lib.hid hB
    clear h1 h2 hd hr hdv hB
    have hwr := HBB.out.size
    by_cases h0 : 0 < r.length
    · go_wp2_with fail
      refine (divide_res a1 a2 c1 c2 d r wr H1.out H2.out HDP.out HRP.out h0).mono ?_
      rintro e w3 ⟨⟨A, s, b1, e1, b2, e2, rfl, k1, k2, heq⟩, hb3⟩
      have hm3 := k2.most
      have hr3 := k2.room
      have K2 := Lib.hid k2
      have H23 := Lib.hid (H2.out.below hb3)
      have HEQ := Lib.hid heq
      have HB3 := Lib.hid (HBB.out.trans (hb3.mono hwr))
      clear k1 k2 heq hb3
      go_wp2_with fail
      go_roundw
      case rel => exact ⟨r, s, a2, c2, b2, e2, rfl, rfl, H23.out, K2.out, HRP.out, HEQ.out.pol HRP.out, fun h => (dv_step HEQ.out h).symm.trans (HDV.out h), HB3.out⟩
      case measure => exact HEQ.out.less
    · obtain rfl : r = [] := List.length_eq_zero_iff.1 (by omega)
      by_cases hd0 : 0 < d.length
      · have hz : ((d.length : Int) == 0) = false := beq_false_of_ne (by omega)
        obtain ⟨n, hn⟩ : ∃ n, d.length = n := ⟨_, rfl⟩
        have hdl := HDP.out.len
        have HN := Lib.hid hn
        rw [hn] at hz hd0 hr1 hdl ⊢
        clear hn
        have ht := fun W (hW : Row W a1 d c1) => top_any a1 c1 d W hW (by have := HN.out; omega)
        rw [HN.out] at ht
        have HT := Lib.hid ht
        clear ht
        go_wp2_with (at_make; refine wpList_make1 rfl _ _ rfl n rfl rfl (by omega) (by omega) (B := wr.heap.size) (Nat.le_refl _) ?_; intro w4 hown4 hb4; have HO4 := Lib.hid hown4; have HB4 := Lib.hid hb4; have HR4 := Lib.hid (H1.out.below hb4); clear hown4 hb4)
        refine (HT.out _ HR4.out).mono ?_
        rintro e w5 ⟨rfl, m5, rfl⟩
        have hlr : (List.replicate n (0 : PM.G)).length = n := List.length_replicate
        have hO5 := HO4.out.drewN m5
        have ht := addMul_any wr.heap.size wr.heap.size n 0 n n c1 (List.replicate n 0) d a1 (PM.el d (n - 1)).inv (w4.drewN m5) hO5 (HR4.out.drewN m5) (by rw [hlr, HN.out]; omega) (by rw [HN.out]; exact Nat.le_refl _) (Nat.le_refl _) (by omega) (by
          intro h0 b' o e; subst e
          have := H1.out.lt h0; omega)
        rw [HN.out] at ht
        go_wp2_with fail
        refine ht.mono ?_
        clear ht
        rintro e w6 ⟨ys, rfl, hl6, hel6, ho6, hg6⟩
        rw [hl6, hlr] at ho6
        have hne : PM.el d (n - 1) ≠ 0 := by have := HDP.out.can (by have := HN.out; omega); rwa [HN.out] at this
        have hel : ∀ j, PM.el ys j = (PM.el d (n - 1)).inv * PM.el d j := fun j => by
          rw [hel6, PM.el_replicate, PM.G.zero_add, if_neg (Nat.not_lt_zero _), Nat.sub_zero]
        have hly : ys.length = n := by rw [hl6, hlr]
        have hgo : GcdOf p q ys := by
          refine ⟨⟨fun _ => ?_, by omega⟩, fun h => ?_, fun _ => ?_⟩
          · rw [hly, hel]; exact PM.G.mul_ne (PM.G.inv_ne hne) hne
          · rw [dv_smul_iff (PM.G.inv_ne hne) hel, ← HDV.out h]
            exact ⟨fun hh => ⟨hh, dv_nil h⟩, fun hh => hh.1⟩
          · rw [hly, hel, PM.G.mul_comm, PM.G.mul_inv hne]
        have hs4 := HB4.out.size
        have hB6 : Below wr.heap.size wr w6 := (belowN HB4.out m5).trans (grown_below hg6 (Nat.le_refl _) hs4)
        have HGO := Lib.hid hgo
        have HO6 := Lib.hid ho6
        have HB6 := Lib.hid (HBB.out.trans (hB6.mono hwr))
        clear hgo ho6 hB6 hel hg6 hel6
        go_wp2_with fail
        exact bodyPost_ret (v := .tuple #[.slice (some ⟨wr.heap.size, 0, none⟩) n n, .int .i64 0]) (by simp [results, Try.results25, go_sem]) rfl ⟨⟨ys, some ⟨wr.heap.size, 0, none⟩, n, by rw [hly], (show Own w6 wr.heap.size (.slice (some ⟨wr.heap.size, 0, none⟩) ys.length n) ys by rw [hly]; exact HO6.out).rowAt, HGO.out⟩, HB6.out⟩
      · obtain rfl : d = [] := List.length_eq_zero_iff.1 (by omega)
        go_wp2_with fail
        exact bodyPost_ret (v := .tuple #[.slice none 0 0, .int .i64 0]) (by simp [results, Try.results25, go_sem]) rfl ⟨⟨[], none, 0, rfl, Row.nil _ _ _ (by omega), ⟨⟨PM.can_nil, Nat.zero_le _⟩, fun h => by
          rw [← HDV.out h]; exact ⟨fun hh => ⟨hh, hh⟩, fun hh => hh.1⟩, fun h => absurd h (by decide)⟩⟩, HBB.out⟩
end Go.Proofs.Ytfbogjibofeckaa.P
