/- symbol.Syndromes, Encode. bytes.Clone; symbol.corrected. What Decode looks for, plain mathematics. symbol.Decode. Dice.One. Slices of bytes (BitVec 8). Dice.Bytes. law07.some; Dice.Symbols; Dice.Bytes as elements of the field. Dice.Symbols; Dice.Bytes as elements of the field. law07.awake. What the walks of law07 share: a box for the code. What the walks of law07 share: words that differ at few places. Parameters of type []int: what they hold, and their reading again behind a call that only makes memory; the row post. ref04.Valid, Trim. ref04.Valid, Trim (of XPRef2). -/
import Derived.Test.YtijkgplglfmfnaaK3
import Derived.Deep.RegionLaw
import Derived.Deep.CutBlock
import Derived.Deep.DeepCutAuto
import Derived.Test.YtijkgplglfmfnaaRows
import Derived.WalkKit
import Derived.ProofKit
import Derived.OpenShut
namespace Go.Proofs.Ytijkgplglfmfnaa.P
open Go Go.RowKit Go.Shelf
open G.S (codeV Cd code_box isSymbol_any length_any)

/-- A code word. -/
structure CW (D C : Nat) (ws : List PM.G) : Prop where
  len : ws.length = D + C
  syn : ∀ j, j < C → SM.syn (D + C) (SM.XE (D + C)) (PM.el ws) j = 0
/-- The code word that begins with the data. -/
structure IsEnc (D C : Nat) (data ws : List PM.G) : Prop where
  cw : CW D C ws
  data : ∀ i, i < D → PM.el ws i = PM.el data i
theorem IsEnc.one {D C : Nat} {data ws ws' : List PM.G} (hn : D + C ≤ 255) (h : IsEnc D C data ws) (h' : IsEnc D C data ws') : ws = ws' :=
  PM.ext_el (by rw [h.cw.len, h'.cw.len]) (fun k hk => by
    rw [h.cw.len] at hk
    exact SM.enc_one (n := D + C) (m := C) (SM.xe_inj hn) h.cw.syn h'.cw.syn (fun i hi => by rw [h.data i (by omega), h'.data i (by omega)]) k hk)
/-- The values of a word where code words are 0. -/
def synL (D C : Nat) (zs : List PM.G) : List PM.G := tab C (SM.syn (D + C) (SM.XE (D + C)) (PM.el zs))
theorem synL_len (D C : Nat) (zs : List PM.G) : (synL D C zs).length = C := tab_len _ _
/-- What Syndromes answers. -/
def SynR (w : World) (D C : Nat) (zs : List PM.G) (e : Ending) (W : World) : Prop :=
  ∃ a c, e = .returned (.tuple #[.slice a C c, .int .i64 0]) ∧ Own W w.heap.size (.slice a C c) (synL D C zs) ∧ Below w.heap.size w W
def No (w : World) (k : Int) (e : Ending) (W : World) : Prop := e = .returned (.tuple #[.slice none 0 0, .int .i64 k]) ∧ Below w.heap.size w W

set_option maxRecDepth 100000 in
set_option maxHeartbeats 1000000 in
/-- **symbol.Syndromes** -/
theorem syndromes_inv {D C F : Nat} (hc : Cd D C F) (hF : ¬ F ≤ C / 2) (a : Option Addr) (n cap : Nat) (w : World) :
    Calls Try.prog 23 #[codeV D C F, .slice a n cap] w (No w 1) := by
  have HIS := Lib.hid (fun W => isSymbol_any hc false (decide_eq_false hF) W)
  unfold codeV at *
  obtain ⟨w1, hw1, c0, c1, c2, c3, hB, _⟩ := code_box w D C F 28
  have HB := Lib.hid hB
  clear hB hc hF
  go_enter Try.func23, Try.ntmps23
  go_wp2_with fail
  (with_reducible refine (HIS.out _).mono ?_)
  rintro e w2 ⟨rfl, hb2⟩
  have HB2 := Lib.hid (HB.out.trans (hb2.mono HB.out.size))
  clear hb2
  go_wp2_with fail
  exact bodyPost_ret (v := .tuple #[.slice none 0 0, .int .i64 1]) (by simp [results, Try.results23, go_sem]) rfl ⟨rfl, HB2.out⟩
set_option maxRecDepth 100000 in
set_option maxHeartbeats 1000000 in
theorem syndromes_size {D C F : Nat} (hc : Cd D C F) (hF : F ≤ C / 2) (a : Option Addr) (n cap : Nat) (hn : n ≠ D + C) (w : World) :
    Calls Try.prog 23 #[codeV D C F, .slice a n cap] w (No w 7) := by
  have HIS := Lib.hid (fun W => isSymbol_any hc true (decide_eq_true hF) W)
  have HLE := Lib.hid (fun W => length_any hc W)
  have hne : ((n : Int) != ((D + C : Nat) : Int)) = true := by rw [bne_iff_ne]; omega
  obtain ⟨m, hm⟩ : ∃ m, D + C = m := ⟨_, rfl⟩
  rw [hm] at HLE hne
  unfold codeV at *
  obtain ⟨w1, hw1, c0, c1, c2, c3, hB, _⟩ := code_box w D C F 28
  have HB := Lib.hid hB
  clear hB hc hF hm hn
  go_enter Try.func23, Try.ntmps23
  go_wp2_with fail
  (with_reducible refine (HIS.out _).mono ?_)
  rintro e w2 ⟨rfl, hb2⟩
  have HB2 := Lib.hid (HB.out.trans (hb2.mono HB.out.size))
  replace c0 := G.cell_below hb2 c0
  replace c1 := G.cell_below hb2 c1
  replace c2 := G.cell_below hb2 c2
  replace c3 := G.cell_below hb2 c3
  clear hb2
  go_wp2_with fail
  (with_reducible refine (HLE.out _).mono ?_)
  rintro e w3 ⟨rfl, hb3⟩
  have HB3 := Lib.hid (HB2.out.trans (hb3.mono HB2.out.size))
  clear hb3
  go_wp2_with fail
  exact bodyPost_ret (v := .tuple #[.slice none 0 0, .int .i64 7]) (by simp [results, Try.results23, go_sem]) rfl ⟨rfl, HB3.out⟩
set_option maxRecDepth 100000 in
set_option maxHeartbeats 1000000 in
theorem syndromes_yes {D C F : Nat} (hc : Cd D C F) (hF : F ≤ C / 2) (a : Option Addr) (zs : List PM.G) (cap : Nat) (w : World) (hR : Row w a zs cap) (hn : zs.length = D + C) :
    Calls Try.prog 23 #[codeV D C F, .slice a (D + C) cap] w (SynR w D C zs) := by
  have HIS := Lib.hid (fun W => isSymbol_any hc true (decide_eq_true hF) W)
  have HLE := Lib.hid (fun W => length_any hc W)
  have HSI := Lib.hid (show ∀ W, Row W a zs cap → Calls Try.prog 47 #[codeV D C F, .slice a (D + C) cap] W fun e W' => ∃ g, e = .returned (.slice (some ⟨g, 0, none⟩) C C) ∧ Own W' W.heap.size (.slice (some ⟨g, 0, none⟩) C C) (synL D C zs) ∧ Below W.heap.size W W' from fun W hr => by
    have h := syndromes_in hc a zs cap W hr (by have := hc.d2; have := hc.c2; omega)
    rw [hn] at h
    refine h.mono ?_
    rintro e W' ⟨g, h1, _, h3, h4⟩
    exact ⟨g, h1, h3, h4⟩)
  have hne : (((D + C : Nat) : Int) != ((D + C : Nat) : Int)) = false := by simp
  unfold codeV at *
  obtain ⟨w1, hw1, c0, c1, c2, c3, hB, _⟩ := code_box w D C F 28
  have HB := Lib.hid hB
  have HR := Lib.hid hR
  obtain ⟨S, hS⟩ : ∃ S, synL D C zs = S := ⟨_, rfl⟩
  unfold SynR
  rw [hS] at HSI ⊢
  obtain ⟨m, hm⟩ : ∃ m, D + C = m := ⟨_, rfl⟩
  rw [hm] at HLE hne HSI ⊢
  clear hB hc hF hm hn hR hS
  go_enter Try.func23, Try.ntmps23
  go_wp2_with fail
  (with_reducible refine (HIS.out _).mono ?_)
  rintro e w2 ⟨rfl, hb2⟩
  have HB2 := Lib.hid (HB.out.trans (hb2.mono HB.out.size))
  replace c0 := G.cell_below hb2 c0
  replace c1 := G.cell_below hb2 c1
  replace c2 := G.cell_below hb2 c2
  replace c3 := G.cell_below hb2 c3
  clear hb2
  go_wp2_with fail
  (with_reducible refine (HLE.out _).mono ?_)
  rintro e w3 ⟨rfl, hb3⟩
  replace c0 := G.cell_below hb3 c0
  replace c1 := G.cell_below hb3 c1
  replace c2 := G.cell_below hb3 c2
  replace c3 := G.cell_below hb3 c3
  have HB3 := Lib.hid (HB2.out.trans (hb3.mono HB2.out.size))
  have HC := Lib.hid (HSI.out w3 (HR.out.below HB3.out))
  clear hb3
  go_wp2_with fail
  (with_reducible refine HC.out.mono ?_)
  rintro e w4 ⟨g, rfl, ho, hb4⟩
  go_wp2_with fail
  exact bodyPost_ret (v := .tuple #[.slice (some ⟨g, 0, none⟩) C C, .int .i64 0]) (by simp [results, Try.results23, go_sem]) rfl ⟨_, _, rfl, ho.mono HB3.out.size, HB3.out.trans (hb4.mono HB3.out.size)⟩

theorem Own.rowAt'' {W : World} {B n cap : Nat} {a : Option Addr} {zs : List PM.G} (h : Own W B (.slice a n cap) zs) (hn : zs.length = n) : Row W a zs cap := by subst hn; exact h.rowAt
/-- What Encode answers. -/
def EncR (w : World) (D C : Nat) (data : List PM.G) (e : Ending) (W : World) : Prop :=
  ∃ ws a c, e = .returned (.tuple #[.slice a (D + C) c, .int .i64 0]) ∧ Own W w.heap.size (.slice a (D + C) c) ws ∧ IsEnc D C data ws ∧ Below w.heap.size w W
set_option maxRecDepth 100000 in
set_option maxHeartbeats 1000000 in
/-- **symbol.Encode** -/
theorem encode_inv {D C F : Nat} (hc : Cd D C F) (hF : ¬ F ≤ C / 2) (a : Option Addr) (n cap : Nat) (w : World) :
    Calls Try.prog 18 #[codeV D C F, .slice a n cap] w (No w 1) := by
  have HIS := Lib.hid (fun W => isSymbol_any hc false (decide_eq_false hF) W)
  unfold codeV at *
  obtain ⟨w1, hw1, c0, c1, c2, c3, hB, _⟩ := code_box w D C F 28
  have HB := Lib.hid hB
  clear hB hc hF
  go_enter Try.func18, Try.ntmps18
  go_wp2_with fail
  (with_reducible refine (HIS.out _).mono ?_)
  rintro e w2 ⟨rfl, hb2⟩
  have HB2 := Lib.hid (HB.out.trans (hb2.mono HB.out.size))
  clear hb2
  go_wp2_with fail
  exact bodyPost_ret (v := .tuple #[.slice none 0 0, .int .i64 1]) (by simp [results, Try.results18, go_sem]) rfl ⟨rfl, HB2.out⟩
/-- The word when i elements of the rest have been stored. -/
def wdF (D C : Nat) (data r : List PM.G) (i : Nat) : Nat → PM.G := fun j => if D + C ≤ j + i then PM.el r (D + C - 1 - j) else if j < D then PM.el data j else 0
theorem wdF_step (D C : Nat) (data r : List PM.G) (i : Nat) (hi : i < D + C) : (tab (D + C) (wdF D C data r i)).set (D + C - 1 - i) (PM.el r i) = tab (D + C) (wdF D C data r (i + 1)) := by
  rw [tab_set _ _ _ _ (by omega)]
  refine tab_ext (fun j hj => ?_)
  unfold upd wdF
  by_cases e : j = D + C - 1 - i
  · rw [if_pos e, if_pos (by omega)]; congr 1; omega
  · rw [if_neg e]
    by_cases h : D + C ≤ j + i
    · rw [if_pos h, if_pos (by omega)]
    · rw [if_neg h, if_neg (show ¬ D + C ≤ j + (i + 1) by omega)]
theorem wdF_0 (D C : Nat) (data r : List PM.G) (hd : data.length = D) : splice (List.replicate (D + C) (0 : PM.G)) 0 data = tab (D + C) (wdF D C data r 0) := by
  have hl : (splice (List.replicate (D + C) (0 : PM.G)) 0 data).length = D + C := by rw [length_splice _ _ _ (by rw [List.length_replicate]; omega), List.length_replicate]
  refine PM.ext_el (by rw [hl, tab_len]) (fun k hk => ?_)
  rw [hl] at hk
  rw [el_splice _ _ _ _ (by rw [List.length_replicate]; omega), el_tab _ _ _ hk, if_neg (Nat.not_lt_zero k), PM.el_replicate, Nat.sub_zero, hd]
  unfold wdF
  rw [if_neg (show ¬ D + C ≤ k + 0 by omega), Nat.zero_add]
theorem wdF_end {D C : Nat} {data r A g : List PM.G} (hg : RootsP (tab C EE) g) (hr : r.length < g.length) (heq : ∀ j, PM.el (pol (tab (D + C) (wdF D C data [] 0))) j = PM.conv (PM.el A) (PM.el g) j + PM.el r j) : IsEnc D C data (tab (D + C) (wdF D C data r r.length)) := by
  have hgl := hg.len
  rw [tab_len] at hgl
  have hl := tab_len (D + C) (wdF D C data r r.length)
  have hs := enc_syn (D := D) (C := C) (zs := tab (D + C) (wdF D C data [] 0)) (ws := tab (D + C) (wdF D C data r r.length)) (tab_len _ _) (tab_len _ _) (fun i hi => by
    by_cases h : i < D + C
    · rw [el_tab _ _ _ h]; unfold wdF; rw [if_neg (show ¬ D + C ≤ i + 0 by omega), if_neg (show ¬ i < D by omega)]
    · rw [PM.el_ge (by rw [tab_len]; omega)]) hg heq hr (fun i hi => by
    rw [el_tab _ _ _ hi, el_tab _ _ _ hi]
    unfold wdF
    by_cases h : D ≤ i
    · rw [if_pos h]
      by_cases h2 : D + C ≤ i + r.length
      · rw [if_pos h2]
      · rw [if_neg h2, if_neg (show ¬ i < D by omega), PM.el_ge (p := r) (by omega)]
    · rw [if_neg h, if_neg (show ¬ D + C ≤ i + r.length by omega), if_neg (show ¬ D + C ≤ i + 0 by omega)])
  rw [hl] at hs
  refine ⟨⟨hl, hs⟩, fun i hi => ?_⟩
  rw [el_tab _ _ _ (by omega)]
  unfold wdF
  rw [if_neg (show ¬ D + C ≤ i + r.length by omega), if_pos hi]
attribute [irreducible] wdF
set_option maxRecDepth 100000 in
set_option maxHeartbeats 4000000 in
theorem encode_yes {D C F : Nat} (hc : Cd D C F) (hF : F ≤ C / 2) (a : Option Addr) (data : List PM.G) (cap : Nat) (w : World) (hR : Row w a data cap) (hn : data.length = D) :
    Calls Try.prog 18 #[codeV D C F, .slice a D cap] w (EncR w D C data) := by
  have hroom := hR.room
  have hmost := hR.most
  have HIS := Lib.hid (fun W => isSymbol_any hc true (decide_eq_true hF) W)
  have HLE := Lib.hid (fun W => length_any hc W)
  have HRO := Lib.hid (fun W => roots_any hc W)
  have HN := Lib.hid hn
  have hD1 := hc.d1
  have hD2 := hc.d2
  have hC1 := hc.c1
  have hC2 := hc.c2
  have hne : ((D : Int) != (D : Int)) = false := by simp
  obtain ⟨m, hm⟩ : ∃ m, D + C = m := ⟨_, rfl⟩
  rw [hm] at HLE
  have HM := Lib.hid hm
  have hm1 : m ≤ 40 := by omega
  have hm2 : D ≤ m := by omega
  unfold codeV at *
  obtain ⟨w1, hw1, c0, c1, c2, c3, hB, _⟩ := code_box w D C F 28
  have HB := Lib.hid hB
  have HR := Lib.hid hR
  clear hB hc hF hm hn hR
  go_enter Try.func18, Try.ntmps18
  go_wp2_with fail
  (with_reducible refine (HIS.out _).mono ?_)
  rintro e w2 ⟨rfl, hb2⟩
  have HB2 := Lib.hid (HB.out.trans (hb2.mono HB.out.size))
  replace c0 := G.cell_below hb2 c0
  replace c1 := G.cell_below hb2 c1
  replace c2 := G.cell_below hb2 c2
  replace c3 := G.cell_below hb2 c3
  have hbx : w.heap.size < w2.heap.size := lt_of_cell c0
  clear hb2 HB
  go_wp2_with fail
  (with_reducible refine (HLE.out _).mono ?_)
  rintro e w3 ⟨rfl, hb3⟩
  replace c0 := G.cell_below hb3 c0
  replace c1 := G.cell_below hb3 c1
  replace c2 := G.cell_below hb3 c2
  replace c3 := G.cell_below hb3 c3
  have HB3 := Lib.hid (HB2.out.trans (hb3.mono HB2.out.size))
  clear hb3
  have HR3 := Lib.hid (HR.out.below HB3.out)
  have hds : splice (List.replicate m (0 : PM.G)) 0 data = tab m (wdF D C data [] 0) := by rw [← HM.out]; exact wdF_0 D C data [] HN.out
  have HDS := Lib.hid hds
  clear hds
  go_upto_region 7 with (first
    | (at_make; refine wpList_make1 rfl _ _ rfl m rfl rfl (by omega) (by omega) (B := w3.heap.size) (Nat.le_refl _) ?_; intro w4 hown4 hb4; have HO4 := Lib.hid hown4; have HB4 := Lib.hid hb4; have HR4 := Lib.hid (HR3.out.below hb4); clear hown4 hb4)
    | (refine wpList_copy1 (g := w3.heap.size) (B := w3.heap.size) (n := m) (off := 0) (zs := List.replicate m 0) (ps := data) (cp := cap) (sp := a) rfl _ _ rfl (by have := HO4.out; rw [List.length_replicate] at this; exact this) rfl (by rw [HN.out]; rfl) (fun _ => rfl) (by rw [HN.out]; exact hm2) HR4.out (by rw [List.length_replicate, HN.out]; omega) ?_; intro w5 hown5 hb5; have HO5 := Lib.hid hown5; have HB5 := Lib.hid hb5; clear hown5 hb5))
  have ho5 := HO5.out
  rw [HDS.out] at ho5
  obtain ⟨gw, hgw⟩ : ∃ g, w3.heap.size = g := ⟨_, rfl⟩
  have hb35 : Below w3.heap.size w3 w5 := HB4.out.trans HB5.out
  replace c0 := G.cell_below hb35 c0
  replace c1 := G.cell_below hb35 c1
  replace c2 := G.cell_below hb35 c2
  replace c3 := G.cell_below hb35 c3
  have HBW := Lib.hid (HB3.out.trans (hb35.mono HB3.out.size))
  rw [hgw] at ho5 ⊢
  have hgw1 : w.heap.size ≤ gw := by have := HB3.out.size; omega
  obtain ⟨wd, hwd⟩ : ∃ wd, tab m (wdF D C data [] 0) = wd := ⟨_, rfl⟩
  have hwl : wd.length = m := by rw [← hwd, tab_len]
  rw [hwd] at ho5
  have HWD := Lib.hid hwd
  have HWL := Lib.hid hwl
  have HO := Lib.hid ho5
  have hgs : gw < w5.heap.size := by have := hb35.size; have := (HO.out.at 0 (by rw [hwl]; omega)).2.1; omega
  have HPP := Lib.hid (pol_pol wd (by omega))
  have hrw := ho5
  rw [← hwl] at hrw
  have hdr : Below w5.heap.size w5 w5.drew := (Below.refl _ _).drew
  have hpo := polynomial_any (some ⟨gw, 0, none⟩) wd m w5.drew (by have := hrw.rowAt; rw [hwl] at this; exact this.below hdr) (by rw [hwl]; omega)
  rw [hwl] at hpo
  have HDR := Lib.hid hdr
  have HPO := Lib.hid hpo
  clear HR HB3 HB2 HR3 HO4 HB4 HR4 HO5 HB5 HDS hgw hwd hwl ho5 hrw hpo hdr hb35 HIS HLE hw1
  rw [HN.out]
  simp only [Act.put, goInt, List.setIfInBounds_toArray, List.set_cons_zero, List.set_cons_succ]
  go_cut [8] (fun q wx => ∃ (r A gp : List PM.G) (ar : Option Addr) (cr : Nat), q = .slice ar r.length cr ∧ Row wx ar r cr ∧ Loc w5 ar ∧ RootsP (tab C EE) gp ∧ DivEq (pol wd) gp A r ∧ Below w5.heap.size w5 wx)
  case first =>
    go_region_law (first
      | (go_simp; go_at_call 38; (with_reducible refine HPO.out.mono ?_); rintro e w6 ⟨⟨a6, c6, rfl, hr6⟩, hb6⟩; have x0 := G.cell_below hb6 c0; have x1 := G.cell_below hb6 c1; have x2 := G.cell_below hb6 c2; have x3 := G.cell_below hb6 c3; have HR6 := Lib.hid hr6; have HB6 := Lib.hid hb6; clear hr6 hb6; go_simp)
      | (go_simp; go_at_call 40; (with_reducible refine (HRO.out _).mono ?_); rintro e w7 ⟨g7, rfl, hg7, ho7, hb7⟩; have HR7 := Lib.hid (HR6.out.below hb7); have HB7 := Lib.hid (HDR.out.trans (HB6.out.trans (hb7.mono HB6.out.size) |>.mono HDR.out.size)); have hwr := withRoots_any (some ⟨g7, 0, none⟩) (tab C EE) C w7 (by have := ho7.rowAt'' (tab_len _ _); exact this) (by rw [tab_len]; omega); rw [tab_len] at hwr; have HWR := Lib.hid hwr; clear hg7 ho7 hb7 hwr; go_simp)
      | (go_simp; go_at_call 39; (with_reducible refine HWR.out.mono ?_); rintro e w8 ⟨⟨gp, a8, c8, rfl, hr8, hgp, _⟩, hb8⟩; have HB8 := Lib.hid (HB7.out.trans (hb8.mono HB7.out.size)); have hdv := pdiv_yes a6 a8 c6 c8 (pol wd) gp w8 (HR7.out.below hb8) hr8 HPP.out hgp.pol (by have := hgp.len; omega); have HDV := Lib.hid hdv; have HGP := Lib.hid hgp; clear hr8 hgp hb8 hdv; go_simp)
      | (go_simp; go_at_call 37; (with_reducible refine HDV.out.mono ?_); rintro e w9 ⟨⟨A9, r9, a9, c9, a10, c10, rfl, hr9, hr10, hlo, heq⟩, hb9⟩; have HR10 := Lib.hid hr10; have HLO := Lib.hid hlo; have HEQ := Lib.hid heq; have HB9 := Lib.hid (HB8.out.trans (hb9.mono HB8.out.size)); clear hr9 hr10 hlo heq hb9; go_simp))
    all_goals (
      go_wp2_with fail
      go_meet
      exact ⟨r9, A9, gp, a10, c10, rfl, HR10.out, fun b o e => Nat.le_trans HB8.out.size (HLO.out b o e), HGP.out, HEQ.out, HB9.out⟩)
  case rest =>
    obtain ⟨r, A, gp, ar, cr, rfl, hr, hlo, hgp, heq, hb⟩ := hcut
    have hless := heq.less
    have hgl := hgp.len
    rw [tab_len] at hgl
    have hrC : r.length ≤ C := by omega
    have HEND := Lib.hid (show IsEnc D C data (tab m (wdF D C data r r.length)) by
      have e := heq.eq
      rw [← HWD.out, ← HM.out] at e
      rw [← HM.out]
      exact wdF_end hgp heq.less e)
    have HLO := Lib.hid hlo
    have HR := Lib.hid hr
    have HBW2 := Lib.hid (HBW.out.trans (hb.mono HBW.out.size))
    have ho := HO.out.below hb
    rw [← HWD.out, show tab m (wdF D C data [] 0) = tab m (wdF D C data r 0) from by
      rw [← HM.out]
      refine tab_ext (fun j hj => ?_)
      unfold wdF
      rw [if_neg (show ¬ D + C ≤ j + 0 by omega), if_neg (show ¬ D + C ≤ j + 0 by omega)]] at ho
    have HOC := Lib.hid ho
    have hrr := hr.room
    have hrm := hr.most
    have hm3 : C ≤ m := by have := HM.out; omega
    clear hr hlo hgp heq hb ho hless hgl HO HBW HPO HDR HRO c0 c1 c2 c3 HWD HWL HPP
    go_wp2_with fail
    go_loopw [38] (fun k wr => ∃ i : Nat, k = .int .i64 (i : Int) ∧ i ≤ r.length ∧ Own wr gw (.slice (some ⟨gw, 0, none⟩) m m) (tab m (wdF D C data r i)) ∧ Row wr ar r cr ∧ Below w.heap.size w wr) (fun k _ => r.length - (intOf k).toNat)
    case atStart => exact ⟨0, rfl, by omega, HOC.out, HR.out, HBW2.out⟩
    case round =>
      clear HOC HR HBW2
      obtain ⟨i, rfl, hi, ho, hr, hb⟩ := hrel
      have HO := Lib.hid ho
      have HR := Lib.hid hr
      have HB := Lib.hid hb
      clear ho hr hb
      by_cases hlt : i < r.length
      · obtain ⟨b, off, hbo, hc⟩ := HR.out.el i hlt
        subst hbo
        have hbg := HLO.out b off rfl
        have hmi : i < m := by omega
        obtain ⟨d, hd⟩ : ∃ d, m - 1 - i = d := ⟨_, rfl⟩
        have hdm : d < m := by omega
        have hix : (m : Int) - 1 - (i : Int) = (d : Int) := by omega
        obtain ⟨x, hx⟩ : ∃ x, PM.el r i = x := ⟨_, rfl⟩
        rw [hx] at hc
        have ha := (HO.out.at d (by rw [tab_len]; exact hdm)).2.2.2.2
        obtain ⟨ha1, ha2⟩ := ha
        have hst2 : Own (wr.setCell ⟨gw, d, none⟩ (.int .u8 (x.v : Int))) gw (.slice (some ⟨gw, 0, none⟩) m m) ((tab m (wdF D C data r i)).set d x) := by
          have := Own.set (zs := tab m (wdF D C data r i)) (cap := m) (g := gw) (by rw [tab_len]; exact HO.out) d x
          rwa [tab_len] at this
        have hstep := wdF_step D C data r i (by have := HM.out; omega)
        rw [HM.out, hd, hx] at hstep
        rw [hstep] at hst2
        have HST := Lib.hid hst2
        have HBT := Lib.hid (HB.out.setCell (p := ⟨gw, d, none⟩) hgw1 (.int .u8 (x.v : Int)))
        have HRT := Lib.hid (HR.out.other (p := ⟨gw, d, none⟩) (.int .u8 (x.v : Int)) (fun b' off' e h0 => by cases e; exact Nat.ne_of_gt (Nat.lt_of_lt_of_le hgs hbg)))
        clear hst2 hstep HO HB HR hx hd
        go_wp2_with fail
        go_roundw
        case rel => exact ⟨i + 1, by go_num, hlt, HST.out, HRT.out, HBT.out⟩
        case measure => simp [intOf]; omega
      · obtain rfl : i = r.length := by omega
        go_wp2_with fail
        exact bodyPost_ret (v := .tuple #[.slice (some ⟨gw, 0, none⟩) m m, .int .i64 0]) (by simp [results, Try.results18, go_sem]) rfl ⟨_, _, _, by rw [HM.out], by rw [HM.out]; exact HO.out.mono hgw1, HEND.out, HB.out⟩
end Go.Proofs.Ytijkgplglfmfnaa.P

namespace Go.Proofs.Ytijkgplglfmfnaa.P
open Go Go.RowKit Go.Shelf
open G.S (codeV Cd code_box length_any box4_at)
open G (Box IRow)

set_option maxRecDepth 100000 in
set_option maxHeartbeats 1000000 in
/-- **bytes.Clone** of any slice of bytes. -/
theorem bclone_any (a : Option Addr) (zs : List PM.G) (cap n : Nat) (w : World) (hR : Row w a zs cap) (hl : zs.length < 100000) (hn : zs.length = n) :
    Calls Try.prog 43 #[.slice a n cap] w fun e W' => ∃ a' cap', e = .returned (.slice a' n cap') ∧ Own W' w.heap.size (.slice a' n cap') zs ∧ Below w.heap.size w W' := by
  subst hn
  have HR := Lib.hid (hR.alloc (.cells #[] 5))
  have HO := Lib.hid (own_empty w w.heap.size (Nat.le_refl _))
  have q22 : ∀ (w : World) (a : Option Addr) (n c n' c' : Nat), (binOp .eql 30 (.slice a n c) (.slice none n' c')).run Try.prog w = .ok (.bool a.isNone) w := fun w a n c n' c' => Lib.run_eql_slice_nil w _ _ a n c n' c' Try.underlying30
  cases a with
  | none =>
    have hy : zs = [] := by
      cases zs with
      | nil => rfl
      | cons y ys =>
        obtain ⟨b, off, e, _⟩ := hR.el 0 (by simp)
        cases e
    subst hy
    clear hR
    go_enter Try.func43, Try.ntmps43
    go_wp2_with fail
    go_ret
    exact ⟨none, 0, rfl, Own.nil _ _, Below.refl _ _⟩
  | some ad =>
    clear hR
    go_enter Try.func43, Try.ntmps43
    go_wp2_with (at_builtin; refine wpList_appAny rfl _ _ rfl rfl HO.out rfl HR.out (by simp; omega) (by simp) ?_; intro a' cap' W' hown' hb')
    go_ret
    exact ⟨a', cap', rfl, by simpa using hown', ((Below.refl _ w).alloc (Nat.le_refl _) _).trans hb'⟩

/-- The word after the first k places. -/
structure CorrI (n C : Nat) (zs vs : List PM.G) (P : List Nat) (k : Nat) (fx : List PM.G) : Prop where
  len : fx.length = n
  same : ∀ q, q ∉ P.take k → PM.el fx q = PM.el zs q
  add : ∀ d : Nat → PM.G, (∀ j, j < C → PM.el vs j = SM.lsum P (fun q => d q * SM.pw (SM.XE n q) j)) → ∀ q ∈ P.take k, PM.el fx q = PM.el zs q + d q
theorem CorrI.start {n C : Nat} {zs vs : List PM.G} {P : List Nat} (h : zs.length = n) : CorrI n C zs vs P 0 zs :=
  ⟨h, fun _ _ => rfl, fun _ _ q hq => by simp at hq⟩
theorem CorrI.step {n C : Nat} {zs vs fx : List PM.G} {P : List Nat} {k : Nat} {x : PM.G} (h : CorrI n C zs vs P k fx) (hk : k < P.length) (hnd : P.Nodup) (hp : P[k] < n)
    (hx : ∀ d : Nat → PM.G, (∀ j, j < C → PM.el vs j = SM.lsum P (fun q => d q * SM.pw (SM.XE n q) j)) → x = d P[k]) : CorrI n C zs vs P (k + 1) (fx.set P[k] (PM.el fx P[k] + x)) := by
  have ht : P.take (k + 1) = P.take k ++ [P[k]] := by rw [List.take_add_one, List.getElem?_eq_getElem hk]; rfl
  have hnot : P[k] ∉ P.take k := fun hm => by
    obtain ⟨i, hi, e⟩ := List.getElem_of_mem hm
    rw [List.length_take] at hi
    rw [List.getElem_take] at e
    have := (List.nodup_iff_pairwise_ne.1 hnd)
    exact List.pairwise_iff_getElem.1 this i k (by omega) hk (by omega) e
  refine ⟨by rw [List.length_set]; exact h.len, fun q hq => ?_, fun d hd q hq => ?_⟩
  · rw [ht, List.mem_append, List.mem_singleton] at hq
    rw [PM.el_set (by rw [h.len]; exact hp), if_neg (fun e => hq (.inr e)), h.same q (fun h2 => hq (.inl h2))]
  · rw [ht, List.mem_append, List.mem_singleton] at hq
    rw [PM.el_set (by rw [h.len]; exact hp)]
    by_cases e : q = P[k]
    · rw [if_pos e, hx d hd, h.same _ hnot, e]
    · rw [if_neg e]
      exact h.add d hd q (hq.resolve_right e)
theorem gdivide (x y : PM.G) (w : World) : Calls Try.prog 74 #[.int .u8 (x.v : Int), .int .u8 (y.v : Int)] w fun e w' => e = .returned (.tuple #[.int .u8 ((gdiv x y).v : Int), .int .i64 (FM.errZ y.v)]) ∧ Dr w w' := divide_any x.v y.v x.lt y.lt w

set_option maxRecDepth 100000 in
set_option maxHeartbeats 4000000 in
/-- **symbol.corrected** -/
theorem corrected_any {D C F : Nat} (hc : Cd D C F) (aw av ap : Option Addr) (zs vs : List PM.G) (P : List Nat) (cw cv cp : Nat) (w : World) (hZ : Row w aw zs cw) (hV : Row w av vs cv) (hP : G.Row w ap P cp) (hzl : zs.length = D + C) (hvl : vs.length = C) (hpl : P.length ≤ C) (hnd : P.Nodup) (hin : ∀ k, k < P.length → G.el P k < D + C) :
    Calls Try.prog 45 #[codeV D C F, .slice aw (D + C) cw, .slice av C cv, .slice ap P.length cp] w fun e W => ∃ fx a c, e = .returned (.slice a (D + C) c) ∧ Own W w.heap.size (.slice a (D + C) c) fx ∧ CorrI (D + C) C zs vs P P.length fx ∧ Below w.heap.size w W := by
  have hr1 := hZ.room
  have hm1 := hZ.most
  have hr2 := hV.room
  have hm2 := hV.most
  have hr3 := hP.room
  have hm3 := hP.most
  rw [hzl] at hr1
  rw [hvl] at hr2
  have hC2 := hc.c2
  have hD2 := hc.d2
  have hD1 := hc.d1
  have HV := Lib.hid hV
  have HP := Lib.hid hP
  have HVL := Lib.hid hvl
  have HZL := Lib.hid hzl
  have HND := Lib.hid hnd
  have HLS := Lib.hid (fun W h => locators_any hc ap P cp W h (by omega) hin)
  have HIN := Lib.hid hin
  unfold codeV at *
  obtain ⟨w1, hw1, _, _, _, _, hB, hX⟩ := code_box w D C F 28
  have HB := Lib.hid hB
  have HX := Lib.hid hX
  have HCL := Lib.hid (bclone_any aw zs cw (D + C) w1 (hZ.below hB) (by omega) hzl)
  obtain ⟨n, hn⟩ : ∃ n, D + C = n := ⟨_, rfl⟩
  rw [hn] at HLS HCL HIN HZL ⊢
  have hn40 : n ≤ 40 := by omega
  have hn1 : 1 ≤ n := by omega
  clear hB hZ hV hP hvl hzl hin hX hc hn hnd
  go_enter Try.func45, Try.ntmps45
  go_wp2_with fail
  (with_reducible refine HCL.out.mono ?_)
  rintro e w2 ⟨a2, k2, rfl, ho2, hb2⟩
  obtain ⟨gf, rfl, hgf1, hgf2⟩ : ∃ g, a2 = some ⟨g, 0, none⟩ ∧ w1.heap.size ≤ g ∧ g < w2.heap.size := by
    rcases ho2.parts with ⟨e, e2⟩ | ⟨g', cap', e, hb, h2, _⟩
    · have := HZL.out; rw [e2] at this; simp at this; omega
    · cases e; exact ⟨g', rfl, hb, h2⟩
  have HO2 := Lib.hid (ho2.mono HB.out.size)
  have HB2 := Lib.hid (HB.out.trans (hb2.mono HB.out.size))
  have HL2 := Lib.hid (HLS.out w2 (HP.out.below HB2.out))
  obtain ⟨c0, c1, c2, c3⟩ := box4_at (HX.out.below hb2)
  have hwg : w.heap.size ≤ gf := by have := HB.out.size; omega
  clear ho2 hb2 HLS HCL HX hw1
  go_wp2_with fail
  (with_reducible refine HL2.out.mono ?_)
  rintro e w3 ⟨gl, rfl, hgl, ho3, hb3⟩
  have hwr := withRoots_any (some ⟨gl, 0, none⟩) (tab P.length (locL n P)) P.length w3 (ho3.rowAtN (tab_len _ _)) (by rw [tab_len]; omega)
  rw [tab_len, loc_map] at hwr
  have HWR := Lib.hid hwr
  have HO3 := Lib.hid ho3
  have HOF := Lib.hid (HO2.out.below hb3)
  have HB3 := Lib.hid (HB2.out.trans (hb3.mono HB2.out.size))
  have hs3 := hb3.size
  clear hwr ho3 hb3 HL2 HB HO2 HB2 c0 c1 c2 c3
  go_wp2_with fail
  (with_reducible refine HWR.out.mono ?_)
  rintro e w4 ⟨⟨all, a4, k4, rfl, hr4, hall, hloc⟩, hb4⟩
  have HR4 := Lib.hid hr4
  have HALL := Lib.hid hall
  have HLOC := Lib.hid hloc
  have HO4 := Lib.hid (HO3.out.below hb4)
  have HOF4 := Lib.hid (HOF.out.below hb4)
  have HB4 := Lib.hid (HB3.out.trans (hb4.mono HB3.out.size))
  clear hr4 hall hloc hb4 HWR HO3 HOF HB3
  go_wp2_with fail
  go_loopw [28] (fun k wr => ∃ (i : Nat) (fx : List PM.G), k = .int .i64 (i : Int) ∧ i ≤ P.length ∧ CorrI n C zs vs P i fx ∧ Own wr w.heap.size (.slice (some ⟨gf, 0, none⟩) n k2) fx ∧ Row wr (some ⟨gl, 0, none⟩) (tab P.length (locL n P)) P.length ∧ Row wr a4 all k4 ∧ Below w.heap.size w wr) (fun k _ => P.length - (intOf k).toNat)
  case atStart => exact ⟨0, zs, rfl, by omega, CorrI.start HZL.out, HOF4.out, HO4.out.rowAtN (tab_len _ _), HR4.out, HB4.out⟩
  case round =>
    clear HOF4 HO4 HR4 HB4
    obtain ⟨i, fx, rfl, hi, hci, hof, hrl, hra, hb⟩ := hrel
    have HCI := Lib.hid hci
    have HOF := Lib.hid hof
    have HRL := Lib.hid hrl
    have HRA := Lib.hid hra
    have HB := Lib.hid hb
    by_cases hlt : i < P.length
    · obtain ⟨bp, op, rfl, hcp⟩ := (HP.out.below hb).elN i hlt
      obtain ⟨bl, ol, el, hcl⟩ := hrl.el i (by rw [tab_len]; exact hlt)
      cases el
      rw [Nat.zero_add] at hcl
      have hpi := HIN.out i hlt
      obtain ⟨q, hq⟩ : ∃ q, G.el P i = q := ⟨_, rfl⟩
      rw [hq] at hcp hpi
      obtain ⟨x, hx⟩ : ∃ x, PM.el (tab P.length (locL n P)) i = x := ⟨_, rfl⟩
      rw [hx] at hcl
      have hxq : SM.XE n q = x := by rw [← hx, el_tab _ _ _ hlt, ← hq]; rfl
      have HXQ := Lib.hid hxq
      have HQ := Lib.hid hq
      have ht := row_two wr x PM.G.one 5
      rw [one_int] at ht
      have hb5 : Below wr.heap.size wr (wr.alloc (.cells #[.int .u8 (x.v : Int), .int .u8 1] 5)) := (Below.refl _ wr).alloc (Nat.le_refl _) _
      obtain ⟨w5, hw5⟩ : ∃ w5, wr.alloc (.cells #[.int .u8 (x.v : Int), .int .u8 1] 5) = w5 := ⟨_, rfl⟩
      rw [hw5] at ht hb5
      have hm := pdiv_yes a4 (some ⟨wr.heap.size, 0, none⟩) k4 2 all [x, PM.G.one] w5 (hra.below hb5) ht HALL.out.pol (pol_two x) (by simp)
      rw [show [x, PM.G.one].length = 2 from rfl] at hm
      have HM := Lib.hid hm
      have HB5 := Lib.hid hb5
      clear hx hxq hq hci hof hrl hra hb ht hb5 hm
      go_wp2_with fail
      (with_reducible refine HM.out.mono ?_)
      rintro e w6 ⟨⟨A, r, a6, k6, a7, k7, rfl, hrA, _, _, heq⟩, hb6⟩
      have hal := heq.len
      simp only [List.length_cons, List.length_nil] at hal
      have hall := HALL.out.len
      rw [List.length_map] at hall
      have hAP : A.length = P.length := by omega
      have HBD := Lib.hid (HB5.out.trans (hb6.mono HB5.out.size))
      have hcl6 := cell_below HBD.out hcl
      have hA6 := hrA
      have hval := fun d hd => corr_val (X := SM.XE n) (d := d) (P := P) (vs := vs) (all := all) (A := A) (r := r) (C := C) HALL.out (SM.pair_of (SM.xe_inj (by omega)) HND.out (fun k hk => by
        obtain ⟨j, hj, e⟩ := List.getElem_of_mem hk
        have := HIN.out j hj
        rw [G.el_lt hj, e] at this
        exact this)) i hlt (by
        rw [show SM.XE n P[i] = x by rw [← HXQ.out, ← HQ.out, G.el_lt hlt]]
        exact heq.eq) (by have := heq.less; simpa using this) hAP heq.canq hpl hd
      rw [show SM.XE n P[i] = x by rw [← HXQ.out, ← HQ.out, G.el_lt hlt], show P[i] = q by rw [← HQ.out, G.el_lt hlt]] at hval
      obtain ⟨y, hy⟩ : ∃ y, gdiv (weighV vs A A.length) (PM.ev A x) = y := ⟨_, rfl⟩
      rw [hy] at hval
      have HY := Lib.hid hy
      have HVAL := Lib.hid hval
      have hv6 := HV.out.below (HB.out.trans (HBD.out.mono HB.out.size))
      have hwg2 := weigh_any av a6 vs A cv k6 w6.drew (hv6.drewN 1) (hrA.drewN 1) (by rw [HVL.out, hAP]; exact hpl) (by rw [HVL.out]; omega)
      rw [HVL.out] at hwg2
      have HWG := Lib.hid hwg2
      obtain ⟨s, hs⟩ : ∃ s, weighV vs A A.length = s := ⟨_, rfl⟩
      obtain ⟨z, hz⟩ : ∃ z, PM.ev A x = z := ⟨_, rfl⟩
      rw [hs] at HWG HY
      rw [hz] at HY
      have HS := Lib.hid hs
      have HZ := Lib.hid hz
      have HA6 := Lib.hid hrA
      have q6 : w6.drew.cell? ⟨gl, i, none⟩ = some (.int .u8 (x.v : Int)) := hcl6
      clear hAP hrA heq hb6 hal hall hval hv6 hwg2 hs hz hy hcl HM HB5 hA6
      go_upto_region 8 with fail
      go_cut [17] (fun t wx => t = .int .u8 (y.v : Int) ∧ Below w6.heap.size w6 wx)
      case first =>
        go_region_law (first
          | (go_simp; go_at_call 69; (with_reducible refine HWG.out.mono ?_); rintro e w7 ⟨rfl, hd7⟩; have hr7 := (show Row w7 a6 A k6 by obtain ⟨m, rfl⟩ := hd7; exact (HA6.out.drewN 1).drewN m); have q7 : w7.cell? ⟨gl, i, none⟩ = some (.int .u8 (x.v : Int)) := (by obtain ⟨m, rfl⟩ := hd7; exact q6); have hev := eval_any a6 k6 A x w7 hr7; rw [HZ.out] at hev; have HEV := Lib.hid hev; have HB7 := Lib.hid (show Below w6.heap.size w6 w7 by obtain ⟨m, rfl⟩ := hd7; exact belowN ((Below.refl _ w6).drew) m); clear hd7 hr7 hev; go_simp)
          | (go_simp; go_at_call 71; (with_reducible refine HEV.out.mono ?_); rintro e w8 ⟨rfl, hb8⟩; have HB8 := Lib.hid (HB7.out.trans (hb8.mono HB7.out.size)); have hgd := gdivide s z w8; rw [HY.out] at hgd; have HGD := Lib.hid hgd; clear hb8 hgd; go_simp)
          | (go_simp; go_at_call 74; (with_reducible refine HGD.out.mono ?_); rintro e w9 ⟨rfl, hd9⟩; have HB9 := Lib.hid (show Below w6.heap.size w6 w9 by obtain ⟨m, rfl⟩ := hd9; exact belowN HB8.out m); clear hd9; go_simp))
        all_goals (
          go_wp2_with fail
          go_meet
          exact ⟨rfl, HB9.out⟩)
      case rest =>
        obtain ⟨rfl, hbc⟩ := hcut
        have hb06 : Below wr.heap.size wr wc := HBD.out.trans (hbc.mono HBD.out.size)
        have HBC := Lib.hid (HB.out.trans (hb06.mono HB.out.size))
        have hof := HOF.out.below hb06
        have hci := HCI.out
        have hat := hof.at q (by rw [hci.len]; exact hpi)
        obtain ⟨_, _, _, _, hcf, hff⟩ := hat
        have hstep := hci.step hlt HND.out (by rw [← G.el_lt hlt, HQ.out]; exact hpi) (x := y) (fun d hd => by rw [HVAL.out d hd, ← HQ.out, G.el_lt hlt])
        rw [show P[i] = q by rw [← HQ.out, G.el_lt hlt]] at hstep
        obtain ⟨v0, hv0⟩ : ∃ v0, PM.el fx q = v0 := ⟨_, rfl⟩
        rw [hv0] at hcf hstep
        have hxor := xor_G v0 y
        obtain ⟨v1, hv1⟩ : ∃ v1, v0 + y = v1 := ⟨_, rfl⟩
        rw [hv1] at hxor hstep
        have hst2 : Own (wc.setCell ⟨gf, q, none⟩ (.int .u8 (v1.v : Int))) w.heap.size (.slice (some ⟨gf, 0, none⟩) n k2) (fx.set q v1) := by
          have := Own.set (zs := fx) (cap := k2) (g := gf) (by rw [hci.len]; exact hof) q v1
          rwa [hci.len] at this
        have HST := Lib.hid hst2
        have HSTEP := Lib.hid hstep
        have HBS := Lib.hid (HBC.out.setCell (p := ⟨gf, q, none⟩) hwg (.int .u8 (v1.v : Int)))
        have HRLS := Lib.hid ((HRL.out.below hb06).other (p := ⟨gf, q, none⟩) (.int .u8 (v1.v : Int)) (fun b off e _ => by cases e; exact Nat.ne_of_gt (Nat.lt_of_lt_of_le hgf2 hgl)))
        have HRAS := Lib.hid ((HRA.out.below hb06).other (p := ⟨gf, q, none⟩) (.int .u8 (v1.v : Int)) (fun b off e _ => Nat.ne_of_gt (Nat.lt_of_lt_of_le (Nat.lt_of_lt_of_le hgf2 hs3) (HLOC.out b off e))))
        have hkk : n ≤ k2 := by have := hof.rowAtN hci.len; have := this.room; rw [hci.len] at this; exact this
        have hkm : k2 ≤ 9223372036854775807 := (hof.rowAtN hci.len).most
        clear hstep hst2 hof hci hbc hb06 hv0 hv1 HBC HBD HOF HCI HRL HRA HB HVAL
        go_wp2_with fail
        go_roundw
        case rel => exact ⟨i + 1, fx.set q v1, by go_num, hlt, HSTEP.out, HST.out, HRLS.out, HRAS.out, HBS.out⟩
        case measure => simp [intOf]; omega
    · obtain rfl : i = P.length := by omega
      go_wp2_with fail
      go_ret
      exact ⟨fx, _, k2, rfl, HOF.out, HCI.out, HB.out⟩
end Go.Proofs.Ytijkgplglfmfnaa.P

namespace Go.Proofs.Ytijkgplglfmfnaa.P
open PM (G el)
open SM (lsum syn XE Near pw)

theorem lsum_perm {α : Type} (f : α → G) {P Q : List α} (h : P.Perm Q) : lsum P f = lsum Q f := by
  induction h with
  | nil => rfl
  | cons x _ ih => rw [SM.lsum_cons, SM.lsum_cons, ih]
  | swap x y l => rw [SM.lsum_cons, SM.lsum_cons, SM.lsum_cons, SM.lsum_cons, G.add_left_comm]
  | trans _ _ h1 h2 => rw [h1, h2]
theorem lsum_places {n : Nat} {P : List Nat} {g : Nat → G} (hnd : P.Nodup) (hn : ∀ i ∈ P, i < n) (hz : ∀ i, i ∉ P → g i = 0) : lsum (List.range n) g = lsum P g := by
  rw [← SM.lsum_filter g (fun i => decide (i ∈ P)) (fun i hi => hz i (of_decide_eq_false hi)) (List.range n)]
  refine lsum_perm g ((List.perm_ext_iff_of_nodup (List.Pairwise.filter _ List.nodup_range) hnd).2 (fun i => ?_))
  rw [List.mem_filter, List.mem_range, decide_eq_true_iff]
  exact ⟨fun h => h.2, fun h => ⟨hn i h, h⟩⟩
theorem near_wrong {n m t : Nat} {X w c : Nat → G} {E : List Nat} (h : Near n m t X E w c) : (SM.wrong n E w c).length ≤ t := by
  obtain ⟨_, O, hO, h2⟩ := h
  have : ∀ (A B : List Nat), A.Nodup → (∀ i ∈ A, i ∈ B) → A.length ≤ B.length := by
    intro A
    induction A with
    | nil => intro B _ _; exact Nat.zero_le _
    | cons a A ih =>
      intro B hA hB
      rw [List.nodup_cons] at hA
      have ha := hB a List.mem_cons_self
      have h2 := ih (B.erase a) hA.2 (fun i hi => (List.mem_erase_of_ne (by rintro rfl; exact hA.1 hi)).2 (hB i (List.mem_cons_of_mem _ hi)))
      rw [List.length_erase_of_mem ha] at h2
      have := List.length_pos_of_mem ha
      rw [List.length_cons]
      omega
  refine Nat.le_trans (this _ _ (SM.wrong_nodup n E w c) (fun i hi => ?_)) hO
  obtain ⟨h3, h4, h5⟩ := SM.mem_wrong.1 hi
  exact (h2 i h3 h4).resolve_left h5

/-- What Decode says of the word zs beside the places E, t others being corrected. -/
def Dec (n C t : Nat) (zs : List G) (E : List Nat) (o : Int) (ws : List G) (chips : List Nat) : Prop :=
  (o = 2 ∧ ws = [] ∧ chips = [] ∧ ∀ c, ¬ Near n C t (XE n) E (el zs) c) ∨
  (ws.length = n ∧ Near n C t (XE n) E (el zs) (el ws) ∧ chips = diff zs ws n ∧ ((o = 0 ∧ ws = zs) ∨ (o = 1 ∧ ws ≠ zs)))
theorem Dec.one {n C t : Nat} {zs : List G} {E : List Nat} {o o' : Int} {ws ws' : List G} {ch ch' : List Nat} (hn : n ≤ 255) (ht : E.length + 2 * t ≤ C) (h : Dec n C t zs E o ws ch) (h' : Dec n C t zs E o' ws' ch') : o = o' ∧ ws = ws' ∧ ch = ch' := by
  rcases h with ⟨h1, h2, h3, h4⟩ | ⟨h1, h2, h3, h4⟩
  · rcases h' with ⟨g1, g2, g3, g4⟩ | ⟨g1, g2, g3, g4⟩
    · exact ⟨h1.trans g1.symm, h2.trans g2.symm, h3.trans g3.symm⟩
    · exact absurd g2 (h4 _)
  · rcases h' with ⟨g1, g2, g3, g4⟩ | ⟨g1, g2, g3, g4⟩
    · exact absurd h2 (g4 _)
    · have e : ws = ws' := PM.ext_el (h1.trans g1.symm) (fun k hk => Near.one (SM.xe_inj hn) ht h2 g2 k (by omega))
      subst e
      refine ⟨?_, rfl, h3.trans g3.symm⟩
      rcases h4 with ⟨a1, a2⟩ | ⟨a1, a2⟩
      · rcases g4 with ⟨b1, b2⟩ | ⟨b1, b2⟩
        · exact a1.trans b1.symm
        · exact absurd a2 b2
      · rcases g4 with ⟨b1, b2⟩ | ⟨b1, b2⟩
        · exact absurd b2 a2
        · exact a1.trans b1.symm
/-- How many others are corrected. -/
def tOf (C F e : Nat) : Nat := min F ((C - e) / 2)
theorem tOf_le {C F e : Nat} (h : e ≤ C) : e + 2 * tOf C F e ≤ C := by unfold tOf; omega
theorem tOf_le2 {C F e : Nat} : 2 * tOf C F e ≤ C - e := by unfold tOf; omega

theorem synL_el {D C : Nat} (zs : List G) (j : Nat) (hj : j < C) : el (synL D C zs) j = syn (D + C) (XE (D + C)) (el zs) j := el_tab _ _ _ hj
theorem diff_self (zs : List G) (n : Nat) : diff zs zs n = [] := by
  rcases h : diff zs zs n with _ | ⟨x, l⟩
  · rfl
  · have : x ∈ diff zs zs n := by rw [h]; exact List.mem_cons_self
    exact absurd rfl (mem_diff.1 this).2
/-- Clean. -/
theorem dec_clean {D C t : Nat} {zs : List G} {E : List Nat} (hl : zs.length = D + C) (h : ∀ j, j < (synL D C zs).length → el (synL D C zs) j = 0) : Dec (D + C) C t zs E 0 zs [] := by
  refine .inr ⟨hl, ⟨fun j hj => ?_, [], Nat.zero_le _, fun i _ hne => absurd rfl hne⟩, (diff_self zs _).symm, .inl ⟨rfl, rfl⟩⟩
  rw [← synL_el zs j hj]
  exact h j (by rw [synL_len]; exact hj)
/-- Too many wrong places: there is none. -/
theorem dec_lost1 {D C t : Nat} {zs : List G} {E ws : List Nat} (hn : D + C ≤ 255) (hE : ∀ i ∈ E, i < D + C) (hEC : E.length ≤ C) (hW : WrongR (D + C) C (synL D C zs) E ws) (ht : 2 * t ≤ C - E.length) (hw : t < ws.length) : Dec (D + C) C t zs E 2 [] [] := by
  refine .inl ⟨rfl, rfl, rfl, fun c hc => ?_⟩
  have h1 := near_wrong hc
  have := wrong_found (c := c) (w := el zs) hn hE hEC (fun j hj => synL_el zs j hj) hc.1 hW h1 ht
  rw [this] at hw
  omega
/-- What is known of the places. -/
theorem wrong_nd {n C : Nat} {vs : List G} {E ws : List Nat} (hW : WrongR n C vs E ws) (hE : E.Nodup) (hin : ∀ i ∈ E, i < n) : (E ++ ws).Nodup ∧ ∀ i ∈ E ++ ws, i < n := by
  obtain ⟨f, last, next, lf, gp, _, _, _, _, rfl⟩ := hW
  refine ⟨?_, fun i hi => ?_⟩
  · rw [List.nodup_append]
    exact ⟨hE, wrongL_nodup f n E n, fun a ha b hb e => by subst e; exact (mem_wrongL.1 hb).2.2 ha⟩
  · rcases List.mem_append.1 hi with h | h
    · exact hin i h
    · exact (mem_wrongL.1 h).1
/-- If there is one, it is what is corrected. -/
theorem corr_near {D C t : Nat} {zs fx : List G} {E ws : List Nat} {c : Nat → G} (hn : D + C ≤ 255) (hEn : E.Nodup) (hE : ∀ i ∈ E, i < D + C) (hEC : E.length ≤ C) (hW : WrongR (D + C) C (synL D C zs) E ws) (ht : 2 * t ≤ C - E.length)
    (hci : CorrI (D + C) C zs (synL D C zs) (E ++ ws) (E ++ ws).length fx) (hc : Near (D + C) C t (XE (D + C)) E (el zs) c) : ∀ i, i < D + C → el fx i = c i := by
  obtain ⟨hnd, hlt⟩ := wrong_nd hW hEn hE
  have hws := wrong_found (c := c) (w := el zs) hn hE hEC (fun j hj => synL_el zs j hj) hc.1 hW (near_wrong hc) ht
  have hout : ∀ i, i < D + C → i ∉ E ++ ws → c i = el zs i := fun i hi hnot => Classical.byContradiction (fun hne => hnot (by
    rw [hws]
    by_cases h : i ∈ E
    · exact List.mem_append_left _ h
    · exact List.mem_append_right _ (SM.mem_wrong.2 ⟨hi, hne, h⟩)))
  have hadd := hci.add (fun i => if i ∈ E ++ ws then el zs i + c i else 0) (fun j hj => by
    rw [synL_el zs j hj]
    have h1 := SM.syn_add (D + C) (XE (D + C)) (el zs) c j
    rw [hc.1 j hj, G.add_zero] at h1
    rw [← h1]
    unfold SM.syn
    rw [← lsum_places hnd hlt (fun i hi => by rw [if_neg hi, G.zero_mul])]
    refine SM.lsum_ext (fun i hi => ?_)
    rw [List.mem_range] at hi
    by_cases h : i ∈ E ++ ws
    · rw [if_pos h]
    · rw [if_neg h]
      show (el zs i + c i) * _ = _
      rw [hout i hi h, G.add_self])
  rw [List.take_length] at hadd
  intro i hi
  by_cases h : i ∈ E ++ ws
  · rw [hadd i h, if_pos h, G.add_cancel]
  · rw [hci.same i (by rw [List.take_length]; exact h), hout i hi h]
theorem dec_lost2 {D C t : Nat} {zs fx : List G} {E ws : List Nat} (hn : D + C ≤ 255) (hEn : E.Nodup) (hE : ∀ i ∈ E, i < D + C) (hEC : E.length ≤ C) (hW : WrongR (D + C) C (synL D C zs) E ws) (ht : 2 * t ≤ C - E.length)
    (hci : CorrI (D + C) C zs (synL D C zs) (E ++ ws) (E ++ ws).length fx) (hno : ¬ ∀ j, j < (synL D C fx).length → el (synL D C fx) j = 0) : Dec (D + C) C t zs E 2 [] [] := by
  refine .inl ⟨rfl, rfl, rfl, fun c hc => hno (fun j hj => ?_)⟩
  rw [synL_len] at hj
  rw [synL_el fx j hj, ← hc.1 j hj]
  unfold SM.syn
  exact SM.lsum_ext (fun i hi => by rw [corr_near hn hEn hE hEC hW ht hci hc i (List.mem_range.1 hi)])
theorem dec_fixed {D C t : Nat} {zs fx : List G} {E ws : List Nat} (hw : ws.length ≤ t) (hci : CorrI (D + C) C zs (synL D C zs) (E ++ ws) (E ++ ws).length fx)
    (h0 : ¬ ∀ j, j < (synL D C zs).length → el (synL D C zs) j = 0) (hyes : ∀ j, j < (synL D C fx).length → el (synL D C fx) j = 0) : Dec (D + C) C t zs E 1 fx (diff zs fx (D + C)) := by
  refine .inr ⟨hci.len, ⟨fun j hj => ?_, ws, hw, fun i hi hne => ?_⟩, rfl, .inr ⟨rfl, fun e => h0 (by rw [← e]; exact hyes)⟩⟩
  · rw [← synL_el fx j hj]
    exact hyes j (by rw [synL_len]; exact hj)
  · have := Classical.byContradiction (fun h : ¬ i ∈ E ++ ws => hne (hci.same i (by rw [List.take_length]; exact h)))
    exact List.mem_append.1 this
end Go.Proofs.Ytijkgplglfmfnaa.P

namespace Go.Proofs.Ytijkgplglfmfnaa.P
open Go Go.RowKit Go.Shelf
open G.S (codeV Cd code_box length_any box4_at)
open G (Box IRow)

theorem box3_set {W : World} {p : Nat} {t : TypeId} {v0 v1 v2 : Value} (h : Box W p t [v0, v1, v2]) (u0 u1 u2 : Value) : Box (((W.setCell ⟨p, 0, none⟩ u0).setCell ⟨p, 1, none⟩ u1).setCell ⟨p, 2, none⟩ u2) p t [u0, u1, u2] :=
  ((h.set 0 u0).set 1 u1).set 2 u2
theorem below3 {w W : World} {B p : Nat} (h : Below B w W) (hp : B ≤ p) (u0 u1 u2 : Value) : Below B w (((W.setCell ⟨p, 0, none⟩ u0).setCell ⟨p, 1, none⟩ u1).setCell ⟨p, 2, none⟩ u2) :=
  ((h.setCell (p := ⟨p, 0, none⟩) hp _).setCell (p := ⟨p, 1, none⟩) hp _).setCell (p := ⟨p, 2, none⟩) hp _
/-- A result is stored in a box: the worlds have names. -/
theorem name3 {W : World} {p : Nat} {t : TypeId} {v0 v1 v2 : Value} (h : Box W p t [v0, v1, v2]) (u0 u1 u2 : Value) : ∃ Wa Wb Wc : World, W.setCell ⟨p, 0, none⟩ u0 = Wa ∧ Wa.setCell ⟨p, 1, none⟩ u1 = Wb ∧ Wb.setCell ⟨p, 2, none⟩ u2 = Wc ∧
    W.cell? ⟨p, 0, none⟩ = some v0 ∧ W.frozen? ⟨p, 0, none⟩ = false ∧ Wa.cell? ⟨p, 1, none⟩ = some v1 ∧ Wa.frozen? ⟨p, 1, none⟩ = false ∧ Wb.cell? ⟨p, 2, none⟩ = some v2 ∧ Wb.frozen? ⟨p, 2, none⟩ = false ∧
    Wc.cell? ⟨p, 0, none⟩ = some u0 ∧ Wc.cell? ⟨p, 1, none⟩ = some u1 ∧ Wc.cell? ⟨p, 2, none⟩ = some u2 ∧
    Box Wc p t [u0, u1, u2] ∧ (∀ (B : Nat) (w : World), Below B w W → B ≤ p → Below B w Wc) ∧ (∀ (B : Nat) (v : Value) (zs : List PM.G), v.ownBlock ≠ some p → Own W B v zs → Own Wc B v zs) ∧ (∀ (B : Nat) (v : Value) (zs : List Nat), v.ownBlock ≠ some p → G.Own W B v zs → G.Own Wc B v zs) := by
  have h1 := h.set 0 u0
  have h2 := h1.set 1 u1
  have h3 := h2.set 2 u2
  exact ⟨_, _, _, rfl, rfl, rfl, h.cell 0 rfl, h.free 0, h1.cell 1 rfl, h1.free 1, h2.cell 2 rfl, h2.free 2, h3.cell 0 rfl, h3.cell 1 rfl, h3.cell 2 rfl, h3, fun B w hb hp => below3 hb hp _ _ _, fun B v zs hv ho => ((ho.other (p := ⟨p, 0, none⟩) _ hv).other (p := ⟨p, 1, none⟩) _ hv).other (p := ⟨p, 2, none⟩) _ hv, fun B v zs hv ho => ((ho.other (p := ⟨p, 0, none⟩) _ hv).other (p := ⟨p, 1, none⟩) _ hv).other (p := ⟨p, 2, none⟩) _ hv⟩

/-- Decode's answer: an error. -/
def DecNo (w : World) (k : Int) (e : Ending) (W : World) : Prop := e = .returned (.tuple #[.agg #[.int .i64 0, .slice none 0 0, .slice none 0 0], .int .i64 k]) ∧ Below w.heap.size w W
/-- Decode's answer. -/
def DecYes (w : World) (n C t : Nat) (zs : List PM.G) (E : List Nat) (e : Ending) (W : World) : Prop :=
  ∃ (o : Int) (ws : List PM.G) (ch : List Nat) (a : Option Addr) (c : Nat) (a2 : Option Addr) (c2 : Nat), e = .returned (.tuple #[.agg #[.int .i64 o, .slice a ws.length c, .slice a2 ch.length c2], .int .i64 0]) ∧
    Own W w.heap.size (.slice a ws.length c) ws ∧ G.Own W w.heap.size (.slice a2 ch.length c2) ch ∧ Dec n C t zs E o ws ch ∧ Below w.heap.size w W
/-- A list of ints that are places. -/
theorem row_of_ints {w : World} {a : Option Addr} {es : List Int} {cap : Nat} (h : IRow w a es cap) {E : List Nat} (he : es = E.map (fun i : Nat => (i : Int))) : G.Row w a E cap := by
  subst he
  refine ⟨by have := h.room; rwa [List.length_map] at this, h.most, fun j hj => ?_⟩
  obtain ⟨b, off, e, hc⟩ := h.el j (by rw [List.length_map]; exact hj)
  refine ⟨b, off, e, ?_⟩
  rw [hc]
  show some (Value.int .i64 (IN.el _ j)) = some (.int .i64 ((G.el E j : Nat) : Int))
  rw [G.el_lt hj]
  unfold IN.el
  rw [List.getElem?_map, List.getElem?_eq_getElem hj]
  rfl
theorem ints_of_row {w : World} {a : Option Addr} {E : List Nat} {cap : Nat} (h : G.Row w a E cap) : IRow w a (E.map (fun i : Nat => (i : Int))) cap := by
  refine ⟨by rw [List.length_map]; exact h.room, h.most, fun j hj => ?_⟩
  rw [List.length_map] at hj
  obtain ⟨b, off, e, hc⟩ := h.elN j hj
  refine ⟨b, off, e, ?_⟩
  rw [hc, G.el_lt hj]
  unfold IN.el
  rw [List.getElem?_map, List.getElem?_eq_getElem hj]
  rfl

set_option maxRecDepth 100000 in
set_option maxHeartbeats 4000000 in
theorem decode_err1 {D C F : Nat} (_hc : Cd D C F) (a : Option Addr) (n cap : Nat) (a2 : Option Addr) (n2 cap2 : Nat) (k : Int) (hk : k ≠ 0) (w : World) (hS : ∀ W, Calls Try.prog 23 #[codeV D C F, .slice a n cap] W (No W k)) :
    Calls Try.prog 19 #[codeV D C F, .slice a n cap, .slice a2 n2 cap2] w (DecNo w k) := by
  have HS := Lib.hid hS
  have hkb : (k == 0) = false := by rw [beq_eq_false_iff_ne]; exact hk
  have hkb2 : (k != 0) = true := by rw [bne_iff_ne]; exact hk
  unfold codeV at *
  obtain ⟨w1, hw1, c0, c1, c2, c3, hB, hX⟩ := code_box w D C F 28
  have hb0 := Box.new w1 39 [.int .i64 0, .slice none 0 0, .slice none 0 0]
  obtain ⟨w2, hw2⟩ : ∃ w2, w1.alloc (.cells #[.int .i64 0, .slice none 0 0, .slice none 0 0] 39) = w2 := ⟨_, rfl⟩
  have hb12 : Below w1.heap.size w1 w2 := by rw [← hw2]; exact (Below.refl _ w1).alloc (Nat.le_refl _) _
  have hbx : Box w2 w1.heap.size 39 [.int .i64 0, .slice none 0 0, .slice none 0 0] := by rw [← hw2]; exact hb0
  have HX := Lib.hid hbx
  have HB := Lib.hid (hB.trans (hb12.mono hB.size))
  replace c0 := G.cell_below hb12 c0
  replace c1 := G.cell_below hb12 c1
  replace c2 := G.cell_below hb12 c2
  replace c3 := G.cell_below hb12 c3
  have hp := hB.size
  clear hB hb0 hb12 hbx hX hS hk
  go_enter Try.func19, Try.ntmps19
  go_wp2_with fail
  (with_reducible refine (HS.out _).mono ?_)
  rintro e w3 ⟨rfl, hb3⟩
  have hx3 := HX.out.below hb3
  obtain ⟨p, hpp⟩ : ∃ p, w1.heap.size = p := ⟨_, rfl⟩
  rw [hpp] at hx3 hp ⊢
  obtain ⟨Wa, Wb, Wc, e1, e2, e3, f1, f2, f3, f4, f5, f6, g1, g2, g3, _, hbel, _, _⟩ := name3 hx3 (.int .i64 0) (.slice none 0 0) (.slice none 0 0)
  have HBC := Lib.hid (hbel _ _ (HB.out.trans (hb3.mono HB.out.size)) hp)
  have HG := Lib.hid (And.intro g1 (And.intro g2 g3))
  clear hb3 hx3 hbel HX HB c0 c1 c2 c3 hw1 hw2 hpp g1 g2 g3
  go_wp2_with fail
  exact bodyPost_ret (v := .tuple #[.agg #[.int .i64 0, .slice none 0 0, .slice none 0 0], .int .i64 k]) (by simp [results, Try.results19, go_sem, HG.out.1, HG.out.2.1, HG.out.2.2]) rfl ⟨rfl, HBC.out⟩
set_option maxRecDepth 100000 in
set_option maxHeartbeats 4000000 in
theorem decode_err2 {D C F : Nat} (hc : Cd D C F) (hF : F ≤ C / 2) (a : Option Addr) (zs : List PM.G) (cap : Nat) (a2 : Option Addr) (es : List Int) (cap2 : Nat) (k : Int) (hk : k ≠ 0) (w : World) (hZ : Row w a zs cap) (hzl : zs.length = D + C) (hE : IRow w a2 es cap2) (hz : ∀ j, j < es.length → -9223372036854775808 ≤ IN.el es j ∧ IN.el es j ≤ 9223372036854775807) (hP : PlErr (D + C) C es k) :
    Calls Try.prog 19 #[codeV D C F, .slice a (D + C) cap, .slice a2 es.length cap2] w (DecNo w k) := by
  have HS := Lib.hid (fun W h => syndromes_yes hc hF a zs cap W h hzl)
  have HP := Lib.hid (fun W h => errorOfPlaces_any hc a2 es cap2 W h hz k hP)
  have HZ := Lib.hid hZ
  have HE := Lib.hid hE
  have hkb : (k == 0) = false := by rw [beq_eq_false_iff_ne]; exact hk
  have hkb2 : (k != 0) = true := by rw [bne_iff_ne]; exact hk
  unfold codeV at *
  obtain ⟨w1, hw1, c0, c1, c2, c3, hB, hX⟩ := code_box w D C F 28
  have hb0 := Box.new w1 39 [.int .i64 0, .slice none 0 0, .slice none 0 0]
  obtain ⟨w2, hw2⟩ : ∃ w2, w1.alloc (.cells #[.int .i64 0, .slice none 0 0, .slice none 0 0] 39) = w2 := ⟨_, rfl⟩
  have hb12 : Below w1.heap.size w1 w2 := by rw [← hw2]; exact (Below.refl _ w1).alloc (Nat.le_refl _) _
  have hbx : Box w2 w1.heap.size 39 [.int .i64 0, .slice none 0 0, .slice none 0 0] := by rw [← hw2]; exact hb0
  have HX := Lib.hid hbx
  have HB := Lib.hid (hB.trans (hb12.mono hB.size))
  replace c0 := G.cell_below hb12 c0
  replace c1 := G.cell_below hb12 c1
  replace c2 := G.cell_below hb12 c2
  replace c3 := G.cell_below hb12 c3
  have hp := hB.size
  have HS2 := Lib.hid (HS.out w2 (HZ.out.below HB.out))
  obtain ⟨m, hm⟩ : ∃ m, D + C = m := ⟨_, rfl⟩
  rw [hm] at HS2 ⊢
  clear hB hb0 hb12 hbx hX hc hk hZ hE hzl hz hP hm HS HZ
  go_enter Try.func19, Try.ntmps19
  go_wp2_with fail
  (with_reducible refine HS2.out.mono ?_)
  rintro e w3 ⟨av, cs, rfl, hos, hb3⟩
  have HB3 := Lib.hid (HB.out.trans (hb3.mono HB.out.size))
  have HX3 := Lib.hid (HX.out.below hb3)
  have HP3 := Lib.hid (HP.out w3 (HE.out.below HB3.out))
  replace c0 := G.cell_below hb3 c0
  replace c1 := G.cell_below hb3 c1
  replace c2 := G.cell_below hb3 c2
  replace c3 := G.cell_below hb3 c3
  clear hos hb3 HS2 HX HB HP HE
  go_wp2_with fail
  (with_reducible refine HP3.out.mono ?_)
  rintro e w4 ⟨rfl, hb4⟩
  have hx4 := HX3.out.below hb4
  obtain ⟨p, hpp⟩ : ∃ p, w1.heap.size = p := ⟨_, rfl⟩
  rw [hpp] at hx4 hp ⊢
  obtain ⟨Wa, Wb, Wc, e1, e2, e3, f1, f2, f3, f4, f5, f6, g1, g2, g3, _, hbel, _, _⟩ := name3 hx4 (.int .i64 0) (.slice none 0 0) (.slice none 0 0)
  have HBC := Lib.hid (hbel _ _ (HB3.out.trans (hb4.mono HB3.out.size)) hp)
  have HG := Lib.hid (And.intro g1 (And.intro g2 g3))
  clear hb4 hx4 hbel HX3 HB3 HP3 c0 c1 c2 c3 hw1 hw2 hpp g1 g2 g3
  go_wp2_with fail
  exact bodyPost_ret (v := .tuple #[.agg #[.int .i64 0, .slice none 0 0, .slice none 0 0], .int .i64 k]) (by simp [results, Try.results19, go_sem, HG.out.1, HG.out.2.1, HG.out.2.2]) rfl ⟨rfl, HBC.out⟩

set_option maxRecDepth 100000 in
set_option maxHeartbeats 4000000 in
/-- **symbol.Decode** -/
theorem decode_yes {D C F : Nat} (hc : Cd D C F) (hF : F ≤ C / 2) (a : Option Addr) (zs : List PM.G) (cap : Nat) (a2 : Option Addr) (E : List Nat) (cap2 : Nat) (w : World) (hZ : Row w a zs cap) (hzl : zs.length = D + C) (hE : G.Row w a2 E cap2) (hel : E.length ≤ C) (hin : ∀ i ∈ E, i < D + C) (hnd : E.Nodup)
    (hP : PlErr (D + C) C (E.map (fun i : Nat => (i : Int))) 0) :
    Calls Try.prog 19 #[codeV D C F, .slice a (D + C) cap, .slice a2 E.length cap2] w (DecYes w (D + C) C (tOf C F E.length) zs E) := by
  have hroom := hZ.room
  have hmost := hZ.most
  rw [hzl] at hroom
  have hn255 : D + C ≤ 255 := by have := hc.d2; have := hc.c2; omega
  have HS := Lib.hid (fun W h => syndromes_yes hc hF a zs cap W h hzl)
  have HP := Lib.hid (fun W h => by
    have := errorOfPlaces_any hc a2 (E.map (fun i : Nat => (i : Int))) cap2 W h (fun j hj => by
      rw [List.length_map] at hj
      have h1 : IN.el (E.map (fun i : Nat => (i : Int))) j = ((E[j] : Nat) : Int) := by unfold IN.el; rw [List.getElem?_map, List.getElem?_eq_getElem hj]; rfl
      have := hin E[j] (List.getElem_mem hj)
      rw [h1]; omega) 0 hP
    rwa [List.length_map] at this)
  have HWP := Lib.hid (fun W av cv (vs : List PM.G) hv h hvl => wrongPlaces_any hc av a2 vs E cv cap2 W hv h hvl hel (fun k hk => hin _ (G.el_mem hk)))
  have HCO := Lib.hid (fun W av ap cv cp (vs : List PM.G) (P : List Nat) h1 h2 h3 hvl hpl hnd hin => corrected_any hc a av ap zs vs P cap cv cp W h1 h2 h3 hzl hvl hpl hnd hin)
  have HSI := Lib.hid (fun W a' (fx : List PM.G) cap' h (hl : fx.length = D + C) => syndromes_in hc a' fx cap' W h (by omega))
  have HZ := Lib.hid hZ
  have HE := Lib.hid hE
  have HZL := Lib.hid hzl
  have HIN := Lib.hid hin
  have HND := Lib.hid hnd
  have HF := Lib.hid hF
  have hC2 := hc.c2
  unfold codeV at *
  obtain ⟨w1, hw1, c0, c1, c2, c3, hB, hX⟩ := code_box w D C F 28
  have hb0 := Box.new w1 39 [.int .i64 0, .slice none 0 0, .slice none 0 0]
  obtain ⟨w2, hw2⟩ : ∃ w2, w1.alloc (.cells #[.int .i64 0, .slice none 0 0, .slice none 0 0] 39) = w2 := ⟨_, rfl⟩
  have hb12 : Below w1.heap.size w1 w2 := by rw [← hw2]; exact (Below.refl _ w1).alloc (Nat.le_refl _) _
  have hbx : Box w2 w1.heap.size 39 [.int .i64 0, .slice none 0 0, .slice none 0 0] := by rw [← hw2]; exact hb0
  have HX := Lib.hid hbx
  have HCB := Lib.hid (hX.below hb12)
  have HB := Lib.hid (hB.trans (hb12.mono hB.size))
  replace c0 := G.cell_below hb12 c0
  replace c1 := G.cell_below hb12 c1
  replace c2 := G.cell_below hb12 c2
  replace c3 := G.cell_below hb12 c3
  have hp := hB.size
  have HS2 := Lib.hid (HS.out w2 (HZ.out.below HB.out))
  obtain ⟨m, hm⟩ : ∃ m, D + C = m := ⟨_, rfl⟩
  rw [hm] at HS2 HCO HZL HWP HIN hn255 hroom ⊢
  have HM := Lib.hid hm
  clear hB hb0 hb12 hbx hX hc hZ hE hzl hP hm HS hin hnd
  obtain ⟨t, ht⟩ : ∃ t, tOf C F E.length = t := ⟨_, rfl⟩
  rw [ht]
  have HT := Lib.hid ht
  clear ht
  go_enter Try.func19, Try.ntmps19
  go_wp2_with fail
  (with_reducible refine HS2.out.mono ?_)
  rintro e w3 ⟨av, cs, rfl, hos, hb3⟩
  have HB3 := Lib.hid (HB.out.trans (hb3.mono HB.out.size))
  have HX3 := Lib.hid (HX.out.below hb3)
  have HCB3 := Lib.hid (HCB.out.below hb3)
  have HP3 := Lib.hid (HP.out w3 (ints_of_row (HE.out.below HB3.out)))
  obtain ⟨vs, hvs⟩ : ∃ vs, synL D C zs = vs := ⟨_, rfl⟩
  have HVS := Lib.hid hvs
  rw [hvs] at hos
  have hvl : vs.length = C := by rw [← hvs, synL_len]
  have HOS := Lib.hid hos
  have HVL := Lib.hid hvl
  replace c0 := G.cell_below hb3 c0
  replace c1 := G.cell_below hb3 c1
  replace c2 := G.cell_below hb3 c2
  replace c3 := G.cell_below hb3 c3
  clear hos hb3 HS2 HX HB HP HCB hvs hvl
  go_wp2_with fail
  (with_reducible refine HP3.out.mono ?_)
  rintro e w4 ⟨rfl, hb4⟩
  have HX4 := Lib.hid (HX3.out.below hb4)
  have HCB4 := Lib.hid (HCB3.out.below hb4)
  have HB4 := Lib.hid (HB3.out.trans (hb4.mono HB3.out.size))
  have HV4 := Lib.hid ((HOS.out.below hb4).rowAtN HVL.out)
  clear hb4 HX3 HCB3 HB3 HOS HP3 c0 c1 c2 c3 hw1 hw2
  obtain ⟨p, hpp⟩ : ∃ p, w1.heap.size = p := ⟨_, rfl⟩
  rw [hpp] at HX4 hp ⊢
  clear hpp
  by_cases hz0 : ∀ j, j < vs.length → PM.el vs j = 0
  · have hiz := isZero_any av cs vs w4 HV4.out true ⟨fun _ => hz0, fun _ => rfl⟩
    rw [HVL.out] at hiz
    have HIZ := Lib.hid hiz
    have HCL := Lib.hid (bclone_any a zs cap m w4 (HZ.out.below HB4.out) (by rw [HZL.out]; omega) HZL.out)
    have HD := Lib.hid (show Dec m C t zs E 0 zs [] by rw [← HM.out]; exact dec_clean (by rw [HM.out]; exact HZL.out) (by rw [HVS.out]; exact hz0))
    clear hiz hz0
    go_wp2_with fail
    (with_reducible refine HIZ.out.mono ?_)
    rintro e w5 ⟨rfl, rfl⟩
    go_wp2_with fail
    (with_reducible refine HCL.out.mono ?_)
    rintro e w5 ⟨a5, k5, rfl, ho5, hb5⟩
    have hx5 := HX4.out.below hb5
    obtain ⟨Wa, Wb, Wc, e1, e2, e3, f1, f2, f3, f4, f5, f6, g1, g2, g3, _, hbel, hown, _⟩ := name3 hx5 (.int .i64 0) (.slice a5 m k5) (.slice none 0 0)
    have HBC := Lib.hid (hbel _ _ (HB4.out.trans (hb5.mono HB4.out.size)) hp)
    have HOC := Lib.hid (hown _ _ _ (by intro e; have := (World.ownsRow.lt ho5 _ e).1; have := HX4.out.lt; omega) (ho5.mono HB4.out.size))
    have HG := Lib.hid (And.intro g1 (And.intro g2 g3))
    clear hx5 hbel hown ho5 hb5 HX4 HB4 HIZ HCL g1 g2 g3 HCB4
    go_wp2_with fail
    refine bodyPost_ret (v := .tuple #[.agg #[.int .i64 0, .slice a5 m k5, .slice none 0 0], .int .i64 0]) (by simp [results, Try.results19, go_sem, HG.out.1, HG.out.2.1, HG.out.2.2]) rfl ⟨0, zs, [], a5, k5, none, 0, by rw [HZL.out]; rfl, by rw [HZL.out]; exact HOC.out, G.Own.nil _ _, HD.out, HBC.out⟩
  · have hiz := isZero_any av cs vs w4 HV4.out false ⟨fun h => (by cases h), fun h => absurd h hz0⟩
    rw [HVL.out] at hiz
    have HIZ := Lib.hid hiz
    have HNZ := Lib.hid hz0
    have HW4 := Lib.hid (HWP.out w4 av cs vs HV4.out (HE.out.below HB4.out) HVL.out)
    obtain ⟨c0, c1, c2, c3⟩ := box4_at HCB4.out
    clear hiz hz0 HWP
    go_wp2_with fail
    (with_reducible refine HIZ.out.mono ?_)
    rintro e w5 ⟨rfl, rfl⟩
    go_wp2_with fail
    (with_reducible refine HW4.out.mono ?_)
    rintro e w5 ⟨ws, a5, k5, rfl, ho5, hwr, hb5⟩
    have HWR := Lib.hid hwr
    have HOW := Lib.hid ho5
    have HB5 := Lib.hid (HB4.out.trans (hb5.mono HB4.out.size))
    have HX5 := Lib.hid (HX4.out.below hb5)
    have HCB5 := Lib.hid (HCB4.out.below hb5)
    have HV5 := Lib.hid (HV4.out.below hb5)
    have HNW := Lib.hid (wrong_nd hwr HND.out HIN.out)
    have hwl : ws.length ≤ 400 := by
      have := (List.nodup_append.1 HNW.out.1).2.1
      obtain ⟨f, _, _, _, _, _, _, _, _, rfl⟩ := hwr
      have := wrongL_le f m E m
      omega
    have hmin : min (F : Int) (((C : Int) - (E.length : Int)) / 2) = (t : Int) := by
      rw [← HT.out]; unfold tOf; omega
    obtain ⟨c0, c1, c2, c3⟩ := box4_at HCB5.out
    clear ho5 hwr hb5 HB4 HX4 HCB4 HV4 HW4 HIZ
    by_cases hgt : t < ws.length
    · have HD := Lib.hid (show Dec m C t zs E 2 [] [] by
        rw [← HM.out]
        have hw := HWR.out
        rw [← HVS.out, ← HM.out] at hw
        exact dec_lost1 (by rw [HM.out]; exact hn255) (by rw [HM.out]; exact HIN.out) hel hw (by rw [← HT.out]; exact tOf_le2) hgt)
      obtain ⟨Wa, Wb, Wc, e1, e2, e3, f1, f2, f3, f4, f5, f6, g1, g2, g3, _, hbel, hown, _⟩ := name3 HX5.out (.int .i64 2) (.slice none 0 0) (.slice none 0 0)
      have HBC := Lib.hid (hbel _ _ HB5.out hp)
      have HG := Lib.hid (And.intro g1 (And.intro g2 g3))
      have hgt' : (t : Int) < (ws.length : Int) := by omega
      clear hbel hown HX5 HB5 g1 g2 g3 HCB5 hgt
      go_wp2_with fail
      refine bodyPost_ret (v := .tuple #[.agg #[.int .i64 2, .slice none 0 0, .slice none 0 0], .int .i64 0]) (by simp [results, Try.results19, go_sem, HG.out.1, HG.out.2.1, HG.out.2.2]) rfl ⟨2, [], [], none, 0, none, 0, rfl, Own.nil _ _, G.Own.nil _ _, HD.out, HBC.out⟩
    · have hgt' : ¬ (t : Int) < (ws.length : Int) := by omega
      obtain ⟨P, hPP⟩ : ∃ P, E ++ ws = P := ⟨_, rfl⟩
      have HPP := Lib.hid hPP
      have hnw := HNW.out
      rw [hPP] at hnw
      have hPl : P.length ≤ C := by
        rw [← hPP, List.length_append]
        have h1 := tOf_le (F := F) hel
        rw [HT.out] at h1
        omega
      have HNP := Lib.hid hnw
      -- the worlds of the region
      have hb6 : Below w5.heap.size w5 w5.drew := (Below.refl _ w5).drew
      have hbx6 := Box.new w5.drew 22 [.slice a2 E.length cap2, .slice a5 ws.length k5]
      obtain ⟨wA, hwA⟩ : ∃ wA, w5.drew.alloc (.cells #[.slice a2 E.length cap2, .slice a5 ws.length k5] 22) = wA := ⟨_, rfl⟩
      have hb7 : Below w5.heap.size w5 wA := by rw [← hwA]; exact hb6.alloc (Nat.le_refl _) _
      have hbxA : Box wA w5.heap.size 22 [.slice a2 E.length cap2, .slice a5 ws.length k5] := by rw [← hwA]; exact hbx6
      have hcc := G.concat_any w5.heap.size a2 a5 E ws cap2 k5 wA (hbxA.cell 0 rfl) (hbxA.cell 1 rfl) (HE.out.below (HB5.out.trans (hb7.mono HB5.out.size))) ((HOW.out.below hb7).rowAt) (by omega) hwl
      rw [hPP] at hcc
      have HCC := Lib.hid hcc
      have HB7 := Lib.hid hb7
      obtain ⟨d0, d1, d2, d3⟩ := box4_at (HCB5.out.below hb6)
      obtain ⟨x0, x1, x2, x3⟩ := box4_at (HCB5.out.below hb7)
      clear hPP hnw hcc hb6 hb7 hbx6 hbxA hgt
      go_upto_region 11 with fail
      go_cut [11] (fun v wx => ∃ (fx : List PM.G) (af : Option Addr) (cf : Nat), v = .slice af m cf ∧ Own wx w5.heap.size (.slice af m cf) fx ∧ CorrI m C zs vs P P.length fx ∧ Below w5.heap.size w5 wx)
      case first =>
        go_region_law (first
          | (go_simp; go_at_call 46; (with_reducible refine HCC.out.mono ?_); rintro e w8 ⟨a8, k8, rfl, ho8, hb8⟩; have HB8 := Lib.hid (HB7.out.trans (hb8.mono HB7.out.size)); have hb58 := HB8.out; have y := box4_at (HCB5.out.below hb58); have y0 := y.1; have y1 := y.2.1; have y2 := y.2.2.1; have y3 := y.2.2.2; have hb08 := HB5.out.trans (hb58.mono HB5.out.size); have hco := HCO.out w8 av a8 cs k8 vs P (HZ.out.below hb08) (HV5.out.below hb58) ho8.rowAt HVL.out hPl HNP.out.1 (fun k hk => HNP.out.2 _ (G.el_mem hk)); have HCR := Lib.hid hco; clear ho8 hb8 hb58 y hb08 hco; go_simp)
          | (go_simp; go_at_call 45; (with_reducible refine HCR.out.mono ?_); rintro e w9 ⟨fx, a9, k9, rfl, ho9, hci, hb9⟩; have HO9 := Lib.hid (ho9.mono HB8.out.size); have HCI := Lib.hid hci; have HB9 := Lib.hid (HB8.out.trans (hb9.mono HB8.out.size)); clear ho9 hci hb9; go_simp))
        all_goals (
          go_wp2_with fail
          go_meet
          exact ⟨fx, a9, k9, rfl, HO9.out, HCI.out, HB9.out⟩)
      case rest =>
        obtain ⟨fx, af, cf, rfl, hof, hci, hbc⟩ := hcut
        have hfl := hci.len
        have HOF := Lib.hid hof
        have HBC := Lib.hid (HB5.out.trans (hbc.mono HB5.out.size))
        have HXC := Lib.hid (HX5.out.below hbc)
        have hci2 := hci
        rw [← HVS.out, ← HPP.out, ← HM.out] at hci2
        have HCI := Lib.hid hci2
        have HFL := Lib.hid hfl
        have hsi := HSI.out wc af fx cf (hof.rowAtN hfl) (by rw [HM.out]; exact hfl)
        rw [hfl] at hsi
        have hws' := HWR.out
        rw [← HVS.out, ← HM.out] at hws'
        have hzz := HNZ.out
        rw [← HVS.out] at hzz
        have HWS := Lib.hid hws'
        have HZZ := Lib.hid hzz
        obtain ⟨fs, hfs⟩ : ∃ fs, synL D C fx = fs := ⟨_, rfl⟩
        have hsl : tab C (SM.syn m (SM.XE m) (PM.el fx)) = fs := by rw [← hfs, ← HM.out]; rfl
        have hfsl : fs.length = C := by rw [← hfs, synL_len]
        rw [hsl] at hsi
        have HSY := Lib.hid hsi
        have HFS := Lib.hid hfs
        have HFSL := Lib.hid hfsl
        obtain ⟨c0, c1, c2, c3⟩ := box4_at (HCB5.out.below hbc)
        have hp5 : p < w5.heap.size := HX5.out.lt
        have hw5 : w.heap.size ≤ w5.heap.size := HB5.out.size
        clear hof hci hci2 hbc hfl hsi hws' hzz hfs hsl hfsl d0 d1 d2 d3 x0 x1 x2 x3 HB5 HX5 HCB5 HCC HB7 HCO HSI
        go_wp2_with fail
        (with_reducible refine HSY.out.mono ?_)
        rintro e w6 ⟨g6, rfl, _, ho6, hb6⟩
        have HB6 := Lib.hid (HBC.out.trans (hb6.mono HBC.out.size))
        have HX6 := Lib.hid (HXC.out.below hb6)
        have HOF6 := Lib.hid (HOF.out.below hb6)
        have hr6 := ho6.rowAtN HFSL.out
        by_cases hz1 : ∀ j, j < fs.length → PM.el fs j = 0
        · have hiz := isZero_any (some ⟨g6, 0, none⟩) C fs w6 hr6 true ⟨fun _ => hz1, fun _ => rfl⟩
          rw [HFSL.out] at hiz
          have HIZ := Lib.hid hiz
          have HD := Lib.hid (show Dec m C t zs E 1 fx (diff zs fx m) by
            have := dec_fixed (t := t) (by omega) HCI.out HZZ.out (by rw [HFS.out]; exact hz1)
            rwa [HM.out] at this)
          have hdf := differences_any a af zs fx cap cf m w6 (HZ.out.below HB6.out) (HOF6.out.rowAtN HFL.out) HZL.out HFL.out (by omega)
          obtain ⟨dl, hdl⟩ : ∃ dl, diff zs fx m = dl := ⟨_, rfl⟩
          rw [hdl] at hdf HD
          have HDF := Lib.hid hdf
          clear ho6 hb6 hr6 hiz hz1 HBC HXC HOF HSY hdf hdl
          go_wp2_with fail
          (with_reducible refine HIZ.out.mono ?_)
          rintro e w7 ⟨rfl, rfl⟩
          go_wp2_with fail
          (with_reducible refine HDF.out.mono ?_)
          rintro e w7 ⟨a7, k7, rfl, ho7, hb7⟩
          have hx7 := HX6.out.below hb7
          obtain ⟨Wa, Wb, Wc, e1, e2, e3, f1, f2, f3, f4, f5, f6, g1, g2, g3, _, hbel, hown, hownN⟩ := name3 hx7 (.int .i64 1) (.slice af m cf) (.slice a7 dl.length k7)
          have HBE := Lib.hid (hbel _ _ (HB6.out.trans (hb7.mono HB6.out.size)) hp)
          have HOE := Lib.hid (hown _ _ _ (by intro e; have := (World.ownsRow.lt HOF6.out _ e).1; omega) ((HOF6.out.below hb7)))
          have HNE := Lib.hid (hownN _ _ _ (by intro e; have := (World.ownsRow.lt ho7 _ e).1; have := HX6.out.lt; omega) (ho7.mono HB6.out.size))
          have HG := Lib.hid (And.intro g1 (And.intro g2 g3))
          clear hx7 hbel hown hownN ho7 hb7 HX6 HB6 HIZ HDF g1 g2 g3
          go_wp2_with fail
          refine bodyPost_ret (v := .tuple #[.agg #[.int .i64 1, .slice af m cf, .slice a7 dl.length k7], .int .i64 0]) (by simp [results, Try.results19, go_sem, HG.out.1, HG.out.2.1, HG.out.2.2]) rfl ⟨1, fx, dl, af, cf, a7, k7, by rw [HFL.out], by rw [HFL.out]; exact HOE.out.mono hw5, HNE.out, HD.out, HBE.out⟩
        · have hiz := isZero_any (some ⟨g6, 0, none⟩) C fs w6 hr6 false ⟨fun h => (by cases h), fun h => absurd h hz1⟩
          rw [HFSL.out] at hiz
          have HIZ := Lib.hid hiz
          have HD := Lib.hid (show Dec m C t zs E 2 [] [] by
            have := dec_lost2 (t := t) (by rw [HM.out]; exact hn255) HND.out (by rw [HM.out]; exact HIN.out) hel HWS.out (by rw [← HT.out]; exact tOf_le2) HCI.out (by rw [HFS.out]; exact hz1)
            rwa [HM.out] at this)
          obtain ⟨Wa, Wb, Wc, e1, e2, e3, f1, f2, f3, f4, f5, f6, g1, g2, g3, _, hbel, hown, _⟩ := name3 HX6.out (.int .i64 2) (.slice none 0 0) (.slice none 0 0)
          have HBE := Lib.hid (hbel _ _ HB6.out hp)
          have HG := Lib.hid (And.intro g1 (And.intro g2 g3))
          clear ho6 hb6 hr6 hiz hz1 HBC HXC HOF HSY hbel hown HX6 HB6 g1 g2 g3
          go_wp2_with fail
          (with_reducible refine HIZ.out.mono ?_)
          rintro e w7 ⟨rfl, rfl⟩
          go_wp2_with fail
          refine bodyPost_ret (v := .tuple #[.agg #[.int .i64 2, .slice none 0 0, .slice none 0 0], .int .i64 0]) (by simp [results, Try.results19, go_sem, HG.out.1, HG.out.2.1, HG.out.2.2]) rfl ⟨2, [], [], none, 0, none, 0, rfl, Own.nil _ _, G.Own.nil _ _, HD.out, HBE.out⟩
end Go.Proofs.Ytijkgplglfmfnaa.P

namespace Go.Proofs.Ytijkgplglfmfnaa.G
open Go Go.RowKit Go.Shelf

/-- **Dice.One** -/
theorem one_any (w : World) (dp : Nat) (a : Option Addr) (cap : Nat) (ts : List Int) (k n : Nat) (hn : 0 < n) (hn2 : n ≤ 1000) (hD : Dice w dp a cap ts k) :
    Calls Try.prog 21 #[.pointer (some ⟨dp, 0, none⟩), .int .i64 (n : Int)] w fun e W => ∃ (t : Bool) (k' : Nat), e = .returned (.bool t) ∧ Dice W dp a cap ts k' ∧ w.grownBy W (some dp) := by
  have HNX := Lib.hid (next_any w dp a cap ts k n hn (by omega) hD)
  clear hD
  go_enter Try.func21, Try.ntmps21
  go_wp2_with fail
  refine HNX.out.mono ?_
  rintro e w1 ⟨r, k1, hr, rfl, hd1, hg1⟩
  go_wp2
  go_ret
  exact ⟨_, k1, rfl, hd1, hg1⟩
end Go.Proofs.Ytijkgplglfmfnaa.G

namespace Go.Proofs.Ytijkgplglfmfnaa.G
open Go Go.RowKit Go.Shelf
open Elt
abbrev Y := BitVec 8
instance eltY : Elt Y := { gv := fun x => .int .u8 (x.toNat : Int), z := 0, ty := 5, sl := 30, wide := 1, wide_le := by decide, info := by kernel_rfl, under := Try.underlying30, one := fun _ => rfl, plain := fun _ => rfl }
theorem Row.elY {w : World} {a : Option Addr} {zs : List Y} {cap : Nat} (h : Row w a zs cap) (j : Nat) (hj : j < zs.length) : ∃ b off, a = some ⟨b, off, none⟩ ∧ w.cell? ⟨b, off + j, none⟩ = some (.int .u8 ((G.el zs j).toNat : Int)) := h.el j hj
theorem Row.cellY {w : World} {b off : Nat} {zs : List Y} {cap : Nat} (h : Row w (some ⟨b, off, none⟩) zs cap) (j : Nat) (hj : j < zs.length) : w.cell? ⟨b, off + j, none⟩ = some (.int .u8 ((G.el zs j).toNat : Int)) := by
  obtain ⟨b', off', e, hc⟩ := h.el j hj
  cases e
  exact hc
theorem Own.setY {W : World} {B n : Nat} {g cap : Nat} {zs : List Y} (h : Own W B (.slice (some ⟨g, 0, none⟩) n cap) zs) (j : Nat) (c : Y) : Own (W.setCell ⟨g, j, none⟩ (.int .u8 (c.toNat : Int))) B (.slice (some ⟨g, 0, none⟩) n cap) (zs.set j c) := h.set j c
theorem Own.cellY {W : World} {B g cap n : Nat} {zs : List Y} (h : Own W B (.slice (some ⟨g, 0, none⟩) n cap) zs) (k : Nat) (hk : k < zs.length) : W.cell? ⟨g, k, none⟩ = some (.int .u8 ((el zs k).toNat : Int)) := (h.at k hk).2.2.2.2.1

theorem u8_wrap (a : Nat) (h : a < 256) : IntKind.u8.wrap (a : Int) = (a : Int) := by
  simp [IntKind.wrap, IntKind.bits, IntKind.signed]; omega
theorem Y.lt (v : Y) : v.toNat < 256 := v.isLt
theorem and_Y (a b : Y) : bits BinOp.and IntKind.u8 (a.toNat : Int) (b.toNat : Int) = ((a &&& b).toNat : Int) := by
  show IntKind.u8.wrap ((BitVec.ofInt 8 a.toNat &&& BitVec.ofInt 8 b.toNat).toNat : Int) = _
  rw [BitVec.ofInt_natCast, BitVec.ofInt_natCast, BitVec.ofNat_toNat, BitVec.ofNat_toNat, BitVec.setWidth_eq, BitVec.setWidth_eq]
  exact u8_wrap _ (a &&& b).isLt
theorem or_Y (a b : Y) : bits BinOp.or IntKind.u8 (a.toNat : Int) (b.toNat : Int) = ((a ||| b).toNat : Int) := by
  show IntKind.u8.wrap ((BitVec.ofInt 8 a.toNat ||| BitVec.ofInt 8 b.toNat).toNat : Int) = _
  rw [BitVec.ofInt_natCast, BitVec.ofInt_natCast, BitVec.ofNat_toNat, BitVec.ofNat_toNat, BitVec.setWidth_eq, BitVec.setWidth_eq]
  exact u8_wrap _ (a ||| b).isLt
theorem xor_Y (a b : Y) : bits BinOp.xor IntKind.u8 (a.toNat : Int) (b.toNat : Int) = ((a ^^^ b).toNat : Int) := by
  show IntKind.u8.wrap ((BitVec.ofInt 8 a.toNat ^^^ BitVec.ofInt 8 b.toNat).toNat : Int) = _
  rw [BitVec.ofInt_natCast, BitVec.ofInt_natCast, BitVec.ofNat_toNat, BitVec.ofNat_toNat, BitVec.setWidth_eq, BitVec.setWidth_eq]
  exact u8_wrap _ (a ^^^ b).isLt
theorem ofNat_Y (n : Nat) (h : n < 256) : ((BitVec.ofNat 8 n).toNat : Int) = (n : Int) := by
  rw [BitVec.toNat_ofNat, Nat.mod_eq_of_lt h]
theorem shr_Y (a : Y) (k : Nat) : (a.toNat : Int) / 2 ^ min k 64 = ((a >>> k).toNat : Int) := by
  rw [BitVec.toNat_ushiftRight, Nat.shiftRight_eq_div_pow]
  have e : ((a.toNat / 2 ^ min k 64 : Nat) : Int) = (a.toNat : Int) / 2 ^ min k 64 := by rw [Int.natCast_ediv, Int.natCast_pow]; rfl
  rw [← e]
  by_cases h : k ≤ 64
  · rw [Nat.min_eq_left h]
  · rw [Nat.min_eq_right (by omega), Nat.div_eq_of_lt (Nat.lt_trans a.isLt (by decide)), Nat.div_eq_of_lt]
    exact Nat.lt_trans a.isLt (Nat.lt_of_lt_of_le (show 2 ^ 8 < 2 ^ 64 by decide) (Nat.pow_le_pow_right (n := 2) (by decide) (show 64 ≤ k by omega)))
/-- One or zero. -/
def y1 (b : Bool) : Y := if b then 1 else 0
theorem y1_inj {a b : Bool} (h : y1 a = y1 b) : a = b := by
  cases a <;> cases b <;> first | rfl | (revert h; decide)
theorem bit_Y' (a : Y) (k : Nat) : (a >>> k) &&& 1 = y1 (a.getLsbD k) := by
  apply BitVec.eq_of_getLsbD_eq
  intro i hi
  rw [BitVec.getLsbD_and, BitVec.getLsbD_ushiftRight]
  unfold y1
  by_cases h : i = 0
  · subst h
    rw [Nat.add_zero]
    cases a.getLsbD k <;> rfl
  · have h1 : BitVec.getLsbD (1 : Y) i = false := by
      show BitVec.getLsbD (1#8) i = false
      rw [BitVec.getLsbD_one]; simp; omega
    rw [h1, Bool.and_false]
    split
    · exact h1.symm
    · exact BitVec.getLsbD_zero.symm
theorem bit_Y (a : Y) (k : Nat) : bits BinOp.and IntKind.u8 ((a.toNat : Int) / 2 ^ min k 64) 1 = ((y1 (a.getLsbD k)).toNat : Int) := by
  rw [shr_Y]
  have := and_Y (a >>> k) 1
  rw [show ((1 : Y).toNat : Int) = 1 from rfl] at this
  rw [this, bit_Y']
/-- Bytes that are equal as numbers are equal. -/
theorem Y.ext {a b : Y} (h : (a.toNat : Int) = (b.toNat : Int)) : a = b := BitVec.eq_of_toNat_eq (by omega)
end Go.Proofs.Ytijkgplglfmfnaa.G

namespace Go.Proofs.Ytijkgplglfmfnaa.G
open Go Go.RowKit Go.Shelf

/-- What Bytes leaves. -/
def BytesPost (w : World) (dp : Nat) (a : Option Addr) (cap : Nat) (ts : List Int) (n : Nat) (e : Ending) (W : World) : Prop :=
  ∃ (bs : List Y) (a' : Option Addr) (c k' : Nat), bs.length = n ∧ e = .returned (.slice a' n c) ∧ Own W w.heap.size (.slice a' n c) bs ∧ Dice W dp a cap ts k' ∧ w.grownBy W (some dp)
def BytesRel (w : World) (dp : Nat) (a : Option Addr) (cap : Nat) (ts : List Int) (n : Nat) (m b : Value) (W : World) : Prop :=
  ∃ (j k' c : Nat) (a' : Option Addr) (bs : List Y), m = .int .i64 (j : Int) ∧ j ≤ n ∧ bs.length = n - j ∧ b = .slice a' (n - j) c ∧ Own W w.heap.size (.slice a' (n - j) c) bs ∧ Dice W dp a cap ts k' ∧ w.grownBy W (some dp)

set_option maxRecDepth 100000 in
set_option maxHeartbeats 1000000 in
theorem bytes_any (w : World) (dp : Nat) (a : Option Addr) (cap : Nat) (ts : List Int) (k n : Nat) (hn : n ≤ 100000) (hD : Dice w dp a cap ts k) :
    Calls Try.prog 13 #[.pointer (some ⟨dp, 0, none⟩), .int .i64 (n : Int)] w (BytesPost w dp a cap ts n) := by
  have hdp := hD.lt
  have hfar := hD.far
  have HD := Lib.hid hD
  have HF := Lib.hid hfar
  clear hD hfar
  go_enter Try.func13, Try.ntmps13
  go_wp2
  go_loopw [1, 5] (fun m b wr => BytesRel w dp a cap ts n m b wr) (fun m _ _ => (intOf m).toNat)
  case atStart => exact ⟨n, k, 0, none, [], rfl, Nat.le_refl _, by simp, by rw [Nat.sub_self], by rw [Nat.sub_self]; exact Own.nil _ _, HD.out, World.grownBy.refl _ _⟩
  case round =>
    obtain ⟨j, k', c, a', bs, rfl, hj, hlen, rfl, hown, hd, hg⟩ := hrel
    have HLN := Lib.hid hlen
    have HO := Lib.hid hown
    have HDD := Lib.hid hd
    have HG := Lib.hid hg
    have hsz := hg.size
    clear hlen hown hd hg
    cases j with
    | zero =>
      go_wp2
      go_ret
      exact ⟨bs, a', c, k', by have := HLN.out; omega, rfl, HO.out, HDD.out, HG.out⟩
    | succ j =>
      have e1 : ((j + 1 : Nat) : Int) = (j : Int) + 1 := rfl
      have hnx := next_any wr dp a cap ts k' 256 (by omega) (by omega) HDD.out
      have HNX := Lib.hid hnx
      clear hnx
      go_wp2_with fail
      refine HNX.out.mono ?_
      rintro e w2 ⟨r, k2, hr, rfl, hd2, hg2⟩
      have HD2 := Lib.hid hd2
      have HG2 := Lib.hid hg2
      have hs2 := hg2.size
      have HO2 := Lib.hid (HO.out.grown hg2 (by
        cases hv : (Value.slice a' (n - (j + 1)) c).ownBlock with
        | none => exact .inl rfl
        | some g => exact .inr (by intro e; cases e; have := (World.ownsRow.lt HO.out _ hv).1; omega)))
      obtain ⟨y, rfl⟩ : ∃ y : Y, r = y.toNat := ⟨BitVec.ofNat 8 r, by rw [BitVec.toNat_ofNat, Nat.mod_eq_of_lt hr]⟩
      clear hd2 hg2
      go_wp2_with (at_builtin; refine wpList_app1 rfl _ _ rfl y rfl (HO2.out.alloc _) rfl (cell_new _ _ _) (by have := HLN.out; omega) (by simp; omega) ?_; intro a3 cap3 w3 hown3 hg3 hb3 _)
      go_roundw
      case rel =>
        have hlb : (bs ++ [y]).length = n - j := by rw [List.length_append, HLN.out]; simp; omega
        have hbl : bs.length + 1 = n - j := by rw [HLN.out]; omega
        have hbw : Below w.heap.size w2 w3 := ((Below.refl w.heap.size w2).alloc (by omega) _).trans hb3
        refine ⟨j, k2, cap3, a3, bs ++ [y], by go_num, by omega, hlb, by rw [hbl], by rw [← hbl]; exact hown3, HD2.out.belowAt hbw hdp HF.out, grown_then (grown_trans HG.out HG2.out) hbw⟩
      case measure => simp [intOf]

end Go.Proofs.Ytijkgplglfmfnaa.G

namespace Go.Proofs.Ytijkgplglfmfnaa.P
open Go Go.RowKit Go.Shelf
open G.S (codeV Cd code_box box4_at)
open G (Box IRow Dice NextPost next_any one_any grown_then Dice.belowAt)

/-- Places that ascend, below n. -/
structure Asc (n : Nat) (E : List Nat) : Prop where
  lt : ∀ i ∈ E, i < n
  asc : E.Pairwise (· < ·)
theorem Asc.nodup {n : Nat} {E : List Nat} (h : Asc n E) : E.Nodup := List.Pairwise.imp (fun h e => by omega) h.asc
def SomePost (w : World) (dp : Nat) (a : Option Addr) (cap : Nat) (ts : List Int) (n most : Nat) (e : Ending) (W : World) : Prop :=
  ∃ (E : List Nat) (a' : Option Addr) (c k' : Nat), Asc n E ∧ E.length ≤ most ∧ E.length ≤ n ∧ e = .returned (.slice a' E.length c) ∧ G.Own W w.heap.size (.slice a' E.length c) E ∧ Dice W dp a cap ts k' ∧ w.grownBy W (some dp)

set_option maxRecDepth 100000 in
set_option maxHeartbeats 1000000 in
/-- **law07.some** -/
theorem some_any (w : World) (dp : Nat) (a : Option Addr) (cap : Nat) (ts : List Int) (k n most : Nat) (hn : n ≤ 1000) (hm : most ≤ 1000) (hD : Dice w dp a cap ts k) :
    Calls Try.prog 16 #[.pointer (some ⟨dp, 0, none⟩), .int .i64 (n : Int), .int .i64 (most : Int)] w (SomePost w dp a cap ts n most) := by
  have hdp := hD.lt
  have hfar := hD.far
  have HD := Lib.hid hD
  have HF := Lib.hid hfar
  clear hD hfar
  go_enter Try.func16, Try.ntmps16
  go_wp2
  go_loopw [7, 8] (fun s i wr => ∃ (j k' c : Nat) (a' : Option Addr) (E : List Nat), i = .int .i64 (j : Int) ∧ j ≤ n ∧ s = .slice a' E.length c ∧ Hid (E.length ≤ most ∧ E.length ≤ j) ∧ Hid (Asc j E) ∧ G.Own wr w.heap.size (.slice a' E.length c) E ∧ Dice wr dp a cap ts k' ∧ w.grownBy wr (some dp)) (fun _ i _ => n - (intOf i).toNat)
  case atStart => exact ⟨0, k, 0, none, [], rfl, by omega, rfl, Lib.hid ⟨by simp, by simp⟩, Lib.hid ⟨fun i hi => absurd hi List.not_mem_nil, List.Pairwise.nil⟩, G.Own.nil _ _, HD.out, World.grownBy.refl _ _⟩
  case round =>
    obtain ⟨j, k', c, a', E, rfl, hj, rfl, HL, HA, ho, hd, hg⟩ := hrel
    have HO := Lib.hid ho
    have HDD := Lib.hid hd
    have HG := Lib.hid hg
    have hsz := hg.size
    clear ho hd hg
    by_cases hlt : j < n
    · by_cases hlm : E.length < most
      · have HNX := Lib.hid (show Calls Try.prog 21 #[.pointer (some ⟨dp, 0, none⟩), .int .i64 4] wr _ from one_any wr dp a cap ts k' 4 (by omega) (by omega) HDD.out)
        have hE6 : E.length ≤ 1000 := by omega
        go_wp2_with fail
        refine HNX.out.mono ?_
        rintro e w2 ⟨t, k2, rfl, hd2, hg2⟩
        have HD2 := Lib.hid hd2
        have HG2 := Lib.hid (G.grown_trans HG.out hg2)
        have hs2 := hg2.size
        have HO2 := Lib.hid (HO.out.grown hg2 (by
          cases hv : (Value.slice a' E.length c).ownBlock with
          | none => exact .inl rfl
          | some g => exact .inr (by intro e; cases e; have := (World.ownsRow.lt HO.out _ hv).1; omega)))
        clear hd2 hg2 HO HNX
        cases t with
        | false =>
          go_wp2_with fail
          go_roundw
          case rel => exact ⟨j + 1, k2, c, a', E, by go_num, hlt, rfl, Lib.hid ⟨HL.out.1, by have := HL.out.2; omega⟩, Lib.hid ⟨fun i hi => Nat.lt_succ_of_lt (HA.out.lt i hi), HA.out.asc⟩, HO2.out, HD2.out, HG2.out⟩
          case measure => simp [intOf]; omega
        | true =>
          go_wp2_with (at_builtin; refine G.wpList_app1 (α := Nat) rfl _ _ rfl j rfl (HO2.out.alloc _) rfl (G.cell_new _ _ _) (by omega) (by simp; omega) ?_; intro a3 cap3 w3 hown3 hg3 hb3 _)
          go_roundw
          case rel =>
            have hbw : Below w.heap.size w2 w3 := ((Below.refl w.heap.size w2).alloc (by omega) _).trans hb3
            refine ⟨j + 1, k2, cap3, a3, E ++ [j], by go_num, by omega, by rw [List.length_append]; rfl, Lib.hid ⟨by rw [List.length_append]; simp; omega, by rw [List.length_append]; simp; have := HL.out.2; omega⟩, Lib.hid ⟨fun i hi => ?_, ?_⟩, by rw [List.length_append]; exact hown3, HD2.out.belowAt hbw hdp HF.out, grown_then HG2.out hbw⟩
            · rcases List.mem_append.1 hi with h | h
              · exact Nat.lt_succ_of_lt (HA.out.lt i h)
              · rw [List.mem_singleton] at h; omega
            · rw [List.pairwise_append]
              exact ⟨HA.out.asc, List.pairwise_singleton _ _, fun x hx y hy => by rw [List.mem_singleton] at hy; rw [hy]; exact HA.out.lt x hx⟩
          case measure => simp [intOf]; omega
      · go_wp2
        go_ret
        exact ⟨E, a', c, k', ⟨fun i hi => Nat.lt_trans (HA.out.lt i hi) hlt, HA.out.asc⟩, HL.out.1, by have := HL.out.2; omega, rfl, HO.out, HDD.out, HG.out⟩
    · obtain rfl : j = n := by omega
      go_wp2
      go_ret
      exact ⟨E, a', c, k', HA.out, HL.out.1, HL.out.2, rfl, HO.out, HDD.out, HG.out⟩

theorem grown_setCell4 {w W : World} {r : Option Nat} {p : Nat} {u0 u1 u2 u3 : Value} (hg : w.grownBy W r) (hr : w.heap.size ≤ p ∨ r = some p) : w.grownBy ((((W.setCell ⟨p, 0, none⟩ u0).setCell ⟨p, 1, none⟩ u1).setCell ⟨p, 2, none⟩ u2).setCell ⟨p, 3, none⟩ u3) r :=
  G.grown_setCell (G.grown_setCell (G.grown_setCell (G.grown_setCell hg (a := ⟨p, 0, none⟩) u0 hr) (a := ⟨p, 1, none⟩) u1 hr) (a := ⟨p, 2, none⟩) u2 hr) (a := ⟨p, 3, none⟩) u3 hr
/-- A struct of four is stored in a box. -/
theorem name4 {W : World} {p : Nat} {t : TypeId} {v0 v1 v2 v3 : Value} (h : Box W p t [v0, v1, v2, v3]) (u0 u1 u2 u3 : Value) : ∃ Wa Wb Wc Wd : World, W.setCell ⟨p, 0, none⟩ u0 = Wa ∧ Wa.setCell ⟨p, 1, none⟩ u1 = Wb ∧ Wb.setCell ⟨p, 2, none⟩ u2 = Wc ∧ Wc.setCell ⟨p, 3, none⟩ u3 = Wd ∧
    (W.cell? ⟨p, 0, none⟩ = some v0 ∧ W.frozen? ⟨p, 0, none⟩ = false ∧ Wa.cell? ⟨p, 1, none⟩ = some v1 ∧ Wa.frozen? ⟨p, 1, none⟩ = false ∧ Wb.cell? ⟨p, 2, none⟩ = some v2 ∧ Wb.frozen? ⟨p, 2, none⟩ = false ∧ Wc.cell? ⟨p, 3, none⟩ = some v3 ∧ Wc.frozen? ⟨p, 3, none⟩ = false) ∧
    Box Wd p t [u0, u1, u2, u3] ∧ (∀ (w : World) (r : Option Nat), w.grownBy W r → (w.heap.size ≤ p ∨ r = some p) → w.grownBy Wd r) ∧ (∀ (B : Nat) (w : World), Below B w W → B ≤ p → Below B w Wd) ∧ Below p W Wd ∧ Wd.heap.size = W.heap.size := by
  have h1 := h.set 0 u0
  have h2 := h1.set 1 u1
  have h3 := h2.set 2 u2
  have h4 := h3.set 3 u3
  refine ⟨_, _, _, _, rfl, rfl, rfl, rfl, ⟨h.cell 0 rfl, h.free 0, h1.cell 1 rfl, h1.free 1, h2.cell 2 rfl, h2.free 2, h3.cell 3 rfl, h3.free 3⟩, h4, fun w r hg hr => ?_, fun B w hb hp => ?_, ?_, by simp [World.setCell]⟩
  · exact grown_setCell4 hg hr
  · exact (((hb.setCell (p := ⟨p, 0, none⟩) hp _).setCell (p := ⟨p, 1, none⟩) hp _).setCell (p := ⟨p, 2, none⟩) hp _).setCell (p := ⟨p, 3, none⟩) hp _
  · exact ((((Below.refl p W).setCell (p := ⟨p, 0, none⟩) (Nat.le_refl p) _).setCell (p := ⟨p, 1, none⟩) (Nat.le_refl p) _).setCell (p := ⟨p, 2, none⟩) (Nat.le_refl p) _).setCell (p := ⟨p, 3, none⟩) (Nat.le_refl p) _
end Go.Proofs.Ytijkgplglfmfnaa.P

namespace Go.Proofs.Ytijkgplglfmfnaa.P
open Go Go.RowKit Go.Shelf
open G.S (codeV Cd code_box box4_at)
open G (Box IRow Dice NextPost next_any one_any grown_then Dice.belowAt)

/-- Bytes as elements of the field. -/
def toG (y : G.Y) : PM.G := ⟨y.toNat, y.isLt⟩
theorem own_toG {W : World} {B : Nat} {v : Value} {bs : List G.Y} (h : G.Own W B v bs) : Own W B v (bs.map toG) := by
  unfold G.Own at h
  unfold Own
  rw [List.length_map, List.map_map]
  exact h
def BytesG (w : World) (dp : Nat) (a : Option Addr) (cap : Nat) (ts : List Int) (n : Nat) (e : Ending) (W : World) : Prop :=
  ∃ (bs : List PM.G) (a' : Option Addr) (c k' : Nat), bs.length = n ∧ e = .returned (.slice a' n c) ∧ Own W w.heap.size (.slice a' n c) bs ∧ Dice W dp a cap ts k' ∧ w.grownBy W (some dp)
theorem bytesG_any (w : World) (dp : Nat) (a : Option Addr) (cap : Nat) (ts : List Int) (k n : Nat) (hn : n ≤ 100000) (hD : Dice w dp a cap ts k) :
    Calls Try.prog 13 #[.pointer (some ⟨dp, 0, none⟩), .int .i64 (n : Int)] w (BytesG w dp a cap ts n) := by
  refine (G.bytes_any w dp a cap ts k n hn hD).mono ?_
  rintro e W ⟨bs, a', c, k', hl, he, ho, hd, hg⟩
  exact ⟨bs.map toG, a', c, k', by rw [List.length_map]; exact hl, he, own_toG ho, hd, hg⟩

/-- What Symbols gives: a valid code. -/
def SymPost (w : World) (dp : Nat) (a : Option Addr) (cap : Nat) (ts : List Int) (e : Ending) (W : World) : Prop :=
  ∃ (D C F k' : Nat), Cd D C F ∧ F ≤ C / 2 ∧ e = .returned (codeV D C F) ∧ Dice W dp a cap ts k' ∧ w.grownBy W (some dp)
theorem box_grown {w W W' : World} {p dp : Nat} {t : TypeId} {vs : List Value} (h : Box W p t vs) (hg : W.grownBy W' (some dp)) (hd : dp < w.heap.size) (hp : w.heap.size ≤ p) : Box W' p t vs :=
  h.grown hg (by intro e; cases e; omega)

set_option maxRecDepth 100000 in
set_option maxHeartbeats 4000000 in
/-- **Dice.Symbols** -/
theorem symbols_any (w : World) (dp : Nat) (a : Option Addr) (cap : Nat) (ts : List Int) (k : Nat) (hD : Dice w dp a cap ts k) :
    Calls Try.prog 12 #[.pointer (some ⟨dp, 0, none⟩)] w (SymPost w dp a cap ts) := by
  have hdp := hD.lt
  have hfar := hD.far
  have hb0 := Box.new w 28 [.int .i64 0, .int .i64 0, .int .i64 0, .int .i64 0]
  obtain ⟨w1, hw1⟩ : ∃ w1, w.alloc (.cells #[.int .i64 0, .int .i64 0, .int .i64 0, .int .i64 0] 28) = w1 := ⟨_, rfl⟩
  have hbw1 : Below w.heap.size w w1 := by rw [← hw1]; exact (Below.refl _ w).alloc (Nat.le_refl _) _
  have hbx1 : Box w1 w.heap.size 28 [.int .i64 0, .int .i64 0, .int .i64 0, .int .i64 0] := by rw [← hw1]; exact hb0
  have hl2 := G.row_list (α := Nat) w1 [4, 8, 32] 3 (by simp)
  have hb12 : Below w1.heap.size w1 (w1.alloc (.cells #[.int .i64 4, .int .i64 8, .int .i64 32] 3)) := (Below.refl _ w1).alloc (Nat.le_refl _) _
  obtain ⟨w2, hw2⟩ : ∃ w2, w1.alloc (.cells #[.int .i64 4, .int .i64 8, .int .i64 32] 3) = w2 := ⟨_, rfl⟩
  have hl2' : G.Row w2 (some ⟨w1.heap.size, 0, none⟩) [4, 8, 32] 3 := by rw [← hw2]; exact hl2
  rw [hw2] at hb12
  have hbw2 : Below w.heap.size w w2 := hbw1.trans (hb12.mono hbw1.size)
  have HD2 := Lib.hid ((hD.below hbw1).below hb12)
  have HX2 := Lib.hid (hbx1.below hb12)
  have HL2 := Lib.hid hl2'
  have HG2 := Lib.hid (G.grown_then (World.grownBy.refl w (some dp)) hbw2)
  have hs1 := hbw1.size
  have hs1' : w1.heap.size = w.heap.size + 1 := by rw [← hw1]; simp
  have hs2 := hb12.size
  have HN2 := Lib.hid (show Calls Try.prog 15 #[.pointer (some ⟨dp, 0, none⟩), .int .i64 3] w2 (NextPost w2 dp a cap ts 3) from next_any w2 dp a cap ts k 3 (by omega) (by omega) HD2.out)
  have HFAR := Lib.hid hfar
  clear hD hb0 hbw1 hbx1 hl2 hb12 hl2' hbw2 hfar
  go_enter Try.func12, Try.ntmps12
  go_wp2_with fail
  refine HN2.out.mono ?_
  rintro e w3 ⟨r, k3, hr, rfl, hd3, hg3⟩
  have hl3 := HL2.out.grown hg3 (by intro b off e; cases e; intro e2; cases e2; omega)
  obtain ⟨b, off, eb, hc⟩ := hl3.elN r hr
  cases eb
  obtain ⟨v, hv⟩ : ∃ v, G.el [4, 8, 32] r = v := ⟨_, rfl⟩
  rw [hv, Nat.zero_add, hs1'] at hc
  have hv2 : 1 ≤ v ∧ v ≤ 32 := by
    rw [← hv]
    match r, hr with
    | 0, _ => decide
    | 1, _ => decide
    | 2, _ => decide
  obtain ⟨hv1, hv32⟩ := hv2
  have HX3 := Lib.hid (box_grown HX2.out hg3 hdp (Nat.le_refl _))
  have HG3 := Lib.hid (G.grown_trans HG2.out hg3)
  have hs3 := hg3.size
  have HN3 := Lib.hid (next_any w3 dp a cap ts k3 v (by omega) (by omega) hd3)
  clear hv hl3 hd3 hg3 HN2 HX2 HG2 HL2 HD2
  go_wp2_with fail
  refine HN3.out.mono ?_
  rintro e w4 ⟨r4, k4, hr4, rfl, hd4, hg4⟩
  obtain ⟨D, hDD⟩ : ∃ D, 1 + r4 = D := ⟨_, rfl⟩
  have e4 : (1 : Int) + (r4 : Int) = (D : Int) := by omega
  have HX4 := Lib.hid (box_grown HX3.out hg4 hdp (Nat.le_refl _))
  have HG4 := Lib.hid (G.grown_trans HG3.out hg4)
  have hs4 := hg4.size
  have HN4 := Lib.hid (show Calls Try.prog 15 #[.pointer (some ⟨dp, 0, none⟩), .int .i64 8] w4 (NextPost w4 dp a cap ts 8) from next_any w4 dp a cap ts k4 8 (by omega) (by omega) hd4)
  clear hc hd4 hg4 HN3 HX3 HG3
  go_wp2_with fail
  refine HN4.out.mono ?_
  rintro e w5 ⟨r5, k5, hr5, rfl, hd5, hg5⟩
  have hx5 := box_grown HX4.out hg5 hdp (Nat.le_refl _)
  have hg05 := G.grown_trans HG4.out hg5
  have hs5 := hg5.size
  -- the box of c
  have hb6 := Box.new w5 28 [.int .i64 0, .int .i64 0, .int .i64 0, .int .i64 0]
  have hbb6 : Below w5.heap.size w5 (w5.alloc (.cells #[.int .i64 0, .int .i64 0, .int .i64 0, .int .i64 0] 28)) := (Below.refl _ w5).alloc (Nat.le_refl _) _
  obtain ⟨w6, hw6⟩ : ∃ w6, w5.alloc (.cells #[.int .i64 0, .int .i64 0, .int .i64 0, .int .i64 0] 28) = w6 := ⟨_, rfl⟩
  rw [hw6] at hbb6
  have hbx6 : Box w6 w5.heap.size 28 [.int .i64 0, .int .i64 0, .int .i64 0, .int .i64 0] := by rw [← hw6]; exact hb6
  obtain ⟨C, hCC⟩ : ∃ C, 1 + r5 = C := ⟨_, rfl⟩
  have e5 : (1 : Int) + (r5 : Int) = (C : Int) := by omega
  obtain ⟨H, hH⟩ : ∃ H, C / 2 = H := ⟨_, rfl⟩
  have eH : (C : Int) / 2 = (H : Int) := by omega
  have hD32 : 1 ≤ D ∧ D ≤ 32 := by omega
  have hC8 : 1 ≤ C ∧ C ≤ 8 := by omega
  obtain ⟨p, hp⟩ : ∃ p, w5.heap.size = p := ⟨_, rfl⟩
  have hpw : w.heap.size + 1 ≤ p := by omega
  have hp6 : p < w6.heap.size := by rw [← hp]; exact hbx6.lt
  rw [hp] at hbx6 hbb6
  obtain ⟨Wa, Wb, Wc, W6, e1, e2, e3, e6, ⟨f1, f2, f3, f4, f5, f6, f7, f8⟩, hbx7, hgr, _, hb67, hs67⟩ := name4 hbx6 (.int .i64 2) (.int .i64 (D : Int)) (.int .i64 (C : Int)) (.int .i64 0)
  have hbb7 : Below w5.heap.size w5 W6 := by rw [hp]; exact hbb6.trans hb67
  have HX7 := Lib.hid (hx5.below hbb7)
  have HG7 := Lib.hid (grown_then hg05 (hbb7.mono (by omega)))
  have HD7 := Lib.hid (hd5.below hbb7)
  have hb8 := hbx7.set 3 (.int .i64 (H : Int))
  obtain ⟨q0, q1, q2, q3⟩ := box4_at hbx7
  have q4 := hbx7.free 3
  obtain ⟨W8, hW8⟩ : ∃ W8, W6.setCell ⟨p, 3, none⟩ (.int .i64 (H : Int)) = W8 := ⟨_, rfl⟩
  have hb78 : Below p W6 W8 := by rw [← hW8]; exact (Below.refl p W6).setCell (p := ⟨p, 3, none⟩) (Nat.le_refl p) _
  rw [hW8] at hb8
  have hp8 : p < W8.heap.size := hb8.lt
  have HB8 := Lib.hid hb8
  have hgx8 : Box W8 w.heap.size 28 [.int .i64 0, .int .i64 0, .int .i64 0, .int .i64 0] := HX7.out.belowAt hb78 (by omega)
  have HX8 := Lib.hid hgx8
  have HG8 := Lib.hid (show w.grownBy W8 (some dp) from grown_then HG7.out (hb78.mono (by omega)))
  have hd8 := HD7.out.belowAt hb78 (by omega) (fun b off e h0 => by have := HFAR.out b off e h0; omega)
  have HO8 := Lib.hid (show Calls Try.prog 21 #[.pointer (some ⟨dp, 0, none⟩), .int .i64 3] W8 _ from one_any W8 dp a cap ts k5 3 (by omega) (by omega) hd8)
  clear hbx6 hbb6 hbx7 hgr hb67 hbb7 hb8 hb78 hgx8 hd8 hx5 hg05 hd5 hg5 HN4 HX4 HG4 HX7 HG7 HD7 hb6
  go_wp2_with fail
  refine HO8.out.mono ?_
  rintro e w9 ⟨t, k9, rfl, hd9, hg9⟩
  have hx9 := box_grown HX8.out hg9 hdp (Nat.le_refl _)
  have hb9 := box_grown HB8.out hg9 hdp (by omega)
  have hg09 := G.grown_trans HG8.out hg9
  cases t with
  | false =>
    obtain ⟨x0, x1, x2, x3⟩ := box4_at hb9
    obtain ⟨Wa', Wb', Wc', Wd', e1', e2', e3', e6', ⟨f1', f2', f3', f4', f5', f6', f7', f8'⟩, hbx10, hgr', hbe', _, _⟩ := name4 hx9 (.int .i64 2) (.int .i64 (D : Int)) (.int .i64 (C : Int)) (.int .i64 (H : Int))
    have HG10 := Lib.hid (hgr' _ _ hg09 (.inl (Nat.le_refl _)))
    have HD10 := Lib.hid (hd9.belowAt (hbe' w.heap.size w9 (Below.refl _ _) (Nat.le_refl _)) hdp HFAR.out)
    have HY := Lib.hid (box4_at hbx10)
    clear hbx10 hgr' hbe' hg09 hd9 hx9 hb9 hg9 HO8 HX8 HB8 HG8
    go_wp2_with fail
    exact bodyPost_ret (v := .agg #[.int .i64 2, .int .i64 (D : Int), .int .i64 (C : Int), .int .i64 (H : Int)]) (by simp [results, Try.results12, go_sem, HY.out.1, HY.out.2.1, HY.out.2.2.1, HY.out.2.2.2]) rfl ⟨D, C, H, k9, ⟨hD32.1, hD32.2, hC8.1, hC8.2, by omega⟩, by omega, rfl, HD10.out, HG10.out⟩
  | true =>
    obtain ⟨x0, x1, x2, x3⟩ := box4_at hb9
    have HX9 := Lib.hid hx9
    have HB9 := Lib.hid hb9
    have HG9 := Lib.hid hg09
    have eH1 : (H : Int) + 1 = ((H + 1 : Nat) : Int) := rfl
    have hs9 := hg9.size
    have HN9 := Lib.hid (next_any w9 dp a cap ts k9 (H + 1) (by omega) (by omega) hd9)
    rw [← eH1] at HN9
    clear eH1 hg09 hd9 hx9 hb9 hg9 HO8 HX8 HB8 HG8
    go_wp2_with fail
    refine HN9.out.mono ?_
    rintro e w10 ⟨F, k10, hF, rfl, hd10, hg10⟩
    have hx10 := box_grown HX9.out hg10 hdp (Nat.le_refl _)
    have hb10 := box_grown HB9.out hg10 hdp (by omega)
    have hg010 := G.grown_trans HG9.out hg10
    have hp10 : p < w10.heap.size := hb10.lt
    have y3 := hb10.cell 3 rfl
    have y4 := hb10.free 3
    have hb11 := hb10.set 3 (.int .i64 (F : Int))
    obtain ⟨W11, hW11⟩ : ∃ W11, w10.setCell ⟨p, 3, none⟩ (.int .i64 (F : Int)) = W11 := ⟨_, rfl⟩
    have hb1011 : Below p w10 W11 := by rw [← hW11]; exact (Below.refl p w10).setCell (p := ⟨p, 3, none⟩) (Nat.le_refl p) _
    rw [hW11] at hb11
    have hx11 : Box W11 w.heap.size 28 [.int .i64 0, .int .i64 0, .int .i64 0, .int .i64 0] := hx10.belowAt hb1011 (by omega)
    have hg011 : w.grownBy W11 (some dp) := grown_then hg010 (hb1011.mono (by omega))
    have hd11 := hd10.belowAt hb1011 (by omega) (fun b off e h0 => by have := HFAR.out b off e h0; omega)
    obtain ⟨z0, z1, z2, z3⟩ := box4_at hb11
    obtain ⟨Wa', Wb', Wc', Wd', e1', e2', e3', e6', ⟨f1', f2', f3', f4', f5', f6', f7', f8'⟩, hbx12, hgr', hbe', _, _⟩ := name4 hx11 (.int .i64 2) (.int .i64 (D : Int)) (.int .i64 (C : Int)) (.int .i64 (F : Int))
    have HG12 := Lib.hid (hgr' _ _ hg011 (.inl (Nat.le_refl _)))
    have HD12 := Lib.hid (hd11.belowAt (hbe' w.heap.size W11 (Below.refl _ _) (Nat.le_refl _)) hdp HFAR.out)
    have HY := Lib.hid (box4_at hbx12)
    clear hbx12 hgr' hbe' hg011 hd11 hx11 hb11 hb1011 hg010 hx10 hb10 hd10 hg10 HN9 HX9 HB9 HG9
    go_wp2_with fail
    exact bodyPost_ret (v := .agg #[.int .i64 2, .int .i64 (D : Int), .int .i64 (C : Int), .int .i64 (F : Int)]) (by simp [results, Try.results12, go_sem, HY.out.1, HY.out.2.1, HY.out.2.2.1, HY.out.2.2.2]) rfl ⟨D, C, F, k10, ⟨hD32.1, hD32.2, hC8.1, hC8.2, by omega⟩, by omega, rfl, HD12.out, HG12.out⟩
end Go.Proofs.Ytijkgplglfmfnaa.P

namespace Go.Proofs.Ytijkgplglfmfnaa.P
open Go Go.RowKit Go.Shelf
open G.S (codeV Cd code_box box4_at)
open G (Box IRow)

def gn (n : Nat) (h : n < 256 := by decide) : PM.G := ⟨n, h⟩
def d56 : List PM.G := [gn 5, gn 6]
theorem enc21 : IsEnc 2 1 d56 [gn 5, gn 6, gn 3] := by
  refine ⟨⟨rfl, fun j hj => ?_⟩, fun i hi => ?_⟩
  · match j, hj with
    | 0, _ => decide +kernel
  · match i, hi with
    | 0, _ => rfl
    | 1, _ => rfl
theorem cd21 : Cd 2 1 0 := ⟨by decide, by decide, by decide, by decide, by decide⟩
theorem cd22 : Cd 2 2 1 := ⟨by decide, by decide, by decide, by decide, by decide⟩
theorem awake_dec {bs ws : List PM.G} {o : Int} {ch : List Nat} (hb : IsEnc 2 2 d56 bs) (h : Dec 4 2 1 (bs.set 1 (gn 75)) [] o ws ch) : o = 1 ∧ ws = bs ∧ ch = [1] := by
  have hl : bs.length = 4 := hb.cw.len
  have h1 : PM.el bs 1 = gn 6 := hb.data 1 (by decide)
  have hn : ∀ i, i < 4 → PM.el bs i ≠ PM.el (bs.set 1 (gn 75)) i → i ∈ ([] : List Nat) ∨ i ∈ [1] := fun i _ hne => by
    rw [PM.el_set (by omega)] at hne
    by_cases e : i = 1
    · right; rw [e]; exact List.mem_cons_self
    · rw [if_neg e] at hne; exact absurd rfl hne
  have hd : Dec 4 2 1 (bs.set 1 (gn 75)) [] 1 bs (diff (bs.set 1 (gn 75)) bs 4) := .inr ⟨hl, ⟨hb.cw.syn, [1], Nat.le_refl _, hn⟩, rfl, .inr ⟨rfl, fun e => by
    have := congrArg (fun l => PM.el l 1) e
    simp only [PM.el_set (show 1 < bs.length by omega), if_pos] at this
    rw [h1] at this
    exact absurd this (by decide)⟩⟩
  obtain ⟨e1, e2, e3⟩ := Dec.one (by decide) (by decide) h hd
  refine ⟨e1, e2, e3.trans ?_⟩
  have hx : ∀ i, i ≠ 1 → PM.el (bs.set 1 (gn 75)) i = PM.el bs i := fun i hi => by rw [PM.el_set (by omega), if_neg hi]
  have h3 : PM.el (bs.set 1 (gn 75)) 1 ≠ PM.el bs 1 := by
    rw [PM.el_set (by omega), if_pos rfl, h1]; decide
  rw [show (4 : Nat) = 3 + 1 from rfl, diff_no (hx 3 (by decide)), show (3 : Nat) = 2 + 1 from rfl, diff_no (hx 2 (by decide)), show (2 : Nat) = 1 + 1 from rfl, diff_yes h3, show (1 : Nat) = 0 + 1 from rfl, diff_no (hx 0 (by decide)), diff_0]
  rfl
theorem row_56 (w : World) (t : TypeId) : Row (w.alloc (.cells #[.int .u8 5, .int .u8 6] t)) (some ⟨w.heap.size, 0, none⟩) d56 2 := row_two w (gn 5) (gn 6) t

set_option maxRecDepth 100000 in
set_option maxHeartbeats 4000000 in
/-- **law07.awake** -/
theorem awake_yes (w : World) : Calls Try.prog 10 #[] w fun e W => e = .returned (.bool true) ∧ Below w.heap.size w W := by
  have hb0 := Box.new w 28 [.int .i64 0, .int .i64 0, .int .i64 0, .int .i64 0]
  obtain ⟨w1, hw1⟩ : ∃ w1, w.alloc (.cells #[.int .i64 0, .int .i64 0, .int .i64 0, .int .i64 0] 28) = w1 := ⟨_, rfl⟩
  have hbw1 : Below w.heap.size w w1 := by rw [← hw1]; exact (Below.refl _ w).alloc (Nat.le_refl _) _
  have hbx1 : Box w1 w.heap.size 28 [.int .i64 0, .int .i64 0, .int .i64 0, .int .i64 0] := by rw [← hw1]; exact hb0
  obtain ⟨Wa, Wb, Wc, w2, e1, e2, e3, e4, ⟨f1, f2, f3, f4, f5, f6, f7, f8⟩, hbx2, _, hbe, _, hsz⟩ := name4 hbx1 (.int .i64 2) (.int .i64 2) (.int .i64 2) (.int .i64 1)
  have hbw2 := hbe _ _ hbw1 (Nat.le_refl _)
  have hr3 := row_56 w2 5
  have hb23 : Below w2.heap.size w2 (w2.alloc (.cells #[.int .u8 5, .int .u8 6] 5)) := (Below.refl _ w2).alloc (Nat.le_refl _) _
  obtain ⟨w3, hw3⟩ : ∃ w3, w2.alloc (.cells #[.int .u8 5, .int .u8 6] 5) = w3 := ⟨_, rfl⟩
  rw [hw3] at hr3 hb23
  have HE3 := Lib.hid (show Calls Try.prog 18 #[.agg #[.int .i64 2, .int .i64 2, .int .i64 1, .int .i64 0], .slice (some ⟨w2.heap.size, 0, none⟩) 2 2] w3 (EncR w3 2 1 d56) from encode_yes cd21 (by decide) (some ⟨w2.heap.size, 0, none⟩) d56 2 w3 hr3 rfl)
  have HX3 := Lib.hid (hbx2.below hb23)
  have HB3 := Lib.hid (hbw2.trans (hb23.mono hbw2.size))
  clear hb0 hbw1 hbx1 hbx2 hbe hbw2 hr3 hb23 hsz
  go_enter Try.func10, Try.ntmps10
  go_wp2_with fail
  (with_reducible refine HE3.out.mono ?_)
  rintro e w4 ⟨ws, aw, cw, rfl, how, hws, hb4⟩
  have hwe := IsEnc.one (by decide) hws enc21
  subst hwe
  have HX4 := Lib.hid (HX3.out.below hb4)
  have HB4 := Lib.hid (HB3.out.trans (hb4.mono HB3.out.size))
  obtain ⟨x0, x1, x2, x3⟩ := box4_at HX4.out
  have hr5 := row_56 w4 5
  have hb45 : Below w4.heap.size w4 (w4.alloc (.cells #[.int .u8 5, .int .u8 6] 5)) := (Below.refl _ w4).alloc (Nat.le_refl _) _
  obtain ⟨w5, hw5⟩ : ∃ w5, w4.alloc (.cells #[.int .u8 5, .int .u8 6] 5) = w5 := ⟨_, rfl⟩
  rw [hw5] at hr5 hb45
  have HE5 := Lib.hid (show Calls Try.prog 18 #[.agg #[.int .i64 2, .int .i64 2, .int .i64 2, .int .i64 1], .slice (some ⟨w4.heap.size, 0, none⟩) 2 2] w5 (EncR w5 2 2 d56) from encode_yes cd22 (by decide) (some ⟨w4.heap.size, 0, none⟩) d56 2 w5 hr5 rfl)
  have how5 := how.below hb45
  have HW5 := Lib.hid how5
  have HX5 := Lib.hid (HX4.out.below hb45)
  have HB5 := Lib.hid (HB4.out.trans (hb45.mono HB4.out.size))
  clear how hws hb4 hr5 hb45 how5 HE3 HX3 HB3 HX4 HB4
  go_wp2_with fail
  (with_reducible refine HE5.out.mono ?_)
  rintro e w6 ⟨bs, ab, cb, rfl, hob, hbs, hb6⟩
  have HBS := Lib.hid hbs
  have hbl : bs.length = 4 := hbs.cw.len
  have hb1 : PM.el bs 1 = gn 6 := hbs.data 1 (by decide)
  obtain ⟨ga, rfl, hga⟩ : ∃ g, aw = some ⟨g, 0, none⟩ ∧ True := by
    rcases HW5.out.parts with ⟨_, e2⟩ | ⟨g', cap', e, hb, h2, _⟩
    · cases e2
    · cases e; exact ⟨g', rfl, trivial⟩
  obtain ⟨gb, rfl, hgb, _⟩ := hob.fresh (by omega)
  have ca2 : w6.cell? ⟨ga, 2, none⟩ = some (.int .u8 3) := ((HW5.out.below hb6).at 2 (by decide)).2.2.2.2.1
  have cb1 : w6.cell? ⟨gb, 1, none⟩ = some (.int .u8 6) := by
    have := (hob.at 1 (by rw [hbl]; decide)).2.2.2.2.1
    rw [hb1] at this
    exact this
  have fb1 := (hob.at 1 (by rw [hbl]; decide)).2.2.2.2.2
  have hset : Own (w6.setCell ⟨gb, 1, none⟩ (.int .u8 75)) w5.heap.size (.slice (some ⟨gb, 0, none⟩) 4 cb) (bs.set 1 (gn 75)) := by
    have := Own.set (zs := bs) (cap := cb) (g := gb) (by rw [hbl]; exact hob) 1 (gn 75)
    rwa [hbl] at this
  have hcb : 4 ≤ cb := by have := (hob.rowAtN hbl).room; rwa [hbl] at this
  have hcbm : cb ≤ 9223372036854775807 := (hob.rowAtN hbl).most
  have hca : 3 ≤ cw := (HW5.out.rowAtN rfl).room
  have hcam : cw ≤ 9223372036854775807 := (HW5.out.rowAtN rfl).most
  have hb56 : Below w.heap.size w w6 := HB5.out.trans (hb6.mono HB5.out.size)
  have hwg : w.heap.size ≤ gb := by have := HB5.out.size; omega
  have hx6 := HX5.out.below hb6
  obtain ⟨w7, hw7⟩ : ∃ w7, w6.setCell ⟨gb, 1, none⟩ (.int .u8 75) = w7 := ⟨_, rfl⟩
  have hb7 : Below w.heap.size w w7 := by rw [← hw7]; exact hb56.setCell (p := ⟨gb, 1, none⟩) hwg _
  have hx7 : Box w7 w.heap.size 28 [.int .i64 2, .int .i64 2, .int .i64 2, .int .i64 1] := by
    rw [← hw7]
    exact hx6.other (q := ⟨gb, 1, none⟩) (by have := HX5.out.lt; show gb ≠ w.heap.size; omega) _
  rw [hw7] at hset
  have HB7 := Lib.hid hb7
  obtain ⟨y0, y1, y2, y3⟩ := box4_at hx7
  have HD7 := Lib.hid (show Calls Try.prog 19 #[.agg #[.int .i64 2, .int .i64 2, .int .i64 2, .int .i64 1], .slice (some ⟨gb, 0, none⟩) 4 cb, .slice none 0 0] w7 (DecYes w7 4 2 1 (bs.set 1 (gn 75)) []) from
    decode_yes cd22 (by decide) (some ⟨gb, 0, none⟩) (bs.set 1 (gn 75)) cb none [] 0 w7 (hset.rowAtN (by rw [List.length_set]; exact hbl)) (by rw [List.length_set]; exact hbl) (G.Row.nil _ _ _ (by omega)) (by decide) (fun i hi => absurd hi List.not_mem_nil) List.nodup_nil
      (.inr ⟨fun j hj => absurd hj (by simp), .inr ⟨fun k hk => absurd hk (by simp), .inr ⟨rfl, by decide⟩⟩⟩))
  have hxor : bits BinOp.xor IntKind.u8 6 77 = 75 := by decide +kernel
  clear hob hbs hb6 hb1 hbl hset hb56 hx6 hb7 hx7 HW5 HX5 HB5 HE5 x0 x1 x2 x3 hwg hgb
  go_wp2_with fail
  (with_reducible refine HD7.out.mono ?_)
  rintro e w8 ⟨o, ds, ch, a8, c8, a9, c9, rfl, ho8, ho9, hdec, hb8⟩
  obtain ⟨rfl, hds, rfl⟩ := awake_dec HBS.out hdec
  obtain rfl := hds.symm
  have hbl := HBS.out.cw.len
  replace hbl : bs.length = 4 := hbl
  have hb1 : PM.el bs 1 = gn 6 := HBS.out.data 1 (by decide)
  obtain ⟨gw, rfl, _, _⟩ := ho8.fresh (by omega)
  obtain ⟨gc, rfl, _, _⟩ := ho9.fresh (by decide)
  have cw1 : w8.cell? ⟨gw, 1, none⟩ = some (.int .u8 6) := by
    have := (ho8.at 1 (by rw [hbl]; decide)).2.2.2.2.1
    rw [hb1] at this
    exact this
  have cc0 : w8.cell? ⟨gc, 0, none⟩ = some (.int .i64 1) := (ho9.at 0 (by decide)).2.2.2.2.1
  have hgw8 : gw < w8.heap.size := lt_of_cell cw1
  have hgc8 : gc < w8.heap.size := lt_of_cell cc0
  have hbx9 := Box.new w8 39 [.int .i64 0, .slice none 0 0, .slice none 0 0]
  obtain ⟨w9, hw9⟩ : ∃ w9, w8.alloc (.cells #[.int .i64 0, .slice none 0 0, .slice none 0 0] 39) = w9 := ⟨_, rfl⟩
  have hbx : Box w9 w8.heap.size 39 [.int .i64 0, .slice none 0 0, .slice none 0 0] := by rw [← hw9]; exact hbx9
  have hb89 : Below w8.heap.size w8 w9 := by rw [← hw9]; exact (Below.refl _ w8).alloc (Nat.le_refl _) _
  have hk3 : 4 ≤ c8 := by have := ho8.rowAt.room; rwa [hbl] at this
  have hk4 : c8 ≤ 9223372036854775807 := ho8.rowAt.most
  have hk5 : 1 ≤ c9 := ho9.rowAt.room
  have hk6 : c9 ≤ 9223372036854775807 := ho9.rowAt.most
  rw [hbl] at ho8 ⊢
  obtain ⟨Va, Vb, Vc, n1, n2, n3, m1, m2, m3, m4, m5, m6, g1, g2, g3, hbv, hbel, _, _⟩ := name3 hbx (.int .i64 1) (.slice (some ⟨gw, 0, none⟩) 4 c8) (.slice (some ⟨gc, 0, none⟩) 1 c9)
  have hbc := hbel w8.heap.size w8 hb89 (Nat.le_refl _)
  have cw1' := G.cell_below hbc cw1
  have cc0' := G.cell_below hbc cc0
  have HBE := Lib.hid (HB7.out.trans ((hb8.trans (hbc.mono hb8.size)).mono HB7.out.size))
  clear hbl hb1 ho8 ho9 hdec hb8 hbx9 hbx hb89 hbv hbel hbc HD7 HB7 HBS cw1 cc0 y0 y1 y2 y3 cb1 fb1 ca2
  go_wp2_with fail
  exact bodyPost_ret (v := .bool true) (by simp [results, Try.results10, go_sem]) rfl ⟨rfl, HBE.out⟩
end Go.Proofs.Ytijkgplglfmfnaa.P

namespace Go.Proofs.Ytijkgplglfmfnaa.P
open Go Go.RowKit Go.Shelf
open G.S (codeV Cd code_box box4_at)
open G (Box IRow Dice)

theorem below_dice {w W W' : World} {B dp : Nat} (hb : Below B w W) (hg : W.grownBy W' (some dp)) (hd : B ≤ dp) (hB : B ≤ W.heap.size := by first | assumption | omega) : Below B w W' :=
  hb.grown hg hB (fun k e => by cases e; exact hd)
/-- A code is stored into a box of its own. -/
theorem new_code (W : World) (D C F : Nat) : ∃ (p : Nat) (W1 W2 : World), W.heap.size = p ∧ W.alloc (.cells #[.int .i64 0, .int .i64 0, .int .i64 0, .int .i64 0] 28) = W1 ∧
    (∃ Wa Wb Wc : World, W1.setCell ⟨p, 0, none⟩ (.int .i64 2) = Wa ∧ Wa.setCell ⟨p, 1, none⟩ (.int .i64 (D : Int)) = Wb ∧ Wb.setCell ⟨p, 2, none⟩ (.int .i64 (C : Int)) = Wc ∧ Wc.setCell ⟨p, 3, none⟩ (.int .i64 (F : Int)) = W2 ∧
      W1.cell? ⟨p, 0, none⟩ = some (.int .i64 0) ∧ W1.frozen? ⟨p, 0, none⟩ = false ∧ Wa.cell? ⟨p, 1, none⟩ = some (.int .i64 0) ∧ Wa.frozen? ⟨p, 1, none⟩ = false ∧ Wb.cell? ⟨p, 2, none⟩ = some (.int .i64 0) ∧ Wb.frozen? ⟨p, 2, none⟩ = false ∧ Wc.cell? ⟨p, 3, none⟩ = some (.int .i64 0) ∧ Wc.frozen? ⟨p, 3, none⟩ = false) ∧
    Box W2 p 28 [.int .i64 2, .int .i64 (D : Int), .int .i64 (C : Int), .int .i64 (F : Int)] ∧ Below W.heap.size W W2 ∧ p < W2.heap.size := by
  have hb0 := Box.new W 28 [.int .i64 0, .int .i64 0, .int .i64 0, .int .i64 0]
  have hb1 : Below W.heap.size W (W.alloc (.cells #[.int .i64 0, .int .i64 0, .int .i64 0, .int .i64 0] 28)) := (Below.refl _ W).alloc (Nat.le_refl _) _
  obtain ⟨Wa, Wb, Wc, W2, e1, e2, e3, e4, ⟨f1, f2, f3, f4, f5, f6, f7, f8⟩, hbx, _, hbe, _, _⟩ := name4 hb0 (.int .i64 2) (.int .i64 (D : Int)) (.int .i64 (C : Int)) (.int .i64 (F : Int))
  exact ⟨_, _, W2, rfl, rfl, ⟨Wa, Wb, Wc, e1, e2, e3, e4, f1, f2, f3, f4, f5, f6, f7, f8⟩, hbx, hbe _ _ hb1 (Nat.le_refl _), hbx.lt⟩

theorem lsum_shift (f : Nat → PM.G) (n : Nat) : ∀ r, (∀ i, i < r → f i = 0) → SM.lsum (List.range (r + n)) f = SM.lsum (List.range n) (fun i => f (r + i))
  | 0, _ => by simp
  | r + 1, h => by
    rw [show r + 1 + n = (r + n) + 1 by omega, SM.range_shift, h 0 (by omega), PM.G.zero_add, lsum_shift (fun k => f (k + 1)) n r (fun i hi => h (i + 1) (by omega))]
    exact SM.lsum_ext (fun i _ => by congr 1; omega)
/-- Zeros in front of a code word. -/
theorem enc_zeros {D C r : Nat} {data xs ys : List PM.G} (_hl : data.length = D) (hn : r + D + C ≤ 255) (hx : IsEnc D C data xs) (hy : IsEnc (r + D) C (List.replicate r 0 ++ data) ys) : xs = ys.drop r := by
  have hz : IsEnc (r + D) C (List.replicate r 0 ++ data) (List.replicate r 0 ++ xs) := by
    refine ⟨⟨by rw [List.length_append, List.length_replicate, hx.cw.len]; omega, fun j hj => ?_⟩, fun i hi => ?_⟩
    · unfold SM.syn
      rw [show r + D + C = r + (D + C) by omega, lsum_shift _ _ r (fun i hi => by rw [PM.el_append, List.length_replicate, if_pos hi, PM.el_replicate, PM.G.zero_mul])]
      have := hx.cw.syn j hj
      unfold SM.syn at this
      rw [← this]
      refine SM.lsum_ext (fun i hi => ?_)
      rw [List.mem_range] at hi
      rw [PM.el_append, List.length_replicate, if_neg (by omega), show r + i - r = i by omega, XE_EE, XE_EE, show r + (D + C) - 1 - (r + i) = D + C - 1 - i by omega]
    · rw [PM.el_append, PM.el_append, List.length_replicate]
      by_cases h : i < r
      · rw [if_pos h, if_pos h]
      · rw [if_neg h, if_neg h, hx.data _ (by omega)]
  have e := IsEnc.one hn hy hz
  rw [e, List.drop_append, List.length_replicate, Nat.sub_self, List.drop_zero, List.drop_of_length_le (by rw [List.length_replicate]; exact Nat.le_refl _)]
  rfl
/-- What make([]byte, n) does to any world. -/
theorem make_fact (n : Nat) (hn : n < 1000000) : ∃ mk : Obj, (∀ W : World, (Instr.makeSlice 30 (.int .i64 (n : Int)) (.int .i64 (n : Int))).run Try.prog W = .ok (.slice (some ⟨W.heap.size, 0, none⟩) n n) (W.alloc mk)) ∧
    ∀ (W : World) (B : Nat), B ≤ W.heap.size → Own (W.alloc mk) B (.slice (some ⟨W.heap.size, 0, none⟩) n n) (List.replicate n 0) := by
  obtain ⟨i0, hi, hz0, hz1, hz2⟩ := info_parts info_byte
  refine ⟨.cells (madeCells (Value.int .u8 0).cells n) 5, fun W => ?_, fun W B hB => ?_⟩
  · have := run_make (P := Try.prog) W 30 5 i0 (.int .u8 0) Try.underlying30 hi hz0 .i64 .i64 (n : Int) (n : Int) (by omega) (Int.le_refl _) (by rw [hz2]; omega) (by omega)
    rw [hz1, Int.toNat_natCast, Nat.mul_one] at this
    exact this
  · have := World.ownsRow_lit (base := B) (e := 5) (size := 1) W (madeCells (Value.int .u8 0).cells n) n hB (by unfold maxLen; omega) (by rw [size_madeCells, Nat.mul_one])
    unfold Own
    rw [List.length_replicate, map_zero]
    have e : (madeCells (Value.int .u8 0).cells n).toList = List.replicate n (Value.int .u8 0) := by
      refine List.eq_replicate_iff.2 ⟨by simp [madeCells, Value.cells], fun b hb => ?_⟩
      simp [madeCells, Value.cells, Nat.mod_one] at hb
      exact hb.2.symm
    rwa [e] at this
end Go.Proofs.Ytijkgplglfmfnaa.P

namespace Go.Proofs.Ytijkgplglfmfnaa.P
open Go Go.RowKit Go.Shelf
open PM (el)

/-- zs has n elements and differs from xs at places of E and O alone. -/
structure Dif (n : Nat) (xs zs : List PM.G) (E O : List Nat) : Prop where
  len : zs.length = n
  at' : ∀ i, i < n → el xs i ≠ el zs i → i ∈ E ∨ i ∈ O
theorem Dif.start {n : Nat} {xs : List PM.G} (h : xs.length = n) (E : List Nat) : Dif n xs xs E [] := ⟨h, fun _ _ hne => absurd rfl hne⟩
theorem Dif.inE {n : Nat} {xs zs : List PM.G} {E O : List Nat} (h : Dif n xs zs E O) {p : Nat} (hp : p ∈ E) (x : PM.G) : Dif n xs (zs.set p x) E O := by
  refine ⟨by rw [List.length_set]; exact h.len, fun i hi hne => ?_⟩
  by_cases e : i = p
  · rw [e]; exact .inl hp
  · by_cases hp2 : p < zs.length
    · rw [PM.el_set hp2, if_neg e] at hne
      exact h.at' i hi hne
    · rw [List.set_eq_of_length_le (by omega)] at hne
      exact h.at' i hi hne
theorem Dif.inO {n : Nat} {xs zs : List PM.G} {E O : List Nat} (h : Dif n xs zs E O) (p : Nat) (x : PM.G) : Dif n xs (zs.set p x) E (p :: O) := by
  refine ⟨by rw [List.length_set]; exact h.len, fun i hi hne => ?_⟩
  by_cases e : i = p
  · rw [e]; exact .inr List.mem_cons_self
  · by_cases hp2 : p < zs.length
    · rw [PM.el_set hp2, if_neg e] at hne
      exact (h.at' i hi hne).imp id (List.mem_cons_of_mem _)
    · rw [List.set_eq_of_length_le (by omega)] at hne
      exact (h.at' i hi hne).imp id (List.mem_cons_of_mem _)
/-- A code word that is so near is found. -/
theorem Dif.dec {D C t : Nat} {xs zs ws : List PM.G} {E O ch : List Nat} {o : Int} (hn : D + C ≤ 255) (ht : E.length + 2 * t ≤ C) (hx : CW D C xs) (h : Dif (D + C) xs zs E O) (hO : O.length ≤ t) (hd : Dec (D + C) C t zs E o ws ch) :
    ws = xs ∧ ch = diff zs xs (D + C) ∧ ((o = 0 ∧ xs = zs) ∨ (o = 1 ∧ xs ≠ zs)) := by
  have h2 : Dec (D + C) C t zs E (if xs = zs then 0 else 1) xs (diff zs xs (D + C)) := .inr ⟨hx.len, ⟨hx.syn, O, hO, h.at'⟩, rfl, by
    by_cases e : xs = zs
    · rw [if_pos e]; exact .inl ⟨rfl, e⟩
    · rw [if_neg e]; exact .inr ⟨rfl, e⟩⟩
  obtain ⟨e1, e2, e3⟩ := Dec.one hn ht hd h2
  refine ⟨e2, e3, ?_⟩
  by_cases e : xs = zs
  · rw [if_pos e] at e1; exact .inl ⟨e1, e⟩
  · rw [if_neg e] at e1; exact .inr ⟨e1, e⟩
theorem diff_prefix (xs ys : List PM.G) (i : Nat) : ∀ m, ∃ l, diff xs ys (i + m) = diff xs ys i ++ l
  | 0 => ⟨[], by rw [Nat.add_zero, List.append_nil]⟩
  | m + 1 => by
    obtain ⟨l, hl⟩ := diff_prefix xs ys i m
    by_cases h : el xs (i + m) = el ys (i + m)
    · exact ⟨l, by rw [show i + (m + 1) = (i + m) + 1 from rfl, diff_no h, hl]⟩
    · exact ⟨l ++ [i + m], by rw [show i + (m + 1) = (i + m) + 1 from rfl, diff_yes h, hl, List.append_assoc]⟩
/-- Where a place stands among those that differ. -/
theorem diff_at {xs ys : List PM.G} {n i : Nat} (hi : i < n) (h : el xs i ≠ el ys i) : (diff xs ys i).length < (diff xs ys n).length ∧ G.el (diff xs ys n) (diff xs ys i).length = i := by
  obtain ⟨l, hl⟩ := diff_prefix xs ys (i + 1) (n - (i + 1))
  rw [show i + 1 + (n - (i + 1)) = n by omega, diff_yes h, List.append_assoc] at hl
  rw [hl]
  refine ⟨by simp, ?_⟩
  rw [G.el_append, if_neg (Nat.lt_irrefl _), Nat.sub_self]
  rfl
theorem diff_up {xs ys : List PM.G} {n i : Nat} (hi : i ≤ n) : (diff xs ys i).length ≤ (diff xs ys n).length := by
  obtain ⟨l, hl⟩ := diff_prefix xs ys i (n - i)
  rw [show i + (n - i) = n by omega] at hl
  rw [hl]; simp
theorem conv_u8 {r : Nat} (h : r < 256) : IntKind.u8.wrap (r : Int) = (r : Int) := by
  simp [IntKind.wrap, IntKind.bits, IntKind.signed]; omega
theorem in_el_map (E : List Nat) (j : Nat) (hj : j < E.length) : IN.el (E.map (fun i : Nat => (i : Int))) j = ((G.el E j : Nat) : Int) := by
  unfold IN.el
  rw [List.getElem?_map, List.getElem?_eq_getElem hj, G.el_lt hj]
  rfl
theorem plErr_asc {n C : Nat} {E : List Nat} (h : Asc n E) (hC : E.length ≤ C) : PlErr n C (E.map (fun i : Nat => (i : Int))) 0 := by
  refine .inr ⟨fun j hj => ?_, .inr ⟨fun k hk => ?_, .inr ⟨rfl, by rw [List.length_map]; exact hC⟩⟩⟩
  · rw [List.length_map] at hj
    rw [in_el_map _ _ hj]
    have := h.lt _ (G.el_mem hj)
    omega
  · rw [List.length_map] at hk
    rw [in_el_map _ _ (by omega), in_el_map _ _ hk, G.el_lt (by omega), G.el_lt hk]
    have := List.pairwise_iff_getElem.1 h.asc k (k + 1) (by omega) hk (by omega)
    omega
/-- A result is stored into a box of its own. -/
theorem new_dec (W : World) (u0 u1 u2 : Value) : ∃ (p : Nat) (W1 W2 : World), W.heap.size = p ∧ W.alloc (.cells #[.int .i64 0, .slice none 0 0, .slice none 0 0] 39) = W1 ∧
    (∃ Wa Wb : World, W1.setCell ⟨p, 0, none⟩ u0 = Wa ∧ Wa.setCell ⟨p, 1, none⟩ u1 = Wb ∧ Wb.setCell ⟨p, 2, none⟩ u2 = W2 ∧
      W1.cell? ⟨p, 0, none⟩ = some (.int .i64 0) ∧ W1.frozen? ⟨p, 0, none⟩ = false ∧ Wa.cell? ⟨p, 1, none⟩ = some (.slice none 0 0) ∧ Wa.frozen? ⟨p, 1, none⟩ = false ∧ Wb.cell? ⟨p, 2, none⟩ = some (.slice none 0 0) ∧ Wb.frozen? ⟨p, 2, none⟩ = false) ∧
    G.Box W2 p 39 [u0, u1, u2] ∧ Below W.heap.size W W2 ∧ p < W2.heap.size := by
  have hb0 := G.Box.new W 39 [.int .i64 0, .slice none 0 0, .slice none 0 0]
  have hb1 : Below W.heap.size W (W.alloc (.cells #[.int .i64 0, .slice none 0 0, .slice none 0 0] 39)) := (Below.refl _ W).alloc (Nat.le_refl _) _
  obtain ⟨Wa, Wb, Wc, e1, e2, e3, f1, f2, f3, f4, f5, f6, _, _, _, hbx, hbel, _, _⟩ := name3 hb0 u0 u1 u2
  exact ⟨_, _, Wc, rfl, rfl, ⟨Wa, Wb, e1, e2, e3, f1, f2, f3, f4, f5, f6⟩, hbx, hbel _ _ hb1 (Nat.le_refl _), hbx.lt⟩
theorem box3_at {W : World} {p : Nat} {t : TypeId} {v0 v1 v2 : Value} (h : G.Box W p t [v0, v1, v2]) : W.cell? ⟨p, 0, none⟩ = some v0 ∧ W.cell? ⟨p, 1, none⟩ = some v1 ∧ W.cell? ⟨p, 2, none⟩ = some v2 := ⟨h.cell 0 rfl, h.cell 1 rfl, h.cell 2 rfl⟩
/-- A number below 256 is an element of the field. -/
theorem asG {r : Nat} (h : r < 256) : ∃ x : PM.G, r = x.v := ⟨⟨r, h⟩, rfl⟩
end Go.Proofs.Ytijkgplglfmfnaa.P

namespace Go.Proofs.Ytijkgplglfmfnaa.G
open Go Go.ChangeShapes Go.WideShapes Go.ChangeAt Go.RowKit

theorem IN.el_take {zs : List Int} {n k : Nat} (h : k < n) : Go.Proofs.Ytijkgplglfmfnaa.IN.el (zs.take n) k = zs.getD k 0 := by
  unfold Go.Proofs.Ytijkgplglfmfnaa.IN.el
  rw [List.getElem?_take, if_pos h]
  rfl
theorem own : ownKnob Try.prog.godebug = none := by kernel_rfl

section
variable {H : Type} {enc : TypeId × Value → H} {P : Program}
/-- The row's post where all that lay before the call lies as it lay. -/
theorem post_below {f : Func} {s : ChangeSpec} {apart fresh handsOn again : Bool} {W W' : World} {args : Array Value} {v : Value} {ds gs : List (DataW H)} {before pa pv : List MemPlace}
    (hW : DataW.Whole enc P f.params.toList s.vars apart W args.toList ds gs before) (hb : Below W.heap.size W W') (hps : before = pa ++ pv)
    (hres : ∀ (b : Nat) (sp : Nat → Bool) (hd : Bool), DataW.TrodAll enc P W' b sp hd f.resultTypes.toList (v.resultList f.resultTypes.size) (s.fn H (ds ++ gs)).results [])
    (hargs : ∀ sp : Nat → Bool, (∀ p ∈ before, sp p.block = true) → DataW.TrodAll enc P W' 0 sp true f.params.toList args.toList (s.fn H (ds ++ gs)).args pa)
    (hvars : ∀ sp : Nat → Bool, (∀ p ∈ before, sp p.block = true) → DataW.TrodVars enc P W' sp s.vars (s.fn H (ds ++ gs)).vars pv)
    (hok : ∀ (j : Nat) (t : TypeId) (r : Value), f.resultTypes[j]? = some t → (v.resultList f.resultTypes.size)[j]? = some r → Value.okWide P W' .any 0 t r) :
    s.post enc P f apart fresh handsOn again W args v W' := by
  have hlt : ∀ p ∈ before, p.block < W.heap.size := fun p hp => hW.lt p hp
  have hall : ∀ p ∈ before, (fun b => decide (b < W.heap.size)) p.block = true := fun p hp => by simpa using hlt p hp
  obtain ⟨_, _, _, _, _, hz, hn⟩ := id hW
  refine ⟨ds, gs, before, [], pa, pv, hW, hres _ _ _, hargs _ hall, hvars _ hall, World.keptBut_mono (fun p hp => ⟨hp, by rw [hps, List.mem_append] at hp; exact .inr hp⟩) (hb.frame (· ∈ before)), fun _ => ⟨hok, _, _, ([] ++ pa) ++ pv, ⟨[] ++ pa, pv, trodAll_append (hargs _ (fun _ _ => rfl)) (hres _ _ _), hvars _ (fun _ _ => rfl), rfl, ?_, ?_⟩, ?_⟩⟩
  · intro b off hp
    have hin : MemPlace.cell b off ∈ before := by rw [hps]; simpa using hp
    exact (hb.frozen (hlt _ hin)).trans (hz b off hin)
  · intro ha
    have := hn ha
    rw [hps] at this
    simpa using this
  · intro p hp _
    rw [hps]
    simpa using hp
end

theorem cells_int : Try.prog.cellsOf 3 = 1 := by kernel_rfl

set_option maxRecDepth 100000 in
theorem slice_param {H : Type} {enc : TypeId × Value → H} {W : World} {base : Nat} {v : Value} {d : DataW H} {p : List MemPlace}
    (hv : Value.okWide Try.prog W .any base 22 v) (hd : DataW.Trod enc Try.prog W 0 (fun _ => true) true 22 v d p) :
    ∃ (a : Option Addr) (ts : List Int) (cap : Nat), v = .slice a ts.length cap ∧ IRow W a ts cap ∧
      ∀ (W' : World) (sp : Nat → Bool), Below W.heap.size W W' → (∀ q ∈ p, sp q.block = true) → DataW.Trod enc Try.prog W' 0 sp true 22 v d p := by
  obtain ⟨a0, len, cap, rfl⟩ := okWide_slice Try.underlying22 hv
  obtain ⟨fuel, hf⟩ := hd
  rcases open_ints Try.underlying22 Try.underlying3 cells_int hf with ⟨hcs, hx⟩ | ⟨a, len', cap', zs, hcs, _, hl, hm, hz, hx, hcell, hwz⟩
  · simp [Value.cells] at hcs
    obtain ⟨rfl, rfl, rfl⟩ := hcs
    simp only [Prod.mk.injEq] at hx
    obtain ⟨rfl, rfl⟩ := hx
    exact ⟨none, [], 0, rfl, ⟨Nat.le_refl _, by omega, fun j hj => by simp at hj⟩, fun _ _ _ _ => shut_slice_nil Try.underlying22⟩
  · simp [Value.cells] at hcs
    obtain ⟨rfl, rfl, rfl⟩ := hcs
    simp only [Prod.mk.injEq] at hx
    obtain ⟨rfl, rfl⟩ := hx
    rw [if_pos rfl] at hz
    have e1 : (zs.take len).length = len := by rw [List.length_take]; omega
    refine ⟨some a, zs.take len, cap, by rw [e1], ⟨by omega, by unfold maxLen at hm; omega, fun j hj => ?_⟩, fun W' sp hb hsp => ?_⟩
    · obtain ⟨b, off, rfl, hc⟩ := ints_at hcell (by omega)
      refine ⟨b, off, rfl, ?_⟩
      rw [hc j (by omega), IN.el_take (by omega)]
    · refine ⟨2, shut_ints 0 Try.underlying22 Try.underlying3 cells_int (Nat.zero_le _) hl hm ?_ (fun i hi => (hb.cell (p := a.add i) (lt_of_cell (hcell i hi))).trans (hcell i hi)) hwz⟩
      by_cases h0 : 0 < zs.length
      · rw [if_pos]
        · exact hz
        · refine hsp (.cell a.block (a.off + 0)) ?_
          unfold MemPlace.row
          exact List.mem_map.2 ⟨0, List.mem_range.2 h0, rfl⟩
      · split <;> omega
end Go.Proofs.Ytijkgplglfmfnaa.G

namespace Go.Proofs.Ytijkgplglfmfnaa.P
open Go Go.RowKit Go.Shelf

/-- Whether a list is a polynomial. -/
def polB (p : List PM.G) : Bool := decide (p.length ≤ 255) && decide (p.length = 0 ∨ PM.el p (p.length - 1) ≠ 0)
theorem polB_yes {p : List PM.G} (h : Pol p) : polB p = true := by
  unfold polB
  rw [decide_eq_true h.len, decide_eq_true (by rcases Nat.eq_zero_or_pos p.length with e | e; exact .inl e; exact .inr (h.can e))]; rfl
theorem polB_no {p : List PM.G} (h : ¬ Pol p) : polB p = false := by
  unfold polB
  by_cases hl : p.length ≤ 255
  · rw [decide_eq_true hl, Bool.true_and]
    refine decide_eq_false (fun h' => h ⟨fun h0 => ?_, hl⟩)
    rcases h' with e | e
    · omega
    · exact e
  · rw [decide_eq_false hl]; rfl

set_option maxRecDepth 100000 in
set_option maxHeartbeats 1000000 in
theorem rvalid_any (a : Option Addr) (p : List PM.G) (cap : Nat) (w : World) (hR : Row w a p cap) :
    Calls Try.prog 49 #[.slice a p.length cap] w fun e W' => e = .returned (.bool (polB p)) ∧ w = W' := by
  have hroom := hR.room
  have hmost := hR.most
  by_cases hl : p.length ≤ 255
  · rcases Nat.eq_zero_or_pos p.length with h0 | h0
    · have hz : ((p.length : Int) == 0) = true := by rw [h0]; rfl
      have HB := Lib.hid (show polB p = true by unfold polB; rw [decide_eq_true hl, decide_eq_true (.inl h0)]; rfl)
      clear hR h0
      go_enter Try.func49, Try.ntmps49
      go_wp2_with fail
      go_ret
      rw [HB.out]
      exact ⟨rfl, rfl⟩
    · have hz : ((p.length : Int) == 0) = false := beq_false_of_ne (by omega)
      obtain ⟨n, hn⟩ : ∃ n, p.length - 1 = n := ⟨_, rfl⟩
      have hci : (p.length : Int) - 1 = (n : Int) := by omega
      have hcl : n < p.length := by omega
      have hwc : IntKind.i64.wrap (n : Int) = (n : Int) := by rw [IntKind.wrap_i64]; omega
      obtain ⟨b, off, rfl, hc⟩ := hR.el n hcl
      by_cases hv : PM.el p n = 0
      · have hb := gv_zero hv
        have HB := Lib.hid (show polB p = false by unfold polB; rw [decide_eq_true hl, hn, decide_eq_false (by rintro (h | h); omega; exact h hv)]; rfl)
        clear hR hn hv
        go_enter Try.func49, Try.ntmps49
        go_wp2_with fail
        go_ret
        rw [HB.out]
        exact ⟨rfl, rfl⟩
      · have hb := gv_ne hv
        have HB := Lib.hid (show polB p = true by unfold polB; rw [decide_eq_true hl, hn, decide_eq_true (.inr hv)]; rfl)
        clear hR hn hv
        go_enter Try.func49, Try.ntmps49
        go_wp2_with fail
        go_ret
        rw [HB.out]
        exact ⟨rfl, rfl⟩
  · have HB := Lib.hid (show polB p = false by unfold polB; rw [decide_eq_false hl]; rfl)
    go_enter Try.func49, Try.ntmps49
    go_wp2_with fail
    go_ret
    rw [HB.out]
    exact ⟨rfl, rfl⟩

def TrmRel (w : World) (zs : List PM.G) (n : Value) (W : World) : Prop :=
  ∃ k : Nat, n = .int .i64 (k : Int) ∧ k ≤ zs.length ∧ (∀ j, k ≤ j → PM.el zs j = 0) ∧ Below w.heap.size w W
theorem trim_stop {zs : List PM.G} {k : Nat} (hk : k ≤ zs.length) (hz : ∀ j, k ≤ j → PM.el zs j = 0) (ht : k = 0 ∨ PM.el zs (k - 1) ≠ 0) : zs.take k = PM.trimL zs := by
  have hl : (PM.trimL zs).length = k := by
    rcases ht with rfl | h
    · rw [PM.trimL_none zs (fun j => hz j (Nat.zero_le _))]; rfl
    · rcases Nat.eq_zero_or_pos k with rfl | h0
      · rw [PM.trimL_none zs (fun j => hz j (Nat.zero_le _))]; rfl
      · have := PM.trimL_at zs (k - 1) h (fun j hj => hz j (by omega))
        omega
  rw [← PM.trimL_take zs, hl]

set_option maxRecDepth 100000 in
set_option maxHeartbeats 1000000 in
/-- **ref04.Trim** -/
theorem rtrim_any (a : Option Addr) (zs : List PM.G) (cap : Nat) (w : World) (hR : Row w a zs cap) (hl : zs.length < 100000) :
    Calls Try.prog 29 #[.slice a zs.length cap] w fun e W' => (∃ a' cap', e = .returned (.slice a' (PM.trimL zs).length cap') ∧ Own W' w.heap.size (.slice a' (PM.trimL zs).length cap') (PM.trimL zs)) ∧ Below w.heap.size w W' := by
  have hroom := hR.room
  have hmost := hR.most
  have HR := Lib.hid hR
  clear hR
  go_enter Try.func29, Try.ntmps29
  go_wp2_with fail
  go_loopw [3] (fun n wr => TrmRel w zs n wr) (fun n _ => (intOf n).toNat)
  case atStart => exact ⟨zs.length, rfl, Nat.le_refl _, fun j hj => PM.el_ge hj, Below.refl _ _⟩
  case round =>
    obtain ⟨k, rfl, hk, hz, hB⟩ := hrel
    have HZ := Lib.hid hz
    have HB := Lib.hid hB
    have HRW := Lib.hid (HR.out.below hB)
    have hwr := hB.size
    clear hz hB
    have fin : k = 0 ∨ PM.el zs (k - 1) ≠ 0 → zs.take k = PM.trimL zs := trim_stop hk HZ.out
    have hlt : (zs.take k).length = k := by rw [List.length_take]; omega
    have HLT := Lib.hid hlt
    have HF := Lib.hid fin
    clear fin hlt
    have hrt := HRW.out.take k
    have HRT := Lib.hid hrt
    clear hrt
    have hkk : (k : Int) ≤ (zs.length : Int) := by omega
    have hk1 : k ≤ cap := by omega
    cases k with
    | zero =>
      have hf := HF.out (.inl rfl)
      have HFF := Lib.hid hf
      clear hf
      go_wp2_with (at_builtin; refine wpList_appAny rfl _ _ rfl (B := w.heap.size) (zs := []) (ys := zs.take 0) rfl (Own.nil _ _) (by rw [HLT.out]; rfl) HRT.out (by rw [HLT.out]; show 0 + 0 < 1000000; omega) hwr ?_; intro a' cap' W' hown' hb'; rw [HLT.out]; have HO := Lib.hid hown'; have HBB := Lib.hid hb'; clear hown' hb')
      go_ret
      have ho := HO.out
      have hl2 := HLT.out
      rw [List.nil_append, HFF.out] at ho
      rw [HFF.out] at hl2
      exact ⟨⟨a', cap', by rw [hl2]; first | rfl | (congr 1; congr 1; omega), ho⟩, HB.out.trans HBB.out⟩
    | succ k =>
      have e1 : ((k + 1 : Nat) : Int) = (k : Int) + 1 := rfl
      obtain ⟨b, off, rfl, hc⟩ := HRW.out.el k (by omega)
      by_cases h0 : PM.el zs k = 0
      · have hb0 := gv_eq0 h0
        have H0 := Lib.hid h0
        clear h0
        go_wp2_with fail
        go_roundw
        case rel => exact ⟨k, by go_num, by omega, fun j hj => by
          by_cases e : j = k
          · rw [e]; exact H0.out
          · exact HZ.out j (by omega), HB.out⟩
        case measure => simp [intOf]
      · have hb0 := gv_neq h0
        have hf := HF.out (.inr h0)
        have HFF := Lib.hid hf
        clear hf h0
        go_wp2_with (at_builtin; refine wpList_appAny rfl _ _ rfl (B := w.heap.size) (zs := []) (ys := zs.take (k + 1)) rfl (Own.nil _ _) (by rw [HLT.out]; rfl) HRT.out (by rw [HLT.out]; show 0 + (k + 1) < 1000000; omega) hwr ?_; intro a' cap' W' hown' hb'; rw [HLT.out]; have HO := Lib.hid hown'; have HBB := Lib.hid hb'; clear hown' hb')
        go_ret
        have ho := HO.out
        have hl2 := HLT.out
        rw [List.nil_append, HFF.out] at ho
        rw [HFF.out] at hl2
        exact ⟨⟨a', cap', by rw [hl2]; first | rfl | (congr 1; congr 1; omega), ho⟩, HB.out.trans HBB.out⟩
end Go.Proofs.Ytijkgplglfmfnaa.P

namespace Go.Proofs.Ytijkgplglfmfnaa.P
open Go Go.RowKit Go.Shelf

theorem rvalid_yes (a : Option Addr) (p : List PM.G) (cap : Nat) (w : World) (hR : Row w a p cap) (hp : Pol p) :
    Calls Try.prog 49 #[.slice a p.length cap] w fun e W' => e = .returned (.bool true) ∧ w = W' := by
  have := rvalid_any a p cap w hR
  rwa [polB_yes hp] at this
theorem rvalid_no (a : Option Addr) (p : List PM.G) (cap : Nat) (w : World) (hR : Row w a p cap) (hp : ¬ Pol p) :
    Calls Try.prog 49 #[.slice a p.length cap] w fun e W' => e = .returned (.bool false) ∧ w = W' := by
  have := rvalid_any a p cap w hR
  rwa [polB_no hp] at this
/-- ref04.Trim of a list whose coefficients are known. -/
theorem rtrim_res {w : World} (f : PM.Co) {a : Option Addr} {n cap : Nat} {ys : List PM.G} (hr : Row w a ys cap) (hn : ys.length = n) (hl : n ≤ 255) (hf : ∀ k, PM.el ys k = f k) :
    Calls Try.prog 29 #[.slice a n cap] w fun e W => (∃ r a c, e = .returned (.slice a (List.length r) c) ∧ Row W a r c ∧ Pol r ∧ ∀ k, PM.el r k = f k) ∧ Below w.heap.size w W := by
  subst hn
  refine (rtrim_any a ys cap w hr (by omega)).mono ?_
  rintro e W ⟨⟨a', c', rfl, ho⟩, hB⟩
  exact ⟨⟨PM.trimL ys, a', c', rfl, ho.rowAt, ⟨PM.can_trimL ys, by have := PM.trimL_len ys; omega⟩, fun k => by rw [PM.el_trimL, hf]⟩, hB⟩

theorem Own.rowAt' {W : World} {B n cap : Nat} {a : Option Addr} {zs : List PM.G} (h : Own W B (.slice a n cap) zs) (hn : zs.length = n) : n ≤ cap ∧ cap ≤ 9223372036854775807 := by
  subst hn
  exact ⟨h.rowAt.room, h.rowAt.most⟩
def RAddRel (w : World) (a : Option Addr) (cap n m : Nat) (P Q : List PM.G) (i : Value) (W : World) : Prop :=
  ∃ (k : Nat) (ys : List PM.G), i = .int .i64 (k : Int) ∧ k ≤ m ∧ ys.length = n ∧ (∀ j, PM.el ys j = PM.el P j + if j < k then PM.el Q j else 0) ∧ Own W w.heap.size (.slice a n cap) ys ∧ Below w.heap.size w W
end Go.Proofs.Ytijkgplglfmfnaa.P
