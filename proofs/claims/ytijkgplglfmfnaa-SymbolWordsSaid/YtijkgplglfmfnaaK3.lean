/- Words as polynomials, plain mathematics: syndromes are values; the polynomial with given roots. ref04.Same (of XPAwake). poly.Eval. poly.divide. symbol.withRoots, syndromes, Syndromes. symbol.weigh, locator, locators, power. The dice of the statements: made.Mod, Light, Roll, Dice.Next, One. slices.Index, Contains, IndexFunc, ContainsFunc, Grow, Concat as symbol calls them. symbol.isZero, ascends, errorOfPlaces, differences. symbol.errorOfPlaces, differences. poly.divide of a polynomial that is no shorter. poly.Divide (of XPGcd). symbol.recurrence. symbol.wrongPlaces. Plain mathematics: what is added at the wrong places; the wrong places are found. -/
import Derived.Test.YtijkgplglfmfnaaK2
import Derived.Shelf.Spec.SlicesGrow
import Derived.Shelf.GgClosure.Gives
import Derived.Deep.CutBlock
import Derived.Deep.DeepCutAuto
namespace Go.Proofs.Ytijkgplglfmfnaa.P
open Go
open PM (G el ev evn conv)
open SM (pw lsum lsum_ext range_shift range_succ_sum syn XE)

theorem EE_mul (i j : Nat) : EE i * EE j = EE (i + j) := G.ext' (FM.E_mul i j)
theorem EE_0 : EE 0 = G.one := rfl
theorem EE_pw (a : Nat) : ∀ b, pw (EE a) b = EE (a * b)
  | 0 => rfl
  | b + 1 => by rw [SM.pw_succ, EE_pw a b, EE_mul, Nat.mul_succ]
theorem EE_ne (k : Nat) : EE k ≠ 0 := fun h => FM.E_ne _ (congrArg G.v h)
theorem XE_EE (n i : Nat) : XE n i = EE (n - 1 - i) := rfl
theorem EE_inj {i j : Nat} (hi : i < 255) (hj : j < 255) (h : EE i = EE j) : i = j := by
  have := FM.E_inj (congrArg G.v h)
  rwa [Nat.mod_eq_of_lt hi, Nat.mod_eq_of_lt hj] at this
theorem lsum_rev (f : Nat → G) : ∀ n, lsum (List.range n) f = lsum (List.range n) (fun k => f (n - 1 - k))
  | 0 => rfl
  | n + 1 => by
    rw [range_succ_sum, lsum_rev f n, range_shift, G.add_comm]
    congr 1
    · exact lsum_ext (fun k hk => by rw [List.mem_range] at hk; congr 1; omega)
/-- The value of a word's polynomial is a syndrome. -/
theorem ev_syn (zs : List G) (j : Nat) : ev (pol zs) (EE j) = syn zs.length (XE zs.length) (el zs) j := by
  have hl : (pol zs).length ≤ zs.length := by
    refine PM.can_len ?_ (fun k hk => ?_)
    · unfold pol; exact PM.can_trimL _
    · rw [pol_el, if_neg (by omega)]
  rw [← PM.ev_any (pol zs) (EE j) hl, SM.evn_sum, lsum_rev]
  unfold syn
  refine lsum_ext (fun i hi => ?_)
  rw [List.mem_range] at hi
  rw [pol_el, if_pos (by omega), show zs.length - 1 - (zs.length - 1 - i) = i by omega, XE_EE, EE_pw, EE_pw, Nat.mul_comm]

/-- p has just the roots rs, and its last element is 1. -/
structure RootsP (rs p : List G) : Prop where
  pol : Pol p
  len : p.length = rs.length + 1
  top : el p rs.length = G.one
  val : ∀ y, ev p y = SM.prodY rs y
theorem ev_one (y : G) : ev [G.one] y = G.one := by
  show evn 1 (el [G.one]) y = _
  rw [PM.evn_succ]
  show G.one + y * 0 = G.one
  rw [G.mul_zero, G.add_zero]
theorem RootsP.nil : RootsP [] [G.one] := ⟨⟨fun _ => G.one_ne, by simp⟩, rfl, rfl, fun y => ev_one y⟩
theorem prodY_snoc (r y : G) : ∀ rs : List G, SM.prodY (rs ++ [r]) y = SM.prodY rs y * (y + r)
  | [] => by
    show (y + r) * G.one = G.one * (y + r)
    rw [G.mul_comm]
  | x :: rs => by
    show (y + x) * SM.prodY (rs ++ [r]) y = (y + x) * SM.prodY rs y * (y + r)
    rw [prodY_snoc r y rs, G.mul_assoc]
theorem el_two (r : G) : el [r, G.one] = PM.lin r := by
  funext k
  unfold PM.lin
  match k with
  | 0 => rfl
  | 1 => rfl
  | k + 2 => rw [if_neg (by omega), if_neg (by omega)]; rfl
theorem pol_two (r : G) : Pol [r, G.one] := ⟨fun _ => G.one_ne, by simp⟩
theorem RootsP.step {rs p q : List G} {r : G} (h : RootsP rs p) (hq : Pol q) (he : ∀ k, el q k = conv (el p) (el [r, G.one]) k) : RootsP (rs ++ [r]) q := by
  have hvan : PM.Van (el p) (rs.length + 1) := by rw [← h.len]; exact PM.el_van p
  have ht := PM.conv_top (el p) (el [r, G.one]) rs.length 1 hvan (PM.el_van [r, G.one])
  have h1 : el [r, G.one] 1 = G.one := rfl
  have hlen : q.length = rs.length + 1 + 1 := SM.len_of hq.can he ht.2 (by rw [ht.1, h.top, h1, G.mul_one]; exact G.one_ne)
  refine ⟨hq, by rw [List.length_append]; exact hlen, by rw [List.length_append]; show el q (rs.length + 1) = _; rw [he, ht.1, h.top, h1, G.mul_one], fun y => ?_⟩
  rw [prodY_snoc, ← h.val]
  have e1 := SM.evn_conv' (N := q.length + p.length + 2) y (PM.el_van p) (PM.el_van [r, G.one]) (by simp)
  rw [show conv (el p) (el [r, G.one]) = el q from (funext he).symm, PM.ev_any q y (by omega)] at e1
  rw [e1]
  show ev p y * evn 2 (el [r, G.one]) y = _
  rw [el_two, PM.evn_lin, G.add_comm]
/-- The values of the word that Encode makes. -/
theorem enc_syn {D C : Nat} {zs ws A r g : List G} (hn : zs.length = D + C) (hw : ws.length = D + C) (hz : ∀ i, D ≤ i → el zs i = 0) (hg : RootsP (tab C EE) g) (heq : ∀ j, el (pol zs) j = conv (el A) (el g) j + el r j) (hr : r.length < g.length)
    (hws : ∀ i, i < D + C → el ws i = if D ≤ i then el r (D + C - 1 - i) else el zs i) : ∀ j, j < C → syn ws.length (XE ws.length) (el ws) j = 0 := by
  intro j hj
  rw [← ev_syn]
  have hgl := hg.len
  rw [tab_len] at hgl
  have hconv : ∀ k, el (pol ws) k = conv (el A) (el g) k := fun k => by
    have hz' : conv (el A) (el g) k = el (pol zs) k + el r k := by rw [heq, G.add_assoc, G.add_self, G.add_zero]
    rw [hz', pol_el, pol_el, hw, hn]
    by_cases h : k < D + C
    · rw [if_pos h, if_pos h, hws _ (by omega)]
      by_cases h2 : D ≤ D + C - 1 - k
      · rw [if_pos h2, hz _ h2, G.zero_add]; congr 1; omega
      · rw [if_neg h2, PM.el_ge (p := r) (k := k) (by omega), G.add_zero]
    · rw [if_neg h, if_neg h, PM.el_ge (p := r) (k := k) (by omega), G.add_zero]
  have e1 := SM.evn_conv' (N := A.length + g.length + (pol ws).length) (EE j) (PM.el_van A) (PM.el_van g) (by omega)
  rw [show conv (el A) (el g) = el (pol ws) from (funext hconv).symm, PM.ev_any (pol ws) (EE j) (by omega)] at e1
  rw [e1]
  show _ * ev g (EE j) = 0
  rw [hg.val, SM.prodY_zero, G.mul_zero]
  unfold tab
  exact List.mem_map.2 ⟨j, List.mem_range.2 hj, rfl⟩
end Go.Proofs.Ytijkgplglfmfnaa.P

namespace Go.Proofs.Ytijkgplglfmfnaa.P
open Go Go.RowKit Go.Shelf

/-- A slice of two bytes that is written out. -/
theorem row_two (w : World) (c d : PM.G) (t : TypeId) : Row (w.alloc (.cells #[.int .u8 (c.v : Int), .int .u8 (d.v : Int)] t)) (some ⟨w.heap.size, 0, none⟩) [c, d] 2 := by
  refine ⟨Nat.le_refl _, by omega, fun j hj => ⟨w.heap.size, 0, rfl, ?_⟩⟩
  have hb : (w.alloc (.cells #[.int .u8 (c.v : Int), .int .u8 (d.v : Int)] t)).heap[w.heap.size]? = some (.cells #[.int .u8 (c.v : Int), .int .u8 (d.v : Int)] t) := Array.getElem?_push_size
  rw [cell_of_row _ _ _ _ _ _ hb]
  match j, hj with
  | 0, _ => rfl
  | 1, _ => rfl
theorem row_one (w : World) (c : PM.G) (t : TypeId) : Row (w.alloc (.cells #[.int .u8 (c.v : Int)] t)) (some ⟨w.heap.size, 0, none⟩) [c] 1 := by
  refine ⟨Nat.le_refl _, by omega, fun j hj => ⟨w.heap.size, 0, rfl, ?_⟩⟩
  have hb : (w.alloc (.cells #[.int .u8 (c.v : Int)] t)).heap[w.heap.size]? = some (.cells #[.int .u8 (c.v : Int)] t) := Array.getElem?_push_size
  rw [cell_of_row _ _ _ _ _ _ hb]
  match j, hj with
  | 0, _ => rfl

def eqB (p q : List PM.G) : Bool := decide (p = q)
set_option maxRecDepth 100000 in
set_option maxHeartbeats 1000000 in
/-- **ref04.Same** -/
theorem same_any (a b : Option Addr) (ca cb : Nat) (p q : List PM.G) (w : World) (ha : Row w a p ca) (hb : Row w b q cb) :
    Calls Try.prog 20 #[.slice a p.length ca, .slice b q.length cb] w fun e W => e = .returned (.bool (eqB p q)) ∧ Below w.heap.size w W := by
  have hra := ha.room
  have hma := ha.most
  have hrb := hb.room
  have hmb := hb.most
  have HA := Lib.hid ha
  have HB := Lib.hid hb
  clear ha hb
  by_cases hl : p.length = q.length
  · have hne : ((p.length : Int) != (q.length : Int)) = false := by rw [hl]; simp
    have HL := Lib.hid hl
    obtain ⟨n, hn⟩ : ∃ n, q.length = n := ⟨_, rfl⟩
    rw [hl, hn] at hra
    rw [hn] at hrb
    rw [hl] at hne
    rw [hl, hn] 
    rw [hn] at hne
    have HN := Lib.hid hn
    clear hl hn
    go_enter Try.func20, Try.ntmps20
    go_wp2
    go_loopw [5] (fun i wr => ∃ k : Nat, i = .int .i64 (k : Int) ∧ k ≤ n ∧ (∀ j, j < k → PM.el p j = PM.el q j) ∧ Below w.heap.size w wr) (fun i _ => n - (intOf i).toNat)
    case atStart => exact ⟨0, rfl, Nat.zero_le _, fun j hj => absurd hj (Nat.not_lt_zero _), Below.refl _ _⟩
    case round =>
      obtain ⟨k, rfl, hk, heq, hB⟩ := hrel
      have HEQ := Lib.hid heq
      have HBW := Lib.hid hB
      have HA2 := Lib.hid (HA.out.below hB)
      have HB2 := Lib.hid (HB.out.below hB)
      clear heq hB
      by_cases hlt : k < n
      · obtain ⟨b1, o1, rfl, h1⟩ := HA2.out.el k (by have := HL.out; have := HN.out; omega)
        obtain ⟨b2, o2, rfl, h2⟩ := HB2.out.el k (by have := HN.out; omega)
        by_cases hv : PM.el p k = PM.el q k
        · have hbv : (((PM.el p k).v : Int) != ((PM.el q k).v : Int)) = false := by rw [hv]; simp
          have HV := Lib.hid hv
          clear hv
          go_wp2_with fail
          go_quiet (fail)
          go_wp2
          go_roundw
          case rel => exact ⟨k + 1, by go_num, by omega, fun j hj => by
            by_cases e : j = k
            · rw [e]; exact HV.out
            · exact HEQ.out j (by omega), belowN HBW.out _⟩
          case measure => simp [intOf]; omega
        · have hbv : (((PM.el p k).v : Int) != ((PM.el q k).v : Int)) = true := by
            have : (PM.el p k).v ≠ (PM.el q k).v := fun e => hv (PM.G.ext' e)
            simp; omega
          have HE := Lib.hid (show eqB p q = false by unfold eqB; exact decide_eq_false (fun e => hv (by rw [e])))
          clear hv
          go_wp2_with fail
          go_quiet (fail)
          go_wp2
          go_ret
          exact ⟨by rw [HE.out]; rfl, belowN HBW.out _⟩
      · have HE := Lib.hid (show eqB p q = true by
          unfold eqB
          exact decide_eq_true (PM.ext_el HL.out (fun j hj => HEQ.out j (by have := HL.out; have := HN.out; omega))))
        go_wp2
        go_ret
        exact ⟨by rw [HE.out]; rfl, HBW.out⟩
  · have hne : ((p.length : Int) != (q.length : Int)) = true := by simp; omega
    have HE := Lib.hid (show eqB p q = false by unfold eqB; exact decide_eq_false (fun e => hl (by rw [e])))
    go_enter Try.func20, Try.ntmps20
    go_wp2
    go_ret
    exact ⟨by rw [HE.out]; rfl, Below.refl _ _⟩
/-- .. of equal lists. -/
theorem same_yes (a b : Option Addr) (ca cb : Nat) (p q : List PM.G) (w : World) (ha : Row w a p ca) (hb : Row w b q cb) (h : p = q) :
    Calls Try.prog 20 #[.slice a p.length ca, .slice b q.length cb] w fun e W => e = .returned (.bool true) ∧ Below w.heap.size w W := by
  have := same_any a b ca cb p q w ha hb
  rwa [show eqB p q = true from decide_eq_true h] at this
end Go.Proofs.Ytijkgplglfmfnaa.P

namespace Go.Proofs.Ytijkgplglfmfnaa.P
open Go Go.RowKit Go.Shelf
attribute [local go_sem] Oper.semAt_some

/-- What Eval has reckoned when k elements are still to come. -/
def hor (p : List PM.G) (x : PM.G) (k : Nat) : PM.G := PM.evn (p.length - k) (fun i => PM.el p (k + i)) x
theorem hor_all (p : List PM.G) (x : PM.G) : hor p x p.length = 0 := by unfold hor; rw [Nat.sub_self]; rfl
theorem hor_zero (p : List PM.G) (x : PM.G) : hor p x 0 = PM.ev p x := by
  unfold hor PM.ev
  rw [Nat.sub_zero]; congr 1; funext i; rw [Nat.zero_add]
theorem hor_step (p : List PM.G) (x : PM.G) (k : Nat) (hk : k < p.length) : hor p x (k + 1) * x + PM.el p k = hor p x k := by
  unfold hor
  rw [show p.length - k = p.length - (k + 1) + 1 by omega, PM.evn_drop, PM.G.mul_comm, PM.G.add_comm]

def EvalI (w : World) (a : Option Addr) (cap : Nat) (p : List PM.G) (x : PM.G) (k : Nat) (W : World) : Prop :=
  (W.cell? ⟨w.heap.size, 0, none⟩ = some (.int .u8 (x.v : Int)) ∧ W.cell? ⟨w.heap.size + 1, 0, none⟩ = some (.int .u8 ((hor p x k).v : Int)) ∧ W.frozen? ⟨w.heap.size + 1, 0, none⟩ = false ∧ W.cell? ⟨w.heap.size + 1 + 1, 0, none⟩ = some (.slice a p.length cap)) ∧ Below w.heap.size w W

theorem evalI_own {w : World} {a : Option Addr} {cap : Nat} {p : List PM.G} {x : PM.G} {B0 : Nat} (hB0 : w.heap.size ≤ B0) : OwnFrom B0 (EvalI w a cap p x) :=
  OwnFrom.and (Own.from (fun _ _ _ _ hs hg hr => ⟨cell_kept hs.1 hg hr, cell_kept hs.2.1 hg hr, (frozen_kept hs.2.1 hg hr).trans hs.2.2.1, cell_kept hs.2.2.2 hg hr⟩) _) (ownFrom_below (Nat.le_refl _) hB0)

theorem eval_step {w W : World} {a : Option Addr} {cap : Nat} {p : List PM.G} {x : PM.G} {k B0 m : Nat} (hk : k < p.length) (hc0 : W.cell? ⟨w.heap.size, 0, none⟩ = some (.int .u8 (x.v : Int))) (hc1 : W.cell? ⟨w.heap.size + 1, 0, none⟩ = some (.int .u8 ((hor p x (k + 1)).v : Int)))
    (hf1 : W.frozen? ⟨w.heap.size + 1, 0, none⟩ = false) (hcb : W.cell? ⟨w.heap.size + 1 + 1, 0, none⟩ = some (.slice a p.length cap)) (hB : Below w.heap.size w W) :
    KeepsFrom B0 W ((W.drewN m).setCell ⟨w.heap.size + 1, 0, none⟩ (.int .u8 (bits BinOp.xor IntKind.u8 ((hor p x (k + 1) * x).v : Int) ((PM.el p k).v : Int)))) ∧
    EvalI w a cap p x k ((W.drewN m).setCell ⟨w.heap.size + 1, 0, none⟩ (.int .u8 (bits BinOp.xor IntKind.u8 ((hor p x (k + 1) * x).v : Int) ((PM.el p k).v : Int)))) := by
  rw [xor_G, hor_step p x k hk]
  have d0 : (W.drewN m).cell? ⟨w.heap.size, 0, none⟩ = some (.int .u8 (x.v : Int)) := hc0
  have d1 : (W.drewN m).cell? ⟨w.heap.size + 1, 0, none⟩ = some (.int .u8 ((hor p x (k + 1)).v : Int)) := hc1
  have df : (W.drewN m).frozen? ⟨w.heap.size + 1, 0, none⟩ = false := hf1
  have db : (W.drewN m).cell? ⟨w.heap.size + 1 + 1, 0, none⟩ = some (.slice a p.length cap) := hcb
  have dB : Below w.heap.size w (W.drewN m) := belowN hB m
  have dK : KeepsFrom B0 W (W.drewN m) := KeepsOthers.from (W := W) (W' := W.drewN m) ⟨Nat.le_refl _, fun _ _ h _ => h⟩ _
  generalize W.drewN m = W2 at *
  refine ⟨dK.trans ((KeepsOthers.setCell _ _ _).from _), ⟨(cell_other _ (by simp)).trans d0, World.cell?_setCell_same' _ _ _ (by rw [d1]; rfl), (World.frozen?_setCell _ _ _ _).trans df, (cell_other _ (by simp)).trans db⟩, dB.setCell (p := ⟨w.heap.size + 1, 0, none⟩) (by simp) _⟩

set_option maxRecDepth 100000 in
set_option maxHeartbeats 1000000 in
/-- **poly.Eval** -/
theorem eval_any (a : Option Addr) (cap : Nat) (p : List PM.G) (x : PM.G) (w : World) (hR : Row w a p cap) :
    Calls Try.prog 71 #[.slice a p.length cap, .int .u8 (x.v : Int)] w fun e W' => e = .returned (.int .u8 ((PM.ev p x).v : Int)) ∧ Below w.heap.size w W' := by
  have hroom := hR.room
  have hmost := hR.most
  refine (callsIn_wide (n := 6)).1 ?_
  refine callsIn_of_wp_marks Try.func71 rfl trivial ?_ rfl
  simp only [Try.ntmps71, List.size_toArray, List.length_cons, List.length_nil, Nat.reduceAdd, Nat.reduceSub, Array.replicate_succ, Array.replicate_zero, List.push_toArray, List.append_toArray, List.nil_append, List.cons_append]
  gi_wp2_with (refine ⟨trivial, ?_⟩; gi_at_call 79; refine (callsIn_wide.2 (backward_any _ _ _ _)).mono ?_; rintro e w' ⟨rfl, rfl⟩)
  have c0 := cell_new w (.int .u8 (x.v : Int)) 5
  have c1 := cell_new (w.alloc (.cells #[.int .u8 (x.v : Int)] 5)) (.int .u8 0) 5
  have f1 := frozen_new (w.alloc (.cells #[.int .u8 (x.v : Int)] 5)) (.int .u8 0) 5
  have c2 := cell_new ((w.alloc (.cells #[.int .u8 (x.v : Int)] 5)).alloc (.cells #[.int .u8 0] 5)) (.slice a p.length cap) 30
  simp only [World.size_alloc] at c1 f1 c2
  have hB0 : Below w.heap.size w (((w.alloc (.cells #[.int .u8 (x.v : Int)] 5)).alloc (.cells #[.int .u8 0] 5)).alloc (.cells #[.slice a p.length cap] 30)) := (((Below.refl _ w).alloc (Nat.le_refl _) _).alloc (by simp) _).alloc (by simp; omega) _
  refine wpIn_back (n := 6) (by omega) (Bs := w.heap.size + 1 + 1) rfl rfl a p.length cap (by omega) (fun j => ((PM.el p j).v : Int)) (EvalI w a cap p x) (fun _ _ _ => False) (evalI_own hB0.size) (fun _ _ _ _ _ hs _ _ => hs)
    ⟨⟨cell_later _ (cell_later _ c0), by rw [hor_all]; exact cell_later _ c1, frozen_later _ c1 f1, c2⟩, hB0⟩
    (fun k W h => h.1.2.2.2)
    (fun k W h hk => by
      obtain ⟨b, off, e, hc⟩ := (hR.below h.2).el k hk
      exact ⟨b, off, e, hc⟩)
    (fun k => { tmps := #[.slice a p.length cap, .int .u8 (x.v : Int), undef, .pointer (some ⟨w.heap.size, 0, none⟩), .int .u8 0, .pointer (some ⟨w.heap.size + 1, 0, none⟩), undef, .int .u8 ((PM.el p k).v : Int), .slice a p.length cap, .func (.func 90) #[] #[.pointer (some ⟨w.heap.size + 1 + 1, 0, none⟩)], .int .i64 (k : Int), .int .u8 ((PM.el p k).v : Int), undef, undef, undef, undef, undef, undef], defers := [] }) ?assign ?body ?done ?stop
  case assign =>
    intro l k W K hk hK
    gi_wp2
    exact hK
  case body =>
    clear c0 c1 f1 c2 hB0
    rintro l k W hl hrec ⟨⟨hc0, hc1, hf1, hcb⟩, hB⟩ hk
    clear hl hrec
    have HB := Lib.hid hB
    clear hB
    gi_wp2_with (refine ⟨trivial, ?_⟩; gi_at_call 80; refine (callsIn_wide.2 (fmul_any _ _ _)).mono ?_; rintro e w1 ⟨rfl, hd⟩; obtain ⟨m, rfl⟩ := hd)
    exact eval_step hk hc0 hc1 hf1 hcb HB.out
  case done =>
    rintro D W hD ⟨⟨hc0, hc1, hf1, hcb⟩, hB⟩ hK
    rw [hor_zero] at hc1
    have HB := Lib.hid hB
    clear hB c0 f1 c2 hB0
    gi_wp2
    refine ⟨by simp, .inl ⟨_, _, rfl, run_takeDeferred hK, ?_⟩⟩
    refine ⟨.int .u8 ((PM.ev p x).v : Int), ?_, rfl, HB.out.trans (belowK_b (w := w) (Nat.le_refl _) W D _ _ (by simp at hD; omega) hK rfl rfl)⟩
    simp [results, Try.f71, go_sem]
  case stop =>
    rintro D c k W _ _ h _
    exact h.elim
end Go.Proofs.Ytijkgplglfmfnaa.P

namespace Go.Proofs.Ytijkgplglfmfnaa.P
open Go Go.RowKit Go.Shelf
attribute [local go_sem] Oper.semAt_some

/-- The slice lies in memory that is made behind w. -/
def Loc (w : World) (a : Option Addr) : Prop := ∀ b o, a = some ⟨b, o, none⟩ → w.heap.size ≤ b
theorem own_loc {w W : World} {B n c : Nat} {a : Option Addr} {zs : List PM.G} (h : Own W B (.slice a n c) zs) (hB : w.heap.size ≤ B) : Loc w a := fun b o e => by
  subst e
  rcases h.parts with ⟨e, _⟩ | ⟨g, cap, e, hg, _⟩
  · cases e
  · cases e; omega
/-- The inverse of the top element. -/
theorem top_any (a : Option Addr) (cap : Nat) (q : List PM.G) (w : World) (hR : Row w a q cap) (h0 : 0 < q.length) :
    Calls Try.prog 78 #[.slice a q.length cap] w fun e W => e = .returned (.int .u8 ((PM.el q (q.length - 1)).inv.v : Int)) ∧ Dr w W := by
  obtain ⟨n, hn⟩ : ∃ n, q.length = n + 1 := ⟨q.length - 1, by omega⟩
  have hroom := hR.room
  have hmost := hR.most
  have hln : q.length - 1 = n := by omega
  rw [hln]
  obtain ⟨b, off, rfl, hc⟩ := hR.el n (by omega)
  rw [hn] at hroom ⊢
  have hn2 : n < 9223372036854775807 := by omega
  have e1 : ((n + 1 : Nat) : Int) = (n : Int) + 1 := rfl
  have HI := Lib.hid (inverse_any (PM.el q n).v (PM.el q n).lt)
  clear hR hln
  go_enter Try.func78, Try.ntmps78
  go_wp2_with (go_at_call 89; refine (HI.out _).mono ?_; rintro e w1 ⟨rfl, hd⟩)
  go_ret
  exact ⟨rfl, hd⟩

/-- What lies in memory when divide begins: its boxes. -/
structure Div3 (w w3 : World) (b : Option Addr) (cb n : Nat) : Prop where
  size : w3.heap.size = w.heap.size + 3
  below : Below w.heap.size w w3
  c0 : w3.cell? ⟨w.heap.size, 0, none⟩ = some (.slice b n cb)
  c1 : w3.cell? ⟨w.heap.size + 1, 0, none⟩ = some (.slice none 0 0)
  f1 : w3.frozen? ⟨w.heap.size + 1, 0, none⟩ = false
  c2 : w3.cell? ⟨w.heap.size + 1 + 1, 0, none⟩ = some (.slice none 0 0)
  f2 : w3.frozen? ⟨w.heap.size + 1 + 1, 0, none⟩ = false
theorem div3 (w : World) (b : Option Addr) (cb n : Nat) : Div3 w (((w.alloc (.cells #[.slice b n cb] 30)).alloc (.cells #[.slice none 0 0] 30)).alloc (.cells #[.slice none 0 0] 30)) b cb n := by
  have c0 := cell_new w (.slice b n cb) 30
  have c1 := cell_new (w.alloc (.cells #[.slice b n cb] 30)) (.slice none 0 0) 30
  have f1 := frozen_new (w.alloc (.cells #[.slice b n cb] 30)) (.slice none 0 0) 30
  have c2 := cell_new ((w.alloc (.cells #[.slice b n cb] 30)).alloc (.cells #[.slice none 0 0] 30)) (.slice none 0 0) 30
  have f2 := frozen_new ((w.alloc (.cells #[.slice b n cb] 30)).alloc (.cells #[.slice none 0 0] 30)) (.slice none 0 0) 30
  simp only [World.size_alloc] at c1 f1 c2 f2
  exact ⟨by simp, (((Below.refl _ w).alloc (Nat.le_refl _) _).alloc (by simp) _).alloc (by simp; omega) _, cell_later _ (cell_later _ c0), cell_later _ c1, frozen_later _ c1 f1, c2, f2⟩
/-- .. and when p has been cloned. -/
structure Div4 (w w4 : World) (a1 b : Option Addr) (c1 cb n : Nat) (p : List PM.G) : Prop where
  size : w.heap.size + 3 ≤ w4.heap.size
  below : Below w.heap.size w w4
  own : Own w4 (w.heap.size + 3) (.slice a1 p.length c1) p
  c0 : w4.cell? ⟨w.heap.size, 0, none⟩ = some (.slice b n cb)
  c1 : w4.cell? ⟨w.heap.size + 1, 0, none⟩ = some (.slice none 0 0)
  f1 : w4.frozen? ⟨w.heap.size + 1, 0, none⟩ = false
  c2 : w4.cell? ⟨w.heap.size + 1 + 1, 0, none⟩ = some (.slice none 0 0)
  f2 : w4.frozen? ⟨w.heap.size + 1 + 1, 0, none⟩ = false
theorem Div3.next {w w3 w4 : World} {a1 b : Option Addr} {c1 cb n : Nat} {p : List PM.G} (h : Div3 w w3 b cb n) (ho : Own w4 w3.heap.size (.slice a1 p.length c1) p) (hb : Below w3.heap.size w3 w4) : Div4 w w4 a1 b c1 cb n p := by
  have hs := h.size
  have hs4 := hb.size
  exact ⟨by omega, h.below.trans (hb.mono (by omega)), by rw [hs] at ho; exact ho, cell_below hb h.c0, cell_below hb h.c1, frozen_below hb h.c1 h.f1, cell_below hb h.c2, frozen_below hb h.c2 h.f2⟩

set_option maxRecDepth 100000 in
set_option maxHeartbeats 1000000 in
theorem divide_short (a b : Option Addr) (ca cb : Nat) (p q : List PM.G) (w : World) (ha : Row w a p ca) (hb : Row w b q cb) (hp : Pol p) (hl : p.length < q.length) :
    Calls Try.prog 57 #[.slice a p.length ca, .slice b q.length cb] w fun e W => (∃ a' cap', e = .returned (.tuple #[.slice none 0 0, .slice a' p.length cap']) ∧ Row W a' p cap' ∧ Loc w a') ∧ Below w.heap.size w W := by
  have hra := ha.room
  have hma := ha.most
  have hrb := hb.room
  have hmb := hb.most
  have hlp := hp.len
  have h3 := div3 w b cb q.length
  have HCL := Lib.hid (clone_any a p ca _ (ha.below h3.below) (by omega))
  have H3 := Lib.hid h3
  clear h3
  refine (callsIn_wide (n := 6)).1 ?_
  refine callsIn_of_wp_marks Try.func57 rfl trivial ?_ rfl
  refine wpIn_wide.2 ?_
  simp only [Try.ntmps57, List.size_toArray, List.length_cons, List.length_nil, Nat.reduceAdd, Nat.reduceSub, Array.replicate_succ, Array.replicate_zero, List.push_toArray, List.append_toArray, List.nil_append, List.cons_append]
  go_wp2_with fail
  generalize ((w.alloc (.cells #[.slice b q.length cb] 30)).alloc (.cells #[.slice none 0 0] 30)).alloc (.cells #[.slice none 0 0] 30) = w3 at *
  refine HCL.out.mono ?_
  rintro e w4 ⟨a1, c1, rfl, hown, hb4⟩
  have h4 := H3.out.next hown hb4
  have d0 := h4.c0
  have d1 := h4.c1
  have e1 := h4.f1
  have d2 := h4.c2
  have e2 := h4.f2
  have H4 := Lib.hid h4
  clear HCL H3 hown hb4 h4
  go_wp2_with fail
  go_region
  go_wp2
  have hs := H4.out.size
  have hO := ((((H4.out.own).setBelow (p := ⟨w.heap.size + 1 + 1, 0, none⟩) (by simp) (.slice a1 p.length c1)).setBelow (p := ⟨w.heap.size + 1, 0, none⟩) (by simp) (.slice none 0 0)).setBelow (p := ⟨w.heap.size + 1 + 1, 0, none⟩) (by simp) (.slice a1 p.length c1)).drewN 1
  have hB := belowN (((H4.out.below.setCell (p := ⟨w.heap.size + 1 + 1, 0, none⟩) (by simp; omega) (.slice a1 p.length c1)).setCell (p := ⟨w.heap.size + 1, 0, none⟩) (by simp) (.slice none 0 0)).setCell (p := ⟨w.heap.size + 1 + 1, 0, none⟩) (by simp; omega) (.slice a1 p.length c1)) 1
  refine ⟨.tuple #[.slice none 0 0, .slice a1 p.length c1], ?_, ⟨a1, c1, rfl, hO.rowAt, own_loc hO (by omega)⟩, hB⟩
  simp [results, Try.f57, go_sem, d1, d2]
end Go.Proofs.Ytijkgplglfmfnaa.P

namespace Go.Proofs.Ytijkgplglfmfnaa.P
open Go Go.RowKit Go.Shelf
open G.S (codeV Cd code_box)

/-- A store into another block. -/
theorem Row.other {W : World} {a : Option Addr} {zs : List PM.G} {cap : Nat} (h : Row W a zs cap) {p : Addr} (u : Value) (hp : ∀ b off, a = some ⟨b, off, none⟩ → 0 < zs.length → b ≠ p.block) : Row (W.setCell p u) a zs cap :=
  ⟨h.room, h.most, fun j hj => by
    obtain ⟨b, off, e, hc⟩ := h.el j hj
    exact ⟨b, off, e, (cell_other u (show b ≠ p.block from hp b off e (by omega))).trans hc⟩⟩
theorem Own.rowAtN {W : World} {B n cap : Nat} {a : Option Addr} {zs : List PM.G} (h : Own W B (.slice a n cap) zs) (hn : zs.length = n) : Row W a zs cap := by subst hn; exact h.rowAt
theorem el_split (zs : List PM.G) (k : Nat) (hk : k < zs.length) : zs.take (k + 1) = zs.take k ++ [PM.el zs k] := by
  rw [List.take_add_one, List.getElem?_eq_getElem hk, PM.el_lt hk]; rfl

set_option maxRecDepth 100000 in
set_option maxHeartbeats 1000000 in
/-- **symbol.withRoots** -/
theorem withRoots_any (a : Option Addr) (rs : List PM.G) (cap : Nat) (w : World) (hR : Row w a rs cap) (hl : rs.length ≤ 100) :
    Calls Try.prog 39 #[.slice a rs.length cap] w fun e W => (∃ p a' c', e = .returned (.slice a' p.length c') ∧ Row W a' p c' ∧ RootsP rs p ∧ Loc w a') ∧ Below w.heap.size w W := by
  have hroom := hR.room
  have hmost := hR.most
  have hr1 := row_one w PM.G.one 5
  have hb1 : Below w.heap.size w (w.alloc (.cells #[.int .u8 1] 5)) := (Below.refl _ w).alloc (Nat.le_refl _) _
  rw [one_int] at hr1
  have HR := Lib.hid hR
  obtain ⟨w1, hw1⟩ : ∃ w1, w.alloc (.cells #[.int .u8 1] 5) = w1 := ⟨_, rfl⟩
  rw [hw1] at hr1 hb1
  have HR1 := Lib.hid hr1
  have HB1 := Lib.hid hb1
  clear hR hr1 hb1
  go_enter Try.func39, Try.ntmps39
  go_wp2_with fail
  go_loopw [3, 9] (fun s k wr => ∃ (i : Nat) (p : List PM.G) (a' : Option Addr) (c' : Nat), k = .int .i64 (i : Int) ∧ i ≤ rs.length ∧ s = .slice a' p.length c' ∧ Row wr a' p c' ∧ RootsP (rs.take i) p ∧ Loc w a' ∧ Below w.heap.size w wr) (fun _ k _ => rs.length - (intOf k).toNat)
  case atStart => exact ⟨0, [PM.G.one], some ⟨w.heap.size, 0, none⟩, 1, rfl, by omega, rfl, HR1.out, RootsP.nil, (fun b o e => by cases e; exact Nat.le_refl _), HB1.out⟩
  case round =>
    clear HR1 HB1
    obtain ⟨i, p, a', c', rfl, hi, rfl, hr, hp, hlo, hb⟩ := hrel
    have HLO := Lib.hid hlo
    clear hlo
    have HRP := Lib.hid hr
    have HP := Lib.hid hp
    have HB := Lib.hid hb
    have HRS := Lib.hid (HR.out.below hb)
    clear hr hp hb
    by_cases hlt : i < rs.length
    · obtain ⟨b, off, rfl, hc⟩ := HRS.out.el i hlt
      obtain ⟨x, hx⟩ : ∃ x, PM.el rs i = x := ⟨_, rfl⟩
      rw [hx] at hc
      have HX := Lib.hid hx
      have ht := row_two wr x PM.G.one 5
      rw [one_int] at ht
      have hb2 : Below wr.heap.size wr (wr.alloc (.cells #[.int .u8 (x.v : Int), .int .u8 1] 5)) := (Below.refl _ wr).alloc (Nat.le_refl _) _
      obtain ⟨w2, hw2⟩ : ∃ w2, wr.alloc (.cells #[.int .u8 (x.v : Int), .int .u8 1] 5) = w2 := ⟨_, rfl⟩
      rw [hw2] at ht hb2
      have hm := mul_fitF a' (some ⟨wr.heap.size, 0, none⟩) c' 2 p [x, PM.G.one] w2 (HRP.out.below hb2) ht HP.out.pol (pol_two x) (by have := HP.out.len; omega) (by simp) (by have := HP.out.len; rw [List.length_take] at this; simp; omega)
      rw [show [x, PM.G.one].length = 2 from rfl] at hm
      have HM := Lib.hid hm
      have HB2 := Lib.hid (HB.out.trans (hb2.mono HB.out.size))
      clear hx ht hb2 hm
      go_wp2_with fail
      (with_reducible refine HM.out.mono ?_)
      rintro e w3 ⟨⟨q, a3, c3, rfl, hr3, hq, he, hl3⟩, hb3⟩
      have HL3 := Lib.hid (show Loc w a3 from fun b o e => Nat.le_trans HB2.out.size (hl3 b o e))
      clear hl3
      have HR3 := Lib.hid hr3
      have hs := HP.out.step hq he
      rw [← HX.out, ← el_split _ _ hlt] at hs
      have HS := Lib.hid hs
      have HB3 := Lib.hid (HB2.out.trans (hb3.mono HB2.out.size))
      clear hr3 hq he hb3 hs
      go_wp2_with fail
      go_roundw
      case rel => exact ⟨i + 1, q, a3, c3, by go_num, hlt, rfl, HR3.out, HS.out, HL3.out, HB3.out⟩
      case measure => simp [intOf]; omega
    · obtain rfl : i = rs.length := by omega
      rw [List.take_length] at HP
      go_wp2_with fail
      go_ret
      exact ⟨⟨p, a', c', rfl, HRP.out, HP.out, HLO.out⟩, HB.out⟩

set_option maxRecDepth 100000 in
set_option maxHeartbeats 1000000 in
/-- **symbol.syndromes** -/
theorem syndromes_in {D C F : Nat} (hc : Cd D C F) (a : Option Addr) (zs : List PM.G) (cap : Nat) (w : World) (hR : Row w a zs cap) (hl : zs.length ≤ 255) :
    Calls Try.prog 47 #[codeV D C F, .slice a zs.length cap] w fun e W => ∃ g, e = .returned (.slice (some ⟨g, 0, none⟩) C C) ∧ w.heap.size ≤ g ∧ Own W w.heap.size (.slice (some ⟨g, 0, none⟩) C C) (tab C (SM.syn zs.length (SM.XE zs.length) (PM.el zs))) ∧ Below w.heap.size w W := by
  obtain ⟨f, hf⟩ : ∃ f, SM.syn zs.length (SM.XE zs.length) (PM.el zs) = f := ⟨_, rfl⟩
  rw [hf]
  have HF := Lib.hid (show ∀ j, PM.ev (pol zs) (EE j) = f j from fun j => by rw [← hf]; exact ev_syn zs j)
  clear hf
  have HRT := Lib.hid (fun W => roots_any hc W)
  have hC := hc.c2
  unfold codeV at *
  obtain ⟨w1, hw1, c0, c1, c2, c3, hB, _⟩ := code_box w D C F 28
  have HB := Lib.hid hB
  have HPO := Lib.hid (polynomial_any a zs cap w1 (hR.below hB) hl)
  clear hB hR hc
  go_enter Try.func47, Try.ntmps47
  go_wp2_with fail
  (with_reducible refine HPO.out.mono ?_)
  rintro e w2 ⟨⟨a2, c2', rfl, hr2⟩, hb2⟩
  replace c0 := cell_below hb2 c0
  replace c1 := cell_below hb2 c1
  replace c2 := cell_below hb2 c2
  replace c3 := cell_below hb2 c3
  have HR2 := Lib.hid hr2
  have HB2 := Lib.hid (HB.out.trans (hb2.mono HB.out.size))
  clear hr2 hb2 HPO HB
  go_wp2_with fail
  (with_reducible refine (HRT.out _).mono ?_)
  rintro e w3 ⟨g, rfl, hg, ho, hb3⟩
  have HR3 := Lib.hid (HR2.out.below hb3)
  have HB3 := Lib.hid (HB2.out.trans (hb3.mono HB2.out.size))
  have hlt2 : ∀ b off, a2 = some ⟨b, off, none⟩ → 0 < (pol zs).length → b < g := fun b off e h0 => by
    subst e; have := HR2.out.lt h0; omega
  have HLT := Lib.hid hlt2
  have hgw : w.heap.size ≤ g := by have := HB2.out.size; omega
  rw [← part2_0 C f] at ho
  have HO := Lib.hid (ho.mono HB2.out.size)
  clear hb3 hlt2 ho c0 c1 c2 c3 hw1 HRT HR2 HB2 hg
  go_wp2_with fail
  go_loopw [15] (fun k wr => ∃ i : Nat, k = .int .i64 (i : Int) ∧ i ≤ C ∧ Own wr w.heap.size (.slice (some ⟨g, 0, none⟩) C C) (tab C (part2 f EE i)) ∧ Row wr a2 (pol zs) c2' ∧ Below w.heap.size w wr) (fun k _ => C - (intOf k).toNat)
  case atStart => exact ⟨0, rfl, by omega, HO.out, HR3.out, HB3.out⟩
  case round =>
    clear HO HR3 HB3
    obtain ⟨i, rfl, hi, ho, hr, hb⟩ := hrel
    have HO := Lib.hid ho
    have HRR := Lib.hid hr
    have HB := Lib.hid hb
    clear ho hr hb
    by_cases hlt : i < C
    · have ha := (HO.out.at i (by rw [tab_len]; exact hlt)).2.2.2.2
      rw [el_tab _ _ _ hlt, show part2 f EE i i = EE i by unfold part2; rw [if_neg (by omega)]] at ha
      obtain ⟨ha1, ha2⟩ := ha
      have he := eval_any a2 c2' (pol zs) (EE i) wr HRR.out
      rw [HF.out i] at he
      have HE := Lib.hid he
      obtain ⟨x, hx⟩ : ∃ x, EE i = x := ⟨_, rfl⟩
      rw [hx] at ha1 HE
      obtain ⟨y, hy⟩ : ∃ y, f i = y := ⟨_, rfl⟩
      rw [hy] at HE
      clear he hx
      go_wp2_with fail
      (with_reducible refine HE.out.mono ?_)
      rintro e w4 ⟨rfl, hb4⟩
      replace ha1 := cell_below hb4 ha1
      replace ha2 : w4.frozen? ⟨g, i, none⟩ = false := (((HO.out.below hb4).at i (by rw [tab_len]; exact hlt)).2.2.2.2).2
      have hst2 : Own (w4.setCell ⟨g, i, none⟩ (.int .u8 (y.v : Int))) w.heap.size (.slice (some ⟨g, 0, none⟩) C C) ((tab C (part2 f EE i)).set i y) := by
        have := Own.set (zs := tab C (part2 f EE i)) (cap := C) (g := g) (by rw [tab_len]; exact HO.out.below hb4) i y
        rwa [tab_len] at this
      rw [← hy, part2_step _ _ _ _ hlt, hy] at hst2
      have HST := Lib.hid hst2
      have HBT := Lib.hid ((HB.out.trans (hb4.mono HB.out.size)).setCell (p := ⟨g, i, none⟩) hgw (.int .u8 (y.v : Int)))
      have HRT := Lib.hid ((HRR.out.below hb4).other (p := ⟨g, i, none⟩) (.int .u8 (y.v : Int)) (fun b off e h0 => Nat.ne_of_lt (HLT.out b off e h0)))
      clear hst2 HO HB HRR hb4 HE hy
      go_wp2_with fail
      go_roundw
      case rel => exact ⟨i + 1, by go_num, hlt, HST.out, HRT.out, HBT.out⟩
      case measure => simp [intOf]; omega
    · obtain rfl : i = C := by omega
      rw [part2_all] at HO
      go_wp2_with fail
      go_ret
      exact ⟨g, rfl, hgw, HO.out, HB.out⟩
end Go.Proofs.Ytijkgplglfmfnaa.P

namespace Go.Proofs.Ytijkgplglfmfnaa.P
open Go Go.RowKit Go.Shelf
open G.S (codeV Cd code_box length_any box4_at)
open G (Box)

/-- The sum of p's elements times those of vs. -/
def weighV (vs p : List PM.G) (k : Nat) : PM.G := SM.lsum (List.range k) (fun k => PM.el p k * PM.el vs k)
theorem weighV_0 (vs p : List PM.G) : weighV vs p 0 = 0 := rfl
theorem weighV_step (vs p : List PM.G) (k : Nat) : weighV vs p (k + 1) = weighV vs p k + PM.el p k * PM.el vs k := SM.range_succ_sum _ _
attribute [irreducible] weighV

set_option maxRecDepth 100000 in
set_option maxHeartbeats 1000000 in
/-- **symbol.weigh** -/
theorem weigh_any (a b : Option Addr) (vs p : List PM.G) (ca cb : Nat) (w : World) (hV : Row w a vs ca) (hP : Row w b p cb) (hl : p.length ≤ vs.length) (_hl2 : vs.length ≤ 1000) :
    Calls Try.prog 69 #[.slice a vs.length ca, .slice b p.length cb] w fun e W => e = .returned (.int .u8 ((weighV vs p p.length).v : Int)) ∧ Dr w W := by
  have hr1 := hV.room
  have hm1 := hV.most
  have hr2 := hP.room
  have hm2 := hP.most
  have HV := Lib.hid hV
  have HP := Lib.hid hP
  clear hV hP
  go_enter Try.func69, Try.ntmps69
  go_wp2_with fail
  go_loopw [5, 10] (fun s k wr => ∃ i : Nat, k = .int .i64 (i : Int) ∧ i ≤ p.length ∧ s = .int .u8 ((weighV vs p i).v : Int) ∧ Dr w wr) (fun _ k _ => p.length - (intOf k).toNat)
  case atStart => exact ⟨0, rfl, by omega, by rw [weighV_0]; rfl, Dr.refl _⟩
  case round =>
    obtain ⟨i, rfl, hi, rfl, hd⟩ := hrel
    obtain ⟨m, rfl⟩ := hd
    obtain ⟨s, hs⟩ : ∃ s, weighV vs p i = s := ⟨_, rfl⟩
    have HS := Lib.hid hs
    rw [hs]
    clear hs
    by_cases hlt : i < p.length
    · obtain ⟨b1, off1, rfl, hc1⟩ := HP.out.el i hlt
      obtain ⟨b2, off2, rfl, hc2⟩ := HV.out.el i (by omega)
      obtain ⟨x, hx⟩ : ∃ x, PM.el p i = x := ⟨_, rfl⟩
      obtain ⟨y, hy⟩ : ∃ y, PM.el vs i = y := ⟨_, rfl⟩
      rw [hx] at hc1
      rw [hy] at hc2
      have hc1' : (w.drewN m).cell? ⟨b1, off1 + i, none⟩ = some (.int .u8 (x.v : Int)) := hc1
      have hc2' : (w.drewN m).cell? ⟨b2, off2 + i, none⟩ = some (.int .u8 (y.v : Int)) := hc2
      have hiv : i < vs.length := by omega
      have hst := weighV_step vs p i
      rw [hx, hy, HS.out] at hst
      have HST := Lib.hid hst
      have hxor := xor_G s (x * y)
      obtain ⟨z, hz⟩ : ∃ z, x * y = z := ⟨_, rfl⟩
      have HM := Lib.hid (fun W => fmul_any x y W)
      rw [hz] at hxor HM HST
      clear hx hy hc1 hc2 hst hz
      go_wp2_with fail
      (with_reducible refine (HM.out _).mono ?_)
      rintro e w2 ⟨rfl, m2, rfl⟩
      go_wp2_with fail
      go_roundw
      case rel => exact ⟨i + 1, by go_num, hlt, by rw [HST.out], ⟨m + m2, rfl⟩⟩
      case measure => simp [intOf]; omega
    · obtain rfl : i = p.length := by omega
      rw [← HS.out]
      go_wp2_with fail
      go_ret
      exact ⟨rfl, ⟨m, rfl⟩⟩

set_option maxRecDepth 100000 in
set_option maxHeartbeats 1000000 in
/-- **symbol.locator** -/
theorem locator_any {D C F : Nat} (hc : Cd D C F) (p : Nat) (hp : p < D + C) (w : World) :
    Calls Try.prog 72 #[codeV D C F, .int .i64 (p : Int)] w fun e W => e = .returned (.int .u8 ((SM.XE (D + C) p).v : Int)) ∧ Below w.heap.size w W := by
  have HLE := Lib.hid (fun W => length_any hc W)
  obtain ⟨h1, h2, h3, h4, h5⟩ := hc
  unfold codeV at *
  obtain ⟨w1, hw1, c0, c1, c2, c3, hB, _⟩ := code_box w D C F 28
  have HB := Lib.hid hB
  obtain ⟨d, hd⟩ : ∃ d, D + C - 1 - p = d := ⟨_, rfl⟩
  have HE := Lib.hid (fun W => gexp d (by omega) W)
  have HX := Lib.hid (show SM.XE (D + C) p = EE d by rw [XE_EE, hd])
  obtain ⟨m, hm⟩ : ∃ m, D + C = m := ⟨_, rfl⟩
  rw [hm] at HLE
  have hix : (m : Int) - 1 - (p : Int) = (d : Int) := by omega
  have hm1 : m ≤ 40 := by omega
  have hpm : p < m := by omega
  clear hB hd hm
  go_enter Try.func72, Try.ntmps72
  go_wp2_with fail
  (with_reducible refine (HLE.out _).mono ?_)
  rintro e w2 ⟨rfl, hb2⟩
  have HB2 := Lib.hid (HB.out.trans (hb2.mono HB.out.size))
  clear hb2
  go_wp2_with fail
  (with_reducible refine (HE.out _).mono ?_)
  rintro e w3 ⟨rfl, m3, rfl⟩
  go_wp2_with fail
  go_ret
  exact ⟨by rw [HX.out]; rfl, belowN HB2.out m3⟩

/-- The elements of places. -/
def locL (n : Nat) (ps : List Nat) : Nat → PM.G := fun k => SM.XE n (G.el ps k)
theorem loc_map (n : Nat) (ps : List Nat) : tab ps.length (locL n ps) = ps.map (SM.XE n) := by
  refine PM.ext_el (by rw [tab_len, List.length_map]) (fun k hk => ?_)
  rw [tab_len] at hk
  rw [el_tab _ _ _ hk, PM.el_lt (by rw [List.length_map]; exact hk), List.getElem_map]
  unfold locL
  rw [G.el_lt hk]
set_option maxRecDepth 100000 in
set_option maxHeartbeats 1000000 in
/-- **symbol.locators** -/
theorem locators_any {D C F : Nat} (hc : Cd D C F) (a : Option Addr) (ps : List Nat) (cap : Nat) (w : World) (hR : G.Row w a ps cap) (hl : ps.length ≤ 1000) (hp : ∀ k, k < ps.length → G.el ps k < D + C) :
    Calls Try.prog 68 #[codeV D C F, .slice a ps.length cap] w fun e W => ∃ g, e = .returned (.slice (some ⟨g, 0, none⟩) ps.length ps.length) ∧ w.heap.size ≤ g ∧ Own W w.heap.size (.slice (some ⟨g, 0, none⟩) ps.length ps.length) (tab ps.length (locL (D + C) ps)) ∧ Below w.heap.size w W := by
  have hroom := hR.room
  have hmost := hR.most
  have HR := Lib.hid hR
  have HLO := Lib.hid (fun p hp W => locator_any hc p hp W)
  have HPP := Lib.hid hp
  unfold codeV at *
  obtain ⟨w1, hw1, _, _, _, _, hB, hX⟩ := code_box w D C F 28
  have HB := Lib.hid hB
  have HX := Lib.hid hX
  obtain ⟨f, hf⟩ : ∃ f, locL (D + C) ps = f := ⟨_, rfl⟩
  have HF := Lib.hid hf
  rw [hf]
  have hbx := hX.lt
  clear hB hR hp hX hc hf
  go_enter Try.func68, Try.ntmps68
  go_wp2_with (at_make; refine wpList_make1 rfl _ _ rfl ps.length rfl rfl (by omega) (by omega) (B := w1.heap.size) (Nat.le_refl _) ?_; intro w2 ho2 hb2)
  obtain ⟨g, hg⟩ : ∃ g, w1.heap.size = g := ⟨_, rfl⟩
  have HX2 := Lib.hid (HX.out.below hb2)
  have HB2 := Lib.hid (HB.out.trans (hb2.mono HB.out.size))
  have hgw : w.heap.size ≤ g := by have := HB.out.size; omega
  have hbg : w.heap.size ≠ g := by omega
  rw [hg] at ho2 ⊢
  rw [List.length_replicate, tab_replicate, ← part2_0 ps.length f] at ho2
  have HO2 := Lib.hid (ho2.mono hgw)
  clear ho2 hb2 hw1 HB HX hg
  go_loopw [13] (fun k wr => ∃ i : Nat, k = .int .i64 (i : Int) ∧ i ≤ ps.length ∧ Own wr w.heap.size (.slice (some ⟨g, 0, none⟩) ps.length ps.length) (tab ps.length (part2 f (fun _ => 0) i)) ∧ Box wr w.heap.size 28 [.int .i64 2, .int .i64 (D : Int), .int .i64 (C : Int), .int .i64 (F : Int)] ∧ Below w.heap.size w wr) (fun k _ => ps.length - (intOf k).toNat)
  case atStart => exact ⟨0, rfl, by omega, HO2.out, HX2.out, HB2.out⟩
  case round =>
    clear HO2 HB2 HX2
    obtain ⟨i, rfl, hi, ho, hx, hb⟩ := hrel
    have HO := Lib.hid ho
    have HX := Lib.hid hx
    have HB := Lib.hid hb
    clear ho hb
    by_cases hlt : i < ps.length
    · obtain ⟨b, off, rfl, hcp⟩ := (HR.out.below HB.out).elN i hlt
      obtain ⟨c0, c1, c2, c3⟩ := box4_at hx
      have hpl := HPP.out i hlt
      obtain ⟨q, hq⟩ : ∃ q, G.el ps i = q := ⟨_, rfl⟩
      rw [hq] at hpl hcp
      have hfi : f i = SM.XE (D + C) q := by rw [← HF.out, ← hq]; rfl
      have HL := Lib.hid (HLO.out q hpl wr)
      rw [← hfi] at HL
      obtain ⟨y, hy⟩ : ∃ y, f i = y := ⟨_, rfl⟩
      rw [hy] at HL
      have HY := Lib.hid hy
      clear hx hq hy hfi
      go_wp2_with fail
      (with_reducible refine HL.out.mono ?_)
      rintro e w4 ⟨rfl, hb4⟩
      have ho4 := HO.out.below hb4
      have ha := (ho4.at i (by rw [tab_len]; exact hlt)).2.2.2.2
      obtain ⟨ha1, ha2⟩ := ha
      have hst2 : Own (w4.setCell ⟨g, i, none⟩ (.int .u8 (y.v : Int))) w.heap.size (.slice (some ⟨g, 0, none⟩) ps.length ps.length) ((tab ps.length (part2 f (fun _ => 0) i)).set i y) := by
        have := Own.set (zs := tab ps.length (part2 f (fun _ => 0) i)) (cap := ps.length) (g := g) (by rw [tab_len]; exact ho4) i y
        rwa [tab_len] at this
      rw [← HY.out, part2_step _ _ _ _ hlt, HY.out] at hst2
      have HST := Lib.hid hst2
      have HBT := Lib.hid ((HB.out.trans (hb4.mono HB.out.size)).setCell (p := ⟨g, i, none⟩) hgw (.int .u8 (y.v : Int)))
      have HXT := Lib.hid ((HX.out.below hb4).other (q := ⟨g, i, none⟩) (fun e => hbg e.symm) (.int .u8 (y.v : Int)))
      clear hst2 HO HB HX hb4 HL c0 c1 c2 c3 ho4
      go_wp2_with fail
      go_roundw
      case rel => exact ⟨i + 1, by go_num, hlt, HST.out, HXT.out, HBT.out⟩
      case measure => simp [intOf]; omega
    · obtain rfl : i = ps.length := by omega
      rw [part2_all] at HO
      go_wp2_with fail
      go_ret
      exact ⟨g, rfl, hgw, HO.out, HB.out⟩

set_option maxRecDepth 100000 in
set_option maxHeartbeats 1000000 in
/-- **symbol.power** -/
theorem spower_any (n : Nat) (hn : n ≤ 1000) (w : World) :
    Calls Try.prog 86 #[.int .i64 (n : Int)] w fun e W => ∃ p a c, e = .returned (.slice a p.length c) ∧ Row W a p c ∧ p.length = n + 1 ∧ (∀ k, PM.el p k = PM.mono PM.G.one n k) ∧ Below w.heap.size w W := by
  have e1 : ((n + 1 : Nat) : Int) = (n : Int) + 1 := rfl
  go_enter Try.func86, Try.ntmps86
  go_wp2_with (at_make; refine wpList_make1 rfl _ _ rfl (n + 1) rfl rfl (by omega) (by omega) (B := w.heap.size) (Nat.le_refl _) ?_; intro w2 ho2 hb2; have ha := (ho2.at n (by rw [List.length_replicate]; omega)).2.2.2.2; obtain ⟨ha1, ha2⟩ := ha)
  go_ret
  have hst := Own.set ho2 n PM.G.one
  refine ⟨(List.replicate (n + 1) (0 : PM.G)).set n PM.G.one, _, _, by rw [List.length_set, List.length_replicate]; rfl, ?_, by rw [List.length_set, List.length_replicate], fun k => ?_, hb2.setCell (p := ⟨w.heap.size, n, none⟩) (Nat.le_refl _) _⟩
  · have := hst.rowAtN (by rw [List.length_set])
    exact this
  · rw [PM.el_set (by rw [List.length_replicate]; omega), PM.el_replicate]; rfl
end Go.Proofs.Ytijkgplglfmfnaa.P

namespace Go.Proofs.Ytijkgplglfmfnaa.IN
def el (zs : List Int) (k : Nat) : Int := zs[k]?.getD 0
end Go.Proofs.Ytijkgplglfmfnaa.IN
namespace Go.Proofs.Ytijkgplglfmfnaa.G
open Go Go.RowKit Go.Shelf

theorem mod_any (n m : Int) (hm : 1 ≤ m) (hm2 : m ≤ 1000000) (w : World) :
    Calls Try.prog 24 #[.int .i64 n, .int .i64 m] w fun e w' => e = .returned (.int .i64 (n % m)) ∧ w = w' := by
  have hs : n.tmod m < 0 → n.tmod m + m = n % m ∧ -1000000 < n.tmod m := by
    intro h
    rcases Int.le_total 0 n with hn | hn
    · rw [Int.tmod_eq_emod_of_nonneg hn] at h
      have := Int.emod_nonneg n (by omega : m ≠ 0)
      omega
    · have e := Int.neg_tmod (a := -n) (b := m)
      rw [Int.neg_neg, Int.tmod_eq_emod_of_nonneg (by omega : 0 ≤ -n)] at e
      have h1 := Int.emod_lt_of_pos (-n) (by omega : 0 < m)
      have h2 := Int.emod_nonneg (-n) (by omega : m ≠ 0)
      refine ⟨?_, by omega⟩
      have h3 : n % m = (n.tmod m + m) % m := by
        rw [e, Int.add_emod_right]
        have h4 : (-((-n) % m)) % m = (-(-n)) % m := by
          have := Int.emod_add_mul_ediv (-n) m
          have h5 : -((-n) % m) = -(-n) + m * ((-n) / m) := by omega
          rw [h5, Int.add_mul_emod_self_left]
        rw [h4, Int.neg_neg]
      rw [h3, Int.emod_eq_of_lt (by omega) (by omega)]
  have hp : ¬ n.tmod m < 0 → n.tmod m = n % m := by
    intro h
    rcases Int.le_total 0 n with hn | hn
    · exact Int.tmod_eq_emod_of_nonneg hn
    · have e := Int.neg_tmod (a := -n) (b := m)
      rw [Int.neg_neg, Int.tmod_eq_emod_of_nonneg (by omega : 0 ≤ -n)] at e
      have h2 := Int.emod_nonneg (-n) (by omega : m ≠ 0)
      have h0 : (-n) % m = 0 := by omega
      have h6 : m ∣ -n := Int.dvd_of_emod_eq_zero h0
      rw [e, h0, Int.emod_eq_zero_of_dvd (Int.dvd_neg.1 h6)]; rfl
  have hm0 : ¬ m < 1 := by omega
  have hz : m ≠ 0 := by omega
  by_cases h : n.tmod m < 0
  · have hb := (hs h).2
    have HR := Lib.hid (hs h).1
    clear hs hp
    go_enter Try.func24, Try.ntmps24
    go_wp2_with fail
    go_ret
    exact ⟨ret_int HR.out, rfl⟩
  · have HR := Lib.hid (hp h)
    have h' : 0 ≤ n.tmod m := by omega
    clear hs hp
    go_enter Try.func24, Try.ntmps24
    go_wp2_with fail
    go_ret
    exact ⟨ret_int HR.out, rfl⟩

/-- The slice at a, of capacity cap, holds the ints zs. -/
structure IRow (w : World) (a : Option Addr) (zs : List Int) (cap : Nat) : Prop where
  room : zs.length ≤ cap
  most : cap ≤ 9223372036854775807
  el : ∀ j, j < zs.length → ∃ b off, a = some ⟨b, off, none⟩ ∧ w.cell? ⟨b, off + j, none⟩ = some (.int .i64 (IN.el zs j))
theorem IRow.below {w w' : World} {a : Option Addr} {zs : List Int} {cap : Nat} (h : IRow w a zs cap) (hb : Below w.heap.size w w') : IRow w' a zs cap :=
  ⟨h.room, h.most, fun j hj => by
    obtain ⟨b, off, e, hc⟩ := h.el j hj
    exact ⟨b, off, e, (hb.cell (p := ⟨b, off + j, none⟩) (lt_of_cell hc)).trans hc⟩⟩
theorem IRow.drewN {w : World} {a : Option Addr} {zs : List Int} {cap : Nat} (h : IRow w a zs cap) (n : Nat) : IRow (w.drewN n) a zs cap := ⟨h.room, h.most, h.el⟩
theorem IRow.alloc {w : World} {a : Option Addr} {zs : List Int} {cap : Nat} (h : IRow w a zs cap) (o : Obj) : IRow (w.alloc o) a zs cap :=
  h.below ((Below.refl _ w).alloc (Nat.le_refl _) _)
theorem mod_nat (x : Int) (n : Nat) (hn : 0 < n) : ∃ r : Nat, x % (n : Int) = (r : Int) ∧ r < n := by
  have h1 := Int.emod_nonneg x (b := (n : Int)) (by omega)
  have h2 := Int.emod_lt_of_pos x (b := (n : Int)) (by omega)
  exact ⟨(x % (n : Int)).toNat, by omega, by omega⟩

/-- The dice in block dp: the numbers ts, k of which have been given out. -/
structure Dice (W : World) (dp : Nat) (a : Option Addr) (cap : Nat) (ts : List Int) (k : Nat) : Prop where
  list : W.cell? ⟨dp, 0, none⟩ = some (.slice a ts.length cap)
  at' : W.cell? ⟨dp, 1, none⟩ = some (.int .i64 (k : Int))
  free : W.frozen? ⟨dp, 1, none⟩ = false
  row : IRow W a ts cap
  least : k ≤ ts.length
  few : ts.length ≤ 400
  other : ∀ b off, a = some ⟨b, off, none⟩ → 0 < ts.length → b ≠ dp

theorem Dice.below {W W' : World} {dp : Nat} {a : Option Addr} {cap : Nat} {ts : List Int} {k : Nat} (h : Dice W dp a cap ts k) (hb : Below W.heap.size W W') : Dice W' dp a cap ts k :=
  ⟨(hb.cell (p := ⟨dp, 0, none⟩) (lt_of_cell h.list)).trans h.list, (hb.cell (p := ⟨dp, 1, none⟩) (lt_of_cell h.at')).trans h.at', (hb.frozen (p := ⟨dp, 1, none⟩) (lt_of_cell h.at')).trans h.free, h.row.below hb, h.least, h.few, h.other⟩
theorem Dice.lt {W : World} {dp : Nat} {a : Option Addr} {cap : Nat} {ts : List Int} {k : Nat} (h : Dice W dp a cap ts k) : dp < W.heap.size := lt_of_cell h.list
theorem Dice.alloc {W : World} {dp : Nat} {a : Option Addr} {cap : Nat} {ts : List Int} {k : Nat} (h : Dice W dp a cap ts k) (o : Obj) : Dice (W.alloc o) dp a cap ts k :=
  h.below ((Below.refl _ W).alloc (Nat.le_refl _) _)
theorem Dice.drewN {W : World} {dp : Nat} {a : Option Addr} {cap : Nat} {ts : List Int} {k : Nat} (h : Dice W dp a cap ts k) (n : Nat) : Dice (W.drewN n) dp a cap ts k :=
  ⟨h.list, h.at', h.free, h.row.drewN n, h.least, h.few, h.other⟩
/-- One number more has been given out. -/
theorem Dice.next {W : World} {dp : Nat} {a : Option Addr} {cap : Nat} {ts : List Int} {k : Nat} (h : Dice W dp a cap ts k) (hk : k < ts.length) : Dice (W.setCell ⟨dp, 1, none⟩ (.int .i64 ((k : Int) + 1))) dp a cap ts (k + 1) :=
  ⟨(World.cell?_setCell_other _ _ _ _ (by intro e; cases e)).trans h.list, World.cell?_setCell_same' _ _ _ (by rw [h.at']; rfl), (World.frozen?_setCell _ _ _ _).trans h.free,
    ⟨h.row.room, h.row.most, fun j hj => by
      obtain ⟨b, off, e, hc⟩ := h.row.el j hj
      exact ⟨b, off, e, (cell_other _ (by intro e2; exact h.other b off e (by omega) e2)).trans hc⟩⟩, by omega, h.few, h.other⟩


/-- What Next gives: a number below n; only the dice have turned. -/
def NextPost (w : World) (dp : Nat) (a : Option Addr) (cap : Nat) (ts : List Int) (n : Nat) (e : Ending) (W : World) : Prop :=
  ∃ (r k' : Nat), r < n ∧ e = .returned (.int .i64 (r : Int)) ∧ Dice W dp a cap ts k' ∧ w.grownBy W (some dp)

set_option maxRecDepth 100000 in
set_option maxHeartbeats 1000000 in
theorem next_any (w : World) (dp : Nat) (a : Option Addr) (cap : Nat) (ts : List Int) (k n : Nat) (hn : 0 < n) (hn2 : n ≤ 1000000) (hD : Dice w dp a cap ts k) :
    Calls Try.prog 15 #[.pointer (some ⟨dp, 0, none⟩), .int .i64 (n : Int)] w (NextPost w dp a cap ts n) := by
  have c0 := hD.list
  have c1 := hD.at'
  have f1 := hD.free
  have hfew := hD.few
  have hleast := hD.least
  have HD := Lib.hid hD
  clear hD
  by_cases hk : k < ts.length
  · obtain ⟨b, off, rfl, hc⟩ := HD.out.row.el k hk
    have hne := HD.out.other b off rfl (by omega)
    have HNX := Lib.hid (HD.out.next hk)
    have hcap := HD.out.row.room
    have hmost := HD.out.row.most
    have hmod := fun W : World => (mod_any (IN.el ts k) (n : Int) (by omega) (by omega) W).mono fun e W' h => And.intro h.1 h.2.symm
    have HMOD := Lib.hid hmod
    clear hmod
    go_enter Try.func15, Try.ntmps15
    go_wp2_with fail
    go_quiet (fail)
    go_wp2_with fail
    go_quiet ((go_at_call 24; exact Calls.quiet_of_same (HMOD.out _)))
    go_wp2_with fail
    go_ret
    obtain ⟨r, hr, hrn⟩ := mod_nat (IN.el ts k) n hn
    exact ⟨r, k + 1, hrn, congrArg (fun z => Ending.returned (.int .i64 z)) hr, (HD.out.drewN _).next hk |>.drewN _, grown_drewN (grown_setCell (grown_drewN (World.grownBy.refl w _) _) _ (.inr rfl)) _⟩
  · go_enter Try.func15, Try.ntmps15
    go_wp2_with fail
    go_quiet (fail)
    go_wp2_with fail
    go_ret
    exact ⟨0, k, hn, rfl, HD.out.drewN _, grown_drewN (World.grownBy.refl w _) _⟩

theorem light_any (a : Option Addr) (n cap : Nat) (w : World) :
    Calls Try.prog 9 #[.slice a n cap] w fun e W' => e = .returned (.bool (decide ((n : Int) ≤ 400))) ∧ w = W' := by
  go_enter Try.func9, Try.ntmps9
  go_wp2_with fail
  go_ret
  exact ⟨rfl, rfl⟩
theorem roll_dice {a : Option Addr} {cap : Nat} {ts : List Int} {w : World} (hr : IRow w a ts cap) (hf : ts.length ≤ 400) (t : TypeId) : Dice (w.alloc (.cells #[.slice a ts.length cap, .int .i64 0] t)) w.heap.size a cap ts 0 := by
  have hb : (w.alloc (.cells #[.slice a ts.length cap, .int .i64 0] t)).heap[w.heap.size]? = some (.cells #[.slice a ts.length cap, .int .i64 0] t) := Array.getElem?_push_size
  refine ⟨?_, ?_, ?_, hr.alloc _, Nat.zero_le _, hf, fun b off e hl => ?_⟩
  · rw [cell_of_row _ _ 0 _ _ _ hb]; rfl
  · rw [cell_of_row _ _ 1 _ _ _ hb]; rfl
  · unfold World.frozen?; rw [hb]; rfl
  · obtain ⟨b', off', e', hc⟩ := hr.el 0 hl
    rw [e] at e'; cases e'
    have h := lt_of_cell hc
    exact Nat.ne_of_lt h
theorem roll_any (a : Option Addr) (cap : Nat) (ts : List Int) (w : World) (hr : IRow w a ts cap) (hf : ts.length ≤ 400) :
    Calls Try.prog 11 #[.slice a ts.length cap] w fun e W' => e = .returned (.pointer (some ⟨w.heap.size, 0, none⟩)) ∧ Dice W' w.heap.size a cap ts 0 ∧ Below w.heap.size w W' := by
  go_enter Try.func11, Try.ntmps11
  go_wp2_with fail
  go_ret
  refine ⟨rfl, roll_dice hr hf _, (Below.refl _ w).alloc (Nat.le_refl _) _⟩

theorem Dice.belowAt {W W' : World} {B dp : Nat} {a : Option Addr} {cap : Nat} {ts : List Int} {k : Nat} (h : Dice W dp a cap ts k) (hb : Below B W W') (hdp : dp < B) (hf : ∀ b off, a = some ⟨b, off, none⟩ → 0 < ts.length → b < B) : Dice W' dp a cap ts k :=
  ⟨(hb.cell (p := ⟨dp, 0, none⟩) hdp).trans h.list, (hb.cell (p := ⟨dp, 1, none⟩) hdp).trans h.at', (hb.frozen (p := ⟨dp, 1, none⟩) hdp).trans h.free,
    ⟨h.row.room, h.row.most, fun j hj => by
      obtain ⟨b, off, e, hc⟩ := h.row.el j hj
      exact ⟨b, off, e, (hb.cell (p := ⟨b, off + j, none⟩) (hf b off e (by omega))).trans hc⟩⟩, h.least, h.few, h.other⟩
theorem Dice.far {W : World} {dp : Nat} {a : Option Addr} {cap : Nat} {ts : List Int} {k : Nat} (h : Dice W dp a cap ts k) : ∀ b off, a = some ⟨b, off, none⟩ → 0 < ts.length → b < W.heap.size := fun b off e h0 => by
  obtain ⟨b', off', e', hc⟩ := h.row.el 0 h0
  rw [e] at e'; cases e'
  exact lt_of_cell hc
theorem grown_then {w W W' : World} {row : Option Nat} (h : w.grownBy W row) (hb : Below w.heap.size W W') : w.grownBy W' row :=
  ⟨hb.os.trans h.os, hb.tape.trans h.tape, hb.output.trans h.output, Nat.le_trans h.size hb.size, fun k hk hne => (hb.block k hk).trans (h.block k hk hne)⟩

end Go.Proofs.Ytijkgplglfmfnaa.G

namespace Go.Proofs.Ytijkgplglfmfnaa.G
open Go Go.RowKit Go.Shelf

/-- r is where the first of the n is that is as wanted; -1: there is none. -/
def Idx (p : Nat → Prop) (n : Nat) (r : Int) : Prop :=
  (r = -1 ∧ ∀ j, j < n → ¬ p j) ∨ ∃ k : Nat, r = (k : Int) ∧ k < n ∧ p k ∧ ∀ j, j < k → ¬ p j
theorem Idx.any {p : Nat → Prop} {n : Nat} {r : Int} {t : Bool} (h : Idx p n r) (ht : t = true ↔ ∃ j, j < n ∧ p j) : decide (0 ≤ r) = t := by
  rw [Bool.eq_iff_iff, decide_eq_true_iff, ht]
  rcases h with ⟨rfl, h⟩ | ⟨k, rfl, h1, h2, _⟩
  · exact ⟨fun h => absurd h (by decide), fun ⟨j, h1, h2⟩ => absurd h2 (h j h1)⟩
  · exact ⟨fun _ => ⟨k, h1, h2⟩, fun _ => by omega⟩
theorem ret_bool {a b : Bool} (h : a = b) : Ending.returned (.bool a) = .returned (.bool b) := by rw [h]

set_option maxRecDepth 100000 in
set_option maxHeartbeats 1000000 in
/-- **slices.Index** of an int from 0 on. -/
theorem indexN_any (a : Option Addr) (zs : List Nat) (cap : Nat) (y : Nat) (w : World) (hR : Row w a zs cap) :
    Calls Try.prog 88 #[.slice a zs.length cap, .int .i64 (y : Int)] w fun e W => (∃ r, e = .returned (.int .i64 r) ∧ Idx (fun j => el zs j = y) zs.length r) ∧ w = W := by
  have hroom := hR.room
  have hmost := hR.most
  have HR := Lib.hid hR
  clear hR
  go_enter Try.func88, Try.ntmps88
  go_wp2_with fail
  go_loop [8] (fun i => ∃ k : Nat, i = .int .i64 (k : Int) ∧ k ≤ zs.length ∧ Hid (∀ j, j < k → ¬ el zs j = y)) (fun i => zs.length - (intOf i).toNat)
  case atStart => exact ⟨0, rfl, Nat.zero_le _, Lib.hid (fun j h => absurd h (Nat.not_lt_zero j))⟩
  case round =>
    obtain ⟨k, rfl, hk, HN⟩ := hrel
    by_cases hlt : k < zs.length
    · obtain ⟨b, off, rfl, hc⟩ := HR.out.elN k hlt
      by_cases he : el zs k = y
      · have HI := Lib.hid he
        have hb : ((y : Int) == ((el zs k : Nat) : Int)) = true := by rw [he]; simp
        clear he
        go_wp2_with fail
        go_ret
        exact ⟨⟨_, rfl, .inr ⟨k, rfl, hlt, HI.out, HN.out⟩⟩, rfl⟩
      · have hb : ((y : Int) == ((el zs k : Nat) : Int)) = false := by
          rw [beq_eq_false_iff_ne]
          intro e
          exact he (by omega)
        have HE := Lib.hid he
        clear he
        go_wp2_with fail
        go_round
        case rel => exact ⟨k + 1, by go_num, hlt, Lib.hid (fun j hj => by
          by_cases e : j = k
          · rw [e]; exact HE.out
          · exact HN.out j (by omega))⟩
        case measure => simp [intOf]; omega
    · obtain rfl : k = zs.length := by omega
      go_wp2_with fail
      go_ret
      exact ⟨⟨_, rfl, .inl ⟨rfl, HN.out⟩⟩, rfl⟩
/-- **slices.Contains** -/
theorem containsN_any (a : Option Addr) (zs : List Nat) (cap : Nat) (y : Nat) (t : Bool) (w : World) (hR : Row w a zs cap) (ht : decide (y ∈ zs) = t) :
    Calls Try.prog 73 #[.slice a zs.length cap, .int .i64 (y : Int)] w fun e W => e = .returned (.bool t) ∧ w = W := by
  have HI := Lib.hid (indexN_any a zs cap y w hR)
  have HT := Lib.hid (show t = true ↔ ∃ j, j < zs.length ∧ el zs j = y by
    rw [← ht, decide_eq_true_iff]
    constructor
    · intro h
      obtain ⟨j, h1, h2⟩ := List.getElem_of_mem h
      exact ⟨j, h1, by rw [el_lt h1]; exact h2⟩
    · rintro ⟨j, h1, h2⟩; rw [← h2]; exact el_mem h1)
  clear ht hR
  go_enter Try.func73, Try.ntmps73
  go_wp2_with fail
  refine HI.out.mono ?_
  rintro e w1 ⟨⟨r, rfl, hi⟩, rfl⟩
  have HX := Lib.hid (hi.any HT.out)
  clear hi
  go_wp2
  go_ret
  exact ⟨ret_bool HX.out, rfl⟩

set_option maxRecDepth 100000 in
set_option maxHeartbeats 1000000 in
/-- **slices.IndexFunc** of ints: the function only makes memory. -/
theorem indexFuncI_any (a : Option Addr) (cap : Nat) (zs : List Int) (w : World) (hR : IRow w a zs cap) (g : Nat) (lb : Array Value) (eg : ∀ args w, (callFunc g args).run Try.prog w = .ok (.enter g args) w) (p : Int → Bool)
    (hp : ∀ (x : Int) (W : World), Below w.heap.size w W → -9223372036854775808 ≤ x → x ≤ 9223372036854775807 → Calls Try.prog g (#[.int .i64 x] ++ lb) W fun e w' => e = .returned (.bool (p x)) ∧ Below W.heap.size W w')
    (hz : ∀ j, j < zs.length → -9223372036854775808 ≤ IN.el zs j ∧ IN.el zs j ≤ 9223372036854775807) :
    Calls Try.prog 84 #[.slice a zs.length cap, .func (.func g) #[] lb] w fun e w' => (∃ r, e = .returned (.int .i64 r) ∧ Idx (fun j => p (IN.el zs j) = true) zs.length r) ∧ Below w.heap.size w w' := by
  have hroom := hR.room
  have hmost := hR.most
  have HR := Lib.hid hR
  have HP := Lib.hid hp
  have HZ := Lib.hid hz
  clear hR hp hz
  go_enter Try.func84, Try.ntmps84
  go_wp2
  go_loopw [8] (fun i wr => ∃ k : Nat, i = .int .i64 (k : Int) ∧ k ≤ zs.length ∧ Hid (∀ j, j < k → ¬ p (IN.el zs j) = true) ∧ Below w.heap.size w wr) (fun i _ => zs.length - (intOf i).toNat)
  case atStart => exact ⟨0, rfl, Nat.zero_le _, Lib.hid (fun j hj => absurd hj (Nat.not_lt_zero _)), Below.refl _ _⟩
  case round =>
    obtain ⟨k, rfl, hk, hA, hb⟩ := hrel
    by_cases hlt : k < zs.length
    · obtain ⟨b, off, rfl, hcell⟩ := (HR.out.below hb).el k hlt
      obtain ⟨z1, z2⟩ := HZ.out k hlt
      obtain ⟨x, hx⟩ : ∃ x, IN.el zs k = x := ⟨_, rfl⟩
      rw [hx] at hcell z1 z2
      have hcall := HP.out x wr hb z1 z2
      have HX := Lib.hid hx
      have HB := Lib.hid hb
      clear hx hb
      cases hq : p x with
      | true =>
        rw [hq] at hcall
        have HQ := Lib.hid hq
        have HC := Lib.hid hcall
        clear hq hcall
        go_wp2_with (go_at_fn g; refine HC.out.mono ?_; rintro e w' ⟨rfl, hw⟩)
        go_ret
        exact ⟨⟨_, rfl, .inr ⟨k, rfl, hlt, by show p (IN.el zs k) = true; rw [HX.out]; exact HQ.out, hA.out⟩⟩, HB.out.trans (by first | (exact hw.mono HB.out.size) | (rename_i hw2 _; exact hw2.mono HB.out.size))⟩
      | false =>
        rw [hq] at hcall
        have HQ := Lib.hid hq
        have HC := Lib.hid hcall
        clear hq hcall
        go_wp2_with (go_at_fn g; refine HC.out.mono ?_; rintro e w' ⟨rfl, hw⟩; have HW := Lib.hid hw; clear hw)
        go_roundw
        case rel =>
          refine ⟨k + 1, by go_num, by omega, Lib.hid (fun j hj => ?_), HB.out.trans (HW.out.mono HB.out.size)⟩
          by_cases e : j = k
          · subst e; show ¬ p (IN.el zs j) = true; rw [HX.out, HQ.out]; decide
          · exact hA.out j (by omega)
        case measure => simp [intOf]; omega
    · go_wp2
      go_ret
      exact ⟨⟨_, rfl, .inl ⟨rfl, fun j hj => hA.out j (by omega)⟩⟩, hb⟩

def growRen : Go.Shelf.Ren := ⟨fun | 4 => 75 | n => n, fun | 0 => 0 | 3 => 3 | 4 => 4 | 9 => 9 | 20 => 20 | 22 => 22 | 25 => 3 | n => n, fun | n => n⟩
theorem growLays : Go.Proofs.Lays8.n4 Try.prog growRen := {
  mixed := by kernel_rfl
  f4 := ⟨Try.f75.name, by decide, Try.func75.trans (congrArg some (by kernel_rfl))⟩
  t0 := Try.underlying0
  a0 := Try.isAgg0
  z0 := Try.sizeOf0
  v0 := Try.zeroValue0
  t3 := Try.underlying3
  a3 := Try.isAgg3
  z3 := Try.sizeOf3
  v3 := Try.zeroValue3
  t4 := Try.underlying4
  a4 := Try.isAgg4
  z4 := Try.sizeOf4
  v4 := Try.zeroValue4
  t9 := Try.underlying9
  a9 := Try.isAgg9
  z9 := Try.sizeOf9
  v9 := Try.zeroValue9
  t20 := Try.underlying20
  a20 := Try.isAgg20
  z20 := Try.sizeOf20
  v20 := Try.zeroValue20
  t22 := Try.underlying22
  a22 := Try.isAgg22
  z22 := Try.sizeOf22
  v22 := Try.zeroValue22 }
/-- **slices.Grow** of nil. -/
theorem grow_nil (n : Nat) (hn : n ≤ 1000) (w : World) :
    Calls Try.prog 75 #[.slice none 0 0, .int .i64 (n : Int)] w fun e W => ∃ a c, e = .returned (.slice a 0 c) ∧ Own (α := Nat) W w.heap.size (.slice a 0 c) [] ∧ Below w.heap.size w W := by
  cases n with
  | zero =>
    refine (Any8.slices_Grow_room growLays none 0 0 0 w (Nat.le_refl _) (by omega) (by omega) (Nat.le_refl _)).mono ?_
    rintro e W ⟨rfl, rfl⟩
    exact ⟨none, 0, rfl, Own.nil _ _, Below.refl _ _⟩
  | succ n =>
    obtain ⟨i0, hi, hz0, hz1, hz2⟩ := info_parts (Elt.info (α := Nat))
    refine (Any8.slices_Grow_grow growLays i0 (.int .i64 0) hi hz0 (by rw [hz1]; decide) none 0 0 (n + 1) [] w (Nat.le_refl _) (by omega) (by rw [hz2]; show _ * 8 ≤ _; omega) (by omega) (by simp) (fun _ => rfl) (fun a h => by cases h)).mono ?_
    rintro e W ⟨rfl, rfl⟩
    have hc := grownCap_le_maxLen w (0 + (n + 1)) 0 (growRen.t 25) (by unfold maxLen; omega)
    have hge := grownCap_ge w (0 + (n + 1)) 0 (growRen.t 25)
    obtain ⟨G, hG⟩ : ∃ G, grownCap w (0 + (n + 1)) 0 (growRen.t 25) = G := ⟨_, rfl⟩
    rw [hG] at hc hge ⊢
    refine ⟨_, G, rfl, World.ownsRow_made (base := w.heap.size) (e := 3) (size := 1) w.drew _ G (Nat.le_refl _) hc ?_, (Below.refl _ w).drew.alloc (Nat.le_refl _) _⟩
    rw [Array.size_append, Array.size_append, size_zeroCells, size_zeroCells]
    simp [Value.cells]
    omega

set_option maxRecDepth 100000 in
set_option maxHeartbeats 1000000 in
/-- **slices.Concat** of two slices. -/
theorem concat_any (b : Nat) (a1 a2 : Option Addr) (ps qs : List Nat) (k1 k2 : Nat) (w : World) (hc0 : w.cell? ⟨b, 0, none⟩ = some (.slice a1 ps.length k1)) (hc1 : w.cell? ⟨b, 1, none⟩ = some (.slice a2 qs.length k2)) (h1 : Row w a1 ps k1) (h2 : Row w a2 qs k2) (hl1 : ps.length ≤ 400) (hl2 : qs.length ≤ 400) :
    Calls Try.prog 46 #[.slice (some ⟨b, 0, none⟩) 2 2] w fun e W => ∃ a c, e = .returned (.slice a (ps ++ qs).length c) ∧ Own W w.heap.size (.slice a (ps ++ qs).length c) (ps ++ qs) ∧ Below w.heap.size w W := by
  have hr1 := h1.room
  have hm1 := h1.most
  have hr2 := h2.room
  have hm2 := h2.most
  have H1 := Lib.hid h1
  have H2 := Lib.hid h2
  have HG := Lib.hid (grow_nil (ps.length + qs.length) (by omega) w)
  have e1 : ((ps.length + qs.length : Nat) : Int) = (ps.length : Int) + (qs.length : Int) := by omega
  rw [e1] at HG
  clear h1 h2 e1
  go_enter Try.func46, Try.ntmps46
  go_wp2
  go_loop [3, 11] (fun s k => (s = .int .i64 0 ∧ k = .int .i64 0) ∨ (s = .int .i64 (ps.length : Int) ∧ k = .int .i64 1) ∨ (s = .int .i64 ((ps.length : Int) + (qs.length : Int)) ∧ k = .int .i64 2)) (fun _ k => 2 - (intOf k).toNat)
  case atStart => exact .inl ⟨rfl, rfl⟩
  case round =>
    rcases hrel with ⟨rfl, rfl⟩ | ⟨rfl, rfl⟩ | ⟨rfl, rfl⟩
    · go_wp2_with fail
      go_round
      case rel => exact .inr (.inl ⟨by go_num, rfl⟩)
      case measure => simp [intOf]
    · go_wp2_with fail
      go_round
      case rel => exact .inr (.inr ⟨by go_num, rfl⟩)
      case measure => simp [intOf]
    · go_wp2_with fail
      refine HG.out.mono ?_
      rintro e w1 ⟨a, c, rfl, ho, hb⟩
      have HO := Lib.hid ho
      have HB := Lib.hid hb
      clear ho hb HG
      go_wp2
      go_loopw [6, 27] (fun s k wr => ∃ (xs : List Nat) (a' : Option Addr) (c' : Nat), s = .slice a' xs.length c' ∧ Own wr w.heap.size (.slice a' xs.length c') xs ∧ Below w.heap.size w wr ∧ ((xs = [] ∧ k = .int .i64 0) ∨ (xs = ps ∧ k = .int .i64 1) ∨ (xs = ps ++ qs ∧ k = .int .i64 2))) (fun _ k _ => 2 - (intOf k).toNat)
      case atStart => exact ⟨[], a, c, rfl, HO.out, HB.out, .inl ⟨rfl, rfl⟩⟩
      case round =>
        clear HO HB
        obtain ⟨xs, a', c', rfl, ho, hb, hk⟩ := hrel
        have HB := Lib.hid hb
        have HO := Lib.hid ho
        have H1' := Lib.hid (H1.out.below hb)
        have H2' := Lib.hid (H2.out.below hb)
        replace hc0 := cell_below hb hc0
        replace hc1 := cell_below hb hc1
        clear hb ho
        rcases hk with ⟨rfl, rfl⟩ | ⟨rfl, rfl⟩ | ⟨rfl, rfl⟩
        · go_wp2_with (at_builtin; refine wpList_appAny (α := Nat) (zs := []) (ys := ps) (B := w.heap.size) rfl _ _ rfl rfl HO.out rfl H1'.out (by simp; omega) HB.out.size ?_; intro a3 c3 w3 ho3 hb3)
          go_roundw
          case rel => exact ⟨ps, a3, c3, by simp, by simpa using ho3, HB.out.trans hb3, .inr (.inl ⟨rfl, rfl⟩)⟩
          case measure => simp [intOf]
        · go_wp2_with (at_builtin; refine wpList_appAny (α := Nat) (zs := xs) (ys := qs) (B := w.heap.size) rfl _ _ rfl rfl HO.out rfl H2'.out (by omega) HB.out.size ?_; intro a3 c3 w3 ho3 hb3)
          go_roundw
          case rel => exact ⟨xs ++ qs, a3, c3, by simp, by rw [List.length_append]; exact ho3, HB.out.trans hb3, .inr (.inr ⟨rfl, rfl⟩)⟩
          case measure => simp [intOf]
        · go_wp2_with fail
          go_ret
          exact ⟨a', c', rfl, HO.out, HB.out⟩
end Go.Proofs.Ytijkgplglfmfnaa.G

namespace Go.Proofs.Ytijkgplglfmfnaa.P
open Go Go.RowKit Go.Shelf
open G.S (codeV Cd code_box length_any within_yes within_no within_low box4_at)
open G (Box IRow Idx ret_bool)

theorem nz_any (x : PM.G) (w : World) :
    Calls Try.prog 67 #[.int .u8 (x.v : Int)] w fun e w' => e = .returned (.bool ((x.v : Int) != 0)) ∧ w' = w := by
  go_enter Try.func67, Try.ntmps67
  go_wp2
  go_ret
  exact ⟨rfl, rfl⟩
theorem enters_nz : ∀ args w, (callFunc 67 args).run Try.prog w = .ok (.enter 67 args) w := enters_of Try.func67 (by kernel_rfl) rfl
set_option maxRecDepth 100000 in
set_option maxHeartbeats 1000000 in
theorem indexFuncB_any (a : Option Addr) (cap : Nat) (zs : List PM.G) (w : World) (hR : Row w a zs cap) :
    Calls Try.prog 85 #[.slice a zs.length cap, .func (.func 67) #[] #[]] w fun e w' => (∃ r, e = .returned (.int .i64 r) ∧ Idx (fun j => PM.el zs j ≠ 0) zs.length r) ∧ w = w' := by
  have hroom := hR.room
  have hmost := hR.most
  have HR := Lib.hid hR
  have eg := enters_nz
  clear hR
  go_enter Try.func85, Try.ntmps85
  go_wp2
  go_loopw [8] (fun i wr => ∃ k : Nat, i = .int .i64 (k : Int) ∧ k ≤ zs.length ∧ Hid (∀ j, j < k → ¬ PM.el zs j ≠ 0) ∧ wr = w) (fun i _ => zs.length - (intOf i).toNat)
  case atStart => exact ⟨0, rfl, Nat.zero_le _, Lib.hid (fun j hj => absurd hj (Nat.not_lt_zero _)), rfl⟩
  case round =>
    obtain ⟨k, rfl, hk, hA, rfl⟩ := hrel
    by_cases hlt : k < zs.length
    · obtain ⟨b, off, rfl, hcell⟩ := HR.out.el k hlt
      obtain ⟨x, hx⟩ : ∃ x, PM.el zs k = x := ⟨_, rfl⟩
      rw [hx] at hcell
      have HX := Lib.hid hx
      have hcall := fun W => nz_any x W
      clear hx
      by_cases h0 : x = 0
      · rw [gv_zero h0] at hcall
        have H0 := Lib.hid h0
        have HC := Lib.hid hcall
        clear h0 hcall
        go_wp2_with (go_at_fn 67; refine (HC.out _).mono ?_; rintro e w' ⟨rfl, hw⟩; obtain rfl := hw.symm)
        go_roundw
        case rel =>
          refine ⟨k + 1, by go_num, by omega, Lib.hid (fun j hj => ?_), by first | rfl | trivial⟩
          by_cases e : j = k
          · subst e; rw [HX.out, H0.out]; exact fun h => h rfl
          · exact hA.out j (by omega)
        case measure => simp [intOf]; omega
      · rw [gv_ne h0] at hcall
        have H0 := Lib.hid h0
        have HC := Lib.hid hcall
        clear h0 hcall
        go_wp2_with (go_at_fn 67; refine (HC.out _).mono ?_; rintro e w' ⟨rfl, hw⟩; obtain rfl := hw.symm)
        go_ret
        exact ⟨⟨_, rfl, .inr ⟨k, rfl, hlt, by show PM.el zs k ≠ 0; rw [HX.out]; exact H0.out, hA.out⟩⟩, rfl⟩
    · go_wp2
      go_ret
      exact ⟨⟨_, rfl, .inl ⟨rfl, fun j hj => hA.out j (by omega)⟩⟩, rfl⟩
theorem containsB_any (a : Option Addr) (cap : Nat) (zs : List PM.G) (w : World) (hR : Row w a zs cap) (t : Bool) (ht : t = true ↔ ∃ j, j < zs.length ∧ PM.el zs j ≠ 0) :
    Calls Try.prog 66 #[.slice a zs.length cap, .func (.func 67) #[] #[]] w fun e w' => e = .returned (.bool t) ∧ w = w' := by
  have HI := Lib.hid (indexFuncB_any a cap zs w hR)
  have HT := Lib.hid ht
  clear hR ht
  go_enter Try.func66, Try.ntmps66
  go_wp2_with fail
  refine HI.out.mono ?_
  rintro e w1 ⟨⟨r, rfl, hi⟩, rfl⟩
  have HX := Lib.hid (hi.any HT.out)
  clear hi
  go_wp2
  go_ret
  exact ⟨ret_bool HX.out, rfl⟩
/-- **symbol.isZero** -/
theorem isZero_any (a : Option Addr) (cap : Nat) (zs : List PM.G) (w : World) (hR : Row w a zs cap) (t : Bool) (ht : t = true ↔ ∀ j, j < zs.length → PM.el zs j = 0) :
    Calls Try.prog 42 #[.slice a zs.length cap] w fun e w' => e = .returned (.bool t) ∧ w = w' := by
  have HC := Lib.hid (containsB_any a cap zs w hR (!t) (by
    cases t with
    | true => exact ⟨fun h => (by cases h), fun ⟨j, h1, h2⟩ => absurd (ht.1 rfl j h1) h2⟩
    | false =>
      refine ⟨fun _ => ?_, fun _ => rfl⟩
      apply Classical.byContradiction
      intro h
      have := ht.2 (fun j hj => Classical.byContradiction (fun h2 => h ⟨j, hj, h2⟩))
      cases this))
  clear hR ht
  go_enter Try.func42, Try.ntmps42
  go_wp2_with fail
  refine HC.out.mono ?_
  rintro e w1 ⟨rfl, rfl⟩
  go_wp2
  go_ret
  exact ⟨ret_bool (by cases t <;> rfl), rfl⟩

set_option maxRecDepth 100000 in
set_option maxHeartbeats 1000000 in
/-- **symbol.ascends** -/
theorem ascends_any (a : Option Addr) (cap : Nat) (zs : List Int) (w : World) (hR : IRow w a zs cap) (t : Bool) (ht : t = true ↔ ∀ k, k + 1 < zs.length → IN.el zs k < IN.el zs (k + 1)) :
    Calls Try.prog 65 #[.slice a zs.length cap] w fun e w' => e = .returned (.bool t) ∧ Dr w w' := by
  have hroom := hR.room
  have hmost := hR.most
  have HR := Lib.hid hR
  have HT := Lib.hid ht
  clear hR ht
  go_enter Try.func65, Try.ntmps65
  go_wp2_with fail
  go_loopw [3] (fun i wr => ∃ k : Nat, i = .int .i64 (k : Int) ∧ 1 ≤ k ∧ (k ≤ zs.length ∨ k = 1) ∧ Hid (∀ j, j + 1 < k → IN.el zs j < IN.el zs (j + 1)) ∧ Dr w wr) (fun i _ => zs.length - (intOf i).toNat)
  case atStart => exact ⟨1, rfl, Nat.le_refl _, .inr rfl, Lib.hid (fun j hj => by omega), Dr.refl _⟩
  case round =>
    obtain ⟨k, rfl, hk1, hk, hA, hd⟩ := hrel
    have HD := Lib.hid hd
    clear hd
    by_cases hlt : k < zs.length
    · obtain ⟨j, rfl⟩ : ∃ j, k = j + 1 := ⟨k - 1, by omega⟩
      obtain ⟨b, off, rfl, hcell⟩ := HR.out.el (j + 1) hlt
      obtain ⟨b', off', e', hcell'⟩ := HR.out.el j (by omega)
      cases e'
      have q1 : wr.drew.cell? ⟨b, off + (j + 1), none⟩ = some (.int .i64 (IN.el zs (j + 1))) := by obtain ⟨m, e⟩ := HD.out; rw [e]; exact hcell
      have q2 : wr.drew.cell? ⟨b, off + j, none⟩ = some (.int .i64 (IN.el zs j)) := by obtain ⟨m, e⟩ := HD.out; rw [e]; exact hcell'
      have hj0 : (0 : Int) ≤ (j : Int) + 1 := by omega
      obtain ⟨x, hx⟩ : ∃ x, IN.el zs j = x := ⟨_, rfl⟩
      obtain ⟨y, hy⟩ : ∃ y, IN.el zs (j + 1) = y := ⟨_, rfl⟩
      rw [hx] at q2
      rw [hy] at q1
      have HX := Lib.hid (And.intro hx hy)
      have ej : ((j + 1 : Nat) : Int) = (j : Int) + 1 := rfl
      clear hx hy hcell hcell'
      by_cases hle : y ≤ x
      · obtain rfl : t = false := by
          cases t with
          | false => rfl
          | true =>
            have := HT.out.1 rfl j hlt
            rw [HX.out.1, HX.out.2] at this
            omega
        clear HT HX
        go_wp2_with fail
        go_region
        go_wp2_with fail
        go_ret
        exact ⟨rfl, HD.out.drewN 1⟩
      · have HL := Lib.hid hle
        go_wp2_with fail
        go_region
        go_wp2_with fail
        go_roundw
        case rel =>
          refine ⟨j + 1 + 1, by go_num, by omega, .inl hlt, Lib.hid (fun i hi => ?_), HD.out.drewN 1⟩
          by_cases e : i = j
          · subst e; rw [HX.out.1, HX.out.2]; omega
          · exact hA.out i (by omega)
        case measure => simp [intOf]; omega
    · obtain rfl : t = true := by
        exact HT.out.2 (fun i hi => hA.out i (by omega))
      go_wp2
      go_ret
      exact ⟨rfl, HD.out⟩

theorem out_any {D C F : Nat} (hc : Cd D C F) (b : Nat) (x : Int) (w : World) (c0 : w.cell? ⟨b, 0, none⟩ = some (.int .i64 2)) (c1 : w.cell? ⟨b, 1, none⟩ = some (.int .i64 (D : Int))) (c2 : w.cell? ⟨b, 2, none⟩ = some (.int .i64 (C : Int))) (c3 : w.cell? ⟨b, 3, none⟩ = some (.int .i64 (F : Int)))
    (t : Bool) (ht : t = true ↔ ¬ (0 ≤ x ∧ x < ((D + C : Nat) : Int))) :
    Calls Try.prog 63 #[.int .i64 x, .pointer (some ⟨b, 0, none⟩)] w fun e w' => e = .returned (.bool t) ∧ Below w.heap.size w w' := by
  have hL := fun W => length_any hc W
  have h1 := hc.d2
  have h2 := hc.c2
  obtain ⟨m, hm⟩ : ∃ m, D + C = m := ⟨_, rfl⟩
  rw [hm] at hL ht
  have HL := Lib.hid hL
  have hm1 : m ≤ 40 := by omega
  have hW : ∀ W, Calls Try.prog 55 #[.int .i64 x, .int .i64 0, .int .i64 ((m : Int) - 1)] W fun e w' => e = .returned (.bool (!t)) ∧ W = w' := fun W => by
    cases t with
    | true =>
      have := ht.1 rfl
      by_cases h0 : 0 ≤ x
      · exact within_no _ _ _ h0 (by omega) W
      · exact within_low _ _ _ h0 W
    | false =>
      have : 0 ≤ x ∧ x < (m : Int) := Classical.byContradiction (fun h => by have := ht.2 h; cases this)
      exact within_yes _ _ _ this.1 (by omega) W
  have HW := Lib.hid hW
  unfold codeV at *
  clear hL hW ht hm hc
  go_enter Try.func63, Try.ntmps63
  go_wp2_with fail
  (with_reducible refine (HL.out _).mono ?_)
  rintro e w2 ⟨rfl, hb2⟩
  have HB2 := Lib.hid hb2
  clear hb2
  go_wp2_with fail
  (with_reducible refine (HW.out _).mono ?_)
  rintro e w3 ⟨rfl, rfl⟩
  go_wp2_with fail
  go_ret
  exact ⟨ret_bool (by cases t <;> rfl), HB2.out⟩
theorem enters_out : ∀ args w, (callFunc 63 args).run Try.prog w = .ok (.enter 63 args) w := enters_of Try.func63 (by kernel_rfl) rfl

/-- What is wrong with a list of places, as a number. -/
def PlErr (n C : Nat) (es : List Int) (r : Int) : Prop :=
  (r = 2 ∧ ∃ j, j < es.length ∧ ¬ (0 ≤ IN.el es j ∧ IN.el es j < (n : Int))) ∨
  ((∀ j, j < es.length → 0 ≤ IN.el es j ∧ IN.el es j < (n : Int)) ∧ ((r = 17 ∧ ¬ ∀ k, k + 1 < es.length → IN.el es k < IN.el es (k + 1)) ∨
    ((∀ k, k + 1 < es.length → IN.el es k < IN.el es (k + 1)) ∧ ((r = 3 ∧ C < es.length) ∨ (r = 0 ∧ es.length ≤ C)))))
theorem plErr_some (n C : Nat) (es : List Int) : ∃ r, PlErr n C es r := by
  by_cases h1 : ∃ j, j < es.length ∧ ¬ (0 ≤ IN.el es j ∧ IN.el es j < (n : Int))
  · exact ⟨2, .inl ⟨rfl, h1⟩⟩
  · have h1' : ∀ j, j < es.length → 0 ≤ IN.el es j ∧ IN.el es j < (n : Int) := fun j hj => Classical.byContradiction (fun h => h1 ⟨j, hj, h⟩)
    by_cases h2 : ∀ k, k + 1 < es.length → IN.el es k < IN.el es (k + 1)
    · by_cases h3 : C < es.length
      · exact ⟨3, .inr ⟨h1', .inr ⟨h2, .inl ⟨rfl, h3⟩⟩⟩⟩
      · exact ⟨0, .inr ⟨h1', .inr ⟨h2, .inr ⟨rfl, by omega⟩⟩⟩⟩
    · exact ⟨17, .inr ⟨h1', .inl ⟨rfl, h2⟩⟩⟩
end Go.Proofs.Ytijkgplglfmfnaa.P

namespace Go.Proofs.Ytijkgplglfmfnaa.P
open Go Go.RowKit Go.Shelf
open G.S (codeV Cd code_box length_any box4_at)
open G (Box IRow Idx ret_bool)

def outB (n : Nat) (x : Int) : Bool := !(decide (0 ≤ x) && decide (x < (n : Int)))
theorem outB_iff (n : Nat) (x : Int) : outB n x = true ↔ ¬ (0 ≤ x ∧ x < (n : Int)) := by
  unfold outB
  by_cases h1 : 0 ≤ x <;> by_cases h2 : x < (n : Int) <;> simp only [h1, h2, decide_true, decide_false, Bool.and_true, Bool.and_false, Bool.not_true, Bool.not_false, true_and, false_and, and_self, not_true, not_false_iff, Bool.false_eq_true]
theorem containsI_any (a : Option Addr) (cap : Nat) (zs : List Int) (w : World) (hR : IRow w a zs cap) (g : Nat) (lb : Array Value) (eg : ∀ args w, (callFunc g args).run Try.prog w = .ok (.enter g args) w) (p : Int → Bool)
    (hp : ∀ (x : Int) (W : World), Below w.heap.size w W → -9223372036854775808 ≤ x → x ≤ 9223372036854775807 → Calls Try.prog g (#[.int .i64 x] ++ lb) W fun e w' => e = .returned (.bool (p x)) ∧ Below W.heap.size W w')
    (hz : ∀ j, j < zs.length → -9223372036854775808 ≤ IN.el zs j ∧ IN.el zs j ≤ 9223372036854775807) (t : Bool) (ht : t = true ↔ ∃ j, j < zs.length ∧ p (IN.el zs j) = true) :
    Calls Try.prog 64 #[.slice a zs.length cap, .func (.func g) #[] lb] w fun e w' => e = .returned (.bool t) ∧ Below w.heap.size w w' := by
  have HI := Lib.hid (G.indexFuncI_any a cap zs w hR g lb eg p hp hz)
  have HT := Lib.hid ht
  clear hR ht hp hz
  go_enter Try.func64, Try.ntmps64
  go_wp2_with fail
  refine HI.out.mono ?_
  rintro e w1 ⟨⟨r, rfl, hi⟩, hb⟩
  have HX := Lib.hid (hi.any HT.out)
  have HB := Lib.hid hb
  clear hi hb
  go_wp2
  go_ret
  exact ⟨ret_bool HX.out, HB.out⟩

set_option maxRecDepth 100000 in
set_option maxHeartbeats 1000000 in
/-- **symbol.errorOfPlaces** -/
theorem errorOfPlaces_any {D C F : Nat} (hc : Cd D C F) (a : Option Addr) (es : List Int) (cap : Nat) (w : World) (hR : IRow w a es cap) (hz : ∀ j, j < es.length → -9223372036854775808 ≤ IN.el es j ∧ IN.el es j ≤ 9223372036854775807) (r : Int) (hr : PlErr (D + C) C es r) :
    Calls Try.prog 41 #[codeV D C F, .slice a es.length cap] w fun e w' => e = .returned (.int .i64 r) ∧ Below w.heap.size w w' := by
  have hroom := hR.room
  have hmost := hR.most
  have hmf : ∀ (fn : Fn) (first cap : Array Value) (w : World), (Instr.makeFunc fn first cap).run Try.prog w = .ok (.func fn first cap) w := fun _ _ _ _ => rfl
  obtain ⟨w1, hw1, c0, c1, c2, c3, hB, hX⟩ := code_box w D C F 28
  have HR1 := Lib.hid (hR.below hB)
  have hcon := fun (t : Bool) (ht : t = true ↔ ∃ j, j < es.length ∧ outB (D + C) (IN.el es j) = true) =>
    containsI_any a cap es w1 (hR.below hB) 63 #[.pointer (some ⟨w.heap.size, 0, none⟩)] enters_out (outB (D + C)) (fun x W hb _ _ =>
      out_any hc w.heap.size x W (G.cell_below hb c0) (G.cell_below hb c1) (G.cell_below hb c2) (G.cell_below hb c3) _ (outB_iff _ _)) hz t ht
  have HCON := Lib.hid hcon
  have HB := Lib.hid hB
  have hmem : (∃ j, j < es.length ∧ outB (D + C) (IN.el es j) = true) ↔ ∃ j, j < es.length ∧ ¬ (0 ≤ IN.el es j ∧ IN.el es j < ((D + C : Nat) : Int)) := by
    constructor
    · rintro ⟨j, h1, h2⟩; exact ⟨j, h1, (outB_iff _ _).1 h2⟩
    · rintro ⟨j, h1, h2⟩; exact ⟨j, h1, (outB_iff _ _).2 h2⟩
  have HMEM := Lib.hid hmem
  unfold codeV at *
  clear hB hR hz hcon hmem
  rcases hr with ⟨rfl, h⟩ | ⟨hall, hr⟩
  · have HC := Lib.hid (HCON.out true ⟨fun _ => HMEM.out.2 h, fun _ => rfl⟩)
    clear h HCON HMEM
    go_enter Try.func41, Try.ntmps41
    go_wp2_with fail
    (with_reducible refine HC.out.mono ?_)
    rintro e w2 ⟨rfl, hb2⟩
    go_wp2_with fail
    go_ret
    exact ⟨rfl, HB.out.trans (hb2.mono HB.out.size)⟩
  · have HC := Lib.hid (HCON.out false ⟨fun h => (by cases h), fun h => (by obtain ⟨j, h1, h2⟩ := HMEM.out.1 h; exact absurd (hall j h1) h2)⟩)
    clear hall HCON HMEM
    rcases hr with ⟨rfl, h⟩ | ⟨hasc, hr⟩
    · have HA := fun (W : World) (hr : IRow W a es cap) => ascends_any a cap es W hr false ⟨fun h => (by cases h), fun h2 => absurd h2 h⟩
      have HAS := Lib.hid HA
      clear h HA
      go_enter Try.func41, Try.ntmps41
      go_wp2_with fail
      (with_reducible refine HC.out.mono ?_)
      rintro e w2 ⟨rfl, hb2⟩
      have HB2 := Lib.hid (HB.out.trans (hb2.mono HB.out.size))
      have HA2 := Lib.hid (HAS.out w2 (HR1.out.below hb2))
      clear hb2
      go_wp2_with fail
      (with_reducible refine HA2.out.mono ?_)
      rintro e w3 ⟨rfl, m3, rfl⟩
      go_wp2_with fail
      go_ret
      exact ⟨rfl, belowN HB2.out m3⟩
    · have HA := fun (W : World) (hr : IRow W a es cap) => ascends_any a cap es W hr true ⟨fun _ => hasc, fun _ => rfl⟩
      have HAS := Lib.hid HA
      clear HA hasc
      rcases hr with ⟨rfl, h⟩ | ⟨rfl, h⟩
      · have hlt : (C : Int) < (es.length : Int) := by omega
        go_enter Try.func41, Try.ntmps41
        go_wp2_with fail
        (with_reducible refine HC.out.mono ?_)
        rintro e w2 ⟨rfl, hb2⟩
        have HB2 := Lib.hid (HB.out.trans (hb2.mono HB.out.size))
        have HA2 := Lib.hid (HAS.out w2 (HR1.out.below hb2))
        replace c2 := G.cell_below hb2 c2
        clear hb2
        go_wp2_with fail
        (with_reducible refine HA2.out.mono ?_)
        rintro e w3 ⟨rfl, m3, rfl⟩
        have c2' : (w2.drewN m3).cell? ⟨w.heap.size, 2, none⟩ = some (.int .i64 (C : Int)) := c2
        go_wp2_with fail
        go_ret
        exact ⟨rfl, belowN HB2.out m3⟩
      · have hlt : ¬ (C : Int) < (es.length : Int) := by omega
        go_enter Try.func41, Try.ntmps41
        go_wp2_with fail
        (with_reducible refine HC.out.mono ?_)
        rintro e w2 ⟨rfl, hb2⟩
        have HB2 := Lib.hid (HB.out.trans (hb2.mono HB.out.size))
        have HA2 := Lib.hid (HAS.out w2 (HR1.out.below hb2))
        replace c2 := G.cell_below hb2 c2
        clear hb2
        go_wp2_with fail
        (with_reducible refine HA2.out.mono ?_)
        rintro e w3 ⟨rfl, m3, rfl⟩
        have c2' : (w2.drewN m3).cell? ⟨w.heap.size, 2, none⟩ = some (.int .i64 (C : Int)) := c2
        go_wp2_with fail
        go_ret
        exact ⟨rfl, belowN HB2.out m3⟩

/-- The places at which two words differ. -/
def diff (xs ys : List PM.G) (n : Nat) : List Nat := (List.range n).filter (fun i => decide (PM.el xs i ≠ PM.el ys i))
theorem diff_yes {xs ys : List PM.G} {n : Nat} (h : PM.el xs n ≠ PM.el ys n) : diff xs ys (n + 1) = diff xs ys n ++ [n] := by
  unfold diff
  rw [List.range_succ, List.filter_append]
  simp [h]
theorem diff_no {xs ys : List PM.G} {n : Nat} (h : PM.el xs n = PM.el ys n) : diff xs ys (n + 1) = diff xs ys n := by
  unfold diff
  rw [List.range_succ, List.filter_append]
  simp [h]
theorem diff_le (xs ys : List PM.G) (n : Nat) : (diff xs ys n).length ≤ n := by
  unfold diff
  have := List.length_filter_le (fun i => decide (PM.el xs i ≠ PM.el ys i)) (List.range n)
  rwa [List.length_range] at this
theorem mem_diff {xs ys : List PM.G} {n i : Nat} : i ∈ diff xs ys n ↔ i < n ∧ PM.el xs i ≠ PM.el ys i := by
  unfold diff
  rw [List.mem_filter, List.mem_range, decide_eq_true_iff]
theorem diff_0 (xs ys : List PM.G) : diff xs ys 0 = [] := rfl
theorem beq_G {x y : PM.G} : ((x.v : Int) != (y.v : Int)) = decide (x ≠ y) := by
  rw [Bool.eq_iff_iff, bne_iff_ne, decide_eq_true_iff]
  exact ⟨fun h e => h (by rw [e]), fun h e => h (PM.G.ext' (by omega))⟩
attribute [irreducible] diff

set_option maxRecDepth 100000 in
set_option maxHeartbeats 1000000 in
/-- **symbol.differences** -/
theorem differences_any (a b : Option Addr) (xs ys : List PM.G) (ca cb n : Nat) (w : World) (hX : Row w a xs ca) (hY : Row w b ys cb) (hx : xs.length = n) (hy : ys.length = n) (hn : n ≤ 1000) :
    Calls Try.prog 48 #[.slice a n ca, .slice b n cb] w fun e W => ∃ a' c', e = .returned (.slice a' (diff xs ys n).length c') ∧ G.Own W w.heap.size (.slice a' (diff xs ys n).length c') (diff xs ys n) ∧ Below w.heap.size w W := by
  have hr1 := hX.room
  have hm1 := hX.most
  have hr2 := hY.room
  have hm2 := hY.most
  rw [hx] at hr1
  rw [hy] at hr2
  have HX := Lib.hid hX
  have HY := Lib.hid hY
  have HL := Lib.hid (And.intro hx hy)
  clear hX hY hx hy
  go_enter Try.func48, Try.ntmps48
  go_wp2
  go_loopw [5, 9] (fun s k wr => ∃ (i : Nat) (l : List Nat) (a' : Option Addr) (c' : Nat), k = .int .i64 (i : Int) ∧ i ≤ n ∧ l = diff xs ys i ∧ s = .slice a' l.length c' ∧ G.Own wr w.heap.size (.slice a' l.length c') l ∧ Below w.heap.size w wr) (fun _ k _ => n - (intOf k).toNat)
  case atStart => exact ⟨0, [], none, 0, rfl, by omega, (diff_0 xs ys).symm, rfl, G.Own.nil _ _, Below.refl _ _⟩
  case round =>
    obtain ⟨i, l, a', c', rfl, hi, hl, rfl, ho, hb⟩ := hrel
    have HO := Lib.hid ho
    have HB := Lib.hid hb
    have HLL := Lib.hid hl
    have HX1 := Lib.hid (HX.out.below hb)
    have HY1 := Lib.hid (HY.out.below hb)
    have hll : l.length ≤ 1000 := by have := diff_le xs ys i; rw [← hl] at this; omega
    clear ho hb hl
    by_cases hlt : i < n
    · obtain ⟨b1, o1, rfl, hc1⟩ := HX1.out.el i (by rw [HL.out.1]; exact hlt)
      obtain ⟨b2, o2, rfl, hc2⟩ := HY1.out.el i (by rw [HL.out.2]; exact hlt)
      obtain ⟨x, hx⟩ : ∃ x, PM.el xs i = x := ⟨_, rfl⟩
      obtain ⟨y, hy⟩ : ∃ y, PM.el ys i = y := ⟨_, rfl⟩
      rw [hx] at hc1
      rw [hy] at hc2
      have HXY := Lib.hid (And.intro hx hy)
      have q1 : wr.drew.cell? ⟨b1, o1 + i, none⟩ = some (.int .u8 (x.v : Int)) := hc1
      have q2 : wr.drew.cell? ⟨b2, o2 + i, none⟩ = some (.int .u8 (y.v : Int)) := hc2
      have hne := @beq_G x y
      clear hx hy hc1 hc2
      have HBD := Lib.hid (belowN HB.out 1)
      by_cases h : x = y
      · rw [decide_eq_false (fun h2 => h2 h)] at hne
        have HN := Lib.hid (show l = diff xs ys (i + 1) by rw [HLL.out]; exact (diff_no (by rw [HXY.out.1, HXY.out.2, h])).symm)
        clear h HXY
        go_wp2_with fail
        go_region
        go_wp2_with fail
        go_roundw
        case rel => exact ⟨i + 1, l, a', c', by go_num, hlt, HN.out, rfl, HO.out.drewN 1, HBD.out⟩
        case measure => simp [intOf]; omega
      · rw [decide_eq_true h] at hne
        have HN := Lib.hid (show l ++ [i] = diff xs ys (i + 1) by rw [HLL.out]; exact (diff_yes (by rw [HXY.out.1, HXY.out.2]; exact h)).symm)
        clear h HXY
        go_wp2_with fail
        go_region
        have HOD := Lib.hid (show G.Own wr.drew w.heap.size (.slice a' l.length c') l from HO.out.drewN 1)
        obtain ⟨wd, hwd⟩ : ∃ wd, wr.drew = wd := ⟨_, rfl⟩
        have hbd : Below w.heap.size w wd := by rw [← hwd]; exact HBD.out
        rw [hwd] at HOD ⊢
        have HBW := Lib.hid hbd
        clear hbd q1 q2 HBD HO HB
        go_wp2_with (at_builtin; refine G.wpList_app1 (α := Nat) rfl _ _ rfl i rfl (HOD.out.alloc _) rfl (G.cell_new _ _ _) (by omega) (by have := HBW.out.size; simp; omega) ?_; intro a3 c3 w3 ho3 hg3 hb3 _)
        go_roundw
        case rel =>
          refine ⟨i + 1, l ++ [i], a3, c3, by go_num, hlt, HN.out, by rw [List.length_append]; rfl, by rw [List.length_append]; exact ho3, ?_⟩
          exact HBW.out.trans (((Below.refl w.heap.size wd).alloc HBW.out.size _).trans hb3)
        case measure => simp [intOf]; omega
    · obtain rfl : i = n := by omega
      go_wp2
      go_ret
      exact ⟨a', c', by rw [← HLL.out]; rfl, by rw [← HLL.out]; exact HO.out, HB.out⟩
end Go.Proofs.Ytijkgplglfmfnaa.P

namespace Go.Proofs.Ytijkgplglfmfnaa.P
open Go Go.RowKit Go.Shelf
attribute [local go_sem] Oper.semAt_some

/-- The cells of divide. -/
structure DivC (w : World) (s g gr bs n m cr cb : Nat) (b : Option Addr) (q : List PM.G) (W : World) : Prop where
  c0 : W.cell? ⟨w.heap.size, 0, none⟩ = some (.slice b q.length cb)
  c1 : W.cell? ⟨w.heap.size + 1, 0, none⟩ = some (.slice (some ⟨g, 0, none⟩) n n)
  f1 : W.frozen? ⟨w.heap.size + 1, 0, none⟩ = false
  c2 : W.cell? ⟨w.heap.size + 1 + 1, 0, none⟩ = some (.slice (some ⟨gr, 0, none⟩) m cr)
  f2 : W.frozen? ⟨w.heap.size + 1 + 1, 0, none⟩ = false
  c6 : W.cell? ⟨s, 0, none⟩ = some (.int .i64 ((q.length : Int) - 1))
  c7 : W.cell? ⟨s + 1, 0, none⟩ = some (.int .u8 ((PM.el q (q.length - 1)).inv.v : Int))
  cb : W.cell? ⟨bs, 0, none⟩ = some (.slice (some ⟨g, 0, none⟩) n n)
/-- The cells before there is a quotient. -/
structure DivC0 (w : World) (s gr m cr cb : Nat) (b : Option Addr) (q : List PM.G) (W : World) : Prop where
  c0 : W.cell? ⟨w.heap.size, 0, none⟩ = some (.slice b q.length cb)
  c1 : W.cell? ⟨w.heap.size + 1, 0, none⟩ = some (.slice none 0 0)
  f1 : W.frozen? ⟨w.heap.size + 1, 0, none⟩ = false
  c2 : W.cell? ⟨w.heap.size + 1 + 1, 0, none⟩ = some (.slice (some ⟨gr, 0, none⟩) m cr)
  f2 : W.frozen? ⟨w.heap.size + 1 + 1, 0, none⟩ = false
  c6 : W.cell? ⟨s, 0, none⟩ = some (.int .i64 ((q.length : Int) - 1))
theorem DivC0.alloc {w W : World} {s gr m cr cb : Nat} {b : Option Addr} {q : List PM.G} (h : DivC0 w s gr m cr cb b q W) (o : Obj) : DivC0 w s gr m cr cb b q (W.alloc o) :=
  ⟨cell_later _ h.c0, cell_later _ h.c1, frozen_later _ h.c1 h.f1, cell_later _ h.c2, frozen_later _ h.c2 h.f2, cell_later _ h.c6⟩
theorem DivC0.below {w W W' : World} {s gr m cr cb : Nat} {b : Option Addr} {q : List PM.G} (h : DivC0 w s gr m cr cb b q W) (hb : Below W.heap.size W W') : DivC0 w s gr m cr cb b q W' :=
  ⟨cell_below hb h.c0, cell_below hb h.c1, frozen_below hb h.c1 h.f1, cell_below hb h.c2, frozen_below hb h.c2 h.f2, cell_below hb h.c6⟩
/-- What holds in divide's loop when k elements are still to come. -/
def DivI (w : World) (s g gr bs n m cr cb : Nat) (b : Option Addr) (p q : List PM.G) (k : Nat) (W : World) : Prop :=
  DivC w s g gr bs n m cr cb b q W ∧
  ∃ A R : List PM.G, Own W w.heap.size (.slice (some ⟨g, 0, none⟩) n n) A ∧ A.length = n ∧ Own W w.heap.size (.slice (some ⟨gr, 0, none⟩) m cr) R ∧ R.length = m ∧ (∀ j, j < k → PM.el A j = 0) ∧
    (∀ j, k + (q.length - 1) ≤ j → PM.el R j = 0) ∧ (∀ j, PM.el p j = PM.conv (PM.el A) (PM.el q) j + PM.el R j) ∧ Below w.heap.size w W
theorem divI_own {w : World} {s g gr bs n m cr cb : Nat} {b : Option Addr} {p q : List PM.G} {B0 : Nat} (hB0 : w.heap.size ≤ B0) : OwnFrom B0 (DivI w s g gr bs n m cr cb b p q) := by
  refine OwnFrom.and (Own.from (fun _ _ _ _ hs hg hr => ⟨cell_kept hs.c0 hg hr, cell_kept hs.c1 hg hr, (frozen_kept hs.c1 hg hr).trans hs.f1, cell_kept hs.c2 hg hr, (frozen_kept hs.c2 hg hr).trans hs.f2, cell_kept hs.c6 hg hr, cell_kept hs.c7 hg hr, cell_kept hs.cb hg hr⟩) _) ?_
  rintro k W W' row ⟨A, R, h1, h2, h3, h4, h5, h6, h7, h8⟩ hg hr
  exact ⟨A, R, ownFrom_own (B0 := B0) (fun (_ : Unit) => A) () _ _ _ h1 hg hr, h2, ownFrom_own (B0 := B0) (fun (_ : Unit) => R) () _ _ _ h3 hg hr, h4, h5, h6, h7, ownFrom_below (β := Unit) (Nat.le_refl _) hB0 () _ _ _ h8 hg hr⟩

theorem divI_start {w w8 w9 : World} {s gr n cr cb : Nat} {b : Option Addr} {p q : List PM.G} (hC8 : DivC0 w s gr p.length cr cb b q w8) (h87 : w8.cell? ⟨s + 1, 0, none⟩ = some (.int .u8 ((PM.el q (q.length - 1)).inv.v : Int)))
    (hs8 : w8.heap.size = s + 1 + 1) (hB8 : Below w.heap.size w w8) (hO8 : Own w8 (w.heap.size + 3) (.slice (some ⟨gr, 0, none⟩) p.length cr) p)
    (hO9 : Own w9 (s + 1 + 1) (.slice (some ⟨s + 1 + 1, 0, none⟩) (List.replicate n (0 : PM.G)).length n) (List.replicate n 0)) (hB9 : Below (s + 1 + 1) w8 w9) (hgr : w.heap.size + 3 ≤ gr) (hgr2 : gr < s) (hq0 : 0 < q.length) (hl : q.length ≤ p.length)
    (hn : p.length - (q.length - 1) = n) :
    DivI w s (s + 1 + 1) gr w9.heap.size n p.length cr cb b p q n ((w9.setCell ⟨w.heap.size + 1, 0, none⟩ (.slice (some ⟨s + 1 + 1, 0, none⟩) n n)).alloc (.cells #[.slice (some ⟨s + 1 + 1, 0, none⟩) n n] 30)) := by
  have hb9 : Below w8.heap.size w8 w9 := by rw [hs8]; exact hB9
  have hs9 := hb9.size
  have hC9 := hC8.below hb9
  have h97 := cell_below hb9 h87
  have hsz : (w9.setCell ⟨w.heap.size + 1, 0, none⟩ (.slice (some ⟨s + 1 + 1, 0, none⟩) n n)).heap.size = w9.heap.size := by simp [World.setCell]
  have hB10 := (hB8.trans (hb9.mono hB8.size)).setCell (p := ⟨w.heap.size + 1, 0, none⟩) (by simp) (.slice (some ⟨s + 1 + 1, 0, none⟩) n n)
  rw [List.length_replicate] at hO9
  refine ⟨⟨cell_later _ ((cell_other _ (by simp)).trans hC9.c0), cell_later _ (World.cell?_setCell_same' _ _ _ (by rw [hC9.c1]; rfl)), ?_, cell_later _ ((cell_other _ (by simp)).trans hC9.c2), ?_, cell_later _ ((cell_other _ (by simp <;> omega)).trans hC9.c6), cell_later _ ((cell_other _ (by simp <;> omega)).trans h97), ?_⟩,
    List.replicate n 0, p, ((hO9.setBelow (p := ⟨w.heap.size + 1, 0, none⟩) (by simp <;> omega) _).alloc _).mono (by omega), List.length_replicate, (((hO8.below hb9).setBelow (p := ⟨w.heap.size + 1, 0, none⟩) (by simp <;> omega) _).alloc _).mono (by omega), rfl, fun j _ => PM.el_replicate n j,
    fun j hj => PM.el_ge (by omega), fun j => ?_, hB10.alloc (by rw [hsz]; omega) _⟩
  · exact frozen_later _ (World.cell?_setCell_same' _ _ _ (by rw [hC9.c1]; rfl)) ((World.frozen?_setCell _ _ _ _).trans hC9.f1)
  · exact frozen_later _ ((cell_other _ (by simp)).trans hC9.c2) ((World.frozen?_setCell _ _ _ _).trans hC9.f2)
  · rw [← hsz]; exact cell_new _ _ _
  · rw [show PM.el (List.replicate n (0 : PM.G)) = PM.zeroC from funext (PM.el_replicate n), PM.conv_zeroC_l, PM.G.zero_add]
/-- Quotient and rest. -/
structure DivEq (p q A r : List PM.G) : Prop where
  eq : ∀ j, PM.el p j = PM.conv (PM.el A) (PM.el q) j + PM.el r j
  less : r.length < q.length
  can : PM.Can r
  canq : PM.Can A
  len : A.length = p.length + 1 - q.length

theorem div_math {p q A R ys : List PM.G} {k d : Nat} {f : PM.G} (hd : k + (q.length - 1) = d) (hk : k < A.length) (hq0 : 0 < q.length) (ht : PM.el q (q.length - 1) ≠ 0) (hzA : ∀ j, j < k + 1 → PM.el A j = 0)
    (hzR : ∀ j, k + 1 + (q.length - 1) ≤ j → PM.el R j = 0) (heq : ∀ j, PM.el p j = PM.conv (PM.el A) (PM.el q) j + PM.el R j) (hf : PM.el R d * (PM.el q (q.length - 1)).inv = f)
    (hy : ∀ j, PM.el ys j = PM.el R j + if j < k then 0 else f * PM.el q (j - k)) :
    (∀ j, j < k → PM.el (A.set k f) j = 0) ∧ (∀ j, k + (q.length - 1) ≤ j → PM.el ys j = 0) ∧ ∀ j, PM.el p j = PM.conv (PM.el (A.set k f)) (PM.el q) j + PM.el ys j := by
  refine ⟨fun j hj => ?_, fun j hj => ?_, fun j => ?_⟩
  · rw [PM.el_set hk, if_neg (by omega)]; exact hzA j (by omega)
  · rw [hy, if_neg (by omega)]
    by_cases e : j = d
    · subst e
      rw [show j - k = q.length - 1 by omega, ← hf, PM.G.mul_assoc, PM.G.mul_comm (PM.G.inv _), PM.G.mul_inv ht, PM.G.mul_one, PM.G.add_self]
    · rw [hzR j (by omega), PM.el_ge (p := q) (by omega), PM.G.mul_zero, PM.G.add_zero]
  · rw [PM.conv_put (PM.el A) (PM.el (A.set k f)) (PM.el q) f k (hzA k (by omega)) (fun i => PM.el_set hk f i), hy, heq]
    generalize PM.conv (PM.el A) (PM.el q) j = u, PM.el R j = v, (if j < k then (0 : PM.G) else f * PM.el q (j - k)) = t
    rw [PM.G.add_comm v t, PM.G.add_assoc, ← PM.G.add_assoc t t, PM.G.add_self, PM.G.zero_add]
theorem div_eq {p q A R r : List PM.G} (hp : Pol p) (hq0 : 0 < q.length) (hl : q.length ≤ p.length) (hr : Pol r) (hco : ∀ k, PM.el r k = PM.el R k) (hz : ∀ j, 0 + (q.length - 1) ≤ j → PM.el R j = 0)
    (heq : ∀ j, PM.el p j = PM.conv (PM.el A) (PM.el q) j + PM.el R j) (hA : A.length = p.length + 1 - q.length) : DivEq p q A r := by
  have hlr : r.length ≤ q.length - 1 := PM.can_len hr.can (fun k hk => by rw [hco]; exact hz k (by omega))
  refine ⟨fun j => by rw [hco]; exact heq j, by omega, hr.can, fun h0 => ?_, hA⟩
  have ht := (PM.conv_top (PM.el A) (PM.el q) (A.length - 1) (q.length - 1) (by rw [show A.length - 1 + 1 = A.length by omega]; exact PM.el_van A) (by rw [show q.length - 1 + 1 = q.length by omega]; exact PM.el_van q)).1
  have hp' := heq (p.length - 1)
  rw [hz (p.length - 1) (by omega), PM.G.add_zero, show p.length - 1 = A.length - 1 + (q.length - 1) by omega, ht] at hp'
  intro e
  rw [e, PM.G.zero_mul] at hp'
  exact hp.can (by omega) (by rw [show p.length - 1 = A.length - 1 + (q.length - 1) by omega]; exact hp')
theorem div_end {w W W2 : World} {g gr n m cr c2 D : Nat} {a2 : Option Addr} {A r : List PM.G} (hB : Below w.heap.size w W) (hA : Own W w.heap.size (.slice (some ⟨g, 0, none⟩) n n) A) (hr : Row W2 a2 r c2) (hb : Below (W.drewN 1).heap.size (W.drewN 1) W2)
    (hgb : ∀ b o, a2 = some ⟨b, o, none⟩ → b = gr) (y1 : W2.cell? ⟨w.heap.size + 1, 0, none⟩ = some (.slice (some ⟨g, 0, none⟩) n n)) (y2 : W2.cell? ⟨w.heap.size + 1 + 1, 0, none⟩ = some (.slice (some ⟨gr, 0, none⟩) m cr))
    (hK : W.heap[D]? = some (.deferred (some []))) (hgr : w.heap.size + 3 ≤ gr) (hD : gr < D) (hg : gr < g) :
    let W5 := ((W2.setCell ⟨w.heap.size + 1, 0, none⟩ (.slice (some ⟨g, 0, none⟩) n n)).setCell ⟨w.heap.size + 1 + 1, 0, none⟩ (.slice a2 r.length c2))
    W5.heap[D]? = some (.deferred (some [])) ∧ (W5.putObj D (.deferred none)).cell? ⟨w.heap.size + 1, 0, none⟩ = some (.slice (some ⟨g, 0, none⟩) n n) ∧ (W5.putObj D (.deferred none)).cell? ⟨w.heap.size + 1 + 1, 0, none⟩ = some (.slice a2 r.length c2) ∧
      Row (W5.putObj D (.deferred none)) (some ⟨g, 0, none⟩) A n ∧ Row (W5.putObj D (.deferred none)) a2 r c2 ∧ Below w.heap.size w (W5.putObj D (.deferred none)) := by
  intro W5
  have hDl : D < W.heap.size := (Array.getElem?_eq_some_iff.1 hK).1
  have hK2 : W2.heap[D]? = some (.deferred (some [])) := (hb.block D hDl).trans hK
  have hK5 : W5.heap[D]? = some (.deferred (some [])) := (Below.heap_setCell _ _ _ D (by simp <;> omega)).trans ((Below.heap_setCell _ _ _ D (by simp <;> omega)).trans hK2)
  have hg5 := grownBy_putObj' W5 D (.deferred none)
  have hA2 : Own W2 w.heap.size (.slice (some ⟨g, 0, none⟩) n n) A := (hA.drewN 1).below hb
  have hA5 : Own W5 w.heap.size (.slice (some ⟨g, 0, none⟩) n n) A := (hA2.other _ (by simp [Value.ownBlock] <;> omega)).other _ (by simp [Value.ownBlock] <;> omega)
  have hr5 : Row W5 a2 r c2 := (hr.grown (grown_set (World.grownBy.refl W2 (some (w.heap.size + 1))) 0 _) (fun b o e => by have := hgb b o e; intro h; cases h; omega)).grown (grown_set (World.grownBy.refl _ (some (w.heap.size + 1 + 1))) 0 _) (fun b o e => by have := hgb b o e; intro h; cases h; omega)
  have hB5 : Below w.heap.size w W5 := (((belowN hB 1).trans (hb.mono hB.size)).setCell (p := ⟨w.heap.size + 1, 0, none⟩) (by simp) _).setCell (p := ⟨w.heap.size + 1 + 1, 0, none⟩) (by simp <;> omega) _
  have hA6 := ownFrom_own (B0 := 0) (fun (_ : Unit) => A) () _ _ _ hA5 hg5 (fun r e => by cases e; exact ⟨Nat.zero_le _, _, hK5, rfl⟩)
  have hl := hA6.len
  refine ⟨hK5, cell_kept ((cell_other _ (by simp)).trans (World.cell?_setCell_same' _ _ _ (by rw [y1]; rfl))) hg5 (fun r e => by cases e; exact ⟨_, hK5, rfl⟩),
    cell_kept (World.cell?_setCell_same' _ _ _ (by rw [(cell_other _ (by simp)).trans y2]; rfl)) hg5 (fun r e => by cases e; exact ⟨_, hK5, rfl⟩),
    (show Own _ w.heap.size (.slice (some ⟨g, 0, none⟩) A.length n) A by rw [← hl]; exact hA6).rowAt, hr5.grown hg5 (fun b o e => by have := hgb b o e; intro h; cases h; omega), ?_⟩
  exact hB5.trans (belowK_b (w := w) (Nat.le_refl _) W5 D _ _ (by have := hB.size; omega) hK5 rfl rfl)
/-- What lies in memory when an element of the quotient has been stored. -/
structure DivM (w W W3 : World) (s g gr bs n m cr cb : Nat) (b : Option Addr) (q A R : List PM.G) (f : PM.G) (k : Nat) : Prop where
  c : DivC w s g gr bs n m cr cb b q W3
  oA : Own W3 w.heap.size (.slice (some ⟨g, 0, none⟩) n n) (A.set k f)
  oR : Own W3 w.heap.size (.slice (some ⟨gr, 0, none⟩) m cr) R
  below : Below w.heap.size w W3
  keeps : ∀ B0, KeepsFrom B0 W W3
  put : W3.cell? ⟨g, k, none⟩ = some (.int .u8 (f.v : Int))
theorem div_mid {w W : World} {s g gr bs n m cr cb k : Nat} {b : Option Addr} {q A R : List PM.G} (hC : DivC w s g gr bs n m cr cb b q W) (hA : Own W w.heap.size (.slice (some ⟨g, 0, none⟩) n n) A)
    (hR : Own W w.heap.size (.slice (some ⟨gr, 0, none⟩) m cr) R) (hB : Below w.heap.size w W) (hl : A.length = n) (hk : k < n) (hgg : g ≠ gr) (hs9 : g ≤ bs) (hg : s + 1 + 1 = g) (hgr1 : w.heap.size + 3 ≤ gr) (hgr2 : gr < s) {f : PM.G} (m2 : Nat) (W3 : World)
    (h3 : (W.drewN m2).setCell ⟨g, k, none⟩ (.int .u8 (f.v : Int)) = W3) : DivM w W W3 s g gr bs n m cr cb b q A R f k := by
  subst h3
  have hx := hA.at k (by omega)
  have hAl : Own W w.heap.size (.slice (some ⟨g, 0, none⟩) A.length n) A := by rw [hl]; exact hA
  have hA2 := (hAl.drewN m2).set k f
  rw [hl] at hA2
  have hbs : bs ≠ g := by
    intro e
    subst e
    have h0 := hC.cb
    have h1 := (hA.at 0 (by omega)).2.2.2.2.1
    rw [h1] at h0
    cases h0
  refine ⟨⟨(cell_other _ (by simp <;> omega)).trans hC.c0, (cell_other _ (by simp <;> omega)).trans hC.c1, (World.frozen?_setCell _ _ _ _).trans hC.f1, (cell_other _ (by simp <;> omega)).trans hC.c2, (World.frozen?_setCell _ _ _ _).trans hC.f2,
    (cell_other _ (by simp <;> omega)).trans hC.c6, (cell_other _ (by simp <;> omega)).trans hC.c7, (cell_other _ (by simp <;> omega)).trans hC.cb⟩, hA2, (hR.drewN m2).other _ (by simp [Value.ownBlock] <;> omega),
    (belowN hB m2).setCell (p := ⟨g, k, none⟩) (by simp <;> omega) _, fun B0 => ?_, World.cell?_setCell_same' _ _ _ (by rw [show (W.drewN m2).cell? ⟨g, k, none⟩ = _ from hx.2.2.2.2.1]; rfl)⟩
  exact (KeepsOthers.from (W := W) (W' := W.drewN m2) ⟨Nat.le_refl _, fun _ _ h _ => h⟩ _).trans ((KeepsOthers.setCell _ _ _).from _)

set_option maxRecDepth 100000 in
set_option maxHeartbeats 1000000 in
theorem divide_long (a b : Option Addr) (ca cb : Nat) (p q : List PM.G) (w : World) (ha : Row w a p ca) (hb : Row w b q cb) (hp : Pol p) (hq : Pol q) (hq0 : 0 < q.length) (hl : q.length ≤ p.length) :
    Calls Try.prog 57 #[.slice a p.length ca, .slice b q.length cb] w fun e W => (∃ A r a1 c1 a2 c2, e = .returned (.tuple #[.slice a1 A.length c1, .slice a2 r.length c2]) ∧ Row W a1 A c1 ∧ Row W a2 r c2 ∧ Loc w a2 ∧ DivEq p q A r) ∧ Below w.heap.size w W := by
  have hra := ha.room
  have hma := ha.most
  have hrb := hb.room
  have hmb := hb.most
  have hlp := hp.len
  have HP := Lib.hid hp
  have HQ := Lib.hid hq
  have HBR := Lib.hid hb
  have h3 := div3 w b cb q.length
  have HCL := Lib.hid (clone_any a p ca _ (ha.below h3.below) (by omega))
  have H3 := Lib.hid h3
  clear h3 hp hq ha hb
  refine (callsIn_wide (n := 6)).1 ?_
  refine callsIn_of_wp_marks Try.func57 rfl trivial ?_ rfl
  refine wpIn_wide.2 ?_
  simp only [Try.ntmps57, List.size_toArray, List.length_cons, List.length_nil, Nat.reduceAdd, Nat.reduceSub, Array.replicate_succ, Array.replicate_zero, List.push_toArray, List.append_toArray, List.nil_append, List.cons_append]
  go_wp2_with fail
  generalize ((w.alloc (.cells #[.slice b q.length cb] 30)).alloc (.cells #[.slice none 0 0] 30)).alloc (.cells #[.slice none 0 0] 30) = w3 at *
  refine HCL.out.mono ?_
  rintro e w4 ⟨a1, c1, rfl, hown, hb4⟩
  have h4 := H3.out.next hown hb4
  obtain ⟨gr, rfl, hgr1, hgr2⟩ := h4.own.fresh (by omega)
  obtain ⟨w5, hw5⟩ : ∃ w5, w4.setCell ⟨w.heap.size + 1 + 1, 0, none⟩ (.slice (some ⟨gr, 0, none⟩) p.length c1) = w5 := ⟨_, rfl⟩
  have hs4 := h4.size
  have H5 : Below w.heap.size w w5 ∧ w5.heap.size = w4.heap.size ∧ Own w5 (w.heap.size + 3) (.slice (some ⟨gr, 0, none⟩) p.length c1) p ∧ w5.cell? ⟨w.heap.size, 0, none⟩ = some (.slice b q.length cb) ∧
      w5.cell? ⟨w.heap.size + 1, 0, none⟩ = some (.slice none 0 0) ∧ w5.frozen? ⟨w.heap.size + 1, 0, none⟩ = false ∧ w5.cell? ⟨w.heap.size + 1 + 1, 0, none⟩ = some (.slice (some ⟨gr, 0, none⟩) p.length c1) ∧ w5.frozen? ⟨w.heap.size + 1 + 1, 0, none⟩ = false := by
    subst hw5
    exact ⟨h4.below.setCell (p := ⟨w.heap.size + 1 + 1, 0, none⟩) (by simp <;> omega) _, by simp [World.setCell], h4.own.setBelow (p := ⟨w.heap.size + 1 + 1, 0, none⟩) (by simp) _, (cell_other _ (by simp <;> omega)).trans h4.c0, (cell_other _ (by simp)).trans h4.c1,
      (World.frozen?_setCell _ _ _ _).trans h4.f1, World.cell?_setCell_same' _ _ _ (by rw [h4.c2]; rfl), (World.frozen?_setCell _ _ _ _).trans h4.f2⟩
  obtain ⟨hB5, hs5, hO5, k0, k1, g1, k2, g2⟩ := H5
  have l0 := cell_later (.cells #[.int .i64 ((q.length : Int) - 1)] 3) k0
  have l1 := cell_later (.cells #[.int .i64 ((q.length : Int) - 1)] 3) k1
  have n1 := frozen_later (.cells #[.int .i64 ((q.length : Int) - 1)] 3) k1 g1
  have l2 := cell_later (.cells #[.int .i64 ((q.length : Int) - 1)] 3) k2
  have n2 := frozen_later (.cells #[.int .i64 ((q.length : Int) - 1)] 3) k2 g2
  have l6 := cell_new w5 (.int .i64 ((q.length : Int) - 1)) 3
  have hO6 := hO5.alloc (.cells #[.int .i64 ((q.length : Int) - 1)] 3)
  have hB6 := hB5.alloc (by omega) (.cells #[.int .i64 ((q.length : Int) - 1)] 3)
  have hs6 : (w5.alloc (.cells #[.int .i64 ((q.length : Int) - 1)] 3)).heap.size = w4.heap.size + 1 := by simp [hs5]
  rw [hs5] at l6
  obtain ⟨s, hs⟩ : ∃ s, w4.heap.size = s := ⟨_, rfl⟩
  rw [hs] at hs4 hs5 hs6 l6 hgr2
  obtain ⟨w6, hw6⟩ : ∃ w6, w5.alloc (.cells #[.int .i64 ((q.length : Int) - 1)] 3) = w6 := ⟨_, rfl⟩
  rw [hw6] at l0 l1 n1 l2 n2 l6 hO6 hB6 hs6
  have d2 := h4.c2
  have e2 := h4.f2
  have HT := Lib.hid (top_any b cb q w6 (HBR.out.below hB6) hq0)
  have HB6 := Lib.hid hB6
  have HO6 := Lib.hid hO6
  clear HCL H3 hown hb4 h4 hB5 hO5 hB6 hO6
  go_wp2_with fail
  refine HT.out.mono ?_
  rintro e w7' ⟨rfl, m7, hm7⟩
  obtain ⟨w7, hw7⟩ : ∃ w7, w7' = w7 := ⟨_, rfl⟩
  have H7 : w7.heap.size = s + 1 ∧ Below w.heap.size w w7 ∧ Own w7 (w.heap.size + 3) (.slice (some ⟨gr, 0, none⟩) p.length c1) p ∧ DivC0 w s gr p.length c1 cb b q w7 := by
    subst hm7 hw7
    exact ⟨hs6, belowN HB6.out m7, HO6.out.drewN m7, l0, l1, n1, l2, n2, l6⟩
  clear hm7 HB6 HO6 l0 l1 n1 l2 n2 l6 k0 k1 k2 g1 g2 d2 e2 hs5 hs6 HT
  subst hw7
  obtain ⟨hs7, hB7, hO7, hC7⟩ := H7
  obtain ⟨w8, hw8⟩ : ∃ w8, w7'.alloc (.cells #[.int .u8 ((PM.el q (q.length - 1)).inv.v : Int)] 5) = w8 := ⟨_, rfl⟩
  have H8 : w8.heap.size = s + 1 + 1 ∧ Below w.heap.size w w8 ∧ Own w8 (w.heap.size + 3) (.slice (some ⟨gr, 0, none⟩) p.length c1) p ∧ DivC0 w s gr p.length c1 cb b q w8 ∧ w8.cell? ⟨s + 1, 0, none⟩ = some (.int .u8 ((PM.el q (q.length - 1)).inv.v : Int)) := by
    have hsz := hB7.size
    subst hw8
    exact ⟨by simp [hs7], hB7.alloc hsz _, hO7.alloc _, hC7.alloc _, by rw [← hs7]; exact cell_new _ _ _⟩
  obtain ⟨hs8, hB8, hO8, hC8, h87⟩ := H8
  obtain ⟨n, hn⟩ : ∃ n, p.length - (q.length - 1) = n := ⟨_, rfl⟩
  have hC80 := hC8.c0
  have hC81 := hC8.c1
  have hC8f := hC8.f1
  have hC86 := hC8.c6
  have HC8 := Lib.hid hC8
  have HB8 := Lib.hid hB8
  have HO8 := Lib.hid hO8
  clear hB7 hO7 hC7 hC8 hB8 hO8
  go_wp2_with (at_make; refine wpList_make1 rfl _ _ rfl n rfl rfl (by omega) (by omega) (B := w8.heap.size) (Nat.le_refl _) ?_; intro w9 hown9 hb9; rw [hs8] at hown9 hb9; have hst := divI_start HC8.out h87 hs8 HB8.out HO8.out hown9 hb9 hgr1 hgr2 hq0 hl hn; have hb9' : Below w8.heap.size w8 w9 := (by rw [hs8]; exact hb9); have j91 := cell_below hb9' hC81; have j9f := frozen_below hb9' hC81 hC8f; have j10 := World.cell?_setCell_same' w9 ⟨w.heap.size + 1, 0, none⟩ (.slice (some ⟨s + 1 + 1, 0, none⟩) n n) (by rw [j91]; rfl); have hs9 := hb9'.size; have HST := Lib.hid hst; clear hst hown9 hb9 hb9')
  refine (backward_any _ _ _ _).mono ?_
  rintro e w11' ⟨rfl, rfl⟩
  have hsz : (w9.setCell ⟨w.heap.size + 1, 0, none⟩ (.slice (some ⟨s + 1 + 1, 0, none⟩) n n)).heap.size = w9.heap.size := by simp [World.setCell]
  rw [hsz]
  have hst := HST.out
  have hcb := hst.1.cb
  clear HST hsz j91 j9f j10 hC80 hC81 hC8f hC86 HC8 HB8 HO8 h87 hw8 hw6 hw5
  generalize (w9.setCell ⟨w.heap.size + 1, 0, none⟩ (.slice (some ⟨s + 1 + 1, 0, none⟩) n n)).alloc (.cells #[.slice (some ⟨s + 1 + 1, 0, none⟩) n n] 30) = w11 at *
  have hs11 := lt_of_cell hcb
  simp only at hs11
  clear hcb
  have HST := Lib.hid hst
  clear hst
  rw [hs8] at hs9
  generalize w9.heap.size = bs at *
  clear w9 hs8 w8 hs7 w7' w6 w5 hs w4 w3
  obtain ⟨g, hg⟩ : ∃ g, s + 1 + 1 = g := ⟨_, rfl⟩
  rw [hg] at HST hs9 ⊢
  go_wp2_with fail
  refine wpIn_wide.1 (wpIn_back (n := 6) (by omega) (Bs := bs) rfl rfl (some ⟨g, 0, none⟩) n n (by omega) (fun _ => 0) (DivI w s g gr bs n p.length c1 cb b p q) (fun _ _ _ => False) (divI_own (by have := HST.out.2; obtain ⟨_, _, _, _, _, _, _, _, _, h⟩ := this; exact h.size)) (fun _ _ _ _ _ hs _ _ => hs) HST.out (fun k W h => h.1.cb) ?read ?act ?assign ?body ?done ?stop)
  case read =>
    rintro k W ⟨_, A, _, hA, hlA, _, _, hz, _⟩ hk
    have := (hA.at k (by omega)).2.2.2.2.1
    rw [hz k (by omega)] at this
    exact ⟨g, 0, rfl, by rw [Nat.zero_add]; exact this⟩
  case assign =>
    intro l k W K hk hK
    gi_wp2
    exact hK
  case body =>
    rintro l k W hl hrec ⟨hC, A, R, hOA, hlA, hOR, hlR, hzA, hzR, heq, hB⟩ hk
    clear hl hrec HST
    have hmx : Try.prog.follows .mixedOrders = true := by kernel_rfl
    obtain ⟨d, hd⟩ : ∃ d, k + (q.length - 1) = d := ⟨_, rfl⟩
    have hidx : (k : Int) + ((q.length : Int) - 1) = (d : Int) := by omega
    have hdl : d < p.length := by omega
    have hwd : IntKind.i64.wrap (d : Int) = (d : Int) := by rw [IntKind.wrap_i64]; omega
    have hrr := hOR.at d (by omega)
    have haa := hOA.at k (by omega)
    have HC := Lib.hid hC
    have HOA := Lib.hid hOA
    have HOR := Lib.hid hOR
    have HZA := Lib.hid hzA
    have HZR := Lib.hid hzR
    have HEQ := Lib.hid heq
    have HB := Lib.hid hB
    have HLA := Lib.hid hlA
    have HLR := Lib.hid hlR
    have hkn1 : (k : Int) < (n : Int) := by omega
    have hgg : g ≠ gr := by omega
    clear hOA hOR hzA hzR heq hB hlA hlR hC
    refine wpIn_block (wpIn_seq ?_)
    refine wpIn_region_held (S := fun W' => W'.cell? ⟨w.heap.size + 1, 0, none⟩ = some (.slice (some ⟨g, 0, none⟩) n n) ∧ W'.cell? ⟨w.heap.size + 1 + 1, 0, none⟩ = some (.slice (some ⟨gr, 0, none⟩) p.length c1) ∧ W'.cell? ⟨s, 0, none⟩ = some (.int .i64 ((q.length : Int) - 1)) ∧ W'.cell? ⟨s + 1, 0, none⟩ = some (.int .u8 ((PM.el q (q.length - 1)).inv.v : Int)) ∧ W'.cell? ⟨gr, d, none⟩ = some (.int .u8 ((PM.el R d).v : Int))) hmx (by kernel_rfl) (by rintro ⟨_, _, h⟩; exact h) ⟨HC.out.c1, HC.out.c2, HC.out.c6, HC.out.c7, hrr.2.2.2.2.1⟩ (fun hHeld => ?_)
    refine wpAnyH_at 0 (some 31) (v := ?_) rfl rfl (by kernel_rfl) (by kernel_rfl) (by kernel_rfl) (fun _ _ _ h => h) (Or.inl ⟨by rfl, ?_⟩) hHeld ?_
    rotate_left
    · (intro W2 hSw; obtain ⟨j1, j2, j6, j7, jr⟩ := hSw; go_simp; try with_reducible rfl)
    simp only [Act.put, List.setIfInBounds_toArray, List.set_cons_zero, List.set_cons_succ]
    refine wpAnyH_at 1 (some 32) (v := ?_) rfl rfl (by kernel_rfl) (by kernel_rfl) (by kernel_rfl) (fun _ _ _ h => h) (Or.inl ⟨by rfl, ?_⟩) hHeld ?_
    rotate_left
    · (intro W2 hSw; obtain ⟨j1, j2, j6, j7, jr⟩ := hSw; go_simp; try with_reducible rfl)
    simp only [Act.put, List.setIfInBounds_toArray, List.set_cons_zero, List.set_cons_succ]
    refine wpAnyH_at 2 (some 33) (v := ?_) rfl rfl (by kernel_rfl) (by kernel_rfl) (by kernel_rfl) (fun _ _ _ h => h) (Or.inl ⟨by rfl, ?_⟩) hHeld ?_
    rotate_left
    · (intro W2 hSw; obtain ⟨j1, j2, j6, j7, jr⟩ := hSw; go_simp; try with_reducible rfl)
    simp only [Act.put, List.setIfInBounds_toArray, List.set_cons_zero, List.set_cons_succ]
    refine wpAnyH_at 3 (some 34) (v := ?_) rfl rfl (by kernel_rfl) (by kernel_rfl) (by kernel_rfl) (fun _ _ _ h => h) (Or.inl ⟨by rfl, ?_⟩) hHeld ?_
    rotate_left
    · (intro W2 hSw; obtain ⟨j1, j2, j6, j7, jr⟩ := hSw; go_simp; try with_reducible rfl)
    simp only [Act.put, List.setIfInBounds_toArray, List.set_cons_zero, List.set_cons_succ]
    refine wpAnyH_at 4 (some 35) (v := ?_) rfl rfl (by kernel_rfl) (by kernel_rfl) (by kernel_rfl) (fun _ _ _ h => h) (Or.inl ⟨by rfl, ?_⟩) hHeld ?_
    rotate_left
    · (intro W2 hSw; obtain ⟨j1, j2, j6, j7, jr⟩ := hSw; go_simp; try with_reducible rfl)
    simp only [Act.put, List.setIfInBounds_toArray, List.set_cons_zero, List.set_cons_succ]
    refine wpAnyH_at 5 (some 36) (v := ?_) rfl rfl (by kernel_rfl) (by kernel_rfl) (by kernel_rfl) (fun _ _ _ h => h) (Or.inl ⟨by rfl, ?_⟩) hHeld ?_
    rotate_left
    · (intro W2 hSw; obtain ⟨j1, j2, j6, j7, jr⟩ := hSw; go_simp; try with_reducible rfl)
    simp only [Act.put, List.setIfInBounds_toArray, List.set_cons_zero, List.set_cons_succ]
    refine wpAnyH_at 6 (some 37) (v := ?_) rfl rfl (by kernel_rfl) (by kernel_rfl) (by kernel_rfl) (fun _ _ _ h => h) (Or.inl ⟨by rfl, ?_⟩) hHeld ?_
    rotate_left
    · (intro W2 hSw; obtain ⟨j1, j2, j6, j7, jr⟩ := hSw; go_simp; try with_reducible rfl)
    simp only [Act.put, List.setIfInBounds_toArray, List.set_cons_zero, List.set_cons_succ]
    refine wpAnyH_at 7 (some 38) (v := ?_) rfl rfl (by kernel_rfl) (by kernel_rfl) (by kernel_rfl) (fun _ _ _ h => h) (Or.inl ⟨by rfl, ?_⟩) hHeld ?_
    rotate_left
    · (intro W2 hSw; obtain ⟨j1, j2, j6, j7, jr⟩ := hSw; go_simp; try with_reducible rfl)
    simp only [Act.put, List.setIfInBounds_toArray, List.set_cons_zero, List.set_cons_succ]
    refine wpAnyH_at 8 (some 39) (v := ?_) rfl rfl (by kernel_rfl) (by kernel_rfl) (by kernel_rfl) (fun _ _ _ h => h) (Or.inl ⟨by rfl, ?_⟩) hHeld ?_
    rotate_left
    · (intro W2 hSw; obtain ⟨j1, j2, j6, j7, jr⟩ := hSw; go_simp; try with_reducible rfl)
    simp only [Act.put, List.setIfInBounds_toArray, List.set_cons_zero, List.set_cons_succ]
    refine wpAnyH_ready (rs := [9]) (by kernel_rfl) (by simp) ?_
    refine AllReadyH.cons rfl (fun K hK => ?_) AllReadyH.nil
    go_simp
    refine (fmul_any (PM.el R d) (PM.el q (q.length - 1)).inv _).mono ?_
    rintro e W2 ⟨rfl, m2, rfl⟩
    refine hK.out _ _ ⟨HC.out.c1, HC.out.c2, HC.out.c6, HC.out.c7, hrr.2.2.2.2.1⟩ (fun hHeld => ?_)
    clear hK K
    refine wpAnyH_at 10 (some 41) (v := ?_) rfl rfl (by kernel_rfl) (by kernel_rfl) (by kernel_rfl) (fun _ _ _ h => h) (Or.inl ⟨by rfl, ?_⟩) hHeld ?_
    rotate_left
    · (intro W2 hSw; obtain ⟨j1, j2, j6, j7, jr⟩ := hSw; go_simp; try with_reducible rfl)
    simp only [Act.put, List.setIfInBounds_toArray, List.set_cons_zero, List.set_cons_succ]
    refine wpAnyH_ready (rs := [11]) (by kernel_rfl) (by simp) ?_
    refine AllReadyH.cons rfl (fun K hK => ?_) AllReadyH.nil
    obtain ⟨f, hf⟩ : ∃ f, PM.el R d * (PM.el q (q.length - 1)).inv = f := ⟨_, rfl⟩
    rw [hf]
    have x1 : ((W.drew).drewN m2).cell? ⟨g, k, none⟩ = some (.int .u8 ((PM.el A k).v : Int)) := haa.2.2.2.2.1
    have x2 : ((W.drew).drewN m2).frozen? ⟨g, k, none⟩ = false := haa.2.2.2.2.2
    obtain ⟨W3, hW3⟩ : ∃ W3, (W.drewN (1 + m2)).setCell ⟨g, k, none⟩ (.int .u8 (f.v : Int)) = W3 := ⟨_, rfl⟩
    have hst := div_mid HC.out HOA.out HOR.out HB.out HLA.out hk hgg hs9 hg hgr1 hgr2 (f := f) (1 + m2) W3 hW3
    have HM := Lib.hid hst
    clear hst
    go_simp
    refine hK.out _ _ ⟨HM.out.c.c1, HM.out.c.c2, HM.out.c.c6, HM.out.c.c7, (HM.out.oR.at d (by have := HLR.out; omega)).2.2.2.2.1⟩ (fun _ => wpAnyH_done (by kernel_rfl) ?_ _)
    have hkm : k < p.length := by omega
    have hpc : p.length ≤ c1 := by have := hrr.2.2.2.1; have := HLR.out; omega
    have hcm : c1 ≤ 9223372036854775807 := hrr.2.2.1
    have hkle : (k : Int) ≤ (p.length : Int) := by omega
    have hk0 : (0 : Int) ≤ (k : Int) := by omega
    have hkp : (k : Int) < (p.length : Int) := by omega
    clear hK K x1 x2 hHeld hrr haa HC HOA HOR HB hidx hwd hW3
    refine wpIn_region_held (S := fun W' => W'.cell? ⟨w.heap.size + 1, 0, none⟩ = some (.slice (some ⟨g, 0, none⟩) n n) ∧ W'.cell? ⟨w.heap.size + 1 + 1, 0, none⟩ = some (.slice (some ⟨gr, 0, none⟩) p.length c1) ∧ W'.cell? ⟨w.heap.size, 0, none⟩ = some (.slice b q.length cb) ∧ W'.cell? ⟨g, k, none⟩ = some (.int .u8 (f.v : Int))) hmx (by kernel_rfl) (by rintro ⟨_, _, h⟩; exact h) ⟨HM.out.c.c1, HM.out.c.c2, HM.out.c.c0, HM.out.put⟩ (fun hHeld => ?_)
    refine wpAnyH_at 0 (some 42) (v := ?_) rfl rfl (by kernel_rfl) (by kernel_rfl) (by kernel_rfl) (fun _ _ _ h => h) (Or.inl ⟨by rfl, ?_⟩) hHeld ?_
    rotate_left
    · (intro W2 hSw; obtain ⟨j1, j2, j0, jf⟩ := hSw; go_simp; try with_reducible rfl)
    simp only [Act.put, List.setIfInBounds_toArray, List.set_cons_zero, List.set_cons_succ]
    refine wpAnyH_at 1 (some 43) (v := ?_) rfl rfl (by kernel_rfl) (by kernel_rfl) (by kernel_rfl) (fun _ _ _ h => h) (Or.inl ⟨by rfl, ?_⟩) hHeld ?_
    rotate_left
    · (intro W2 hSw; obtain ⟨j1, j2, j0, jf⟩ := hSw; go_simp; try with_reducible rfl)
    simp only [Act.put, List.setIfInBounds_toArray, List.set_cons_zero, List.set_cons_succ]
    refine wpAnyH_at 2 (some 44) (v := ?_) rfl rfl (by kernel_rfl) (by kernel_rfl) (by kernel_rfl) (fun _ _ _ h => h) (Or.inl ⟨by rfl, ?_⟩) hHeld ?_
    rotate_left
    · (intro W2 hSw; obtain ⟨j1, j2, j0, jf⟩ := hSw; go_simp; try with_reducible rfl)
    simp only [Act.put, List.setIfInBounds_toArray, List.set_cons_zero, List.set_cons_succ]
    refine wpAnyH_at 3 (some 45) (v := ?_) rfl rfl (by kernel_rfl) (by kernel_rfl) (by kernel_rfl) (fun _ _ _ h => h) (Or.inl ⟨by rfl, ?_⟩) hHeld ?_
    rotate_left
    · (intro W2 hSw; obtain ⟨j1, j2, j0, jf⟩ := hSw; go_simp; try with_reducible rfl)
    simp only [Act.put, List.setIfInBounds_toArray, List.set_cons_zero, List.set_cons_succ]
    refine wpAnyH_at 4 (some 46) (v := ?_) rfl rfl (by kernel_rfl) (by kernel_rfl) (by kernel_rfl) (fun _ _ _ h => h) (Or.inl ⟨by rfl, ?_⟩) hHeld ?_
    rotate_left
    · (intro W2 hSw; obtain ⟨j1, j2, j0, jf⟩ := hSw; go_simp; try with_reducible rfl)
    simp only [Act.put, List.setIfInBounds_toArray, List.set_cons_zero, List.set_cons_succ]
    refine wpAnyH_at 5 (some 47) (v := ?_) rfl rfl (by kernel_rfl) (by kernel_rfl) (by kernel_rfl) (fun _ _ _ h => h) (Or.inl ⟨by rfl, ?_⟩) hHeld ?_
    rotate_left
    · (intro W2 hSw; obtain ⟨j1, j2, j0, jf⟩ := hSw; go_simp; try with_reducible rfl)
    simp only [Act.put, List.setIfInBounds_toArray, List.set_cons_zero, List.set_cons_succ]
    refine wpAnyH_at 6 (some 48) (v := ?_) rfl rfl (by kernel_rfl) (by kernel_rfl) (by kernel_rfl) (fun _ _ _ h => h) (Or.inl ⟨by rfl, ?_⟩) hHeld ?_
    rotate_left
    · (intro W2 hSw; obtain ⟨j1, j2, j0, jf⟩ := hSw; go_simp; try with_reducible rfl)
    simp only [Act.put, List.setIfInBounds_toArray, List.set_cons_zero, List.set_cons_succ]
    refine wpAnyH_at 7 (some 49) (v := ?_) rfl rfl (by kernel_rfl) (by kernel_rfl) (by kernel_rfl) (fun _ _ _ h => h) (Or.inl ⟨by rfl, ?_⟩) hHeld ?_
    rotate_left
    · (intro W2 hSw; obtain ⟨j1, j2, j0, jf⟩ := hSw; go_simp; try with_reducible rfl)
    simp only [Act.put, List.setIfInBounds_toArray, List.set_cons_zero, List.set_cons_succ]
    refine wpAnyH_ready (rs := [8]) (by kernel_rfl) (by simp) ?_
    refine AllReadyH.cons rfl (fun K hK => ?_) AllReadyH.nil
    go_simp
    rw [if_neg (show ¬ c1 = k by omega)]
    have hO3 := HM.out.oR.drewN 1
    rw [← HLR.out] at hO3
    have ht := addMul_any w.heap.size gr c1 k (p.length - k) (c1 - k) cb R q b f W3.drew hO3 ((HBR.out.below HM.out.below).drewN 1) (by have := HLR.out; omega) (by omega) (by omega) (by omega) (by
      intro h0 b' o e; subst e; have := HBR.out.lt h0; omega)
    refine ht.mono ?_
    clear ht hO3
    rintro e W4 ⟨ys, rfl, hl4, hel4, ho4, hg4⟩
    have hg4' : W3.grownBy W4 (some gr) := ⟨hg4.os, hg4.tape, hg4.output, hg4.size, hg4.block⟩
    have hw3 := HM.out.below.size
    rw [hl4, HLR.out] at ho4
    have hC4 := HM.out.c
    have z0 := cell_grown hg4' (show (w.heap.size : Nat) ≠ gr by omega) hC4.c0
    have z1 := cell_grown hg4' (show (w.heap.size + 1 : Nat) ≠ gr by omega) hC4.c1
    have z2 := cell_grown hg4' (show (w.heap.size + 1 + 1 : Nat) ≠ gr by omega) hC4.c2
    refine hK.out _ _ ⟨z1, z2, z0, cell_grown hg4' (show g ≠ gr from hgg) HM.out.put⟩ (fun _ => wpAnyH_done (by kernel_rfl) ?_ _)
    have hm := div_math hd (by have := HLA.out; omega) hq0 (HQ.out.can hq0) HZA.out HZR.out HEQ.out hf hel4
    have hO4 := HM.out.oA.grown hg4' (.inr (by simp [Value.ownBlock]; omega))
    refine ⟨(HM.out.keeps _).trans (KeepsFrom.of_grownBy hg4' (fun j e => by cases e; omega)), ⟨z0, z1, frozen_grown hg4' (show (w.heap.size + 1 : Nat) ≠ gr by omega) hC4.c1 hC4.f1, z2, frozen_grown hg4' (show (w.heap.size + 1 + 1 : Nat) ≠ gr by omega) hC4.c2 hC4.f2,
      cell_grown hg4' (show (s : Nat) ≠ gr by omega) hC4.c6, cell_grown hg4' (show (s + 1 : Nat) ≠ gr by omega) hC4.c7, cell_grown hg4' (show (bs : Nat) ≠ gr by omega) hC4.cb⟩,
      A.set k f, ys, hO4, by rw [List.length_set]; exact HLA.out, ho4, by rw [hl4]; exact HLR.out, hm.1, hm.2.1, hm.2.2, HM.out.below.grown hg4' hw3 (fun j e => by cases e; omega)⟩
  case done =>
    rintro D W hD ⟨hC, A, R, hOA, hlA, hOR, hlR, hzA, hzR, heq, hB⟩ hK
    have HC := Lib.hid hC
    have HOA := Lib.hid hOA
    have HOR := Lib.hid hOR
    have HZR := Lib.hid hzR
    have HEQ := Lib.hid heq
    have HB := Lib.hid hB
    have HLA := Lib.hid hlA
    have HLR := Lib.hid hlR
    have HK := Lib.hid hK
    clear hOA hOR hzA hzR heq hB hlA hlR hK HST hC
    have k1 := HC.out.c1
    have g1 := HC.out.f1
    have k2 := HC.out.c2
    have g2 := HC.out.f2
    have HT := Lib.hid (trim_res (PM.el R) (HOR.out.drewN 1) (by have := HLR.out; omega) (fun _ => rfl))
    have hws : w.heap.size ≤ W.heap.size := HB.out.size
    go_wp2_with fail
    go_region_with (go_at_call 77; refine HT.out.mono ?_; rintro e W2 ⟨⟨r, a2, c2, rfl, hr, hpol, hco, hgb⟩, hb⟩; have HGB := Lib.hid hgb; clear hgb; have y1 := cell_below hb k1; have u1 := frozen_below hb k1 g1; have y2 := cell_below hb k2; have u2 := frozen_below hb k2 g2; have HRR := Lib.hid hr; have HPO := Lib.hid hpol; have HCO := Lib.hid hco; have HBB := Lib.hid hb; clear hr hpol hco hb)
    all_goals
      have hend := div_end HB.out HOA.out HRR.out HBB.out HGB.out y1 y2 HK.out (by omega) (by omega) (by omega)
      have HE := Lib.hid hend
      clear hend
      obtain ⟨W5, hW5⟩ : ∃ W5, ((W2.setCell ⟨w.heap.size + 1, 0, none⟩ (.slice (some ⟨g, 0, none⟩) n n)).setCell ⟨w.heap.size + 1 + 1, 0, none⟩ (.slice a2 r.length c2)) = W5 := ⟨_, rfl⟩
      rw [hW5] at HE ⊢
      clear hW5
      go_wp2_with fail
      obtain ⟨hK5, z1, z2, hrA, hrr, hB5⟩ := HE.out
      refine ⟨by simp, .inl ⟨_, _, rfl, run_takeDeferred hK5, ?_⟩⟩
      refine ⟨.tuple #[.slice (some ⟨g, 0, none⟩) n n, .slice a2 r.length c2], ?_, ⟨A, r, some ⟨g, 0, none⟩, n, a2, c2, by rw [HLA.out], hrA, hrr, (fun b o e => by have := HGB.out b o e; omega), div_eq HP.out hq0 hl HPO.out HCO.out HZR.out HEQ.out (by have := HLA.out; omega)⟩, hB5⟩
      simp [results, Try.f57, go_sem, z1, z2]
  case stop =>
    rintro D c k W _ _ h _
    exact h.elim
end Go.Proofs.Ytijkgplglfmfnaa.P

namespace Go.Proofs.Ytijkgplglfmfnaa.P
open Go Go.RowKit Go.Shelf

theorem divide_res (a b : Option Addr) (ca cb : Nat) (p q : List PM.G) (w : World) (ha : Row w a p ca) (hb : Row w b q cb) (hp : Pol p) (hq : Pol q) (hq0 : 0 < q.length) :
    Calls Try.prog 57 #[.slice a p.length ca, .slice b q.length cb] w fun e W => (∃ A r a1 c1 a2 c2, e = .returned (.tuple #[.slice a1 A.length c1, .slice a2 r.length c2]) ∧ Row W a1 A c1 ∧ Row W a2 r c2 ∧ Loc w a2 ∧ DivEq p q A r) ∧ Below w.heap.size w W := by
  by_cases hl : q.length ≤ p.length
  · exact divide_long a b ca cb p q w ha hb hp hq hq0 hl
  · refine (divide_short a b ca cb p q w ha hb hp (by omega)).mono ?_
    rintro e W ⟨⟨a', c', rfl, hr, hlo⟩, hB⟩
    refine ⟨⟨[], p, none, 0, a', c', rfl, Row.nil _ _ _ (by omega), hr, hlo, ⟨fun j => ?_, by omega, hp.can, PM.can_nil, by show 0 = _; omega⟩⟩, hB⟩
    rw [show PM.el [] = PM.zeroC from rfl, PM.conv_zeroC_l, PM.G.zero_add]

/-- What Divide gives for two polynomials. -/
def DRes (p q : List PM.G) (e : Ending) (W : World) : Prop :=
  ∃ A r a1 c1 a2 c2, e = .returned (.tuple #[.slice a1 A.length c1, .slice a2 r.length c2, .int .i64 0]) ∧ Row W a1 A c1 ∧ Row W a2 r c2 ∧ DivEq p q A r
def DResL (w : World) (p q : List PM.G) (e : Ending) (W : World) : Prop :=
  ∃ A r a1 c1 a2 c2, e = .returned (.tuple #[.slice a1 A.length c1, .slice a2 r.length c2, .int .i64 0]) ∧ Row W a1 A c1 ∧ Row W a2 r c2 ∧ Loc w a2 ∧ DivEq p q A r

set_option maxRecDepth 100000 in
set_option maxHeartbeats 1000000 in
/-- **poly.Divide** -/
theorem pdiv_yes (a b : Option Addr) (ca cb : Nat) (p q : List PM.G) (w : World) (ha : Row w a p ca) (hb : Row w b q cb) (hp : Pol p) (hq : Pol q) (hq0 : 0 < q.length) :
    Calls Try.prog 37 #[.slice a p.length ca, .slice b q.length cb] w fun e W => DResL w p q e W ∧ Below w.heap.size w W := by
  have hrb := hb.room
  have hmb := hb.most
  have HA := Lib.hid ha
  have HB := Lib.hid hb
  have HP := Lib.hid hp
  have HQ := Lib.hid hq
  clear ha hb hp hq
  have hz : ((q.length : Int) == 0) = false := beq_false_of_ne (by omega)
  go_enter Try.func37, Try.ntmps37
  go_wp2_with fail
  refine (valid_yes a p ca w HA.out HP.out).mono ?_
  rintro e w1 ⟨rfl, hb1⟩
  have HB1 := Lib.hid (HB.out.below hb1)
  have HA1 := Lib.hid (HA.out.below hb1)
  go_wp2_with fail
  refine (valid_yes b q cb w1 HB1.out HQ.out).mono ?_
  rintro e w2 ⟨rfl, hb2⟩
  have HA2 := Lib.hid (HA1.out.below hb2)
  have HB2 := Lib.hid (HB1.out.below hb2)
  have HD2 := Lib.hid (hb1.trans (hb2.mono hb1.size))
  clear hb1 hb2 HA1 HB1
  go_wp2_with fail
  refine (divide_res a b ca cb p q w2 HA2.out HB2.out HP.out HQ.out hq0).mono ?_
  rintro e w3 ⟨⟨A, r, a1, c1, a2, c2, rfl, h1, h2, hlo, heq⟩, hb3⟩
  have hl2 : Loc w a2 := fun b o e => Nat.le_trans HD2.out.size (hlo b o e)
  go_wp2_with fail
  exact bodyPost_ret (v := .tuple #[.slice a1 A.length c1, .slice a2 r.length c2, .int .i64 0]) (by simp [results, Try.results37, go_sem]) rfl ⟨⟨A, r, a1, c1, a2, c2, rfl, h1, h2, hl2, heq⟩, HD2.out.trans (hb3.mono HD2.out.size)⟩

theorem DivEq.pol {p q A r : List PM.G} (h : DivEq p q A r) (hq : Pol q) : Pol r := ⟨h.can, by have := hq.len; have := h.less; omega⟩
end Go.Proofs.Ytijkgplglfmfnaa.P

namespace Go.Proofs.Ytijkgplglfmfnaa.P
open Go Go.RowKit Go.Shelf
open SM (Euc turned)

def lenV : Value → Nat
  | .slice _ n _ => n
  | _ => 0
/-- What Euclid's loop holds. -/
structure RecSt (w : World) (L : Nat) (u : Nat → PM.G) (t3 t4 t5 t6 t7 : Value) (last next lf f : List PM.G) (W : World) : Prop where
  euc : Euc L (turned L u) last next lf f
  go : L + 2 ≤ 2 * last.length
  r3 : ∃ a c, t3 = .slice a last.length c ∧ Row W a last c
  r4 : ∃ a c, t4 = .slice a next.length c ∧ Row W a next c
  r5 : ∃ a c, t5 = .slice a lf.length c ∧ Row W a lf c
  r6 : ∃ a c, t6 = .slice a f.length c ∧ Row W a f c
  d7 : t7 = .int .i64 ((next.length : Int) - 1)
  below : Below w.heap.size w W
/-- What recurrence answers. -/
def RecR (w : World) (L : Nat) (u : Nat → PM.G) (e : Ending) (W : World) : Prop :=
  ∃ (last next lf f : List PM.G) (a : Option Addr) (c : Nat), e = .returned (.slice a f.length c) ∧ Row W a f c ∧ f.length ≤ L + 1 ∧ Euc L (turned L u) last next lf f ∧ L + 2 ≤ 2 * last.length ∧ 2 * next.length < L + 2 ∧ Below w.heap.size w W

set_option maxRecDepth 100000 in
set_option maxHeartbeats 4000000 in
/-- **symbol.recurrence** -/
theorem recurrence_any (a : Option Addr) (zs : List PM.G) (cap : Nat) (w : World) (hR : Row w a zs cap) (hl : zs.length ≤ 100) :
    Calls Try.prog 70 #[.slice a zs.length cap] w (RecR w zs.length (PM.el zs)) := by
  have hroom := hR.room
  have hmost := hR.most
  have HR := Lib.hid hR
  have HPW := Lib.hid (spower_any zs.length (by omega) w)
  have hpz := pol_pol zs (by omega)
  have HPZ := Lib.hid hpz
  have hst0 := fun (p0 : List PM.G) (h0 : p0.length = zs.length + 1) (h1 : ∀ k, PM.el p0 k = PM.mono PM.G.one zs.length k) => SM.Euc.start (L := zs.length) (u := PM.el zs) (f0 := [PM.G.one]) h0 h1 hpz.can (fun k => by rw [pol_el]; rfl) rfl
  have HST := Lib.hid hst0
  obtain ⟨L, hL⟩ : ∃ L, zs.length = L := ⟨_, rfl⟩
  rw [hL] at HPW HST hroom hl ⊢
  obtain ⟨u, hu⟩ : ∃ u, PM.el zs = u := ⟨_, rfl⟩
  rw [hu] at HST ⊢
  have HL := Lib.hid hL
  clear hR hpz hst0 hL hu
  go_enter Try.func70, Try.ntmps70
  go_wp2_with fail
  (with_reducible refine HPW.out.mono ?_)
  rintro e w1 ⟨p0, a0, c0, rfl, hr0, hl0, he0, hb1⟩
  have hpo := polynomial_any a zs cap w1 (HR.out.below hb1) (by have := HL.out; omega)
  rw [HL.out] at hpo
  have HPO := Lib.hid hpo
  have HR0 := Lib.hid hr0
  have HST0 := Lib.hid (HST.out p0 hl0 he0)
  have HB1 := Lib.hid hb1
  have HL0 := Lib.hid hl0
  clear hpo hr0 he0 hb1 HST HPW hl0
  go_wp2_with fail
  (with_reducible refine HPO.out.mono ?_)
  rintro e w2 ⟨⟨a1, c1, rfl, hr1⟩, hb2⟩
  have hone := row_one w2 PM.G.one 5
  rw [one_int] at hone
  have hb3 : Below w2.heap.size w2 (w2.alloc (.cells #[.int .u8 1] 5)) := (Below.refl _ w2).alloc (Nat.le_refl _) _
  obtain ⟨w3, hw3⟩ : ∃ w3, w2.alloc (.cells #[.int .u8 1] 5) = w3 := ⟨_, rfl⟩
  rw [hw3] at hone hb3
  have HR3 := Lib.hid ((HR0.out.below hb2).below hb3)
  have HR4 := Lib.hid (hr1.below hb3)
  have HON := Lib.hid hone
  have HB3 := Lib.hid (HB1.out.trans ((hb2.trans (hb3.mono hb2.size)).mono HB1.out.size))
  clear hr1 hb2 hone hb3 HR0 HB1 HPO
  have hs0 : RecSt w L u (.slice a0 p0.length c0) (.slice a1 (pol zs).length c1) (.slice none 0 0) (.slice (some ⟨w2.heap.size, 0, none⟩) 1 1) (.int .i64 (((pol zs).length : Int) - 1)) p0 (pol zs) [] [PM.G.one] w3 :=
    ⟨HST0.out, by have := HL0.out; omega, ⟨_, _, rfl, HR3.out⟩, ⟨_, _, rfl, HR4.out⟩, ⟨_, _, rfl, Row.nil _ _ _ (by omega)⟩, ⟨_, _, rfl, HON.out⟩, rfl, HB3.out⟩
  have HS0 := Lib.hid hs0
  have hpl : (pol zs).length ≤ 255 := HPZ.out.len
  clear hs0 HST0 HR3 HR4 HON HB3 HL0 HPZ
  obtain ⟨q, hq⟩ : ∃ q, pol zs = q := ⟨_, rfl⟩
  rw [hq] at HS0 hpl ⊢
  clear hq
  go_wp2_with fail
  go_loopw [3, 4, 5, 6, 7] (fun t3 t4 t5 t6 t7 wr => ∃ last next lf f, RecSt w L u t3 t4 t5 t6 t7 last next lf f wr) (fun _ t4 _ _ _ _ => lenV t4)
  case atStart => exact ⟨_, _, _, _, HS0.out⟩
  case round => as_aux_lemma =>
    clear HS0
    obtain ⟨last, next, lf, f, he, hgo, ⟨a3, c3, rfl, h3⟩, ⟨a4, c4, rfl, h4⟩, ⟨a5, c5, rfl, h5⟩, ⟨a6, c6, rfl, h6⟩, rfl, hb⟩ := hrel
    have hsum := he.sum
    have hless := he.less
    have hlessf := he.lessf
    have hn1 : next.length ≤ 101 := by omega
    have hf1 : f.length ≤ 101 := by omega
    by_cases hge : (L : Int) ≤ 2 * ((next.length : Int) - 1)
    · have hp3 : Pol last := ⟨he.cl, by omega⟩
      have hp4 : Pol next := ⟨he.cn, by omega⟩
      have hp5 : Pol lf := ⟨he.clf, by omega⟩
      have hp6 : Pol f := ⟨he.cf, by omega⟩
      have HD := Lib.hid (pdiv_yes a3 a4 c3 c4 last next wr h3 h4 hp3 hp4 (by omega))
      have HE := Lib.hid he
      have H4 := Lib.hid h4
      have H5 := Lib.hid h5
      have H6 := Lib.hid h6
      have HB := Lib.hid hb
      have HP4 := Lib.hid hp4
      have HP5 := Lib.hid hp5
      have HP6 := Lib.hid hp6
      have HGO := Lib.hid hgo
      have HSU := Lib.hid hsum
      clear h3 h4 h5 h6 hb hp3 hp4 hp5 hp6 he hgo hsum
      go_wp2_with fail
      (with_reducible refine HD.out.mono ?_)
      rintro e w4 ⟨⟨A, r, a7, c7, a8, c8, rfl, hrA, hrr, _, heq⟩, hb4⟩
      have hal := heq.len
      have hrl := heq.less
      have hsu := HSU.out
      have hpA : Pol A := ⟨heq.canq, by omega⟩
      have HM := Lib.hid (mul_fitF a7 a6 c7 c6 A f w4 hrA (H6.out.below hb4) hpA HP6.out (by omega) (by omega) (by omega))
      clear hsu
      have HRR := Lib.hid hrr
      have HEQ := Lib.hid heq
      have HB4 := Lib.hid hb4
      clear hrA hrr heq hb4 hpA HD hal
      go_wp2_with fail
      (with_reducible refine HM.out.mono ?_)
      rintro e w5 ⟨⟨P, a9, c9, rfl, hrP, hpP, heP, _⟩, hb5⟩
      have hb45 := HB4.out.trans (hb5.mono HB4.out.size)
      have HAD := Lib.hid (add_yes a5 a9 c5 c9 lf P w5 (H5.out.below hb45) hrP HP5.out hpP)
      have HB5 := Lib.hid hb45
      have HRR5 := Lib.hid (HRR.out.below hb5)
      have HEP := Lib.hid heP
      clear hrP hpP heP hb5 hb45 HM HB4 HRR
      go_wp2_with fail
      (with_reducible refine HAD.out.mono ?_)
      rintro e w6 ⟨⟨s, a10, c10, rfl, hrs, hps, hes⟩, hb6⟩
      have hstep := HE.out.step HEQ.out.eq HEQ.out.less HEQ.out.can HEQ.out.canq HEQ.out.len HEP.out hps.can hes
      have hb56 := HB5.out.trans (hb6.mono HB5.out.size)
      have HN := Lib.hid (show RecSt w L u (.slice a4 next.length c4) (.slice a8 r.length c8) (.slice a6 f.length c6) (.slice a10 s.length c10) (.int .i64 ((r.length : Int) - 1)) next r f s w6 from
        ⟨hstep.1, by omega, ⟨_, _, rfl, H4.out.below hb56⟩, ⟨_, _, rfl, HRR5.out.below hb6⟩, ⟨_, _, rfl, H6.out.below hb56⟩, ⟨_, _, rfl, hrs⟩, rfl, HB.out.trans (hb56.mono HB.out.size)⟩)
      clear hrs hps hes hb6 hstep hb56 HAD HB5 HRR5 HEP HE H4 H5 H6 HB
      go_wp2_with fail
      go_roundw
      case rel => exact ⟨_, _, _, _, HN.out⟩
      case measure => simp [lenV]; omega
    · have HF := Lib.hid h6
      have HB := Lib.hid hb
      have HE := Lib.hid he
      have HGO := Lib.hid hgo
      clear h3 h4 h5 h6 hb he hgo
      go_wp2_with fail
      go_ret
      exact ⟨last, next, lf, f, a6, c6, rfl, HF.out, by have := HGO.out; omega, HE.out, HGO.out, by omega, HB.out⟩
end Go.Proofs.Ytijkgplglfmfnaa.P

namespace Go.Proofs.Ytijkgplglfmfnaa.P
open Go Go.RowKit Go.Shelf
open G.S (codeV Cd code_box length_any box4_at)
open G (Box IRow Idx ret_bool)

/-- The places that are roots of f and not erased. -/
def wrongL (f : List PM.G) (n : Nat) (E : List Nat) (k : Nat) : List Nat := (List.range k).filter (fun i => decide (PM.ev f (SM.XE n i) = 0) && decide (i ∉ E))
theorem wrongL_yes {f : List PM.G} {n : Nat} {E : List Nat} {k : Nat} (h : PM.ev f (SM.XE n k) = 0) (h2 : k ∉ E) : wrongL f n E (k + 1) = wrongL f n E k ++ [k] := by
  unfold wrongL
  rw [List.range_succ, List.filter_append]
  simp [h, h2]
theorem wrongL_no {f : List PM.G} {n : Nat} {E : List Nat} {k : Nat} (h : ¬ (PM.ev f (SM.XE n k) = 0 ∧ k ∉ E)) : wrongL f n E (k + 1) = wrongL f n E k := by
  unfold wrongL
  rw [List.range_succ, List.filter_append]
  have : (decide (PM.ev f (SM.XE n k) = 0) && decide (k ∉ E)) = false := by
    rw [Bool.and_eq_false_iff, decide_eq_false_iff_not, decide_eq_false_iff_not]
    by_cases h1 : PM.ev f (SM.XE n k) = 0
    · exact .inr (fun h2 => h ⟨h1, h2⟩)
    · exact .inl h1
  simp only [List.filter_cons, this, List.filter_nil, Bool.false_eq_true, if_false, List.append_nil]
theorem wrongL_le (f : List PM.G) (n : Nat) (E : List Nat) (k : Nat) : (wrongL f n E k).length ≤ k := by
  unfold wrongL
  have := List.length_filter_le (fun i => decide (PM.ev f (SM.XE n i) = 0) && decide (i ∉ E)) (List.range k)
  rwa [List.length_range] at this
theorem mem_wrongL {f : List PM.G} {n : Nat} {E : List Nat} {k i : Nat} : i ∈ wrongL f n E k ↔ i < k ∧ PM.ev f (SM.XE n i) = 0 ∧ i ∉ E := by
  unfold wrongL
  rw [List.mem_filter, List.mem_range, Bool.and_eq_true, decide_eq_true_iff, decide_eq_true_iff]
theorem wrongL_nodup (f : List PM.G) (n : Nat) (E : List Nat) (k : Nat) : (wrongL f n E k).Nodup := List.Pairwise.filter _ List.nodup_range
theorem wrongL_0 (f : List PM.G) (n : Nat) (E : List Nat) : wrongL f n E 0 = [] := rfl
attribute [irreducible] wrongL
/-- The sequence without the erased places. -/
def seqU (vs gp : List PM.G) (k : Nat) : PM.G := weighV (vs.drop k) gp gp.length
/-- What wrongPlaces has found. -/
def WrongR (n C : Nat) (vs : List PM.G) (E ws : List Nat) : Prop :=
  ∃ (f last next lf gp : List PM.G), RootsP (E.map (SM.XE n)) gp ∧ SM.Euc (C - E.length) (SM.turned (C - E.length) (seqU vs gp)) last next lf f ∧ C - E.length + 2 ≤ 2 * last.length ∧ 2 * next.length < C - E.length + 2 ∧ ws = wrongL f n E n

theorem Row.drop {w : World} {b off : Nat} {zs : List PM.G} {cap : Nat} (h : Row w (some ⟨b, off, none⟩) zs cap) (k : Nat) (hk : k ≤ zs.length) : Row w (some ⟨b, off + k, none⟩) (zs.drop k) (cap - k) :=
  ⟨by have := h.room; rw [List.length_drop]; omega, by have := h.most; omega, fun j hj => by
    rw [List.length_drop] at hj
    refine ⟨b, off + k, rfl, ?_⟩
    rw [PM.el_drop, Nat.add_assoc]
    exact h.cell (k + j) (by omega)⟩

set_option maxRecDepth 100000 in
set_option maxHeartbeats 4000000 in
/-- **symbol.wrongPlaces** -/
theorem wrongPlaces_any {D C F : Nat} (hc : Cd D C F) (av ae : Option Addr) (vs : List PM.G) (E : List Nat) (cv ce : Nat) (w : World) (hV : Row w av vs cv) (hE : G.Row w ae E ce) (hvl : vs.length = C) (hel : E.length ≤ C) (hin : ∀ k, k < E.length → G.el E k < D + C) :
    Calls Try.prog 44 #[codeV D C F, .slice av C cv, .slice ae E.length ce] w fun e W => ∃ ws a c, e = .returned (.slice a (List.length ws) c) ∧ G.Own W w.heap.size (.slice a ws.length c) ws ∧ WrongR (D + C) C vs E ws ∧ Below w.heap.size w W := by
  have hr1 := hV.room
  have hm1 := hV.most
  have hr2 := hE.room
  have hm2 := hE.most
  rw [hvl] at hr1
  have hC2 := hc.c2
  have hD2 := hc.d2
  obtain ⟨bv, ov, rfl, _⟩ := hV.el 0 (by have := hc.c1; omega)
  have HV := Lib.hid hV
  have HE := Lib.hid hE
  have HVL := Lib.hid hvl
  have HLC := Lib.hid (fun p hp W => locator_any hc p hp W)
  have HLE := Lib.hid (fun W => length_any hc W)
  have HLS := Lib.hid (fun W h => locators_any hc ae E ce W h (by omega) hin)
  unfold codeV at *
  obtain ⟨w1, hw1, _, _, _, _, hB, hX⟩ := code_box w D C F 28
  have HB := Lib.hid hB
  have hx := hX
  have HX := Lib.hid hX
  obtain ⟨c0, c1, c2, c3⟩ := box4_at hx
  have HL1 := Lib.hid (HLS.out w1 (hE.below hB))
  obtain ⟨n, hn⟩ : ∃ n, D + C = n := ⟨_, rfl⟩
  rw [hn] at HLC HLE HL1 ⊢
  have hn40 : n ≤ 40 := by omega
  clear hB hV hE hvl hin hX hx hc hn HLS
  go_enter Try.func44, Try.ntmps44
  go_wp2_with fail
  (with_reducible refine HL1.out.mono ?_)
  rintro e w2 ⟨g2, rfl, hg2, ho2, hb2⟩
  have hwr := withRoots_any (some ⟨g2, 0, none⟩) (tab E.length (locL n E)) E.length w2 (ho2.rowAtN (tab_len _ _)) (by rw [tab_len]; omega)
  rw [tab_len, loc_map] at hwr
  have HWR := Lib.hid hwr
  have HB2 := Lib.hid (HB.out.trans (hb2.mono HB.out.size))
  have HX2 := Lib.hid (HX.out.below hb2)
  clear hwr ho2 hg2 hb2 HL1 HX HB c0 c1 c2 c3 hw1
  go_wp2_with fail
  (with_reducible refine HWR.out.mono ?_)
  rintro e w3 ⟨⟨gp, a3, c3', rfl, hr3, hgp, _⟩, hb3⟩
  have HR3 := Lib.hid hr3
  have HGP := Lib.hid hgp
  have HB3 := Lib.hid (HB2.out.trans (hb3.mono HB2.out.size))
  have hx3 := HX2.out.below hb3
  have HX3 := Lib.hid hx3
  obtain ⟨c0, c1, c2, c3⟩ := box4_at hx3
  obtain ⟨L, hL⟩ : ∃ L, C - E.length = L := ⟨_, rfl⟩
  have hLi : (C : Int) - (E.length : Int) = (L : Int) := by omega
  clear hr3 hgp hb3 hx3 HWR HX2 HB2
  go_wp2_with (at_make; refine wpList_make1 rfl _ _ rfl L rfl rfl (by omega) (by omega) (B := w3.heap.size) (Nat.le_refl _) ?_; intro w4 ho4 hb4)
  obtain ⟨g, hg⟩ : ∃ g, w3.heap.size = g := ⟨_, rfl⟩
  rw [hg] at ho4 hb4 ⊢
  have hgw : w.heap.size ≤ g := by have := HB3.out.size; omega
  have hglen : gp.length = E.length + 1 := by have := HGP.out.len; rwa [List.length_map] at this
  obtain ⟨u, hu⟩ : ∃ u, seqU vs gp = u := ⟨_, rfl⟩
  have HU := Lib.hid hu
  have HGL := Lib.hid hglen
  rw [List.length_replicate, tab_replicate, ← part2_0 L u] at ho4
  have HO4 := Lib.hid ho4
  have HB4 := Lib.hid hb4
  have HG := Lib.hid hg
  have hLC : L ≤ C := by omega
  clear ho4 hb4 c0 c1 c2 c3 hu hg hglen
  go_loopw [25] (fun k wr => ∃ i : Nat, k = .int .i64 (i : Int) ∧ i ≤ L ∧ Own wr g (.slice (some ⟨g, 0, none⟩) L L) (tab L (part2 u (fun _ => 0) i)) ∧ Below g w3 wr) (fun k _ => L - (intOf k).toNat)
  case atStart => exact ⟨0, rfl, by omega, HO4.out, HB4.out⟩
  case round =>
    clear HO4 HB4
    obtain ⟨i, rfl, hi, ho, hb⟩ := hrel
    have HO := Lib.hid ho
    have HB := Lib.hid hb
    have hbg : Below w3.heap.size w3 wr := by rw [HG.out]; exact hb
    have HR := Lib.hid (HR3.out.below hbg)
    have HVR := Lib.hid (HV.out.below (HB3.out.trans (hbg.mono HB3.out.size)))
    clear ho hb hbg
    by_cases hlt : i < L
    · have hw := fun W (h : Dr wr W) => weigh_any (some ⟨bv, ov + i, none⟩) a3 (vs.drop i) gp (cv - i) c3' W (by obtain ⟨m, rfl⟩ := h; exact (HVR.out.drop i (by rw [HVL.out]; omega)).drewN m) (by obtain ⟨m, rfl⟩ := h; exact HR.out.drewN m) (by rw [List.length_drop, HVL.out, HGL.out]; omega) (by rw [List.length_drop, HVL.out]; omega)
      have hs : weighV (vs.drop i) gp gp.length = u i := by rw [← HU.out]; rfl
      rw [List.length_drop, HVL.out, hs] at hw
      have HW := Lib.hid hw
      have ha := (HO.out.at i (by rw [tab_len]; exact hlt)).2.2.2.2
      obtain ⟨ha1, ha2⟩ := ha
      have hiC : (i : Int) ≤ (C : Int) := by omega
      have hicv : (i : Int) ≤ (cv : Int) := by omega
      have hcvi : ¬ cv = i := by omega
      clear hw hs
      obtain ⟨y, hy⟩ : ∃ y, u i = y := ⟨_, rfl⟩
      rw [hy] at HW
      have HY := Lib.hid hy
      clear hy
      go_wp2_with fail
      (with_reducible refine (HW.out wr (Dr.refl wr)).mono ?_)
      rintro e w5 ⟨rfl, m5, rfl⟩
      have hst2 : Own ((wr.drewN m5).setCell ⟨g, i, none⟩ (.int .u8 (y.v : Int))) g (.slice (some ⟨g, 0, none⟩) L L) ((tab L (part2 u (fun _ => 0) i)).set i y) := by
        have := Own.set (zs := tab L (part2 u (fun _ => 0) i)) (cap := L) (g := g) (by rw [tab_len]; exact HO.out.drewN m5) i y
        rwa [tab_len] at this
      rw [← HY.out, part2_step _ _ _ _ hlt, HY.out] at hst2
      have HST := Lib.hid hst2
      have HBT := Lib.hid ((belowN HB.out m5).setCell (p := ⟨g, i, none⟩) (Nat.le_refl g) (.int .u8 (y.v : Int)))
      clear hst2 HO HB HR HVR HW
      go_wp2_with fail
      go_roundw
      case rel => exact ⟨i + 1, by go_num, hlt, HST.out, HBT.out⟩
      case measure => simp [intOf]; omega
    · obtain rfl : i = L := by omega
      rw [part2_all] at HO
      have hbg : Below w3.heap.size w3 wr := by rw [HG.out]; exact HB.out
      have hrec := recurrence_any (some ⟨g, 0, none⟩) (tab i u) i wr (HO.out.rowAtN (tab_len _ _)) (by rw [tab_len]; omega)
      rw [tab_len] at hrec
      have HRC := Lib.hid hrec
      have HXR := Lib.hid (HX3.out.below hbg)
      have HBR := Lib.hid (HB3.out.trans (hbg.mono HB3.out.size))
      clear hbg hrec HO HB HR HVR
      go_wp2_with fail
      (with_reducible refine HRC.out.mono ?_)
      rintro e w5 ⟨last, next, lf, f, a5, c5, rfl, hr5, hfl, heuc, hgo, hstop, hb5⟩
      have HR5 := Lib.hid hr5
      have HB5 := Lib.hid (HBR.out.trans (hb5.mono HBR.out.size))
      have hx5 := HXR.out.below hb5
      have HX5 := Lib.hid hx5
      obtain ⟨c0, c1, c2, c3⟩ := box4_at hx5
      have HWRG := Lib.hid (show WrongR n C vs E (wrongL f n E n) from ⟨f, last, next, lf, gp, HGP.out, by
        rw [hL, HU.out]
        rwa [show SM.turned i (PM.el (tab i u)) = SM.turned i u from by
          funext k
          unfold SM.turned
          by_cases h : k < i
          · rw [if_pos h, if_pos h, el_tab _ _ _ (by omega)]
          · rw [if_neg h, if_neg h]] at heuc, by rw [hL]; exact hgo, by rw [hL]; exact hstop, rfl⟩)
      clear hr5 hb5 hx5 heuc hgo hstop HXR HBR HRC
      go_wp2_with fail
      (with_reducible refine (HLE.out _).mono ?_)
      rintro e w6 ⟨rfl, hb6⟩
      have HR6 := Lib.hid (HR5.out.below hb6)
      have HB6 := Lib.hid (HB5.out.trans (hb6.mono HB5.out.size))
      have HX6 := Lib.hid (HX5.out.below hb6)
      have HBX := HX6.out.lt
      clear hb6 HR5 HB5 HX5 c0 c1 c2 c3
      go_wp2_with fail
      go_loopw [11, 41] (fun s k wr => ∃ (j : Nat) (l : List Nat) (a' : Option Addr) (c' : Nat), k = .int .i64 (j : Int) ∧ j ≤ n ∧ l = wrongL f n E j ∧ s = .slice a' l.length c' ∧ G.Own wr w6.heap.size (.slice a' l.length c') l ∧ Below w6.heap.size w6 wr) (fun _ k _ => n - (intOf k).toNat)
      case atStart => exact ⟨0, [], none, 0, rfl, by omega, (wrongL_0 f n E).symm, rfl, G.Own.nil _ _, Below.refl _ _⟩
      case round =>
        obtain ⟨j, l, a', c', rfl, hj, hl, rfl, ho, hb⟩ := hrel
        have HO := Lib.hid ho
        have HBL := Lib.hid hb
        have HLL := Lib.hid hl
        have hll : l.length ≤ 1000 := by have := wrongL_le f n E j; rw [← hl] at this; omega
        have hxj := HX6.out.below hb
        obtain ⟨c0, c1, c2, c3⟩ := box4_at hxj
        have HRJ := Lib.hid (HR6.out.below hb)
        clear ho hb hl hxj
        by_cases hlt : j < n
        · have HLJ := Lib.hid (HLC.out j hlt wr)
          go_wp2_with fail
          (with_reducible refine HLJ.out.mono ?_)
          rintro e w7 ⟨rfl, hb7⟩
          have HEV := Lib.hid (eval_any a5 c5 f (SM.XE n j) w7 (HRJ.out.below hb7))
          have HB7 := Lib.hid (HBL.out.trans (hb7.mono HBL.out.size))
          have HO7 := Lib.hid (HO.out.below hb7)
          obtain ⟨z, hz⟩ : ∃ z, PM.ev f (SM.XE n j) = z := ⟨_, rfl⟩
          rw [hz] at HEV
          have HZ := Lib.hid hz
          clear hb7 hz HLJ HO HBL HRJ c0 c1 c2 c3
          go_wp2_with fail
          (with_reducible refine HEV.out.mono ?_)
          rintro e w8 ⟨rfl, hb8⟩
          have HB8 := Lib.hid (HB7.out.trans (hb8.mono HB7.out.size))
          have HO8 := Lib.hid (HO7.out.below hb8)
          have HE8 := Lib.hid (HE.out.below (HB6.out.trans (HB8.out.mono HB6.out.size)))
          clear hb8 HEV HB7 HO7
          by_cases hz0 : z = 0
          · have hzb := gv_eq0 hz0
            by_cases hjE : j ∈ E
            · have HCN := Lib.hid (G.containsN_any ae E ce j true w8 HE8.out (decide_eq_true hjE))
              have HN := Lib.hid (show l = wrongL f n E (j + 1) by rw [HLL.out]; exact (wrongL_no (fun h => h.2 hjE)).symm)
              clear hz0 hjE
              go_wp2_with fail
              (with_reducible refine HCN.out.mono ?_)
              rintro e w9 ⟨rfl, rfl⟩
              go_wp2_with fail
              go_roundw
              case rel => exact ⟨j + 1, l, a', c', by go_num, hlt, HN.out, rfl, HO8.out, HB8.out⟩
              case measure => simp [intOf]; omega
            · have HCN := Lib.hid (G.containsN_any ae E ce j false w8 HE8.out (decide_eq_false hjE))
              have HN := Lib.hid (show l ++ [j] = wrongL f n E (j + 1) by rw [HLL.out]; exact (wrongL_yes (by rw [HZ.out]; exact hz0) hjE).symm)
              clear hz0 hjE
              go_wp2_with fail
              (with_reducible refine HCN.out.mono ?_)
              rintro e w9 ⟨rfl, rfl⟩
              go_wp2_with (at_builtin; refine G.wpList_app1 (α := Nat) rfl _ _ rfl j rfl (HO8.out.alloc _) rfl (G.cell_new _ _ _) (by omega) (by have := HB8.out.size; simp; omega) ?_; intro a9 c9 w10 ho9 hg9 hb9 _)
              go_roundw
              case rel =>
                refine ⟨j + 1, l ++ [j], a9, c9, by go_num, hlt, HN.out, by rw [List.length_append]; rfl, by rw [List.length_append]; exact ho9, ?_⟩
                exact HB8.out.trans (((Below.refl w6.heap.size w8).alloc HB8.out.size _).trans hb9)
              case measure => simp [intOf]; omega
          · have hzb := gv_neq hz0
            have HN := Lib.hid (show l = wrongL f n E (j + 1) by rw [HLL.out]; exact (wrongL_no (fun h => hz0 (by rw [← HZ.out]; exact h.1))).symm)
            clear hz0
            go_wp2_with fail
            go_roundw
            case rel => exact ⟨j + 1, l, a', c', by go_num, hlt, HN.out, rfl, HO8.out, HB8.out⟩
            case measure => simp [intOf]; omega
        · obtain rfl : j = n := by omega
          go_wp2_with fail
          go_ret
          exact ⟨l, a', c', rfl, HO.out.mono HB6.out.size, by rw [HLL.out]; exact HWRG.out, HB6.out.trans (HBL.out.mono HB6.out.size)⟩
end Go.Proofs.Ytijkgplglfmfnaa.P

namespace Go.Proofs.Ytijkgplglfmfnaa.P
open PM (G el ev evn conv)
open SM (pw lsum lsum_ext range_succ_sum syn XE)

/-- x / y, or 0. -/
def gdiv (x y : G) : G := ⟨FM.divV x.v y.v, FM.divV_lt x.lt⟩
theorem gdiv_ok (d : G) {y : G} (h : y ≠ 0) : gdiv (d * y) y = d := by
  have hy : y.v ≠ 0 := fun e => h (G.v_zero.1 e)
  have : gdiv (d * y) y = (d * y) * y.inv := by
    apply G.ext'
    show FM.divV (d * y).v y.v = FM.mul (d * y).v (FM.invV y.v)
    unfold FM.divV
    rw [if_neg hy]
  rw [this, G.mul_assoc, G.mul_inv h, G.mul_one]
theorem weighV_sum (vs p : List G) (k : Nat) : weighV vs p k = lsum (List.range k) (fun k => el p k * el vs k) := by unfold weighV; rfl
theorem ev_sum (p : List G) (x : G) : ev p x = lsum (List.range p.length) (fun k => el p k * pw x k) := by
  show evn p.length (el p) x = _
  rw [SM.evn_sum]
/-- A polynomial that is laid on sums of powers. -/
theorem weigh_pow {α : Type} {X d : α → G} {P : List α} {vs p : List G} (k : Nat) (hv : ∀ j, j < k + p.length → el vs j = lsum P (fun q => d q * pw (X q) j)) : weighV (vs.drop k) p p.length = lsum P (fun q => (d q * ev p (X q)) * pw (X q) k) := by
  rw [weighV_sum, lsum_ext (g := fun i => lsum P (fun q => el p i * (d q * pw (X q) (k + i)))) (fun i hi => by
    rw [List.mem_range] at hi
    rw [PM.el_drop, hv (k + i) (by omega), SM.lsum_smul]), SM.lsum_swap]
  refine lsum_ext (fun q _ => ?_)
  rw [ev_sum, lsum_ext (g := fun i => (d q * pw (X q) k) * (el p i * pw (X q) i)) (fun i _ => by
    rw [SM.pw_add, G.mul_assoc, G.mul_left_comm (el p i), G.mul_left_comm (pw (X q) k), G.mul_left_comm (el p i)]), SM.lsum_smul, G.mul_assoc, G.mul_assoc, G.mul_comm (pw (X q) k)]
/-- **What is added at a place**, if the values are those of amounts at the places. -/
theorem corr_val {X d : Nat → G} {P : List Nat} {vs all A r : List G} {C : Nat} (hall : RootsP (P.map X) all) (hX : P.Pairwise (fun i k => X i ≠ X k)) (i : Nat) (hi : i < P.length) (heq : ∀ j, el all j = conv (el A) (el [X P[i], G.one]) j + el r j)
    (hr : r.length < 2) (hA : A.length = P.length) (hcan : PM.Can A) (hP : P.length ≤ C) (hv : ∀ j, j < C → el vs j = lsum P (fun q => d q * pw (X q) j)) : gdiv (weighV vs A A.length) (ev A (X P[i])) = d P[i] := by
  have hval : ∀ y, ev all y = ev A y * (X P[i] + y) + el r 0 := fun y => by
    have e1 := SM.evn_conv' (N := A.length + 2 + all.length + r.length) y (PM.el_van A) (PM.el_van [X P[i], G.one]) (by simp; omega)
    have e2 : ev [X P[i], G.one] y = X P[i] + y := by
      show evn 2 (el [X P[i], G.one]) y = _
      rw [el_two, PM.evn_lin]
    have e3 : evn (A.length + 2 + all.length + r.length) (el r) y = el r 0 := by
      rw [PM.ev_any r y (by omega)]
      show evn r.length (el r) y = _
      match hrl : r.length, hr with
      | 0, _ => rw [PM.el_ge (by omega)]; rfl
      | 1, _ =>
        rw [PM.evn_succ]
        show el r 0 + y * 0 = _
        rw [G.mul_zero, G.add_zero]
    have e4 : evn (A.length + 2 + all.length + r.length) (el all) y = ev all y := PM.ev_any all y (by omega)
    rw [← e4, show el all = PM.addC (conv (el A) (el [X P[i], G.one])) (el r) from funext heq, PM.evn_addC, e1, e3]
    show ev A y * ev [X P[i], G.one] y + _ = _
    rw [e2]
  have hroot : ∀ q ∈ P, ev all (X q) = 0 := fun q hq => by rw [hall.val, SM.prodY_zero (List.mem_map.2 ⟨q, hq, rfl⟩)]
  have hr0 : el r 0 = 0 := by
    have := hval (X P[i])
    rw [hroot _ (List.getElem_mem hi), G.add_self, G.mul_zero, G.zero_add] at this
    exact this.symm
  have hprod : ∀ q ∈ P, ev A (X q) * (X P[i] + X q) = 0 := fun q hq => by
    have := hval (X q)
    rw [hroot q hq, hr0, G.add_zero] at this
    exact this.symm
  have hnd : (P.map X).Nodup := by
    rw [List.nodup_iff_pairwise_ne, List.pairwise_map]
    exact hX
  have hinj : ∀ q ∈ P, X P[i] = X q → P[i] = q := fun q hq e => by
    obtain ⟨k, hk, rfl⟩ := List.getElem_of_mem hq
    rcases Nat.lt_trichotomy i k with h | h | h
    · exact absurd e (List.pairwise_iff_getElem.1 hX i k hi hk h)
    · subst h; rfl
    · exact absurd e.symm (List.pairwise_iff_getElem.1 hX k i hk hi h)
  have hzero : ∀ q ∈ P, q ≠ P[i] → ev A (X q) = 0 := fun q hq hne => by
    rcases G.mul_eq_zero.1 (hprod q hq) with h | h
    · exact h
    · exact absurd (hinj q hq (G.add_eq_zero.1 h)).symm hne
  have hne : ev A (X P[i]) ≠ 0 := fun h0 => by
    obtain ⟨m, hm⟩ : ∃ m, A.length = m + 1 := ⟨A.length - 1, by omega⟩
    have := PM.roots_le m (el A) (by rw [← hm]; exact PM.el_van A) (SM.can_top hcan hm) (P.map X) hnd (fun x hx => by
      obtain ⟨q, hq, rfl⟩ := List.mem_map.1 hx
      rw [← hm]
      show ev A (X q) = 0
      by_cases e : q = P[i]
      · rw [e]; exact h0
      · exact hzero q hq e)
    rw [List.length_map] at this
    omega
  have hw : weighV vs A A.length = d P[i] * ev A (X P[i]) := by
    have h := weigh_pow (X := X) (d := d) (P := P) (vs := vs) (p := A) 0 (fun j hj => hv j (by omega))
    rw [List.drop_zero] at h
    rw [h]
    -- one place alone counts
    have hone : ∀ (Q : List Nat), Q.Nodup → (∀ q ∈ Q, q ∈ P) → lsum Q (fun q => (d q * ev A (X q)) * pw (X q) 0) = if P[i] ∈ Q then d P[i] * ev A (X P[i]) else 0 := by
      intro Q
      induction Q with
      | nil => intro _ _; rw [if_neg List.not_mem_nil]; rfl
      | cons q Q ih =>
        intro hQ hin
        rw [List.nodup_cons] at hQ
        rw [SM.lsum_cons, ih hQ.2 (fun x hx => hin x (List.mem_cons_of_mem _ hx)), SM.pw_0, G.mul_one]
        by_cases e : q = P[i]
        · rw [if_neg (by rw [← e]; exact hQ.1), if_pos (by rw [← e]; exact List.mem_cons_self), e, G.add_zero]
        · rw [hzero q (hin q List.mem_cons_self) e, G.mul_zero, G.zero_add]
          by_cases h2 : P[i] ∈ Q
          · rw [if_pos h2, if_pos (List.mem_cons_of_mem _ h2)]
          · rw [if_neg h2, if_neg (fun h3 => by rcases List.mem_cons.1 h3 with h4 | h4; exact e h4.symm; exact h2 h4)]
    rw [hone P (List.Pairwise.imp (fun h e => h (by rw [e])) hX) (fun q hq => hq), if_pos (List.getElem_mem hi)]
  rw [hw, gdiv_ok _ hne]

/-- **The wrong places are found.** -/
theorem wrong_found {n C t : Nat} {w c : Nat → G} {vs : List G} {E ws : List Nat} (hn : n ≤ 255) (hE : ∀ i ∈ E, i < n) (hEC : E.length ≤ C) (hvs : ∀ j, j < C → el vs j = syn n (XE n) w j) (hc : ∀ j, j < C → syn n (XE n) c j = 0)
    (hW : WrongR n C vs E ws) (hw : (SM.wrong n E w c).length ≤ t) (ht : 2 * t ≤ C - E.length) : ws = SM.wrong n E w c := by
  obtain ⟨f, last, next, lf, gp, hgp, heuc, hgo, hstop, rfl⟩ := hW
  obtain ⟨S, hS⟩ : ∃ S, SM.wrong n E w c = S := ⟨_, rfl⟩
  have hX := SM.xe_inj hn
  have hlt : ∀ i ∈ S, i < n := fun i hi => by rw [← hS] at hi; exact (SM.mem_wrong.1 hi).1
  have hp := SM.pair_of hX (by rw [← hS]; exact SM.wrong_nodup n E w c) hlt
  have hgl := hgp.len
  rw [List.length_map] at hgl
  have hu : ∀ j, j < C - E.length → seqU vs gp j = lsum S (fun o => ((w o + c o) * ev gp (XE n o)) * pw (XE n o) j) := fun j hj => by
    unfold seqU
    rw [weigh_pow (X := XE n) (d := fun i => w i + c i) (P := List.range n) j (fun k hk => by
      rw [hvs k (by omega)]
      have := SM.syn_add n (XE n) w c k
      rw [hc k (by omega), G.add_zero] at this
      exact this.symm), ← hS]
    unfold SM.wrong
    refine (SM.lsum_filter (fun i => ((w i + c i) * ev gp (XE n i)) * pw (XE n i) j) (fun i => decide (c i ≠ w i) && !E.contains i) (fun i hi => by
      by_cases h : c i = w i
      · rw [h, G.add_self, G.zero_mul, G.zero_mul]
      · rw [show decide (c i ≠ w i) = true from decide_eq_true h, Bool.true_and, Bool.not_eq_false', List.contains_eq_mem, decide_eq_true_iff] at hi
        rw [hgp.val, SM.prodY_zero (List.mem_map.2 ⟨i, hi, rfl⟩), G.mul_zero, G.zero_mul]) (List.range n)).symm
  have ha : ∀ o ∈ S, (w o + c o) * ev gp (XE n o) ≠ 0 := fun o ho => by
    rw [← hS] at ho
    obtain ⟨h1, h2, h3⟩ := SM.mem_wrong.1 ho
    refine G.mul_ne (fun e => h2 (G.add_eq_zero.1 e).symm) ?_
    rw [hgp.val]
    refine SM.prodY_ne (fun h => ?_)
    obtain ⟨k, hk, e⟩ := List.mem_map.1 h
    exact h3 ((hX k (hE k hk) o h1 e) ▸ hk)
  rw [hS] at hw ⊢
  have hroots := fun y hy => SM.Euc.roots (X := XE n) (a := fun o => (w o + c o) * ev gp (XE n o)) (W := S) heuc hstop hgo hp ha (fun o _ => SM.xe_ne n o) hu (by omega) y hy
  rw [← hS]
  unfold wrongL SM.wrong
  refine List.filter_congr (fun i hi => ?_)
  rw [List.mem_range] at hi
  have h1 := hroots (XE n i) (SM.xe_ne n i)
  rw [Bool.eq_iff_iff, Bool.and_eq_true, Bool.and_eq_true, decide_eq_true_iff, decide_eq_true_iff, decide_eq_true_iff, Bool.not_eq_true', List.contains_eq_mem, decide_eq_false_iff_not, h1]
  constructor
  · rintro ⟨⟨o, ho, e⟩, h3⟩
    have : o = i := hX o (hlt o ho) i hi e
    subst this
    rw [← hS] at ho
    exact ⟨(SM.mem_wrong.1 ho).2.1, h3⟩
  · rintro ⟨h2, h3⟩
    exact ⟨⟨i, by rw [← hS]; exact SM.mem_wrong.2 ⟨hi, h2, h3⟩, rfl⟩, h3⟩
end Go.Proofs.Ytijkgplglfmfnaa.P
