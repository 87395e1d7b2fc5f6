/- chance's numbers, in a form that is reckoned fast. nat.Gcd. append of any slice of ints, with no word on a nil one's room. The reference's Gcd. The reference's Make of two numbers. ratio.Make of two numbers. The reference's Same at any two lists of limbs. ref02.Same. ratio.Valid of a fraction in lowest terms. ratio.product and ratio.Mul of valid fractions whose products are short. ratio.crosswise of valid fractions whose products are short. ratio.Add of valid fractions whose products and sum are short. ratio.Add and ratio.Sub of valid fractions whose products are short. ratio.Cmp and ratio.Floor of valid fractions whose products are short. ref02.Of and ratio.Of of numbers. ratio.Print of eleven sixths. What nat.Print writes is read by nat.Parse. ratio.Print of 1 / 255. chance.Chance, for the code of law08.awake; awake. The dice of the statements: made.Mod, Light, Roll, Dice.Next, One. Dice.One. Dice.Symbols, for the laws of chance; a code that is stored in a variable. law08.awake. What the statements' last steps share: a start that fits, and the row's post behind a call that only makes memory. A parameter of type []int: its row of numbers, and its reading again behind a call that only makes memory. What ChanceFewer says, as mathematics. -/
import Derived.Test.YtbhfhekjcnnfeaaDoorB11
import Derived.Deep.RegionHeld3
import Derived.Deep.RegionLaw
import Derived.Test.YtbhfhekjcnnfeaaDoorCards
import Derived.Test.YtbhfhekjcnnfeaaDoorTie
import Derived.WalkKit
import Derived.ProofKit
import Derived.OpenShut
import Derived.Deep.DeepHandedRow
import Derived.Lib.LaidTab
namespace Go.Proofs.YtbhfhekjcnnfeaaDoor
open Go Go.RowKit Go.Shelf

namespace C
open G (el)
/-- The number of sets of k out of n things, factor by factor. -/
def chF (n : Nat) : Nat → Nat
  | 0 => 1
  | k + 1 => chF n k * (n - k) / (k + 1)
theorem chF_eq (n : Nat) : ∀ k, chF n k = M.ch n k
  | 0 => (M.ch_zero n).symm
  | k + 1 => by
    rw [chF, chF_eq n k]
    by_cases h : k < n
    · rw [Nat.mul_comm, M.ch_next n k h, Nat.mul_div_cancel_left _ (Nat.succ_pos k)]
    · rw [show n - k = 0 by omega, Nat.mul_zero, Nat.zero_div]
      exact (M.ch_gt n (k + 1) (by omega)).symm
theorem chI_F (n k : Nat) : chI n (k : Int) = chF n k := by unfold chI; rw [if_neg (by omega), Int.toNat_natCast, chF_eq]
def setTF (odd even c : Nat) : Nat := el CL c * chF c odd * chF (72 - c) even
def setsF (odd even : Nat) : Nat := sm (setTF odd even) 73
def btF (w k : Nat) : Nat := setsF k (w - k)
def altF (w : Nat) : Nat := ev (btF w) (w + 1) - od (btF w) (w + 1)
theorem bt_F (w : Nat) : bt w = btF w := by
  funext k
  show sm (setT k (w - k)) 73 = sm (setTF k (w - k)) 73
  rw [show setT k (w - k) = setTF k (w - k) from by funext c; unfold setT setTF; rw [chI_F, chI_F]]
theorem altB_F (w : Nat) : altB w = altF w := by unfold altB altF; rw [bt_F]
def bwF (w : Nat) : Nat := if w = 0 then 0 else altF w / 256
theorem bwN_F (w : Nat) : bwN (w : Int) = bwF w := by
  unfold bwN bwF
  by_cases h : w = 0
  · subst h; rfl
  · rw [if_neg (by omega), if_neg h, Int.toNat_natCast, altB_F]
def termF (C w z : Nat) : Nat := chF w z * 256 ^ (w - z - C)
theorem term_F (C w : Nat) : term C w = termF C w := by funext z; unfold term termF; rw [chI_F]
def eachF (C w : Nat) : Nat := ev (termF C w) (w + 1) - od (termF C w) (w + 1)
theorem each_F (C w : Nat) : each C w = eachF C w := by unfold each eachF; rw [term_F]
def wordsF (n C w : Nat) : Nat := chF n w * eachF C w
theorem words_F (n C w : Nat) : wordsN n C w = wordsF n C w := by unfold wordsN wordsF; rw [chI_F, each_F]
def errF (n w : Nat) : Nat := chF n w * 255 ^ w
theorem err_F (n w : Nat) : errN n w = errF n w := by unfold errN errF; rw [chI_F]
theorem bw1 : bwF 1 = 0 := by decide +kernel
theorem bw2 : bwF 2 = 0 := by decide +kernel
theorem bw3 : bwF 3 = 0 := by decide +kernel
theorem wb2 : wbN 2 = 0 := by
  unfold wbN
  rw [show ((2 : Nat) : Int) + 1 = ((3 : Nat) : Int) from rfl, show ((2 : Nat) : Int) - 1 = ((1 : Nat) : Int) from rfl, bwN_F, bwN_F, bwN_F, bw1, bw2, bw3]
theorem words112 : wordsN 2 1 2 = 255 := by rw [words_F]; decide +kernel
theorem near_zero (n C w : Nat) (h1 : 1 ≤ w) (h2 : w ≤ n) : nearN n C w 0 0 0 = wordsN n C w := by
  unfold nearN
  rw [if_neg (by omega), show w + 0 - 0 = w by omega]
  have c0 : ∀ m : Nat, chI m ((0 : Nat) : Int) = 1 := fun m => by unfold chI; rw [if_neg (by omega)]; exact M.ch_zero m
  have e : nearL n C w 0 0 0 = [wordsN n C w, 1, 1, 1, 1, 1] := by
    unfold nearL
    rw [c0, c0, if_neg (by omega), c0]
  rw [e]
  simp [prd, nth]
theorem wrong0 (n C w : Nat) (h1 : 1 ≤ w) (h2 : w ≤ n) : wrongN n C w 0 = wordsN n C w := by
  show 0 + (0 + (0 + nearN n C w 0 0 0)) = _
  rw [near_zero n C w h1 h2]
  omega
end C
end Go.Proofs.YtbhfhekjcnnfeaaDoor

namespace Go.Proofs.YtbhfhekjcnnfeaaDoor
open Go Go.RowKit Go.Shelf

/-- The int in cell j of a slice. -/
def cellInt (W : World) (a : Option Addr) (j : Nat) : Int :=
  match a with
  | some p => match W.cell? ⟨p.block, p.off + j, none⟩ with | some (.int _ z) => z | _ => 0
  | none => 0
/-- The number that a slice holds. -/
def numAt (W : World) : Value → Nat
  | .slice a n _ => (M.val ((List.range n).map (cellInt W a))).toNat
  | _ => 0
theorem numAt_row {W : World} {a : Option Addr} {c v : Nat} (h : Row W a (M.dig v) c) : numAt W (.slice a (M.dig v).length c) = v := by
  have e : (List.range (M.dig v).length).map (cellInt W a) = M.dig v := by
    refine M.ext_el (by simp) fun j hj => ?_
    have hj' : j < (M.dig v).length := by simpa using hj
    obtain ⟨b, off, rfl, hc⟩ := h.el j hj'
    rw [M.el_lt hj, List.getElem_map, List.getElem_range]
    simp [cellInt, hc]
  unfold numAt
  simp only
  rw [e, M.val_dig, Int.toNat_natCast]

def GcdRel (w : World) (x y : Nat) (s t : Value) (W : World) : Prop :=
  ∃ (u v : Nat) (a b : Option Addr) (ca cb : Nat), s = .slice a (M.dig u).length ca ∧ t = .slice b (M.dig v).length cb ∧ Row W a (M.dig u) ca ∧ Row W b (M.dig v) cb ∧ Fresh (w.heap.size + 3) a (M.dig u) ∧ Fresh (w.heap.size + 3) b (M.dig v) ∧
    (M.dig u).length ≤ 200 ∧ (M.dig v).length ≤ 200 ∧ Nat.gcd u v = Nat.gcd x y ∧ W.cell? ⟨w.heap.size + 1 + 1, 0, none⟩ = some (.slice none 0 0) ∧ W.frozen? ⟨w.heap.size + 1 + 1, 0, none⟩ = false ∧ w.heap.size + 3 ≤ W.heap.size ∧ Below w.heap.size w W

set_option maxRecDepth 100000 in
set_option maxHeartbeats 1000000 in
theorem gcd_any (a b : Option Addr) (ca cb x y : Nat) (w : World) (hx200 : (M.dig x).length ≤ 200) (hy200 : (M.dig y).length ≤ 200) (hA : Row w a (M.dig x) ca) (hB : Row w b (M.dig y) cb) :
    Calls Tryd.prog 73 #[.agg #[.slice a (M.dig x).length ca], .agg #[.slice b (M.dig y).length cb]] w fun e W' => (∃ v, e = .returned (.tuple #[v, .int .i64 0]) ∧ Num W' v (Nat.gcd x y)) ∧ Below w.heap.size w W' := by
  have Hvx := Lib.hid (vld_dig hx200)
  have Hvy := Lib.hid (vld_dig hy200)
  have hb3 := boxes_below w (.slice a (M.dig x).length ca) (.slice b (M.dig y).length cb)
  have hs3 := boxes_size w (.slice a (M.dig x).length ca) (.slice b (M.dig y).length cb)
  obtain ⟨c0, c1, c2, f2⟩ := boxes_cells w (.slice a (M.dig x).length ca) (.slice b (M.dig y).length cb)
  have HA := Lib.hid hA
  have HB := Lib.hid hB
  have HB3 := Lib.hid hb3
  clear hA hB hb3
  go_enter Tryd.func73, Tryd.ntmps73
  go_wp2_with fail
  generalize hw3 : (((w.alloc (.cells #[.slice a (M.dig x).length ca] 31)).alloc (.cells #[.slice b (M.dig y).length cb] 31)).alloc (.cells #[.slice none 0 0] 31)) = w3
  obtain rfl : boxes w (.slice a (M.dig x).length ca) (.slice b (M.dig y).length cb) = w3 := hw3
  generalize boxes w (.slice a (M.dig x).length ca) (.slice b (M.dig y).length cb) = w3 at *
  refine (valid_yes a _ ca _ (HA.out.below HB3.out) Hvx.out).mono ?_
  rintro e w5 ⟨rfl, hb5⟩
  have d0 := cell_below hb5 c0
  have d1 := cell_below hb5 c1
  have d2 := cell_below hb5 c2
  have g2 := frozen_below hb5 c2 f2
  have HB5 := Lib.hid (HB3.out.trans (hb5.mono HB3.out.size))
  have hs5 := hb5.size
  clear c0 c1 c2 f2 hb5
  go_wp2_with fail
  refine (valid_yes b _ cb _ (HB.out.below HB5.out) Hvy.out).mono ?_
  rintro e w6 ⟨rfl, hb6⟩
  have c0 := cell_below hb6 d0
  have c1 := cell_below hb6 d1
  have c2 := cell_below hb6 d2
  have f2 := frozen_below hb6 d2 g2
  have HB6 := Lib.hid (HB5.out.trans (hb6.mono HB5.out.size))
  have hs6 := hb6.size
  clear d0 d1 d2 g2 hb6
  have HCA := Lib.hid (fun (W : World) (hb : Below w6.heap.size w6 W) => clone_row a (M.dig x) ca W ((HA.out.below HB6.out).below hb) (by omega))
  have HCB := Lib.hid (fun (W : World) (hb : Below w6.heap.size w6 W) => clone_row b (M.dig y) cb W ((HB.out.below HB6.out).below hb) (by omega))
  have hw6 : w.heap.size + 3 ≤ w6.heap.size := by omega
  go_wp2_with fail
  have hbd : Below w6.heap.size w6 w6.drew := belowN (Below.refl _ _) 1
  have hsd : w6.drew.heap.size = w6.heap.size := rfl
  go_region_held3 (fun w' => w'.cell? ⟨w.heap.size, 0, none⟩ = some (.slice a (M.dig x).length ca) ∧ w'.cell? ⟨w.heap.size + 1, 0, none⟩ = some (.slice b (M.dig y).length cb))
    (first | exact ⟨c0, c1⟩ | exact ⟨cell_below hb1 c0, cell_below hb1 c1⟩ | exact ⟨cell_below (hb1.trans (hb2.mono hb1.size)) c0, cell_below (hb1.trans (hb2.mono hb1.size)) c1⟩)
    (first
      | (go_at_call 48; (with_reducible refine (HCA.out _ hbd).mono ?_); rintro e wa ⟨a1, p1, rfl, ho1, hb1⟩)
      | (go_at_call 48; (with_reducible refine (HCB.out _ (hbd.trans (hb1.mono (Nat.le_refl _)))).mono ?_); rintro e wb ⟨b1, q1, rfl, ho2, hb2⟩))
  have hs1 := hb1.size
  have hs2 := hb2.size
  have hab := hbd.trans (hb1.mono (Nat.le_refl _))
  have hab2 := hab.trans (hb2.mono hab.size)
  have hr0 : GcdRel w x y (.slice a1 (M.dig x).length p1) (.slice b1 (M.dig y).length q1) wb :=
    ⟨x, y, a1, b1, p1, q1, rfl, rfl, ho1.rowAt.below hb2, ho2.rowAt, (ho1.mono (by omega)).fresh, (ho2.mono (by omega)).fresh, hx200, hy200, rfl, cell_below hab2 c2, frozen_below hab2 c2 f2, by omega, HB6.out.trans (hab2.mono (by omega))⟩
  have HR0 := Lib.hid hr0
  clear hr0 hab hab2 hs1 hs2 hsd hbd hb1 hb2 ho1 ho2 HCA HCB c0 c1 c2 f2 HB6 HB5 HB3 HA HB Hvx Hvy hs3 hs5 hs6 hw6
  try clear hHeld
  go_wp2_with fail
  go_loopw [6, 7] (fun s t wr => GcdRel w x y s t wr) (fun _ t wr => numAt wr t)
  case atStart => exact HR0.out
  case round =>
    clear HR0
    obtain ⟨u, v, a, b, ca, cb, rfl, rfl, hra, hrb, hfa, hfb, hu200, hv200, hg, c2, f2, hsz, hbw⟩ := hrel
    have HRA := Lib.hid hra
    have HRB := Lib.hid hrb
    have HFA := Lib.hid hfa
    have HFB := Lib.hid hfb
    have HG := Lib.hid hg
    have HBW := Lib.hid hbw
    clear hra hrb hfa hfb hg hbw
    by_cases hv0 : v = 0
    · subst hv0
      have hg0 := HG.out
      rw [Nat.gcd_zero_right] at hg0
      have HG0 := Lib.hid hg0
      clear hg0
      have hlt : w.heap.size + 1 + 1 < wr.heap.size := by omega
      rw [M.dig_zero]
      go_wp2_with fail
      refine bodyPost_ret (v := .tuple #[.agg #[.slice a (M.dig u).length ca], .int .i64 0]) (by simp [results, Tryd.results73, go_sem, c2]) rfl ⟨⟨_, rfl, a, ca, by rw [HG0.out], ?_⟩, ?_⟩
      · rw [← HG0.out]
        exact HRA.out.setFresh HFA.out (p := ⟨w.heap.size + 1 + 1, 0, none⟩) (by show w.heap.size + 1 + 1 < w.heap.size + 3; omega) _
      · exact HBW.out.setCell (p := ⟨w.heap.size + 1 + 1, 0, none⟩) (by simp; omega) _
    · have hvp : 0 < v := by omega
      have hvl : 0 < (M.dig v).length := by
        rcases Nat.eq_zero_or_pos (M.dig v).length with h | h
        · exact absurd (M.dig_nil.1 (List.length_eq_zero_iff.1 h)) hv0
        · exact h
      go_wp2_with fail
      refine (divideLimbs_any a b ca cb u v wr hvp hu200 hv200 HRA.out HRB.out).mono ?_
      rintro e w2 ⟨a1, c1, a2, p2, rfl, _, hr2, _, hf2, hb2⟩
      have HR2 := Lib.hid hr2
      have HF2 := Lib.hid hf2
      have HB2 := Lib.hid hb2
      clear hr2 hf2 hb2
      go_wp2_with fail
      go_roundw
      case rel =>
        exact ⟨v, u % v, b, a2, cb, p2, rfl, rfl, HRB.out.below HB2.out, HR2.out, HFB.out, fun b off e hl => Nat.le_trans hsz (HF2.out b off e hl), hv200, Nat.le_trans (dig_len_mod u v) hu200, by rw [← HG.out, Nat.gcd_comm v, ← Nat.gcd_rec, Nat.gcd_comm],
          cell_below HB2.out c2, frozen_below HB2.out c2 f2, Nat.le_trans hsz HB2.out.size, HBW.out.trans (HB2.out.mono HBW.out.size)⟩
      case measure =>
        rw [numAt_row HR2.out, numAt_row HRB.out]
        exact Nat.mod_lt u hvp
end Go.Proofs.YtbhfhekjcnnfeaaDoor

namespace Go.Proofs.YtbhfhekjcnnfeaaDoor
open Go Go.RowKit Go.Shelf

theorem run_append_nil {P : Program} {w : World} (base : Nat) (t ty e : TypeId) (i : TypeInfo) (size : Nat) (ht : P.underlying t = some (.slice e)) (hi : P.info? e = some i)
    (v : Value) (n : Nat) (xs : List Value) (c : Nat) (hown : w.ownsRow base e size v n xs) :
    (Builtin.append_ #[t, t] ty #[v, .slice none 0 c]).run P w = .ok v w := by
  rcases hown.2 with ⟨rfl, rfl⟩ | ⟨g, cap, cur, rfl, _, _, hnc, _⟩
  · simp [Builtin.append_, run_underlying ht, sizeOf, typeInfo, hi, Builtin.lenOf, Builtin.firstCells]
  · simp [Builtin.append_, run_underlying ht, sizeOf, typeInfo, hi, Builtin.lenOf, Builtin.firstCells, hnc, storeCells]

theorem wp_appAny {W : World} {o : Oper} {a : Act} {K : Act → World → Prop} {Q : Exit → Act → World → Prop} (s x : Operand) (ho : o.op = .call { callee := .builtin .append, args := #[s, x], argTypes := #[22, 22] })
    {B : Nat} {v : Value} {zs ys : List Int} (hs : a.eval s = v) (hown : Own W B v zs) {ad : Option Addr} {cap : Nat} (hx : a.eval x = .slice ad ys.length cap) (hr : Row W ad ys cap)
    (hl : zs.length + ys.length < 1000000) (hbase : B ≤ W.heap.size)
    (h : ∀ a' cap' W', Own W' B (.slice a' (zs ++ ys).length cap') (zs ++ ys) → Below B W W' → K (a.put o.dst (.slice a' (zs.length + ys.length) cap')) W') : Oper.wp Tryd.prog o a W K Q := by
  cases ad with
  | none =>
    obtain ⟨i0, hi, hz0, hz1, hz2⟩ := info_parts info_int
    have hy : ys = [] := by
      cases ys with
      | nil => rfl
      | cons y ys =>
        obtain ⟨b, off, e, _⟩ := hr.el 0 (by simp)
        cases e
    subst hy
    have hrun := run_append_nil (P := Tryd.prog) B 22 o.type 3 i0 1 Tryd.underlying22 hi v zs.length (zs.map (Value.int .i64)) cap hown
    obtain ⟨a', cap', rfl, _⟩ := hown.row
    unfold Oper.wp execOp
    simp only [ho, resolve, invoke, builtin, Sem.run_bind, Sem.run_pure, Result.andThen_ok, List.map_toArray, List.map_cons, List.map_nil, hs, hx, List.length_nil, hrun]
    have := h a' cap' W (by simpa using hown) (Below.refl _ _)
    exact (show K (a.put o.dst (.slice a' zs.length cap')) W by simpa using this)
  | some p => exact wp_appRow s x ho hs hown hx hr (fun e => nomatch e) hl hbase h

theorem wpList_appAny {W : World} {ops : Array Oper} {rest : List Oper} {o : Oper} {a : Act} {Q : Exit → Act → World → Prop} (hgd : o.guard = none) (s x : Operand)
    (ho : o.op = .call { callee := .builtin .append, args := #[s, x], argTypes := #[22, 22] }) {B : Nat} {v : Value} {zs ys : List Int} (hs : a.eval s = v) (hown : Own W B v zs)
    {ad : Option Addr} {cap : Nat} (hx : a.eval x = .slice ad ys.length cap) (hr : Row W ad ys cap) (hl : zs.length + ys.length < 1000000) (hbase : B ≤ W.heap.size)
    (h : ∀ a' cap' W', Own W' B (.slice a' (zs ++ ys).length cap') (zs ++ ys) → Below B W W' → wpList Tryd.prog ops Q rest (a.put o.dst (.slice a' (zs.length + ys.length) cap')) W') : wpList Tryd.prog ops Q (o :: rest) a W :=
  wpList_plain hgd fun _ hK => wp_appAny s x ho hs hown hx hr hl hbase fun a' c' W' h1 h2 => hK _ _ (h a' c' W' h1 h2)
end Go.Proofs.YtbhfhekjcnnfeaaDoor

namespace Go.Proofs.YtbhfhekjcnnfeaaDoor
open Go Go.RowKit Go.Shelf

/-- The number in a variable. -/
def cellNum (W : World) (p : Addr) : Nat := match W.cell? p with | some v => numAt W v | none => 0
theorem cellNum_row {W : World} {p : Addr} {a : Option Addr} {c v : Nat} (hc : W.cell? p = some (.slice a (M.dig v).length c)) (h : Row W a (M.dig v) c) : cellNum W p = v := by
  unfold cellNum; rw [hc]; exact numAt_row h

structure RgSt (w : World) (x y u v : Nat) (a b : Option Addr) (ca cb : Nat) (W : World) : Prop where
  ca0 : W.cell? ⟨w.heap.size, 0, none⟩ = some (.slice a (M.dig u).length ca)
  fa0 : W.frozen? ⟨w.heap.size, 0, none⟩ = false
  cb0 : W.cell? ⟨w.heap.size + 1, 0, none⟩ = some (.slice b (M.dig v).length cb)
  fb0 : W.frozen? ⟨w.heap.size + 1, 0, none⟩ = false
  cr0 : W.cell? ⟨w.heap.size + 1 + 1, 0, none⟩ = some (.slice none 0 0)
  fr0 : W.frozen? ⟨w.heap.size + 1 + 1, 0, none⟩ = false
  ra : Row W a (M.dig u) ca
  rb : Row W b (M.dig v) cb
  la : (M.dig u).length ≤ 200
  lb : (M.dig v).length ≤ 200
  same : Nat.gcd u v = Nat.gcd x y
  below : Below w.heap.size w W

theorem RgSt.keep {w : World} {x y u v : Nat} {a b : Option Addr} {ca cb : Nat} {W W' : World} (h : RgSt w x y u v a b ca cb W) (hb : Below W.heap.size W W') : RgSt w x y u v a b ca cb W' :=
  ⟨cell_below hb h.ca0, frozen_below hb h.ca0 h.fa0, cell_below hb h.cb0, frozen_below hb h.cb0 h.fb0, cell_below hb h.cr0, frozen_below hb h.cr0 h.fr0, h.ra.below hb, h.rb.below hb, h.la, h.lb, h.same, h.below.trans (hb.mono h.below.size)⟩

/-- a, b = b, r -/
theorem RgSt.turn {w : World} {x y u v : Nat} {a b r : Option Addr} {ca cb cr : Nat} {W : World} (h : RgSt w x y u v a b ca cb W) (hr : Row W r (M.dig (u % v)) cr) :
    RgSt w x y v (u % v) b r cb cr ((W.setCell ⟨w.heap.size, 0, none⟩ (.slice b (M.dig v).length cb)).setCell ⟨w.heap.size + 1, 0, none⟩ (.slice r (M.dig (u % v)).length cr)) := by
  have h1 := (cell_other (W := W) (p := ⟨w.heap.size, 0, none⟩) (a := ⟨w.heap.size + 1, 0, none⟩) (.slice b (M.dig v).length cb) (show w.heap.size + 1 ≠ w.heap.size by omega)).trans h.cb0
  have h2 := (cell_other (W := W) (p := ⟨w.heap.size, 0, none⟩) (a := ⟨w.heap.size + 1 + 1, 0, none⟩) (.slice b (M.dig v).length cb) (show w.heap.size + 1 + 1 ≠ w.heap.size by omega)).trans h.cr0
  have h3 := World.cell?_setCell_same W ⟨w.heap.size, 0, none⟩ (.slice b (M.dig v).length cb) h.ca0
  refine ⟨(cell_other _ (show w.heap.size ≠ w.heap.size + 1 by omega)).trans h3, ?_, World.cell?_setCell_same _ _ _ h1, ?_, (cell_other _ (show w.heap.size + 1 + 1 ≠ w.heap.size + 1 by omega)).trans h2, ?_, (h.rb.storedAt h.ca0 _).storedAt h1 _, (hr.storedAt h.ca0 _).storedAt h1 _, h.lb, Nat.le_trans (dig_len_mod u v) h.la, ?_,
    (h.below.setCell (p := ⟨w.heap.size, 0, none⟩) (Nat.le_refl _) _).setCell (p := ⟨w.heap.size + 1, 0, none⟩) (by show _ ≤ w.heap.size + 1; omega) _⟩
  · rw [World.frozen?_setCell, World.frozen?_setCell]; exact h.fa0
  · rw [World.frozen?_setCell, World.frozen?_setCell]; exact h.fb0
  · rw [World.frozen?_setCell, World.frozen?_setCell]; exact h.fr0
  · rw [← h.same, Nat.gcd_comm v, ← Nat.gcd_rec, Nat.gcd_comm]

def RgRel (w : World) (x y : Nat) (W : World) : Prop := ∃ (u v : Nat) (a b : Option Addr) (ca cb : Nat), RgSt w x y u v a b ca cb W

end Go.Proofs.YtbhfhekjcnnfeaaDoor

namespace Go.Proofs.YtbhfhekjcnnfeaaDoor
open Go Go.RowKit Go.Shelf

/-- The value is the fraction x / y, as its two numbers stand. -/
def RatV (W : World) (v : Value) (x y : Nat) : Prop := ∃ a c b d, v = .agg #[.slice a (M.dig x).length c, .slice b (M.dig y).length d] ∧ Row W a (M.dig x) c ∧ Row W b (M.dig y) d

/-- .. in blocks from B on. -/
def RatF (B : Nat) (W : World) (v : Value) (x y : Nat) : Prop := ∃ a c b d, v = .agg #[.slice a (M.dig x).length c, .slice b (M.dig y).length d] ∧ Row W a (M.dig x) c ∧ Row W b (M.dig y) d ∧ Fresh B a (M.dig x) ∧ Fresh B b (M.dig y)
theorem RatF.val {B : Nat} {W : World} {v : Value} {x y : Nat} (h : RatF B W v x y) : RatV W v x y := by
  obtain ⟨a, c, b, d, e, h1, h2, _, _⟩ := h
  exact ⟨a, c, b, d, e, h1, h2⟩

structure MkSt (w : World) (a b : Option Addr) (ca cb x y : Nat) (W : World) : Prop where
  c0 : W.cell? ⟨w.heap.size, 0, none⟩ = some (.slice a (M.dig x).length ca)
  c1 : W.cell? ⟨w.heap.size + 1, 0, none⟩ = some (.slice b (M.dig y).length cb)
  r0 : W.cell? ⟨w.heap.size + 1 + 1, 0, none⟩ = some (.slice none 0 0)
  f0 : W.frozen? ⟨w.heap.size + 1 + 1, 0, none⟩ = false
  r1 : W.cell? ⟨w.heap.size + 1 + 1, 1, none⟩ = some (.slice none 0 0)
  f1 : W.frozen? ⟨w.heap.size + 1 + 1, 1, none⟩ = false
  ra : Row W a (M.dig x) ca
  rb : Row W b (M.dig y) cb
  below : Below w.heap.size w W
theorem MkSt.keep {w : World} {a b : Option Addr} {ca cb x y : Nat} {W W' : World} (h : MkSt w a b ca cb x y W) (hb : Below W.heap.size W W') : MkSt w a b ca cb x y W' :=
  ⟨cell_below hb h.c0, cell_below hb h.c1, cell_below hb h.r0, frozen_below hb h.r0 h.f0, cell_below hb h.r1, frozen_below hb h.r1 h.f1, h.ra.below hb, h.rb.below hb, h.below.trans (hb.mono h.below.size)⟩
theorem MkSt.alloc {w : World} {a b : Option Addr} {ca cb x y : Nat} {W : World} (h : MkSt w a b ca cb x y W) (o : Obj) : MkSt w a b ca cb x y (W.alloc o) := h.keep ((Below.refl _ W).alloc (Nat.le_refl _) o)
/-- A variable of type Ratio has just been laid. -/
theorem two_cells (w : World) (u v : Value) (t : TypeId) : ((w.alloc (.cells #[u, v] t)).cell? ⟨w.heap.size, 0, none⟩ = some u ∧ (w.alloc (.cells #[u, v] t)).frozen? ⟨w.heap.size, 0, none⟩ = false) ∧ (w.alloc (.cells #[u, v] t)).cell? ⟨w.heap.size, 1, none⟩ = some v ∧ (w.alloc (.cells #[u, v] t)).frozen? ⟨w.heap.size, 1, none⟩ = false := by
  have hb : (w.alloc (.cells #[u, v] t)).heap[w.heap.size]? = some (.cells #[u, v] t) := Array.getElem?_push_size
  refine ⟨⟨?_, ?_⟩, ?_, ?_⟩
  · rw [cell_of_row _ _ 0 _ _ _ hb]; rfl
  · simp only [World.frozen?, hb]; rfl
  · rw [cell_of_row _ _ 1 _ _ _ hb]; rfl
  · simp only [World.frozen?, hb]; rfl
theorem mk_start (w : World) (a b : Option Addr) (ca cb x y : Nat) (t : TypeId) (hA : Row w a (M.dig x) ca) (hB : Row w b (M.dig y) cb) :
    MkSt w a b ca cb x y (((w.alloc (.cells #[.slice a (M.dig x).length ca] 31)).alloc (.cells #[.slice b (M.dig y).length cb] 31)).alloc (.cells #[.slice none 0 0, .slice none 0 0] t)) := by
  obtain ⟨⟨h0, h1⟩, h2, h3⟩ := two_cells ((w.alloc (.cells #[.slice a (M.dig x).length ca] 31)).alloc (.cells #[.slice b (M.dig y).length cb] 31)) (.slice none 0 0) (.slice none 0 0) t
  have k1 := cell_new (w.alloc (.cells #[.slice a (M.dig x).length ca] 31)) (.slice b (M.dig y).length cb) 31
  simp only [World.size_alloc] at h0 h1 h2 h3 k1
  exact ⟨cell_later _ (cell_later _ (cell_new _ _ _)), cell_later _ k1, h0, h1, h2, h3, ((hA.alloc _).alloc _).alloc _, ((hB.alloc _).alloc _).alloc _, (((Below.refl _ w).alloc (Nat.le_refl _) _).alloc (by simp) _).alloc (by simp; omega) _⟩

end Go.Proofs.YtbhfhekjcnnfeaaDoor

namespace Go.Proofs.YtbhfhekjcnnfeaaDoor
open Go Go.RowKit Go.Shelf

/-- Two parameters of type Nat in boxes, a result of type Ratio. -/
structure RmSt (w : World) (a b : Option Addr) (ca cb x y : Nat) (W : World) : Prop where
  c0 : W.cell? ⟨w.heap.size, 0, none⟩ = some (.slice a (M.dig x).length ca)
  e0 : W.frozen? ⟨w.heap.size, 0, none⟩ = false
  c1 : W.cell? ⟨w.heap.size + 1, 0, none⟩ = some (.slice b (M.dig y).length cb)
  e1 : W.frozen? ⟨w.heap.size + 1, 0, none⟩ = false
  r0 : W.cell? ⟨w.heap.size + 1 + 1, 0, none⟩ = some (.slice none 0 0)
  f0 : W.frozen? ⟨w.heap.size + 1 + 1, 0, none⟩ = false
  r1 : W.cell? ⟨w.heap.size + 1 + 1, 1, none⟩ = some (.slice none 0 0)
  f1 : W.frozen? ⟨w.heap.size + 1 + 1, 1, none⟩ = false
  ra : Row W a (M.dig x) ca
  rb : Row W b (M.dig y) cb
  below : Below w.heap.size w W
section
variable {w W : World} {a b : Option Addr} {ca cb x y : Nat}
theorem RmSt.keep {W' : World} (h : RmSt w a b ca cb x y W) (hb : Below W.heap.size W W') : RmSt w a b ca cb x y W' :=
  ⟨cell_below hb h.c0, frozen_below hb h.c0 h.e0, cell_below hb h.c1, frozen_below hb h.c1 h.e1, cell_below hb h.r0, frozen_below hb h.r0 h.f0, cell_below hb h.r1, frozen_below hb h.r1 h.f1, h.ra.below hb, h.rb.below hb, h.below.trans (hb.mono h.below.size)⟩
theorem RmSt.alloc (h : RmSt w a b ca cb x y W) (o : Obj) : RmSt w a b ca cb x y (W.alloc o) := h.keep ((Below.refl _ W).alloc (Nat.le_refl _) o)
theorem RmSt.set0 {a' : Option Addr} {c' x' : Nat} (h : RmSt w a b ca cb x y W) (hr : Row W a' (M.dig x') c') : RmSt w a' b c' cb x' y (W.setCell ⟨w.heap.size, 0, none⟩ (.slice a' (M.dig x').length c')) :=
  ⟨World.cell?_setCell_same _ _ _ h.c0, (World.frozen?_setCell _ _ _ _).trans h.e0, (cell_other _ (show w.heap.size + 1 ≠ w.heap.size by omega)).trans h.c1, (World.frozen?_setCell _ _ _ _).trans h.e1, (cell_other _ (show w.heap.size + 1 + 1 ≠ w.heap.size by omega)).trans h.r0, (World.frozen?_setCell _ _ _ _).trans h.f0,
    (cell_other _ (show w.heap.size + 1 + 1 ≠ w.heap.size by omega)).trans h.r1, (World.frozen?_setCell _ _ _ _).trans h.f1, hr.storedAt h.c0 _, h.rb.storedAt h.c0 _, h.below.setCell (p := ⟨w.heap.size, 0, none⟩) (Nat.le_refl _) _⟩
theorem RmSt.set1 {b' : Option Addr} {d' y' : Nat} (h : RmSt w a b ca cb x y W) (hr : Row W b' (M.dig y') d') : RmSt w a b' ca d' x y' (W.setCell ⟨w.heap.size + 1, 0, none⟩ (.slice b' (M.dig y').length d')) :=
  ⟨(cell_other _ (show w.heap.size ≠ w.heap.size + 1 by omega)).trans h.c0, (World.frozen?_setCell _ _ _ _).trans h.e0, World.cell?_setCell_same _ _ _ h.c1, (World.frozen?_setCell _ _ _ _).trans h.e1, (cell_other _ (show w.heap.size + 1 + 1 ≠ w.heap.size + 1 by omega)).trans h.r0, (World.frozen?_setCell _ _ _ _).trans h.f0,
    (cell_other _ (show w.heap.size + 1 + 1 ≠ w.heap.size + 1 by omega)).trans h.r1, (World.frozen?_setCell _ _ _ _).trans h.f1, h.ra.storedAt h.c1 _, hr.storedAt h.c1 _, h.below.setCell (p := ⟨w.heap.size + 1, 0, none⟩) (by show _ ≤ w.heap.size + 1; omega) _⟩
theorem RmSt.start (hA : Row w a (M.dig x) ca) (hB : Row w b (M.dig y) cb) (t : TypeId) :
    RmSt w a b ca cb x y (((w.alloc (.cells #[.slice a (M.dig x).length ca] 31)).alloc (.cells #[.slice b (M.dig y).length cb] 31)).alloc (.cells #[.slice none 0 0, .slice none 0 0] t)) := by
  have h := mk_start w a b ca cb x y t hA hB
  have k1 := cell_new (w.alloc (.cells #[.slice a (M.dig x).length ca] 31)) (.slice b (M.dig y).length cb) 31
  have k2 := frozen_new (w.alloc (.cells #[.slice a (M.dig x).length ca] 31)) (.slice b (M.dig y).length cb) 31
  rw [World.size_alloc] at k1 k2
  exact ⟨h.c0, frozen_later _ (cell_later _ (cell_new _ _ _)) (frozen_later _ (cell_new _ _ _) (frozen_new _ _ _)), h.c1, frozen_later _ k1 k2, h.r0, h.f0, h.r1, h.f1, h.ra, h.rb, h.below⟩
end

theorem Var.beside {W : World} {p q n c : Nat} {a s : Option Addr} {ca x : Nat} (h : Var W p a ca x) (hq : W.cell? ⟨q, 0, none⟩ = some (.slice s n c)) (hne : p ≠ q) (u : Value) : Var (W.setCell ⟨q, 0, none⟩ u) p a ca x :=
  ⟨(cell_other u (show p ≠ q from hne)).trans h.cell, h.row.storedAt hq u⟩

set_option maxRecDepth 100000 in
set_option maxHeartbeats 1000000 in
theorem isZero_any (a : Option Addr) (ca x : Nat) (w : World) :
    Calls Tryd.prog 74 #[.agg #[.slice a (M.dig x).length ca]] w fun e W' => e = .returned (.bool ((((M.dig x).length : Int) == 0))) ∧ Below w.heap.size w W' := by
  go_enter Tryd.func74, Tryd.ntmps74
  go_wp2_with fail
  go_ret
  exact ⟨rfl, (Below.refl _ w).alloc (Nat.le_refl _) _⟩

set_option maxRecDepth 100000 in
set_option maxHeartbeats 2000000 in
/-- **ratio.Make** -/
theorem make_pos (a b : Option Addr) (ca cb x y : Nat) (w : World) (hy0 : 0 < y) (hx : (M.dig x).length ≤ 200) (hy : (M.dig y).length ≤ 200) (hA : Row w a (M.dig x) ca) (hB : Row w b (M.dig y) cb) :
    Calls Tryd.prog 47 #[.agg #[.slice a (M.dig x).length ca], .agg #[.slice b (M.dig y).length cb]] w fun e W' => (∃ v, e = .returned (.tuple #[v, .int .i64 0]) ∧ RatV W' v (x / Nat.gcd x y) (y / Nat.gcd x y)) ∧ Below w.heap.size w W' := by
  have hyl : ¬ (M.dig y).length = 0 := by intro h; have := M.dig_nil.1 (List.length_eq_zero_iff.1 h); omega
  have hyn : (((M.dig y).length : Int) == 0) = false := beq_eq_false_iff_ne.2 (by omega)
  have HYN := Lib.hid hyn
  have hgp : 0 < Nat.gcd x y := Nat.gcd_pos_of_pos_right x hy0
  have hgl : (M.dig (Nat.gcd x y)).length ≤ 200 := Nat.le_trans (M.dig_len_mono (Nat.gcd_le_right x hy0)) hy
  have HS0 := Lib.hid (RmSt.start hA hB 50)
  clear hA hB hyn
  go_enter Tryd.func47, Tryd.ntmps47
  go_wp2_with fail
  generalize (((w.alloc (.cells #[.slice a (M.dig x).length ca] 31)).alloc (.cells #[.slice b (M.dig y).length cb] 31)).alloc (.cells #[.slice none 0 0, .slice none 0 0] 50)) = w3 at *
  refine (gcd_any a b ca cb x y w3 hx hy HS0.out.ra HS0.out.rb).mono ?_
  rintro e w7 ⟨⟨v, rfl, ag, cg, rfl, hrg⟩, hb7⟩
  obtain ⟨k, hk⟩ : ∃ k, Nat.gcd x y = k := ⟨_, rfl⟩
  rw [hk] at hgp hgl hrg ⊢
  have HK := Lib.hid hk
  have hw7 : w.heap.size + 1 < w7.heap.size := lt_of_cell (HS0.out.keep hb7).c1
  have HS7 := Lib.hid ((HS0.out.keep hb7).alloc (.cells #[.slice ag (M.dig k).length cg] 31))
  have VG := Lib.hid (Var.new hrg)
  have d1 := HS7.out.c1
  clear hk hrg hb7 HS0
  go_wp2_with fail
  refine (isZero_any b cb y _).mono ?_
  rintro e w8 ⟨rfl, hb8⟩
  rw [HYN.out]
  have HS8 := Lib.hid (HS7.out.keep hb8)
  have VG8 := Lib.hid (VG.out.below hb8)
  clear hb8 HS7 VG d1
  have d0 := HS8.out.c0
  have e6 := VG8.out.cell
  go_wp2_with fail
  refine (divide_any a ag ca cg x k _ hgp hx hgl HS8.out.ra VG8.out.row).mono ?_
  rintro e w9 ⟨⟨a1, c1, a2, c2, rfl, hr1, _⟩, hb9⟩
  have h9 := HS8.out.keep hb9
  have HS9 := Lib.hid (h9.set0 hr1)
  have VG9 := Lib.hid ((VG8.out.below hb9).beside h9.c0 (Nat.ne_of_gt (by omega)) (.slice a1 (M.dig (x / k)).length c1))
  have q0 := h9.c0
  have g0 := h9.e0
  clear h9 hr1 hb9 d0 e6 HS8 VG8
  go_upto_region 7 with fail
  clear q0 g0
  generalize (w9.setCell ⟨w.heap.size, 0, none⟩ (.slice a1 (M.dig (x / k)).length c1)) = wa at *
  have d1 := HS9.out.c1
  have e6 := VG9.out.cell
  go_wp2_with fail
  refine (divide_any b ag cb cg y k _ hgp hy hgl HS9.out.rb VG9.out.row).mono ?_
  rintro e w10 ⟨⟨b1, p1, b2, p2, rfl, hr2, _⟩, hb10⟩
  have h10 := HS9.out.keep hb10
  have HS10 := Lib.hid (h10.set1 hr2)
  have q1 := h10.c1
  have g1 := h10.e1
  clear h10 hr2 hb10 d1 e6 HS9 VG9
  go_upto_region 8 with fail
  clear q1 g1
  generalize (w10.setCell ⟨w.heap.size + 1, 0, none⟩ (.slice b1 (M.dig (y / k)).length p1)) = wb at *
  have d0 := HS10.out.c0
  have d1 := HS10.out.c1
  have r0 := HS10.out.r0
  have r1 := HS10.out.r1
  have f0 := HS10.out.f0
  have f1 := HS10.out.f1
  have R0 := Lib.hid r0
  have R2 := Lib.hid (show (wb.setCell ⟨w.heap.size + 1 + 1, 0, none⟩ (.slice a1 (M.dig (x / k)).length c1)).cell? ⟨w.heap.size + 1 + 1, 1, none⟩ = some (.slice none 0 0) from (World.cell?_setCell_other _ _ _ _ (by intro e; cases e)).trans r1)
  go_wp2_with fail
  refine bodyPost_ret (v := .tuple #[.agg #[.slice a1 (M.dig (x / k)).length c1, .slice b1 (M.dig (y / k)).length p1], .int .i64 0]) (by simp [results, Tryd.results47, go_sem, r0, r1]) rfl ⟨⟨_, rfl, a1, c1, b1, p1, by rw [HK.out], ?_, ?_⟩, ?_⟩
  · rw [HK.out]; exact (HS10.out.ra.storedAt R0.out _).storedAt R2.out _
  · rw [HK.out]; exact (HS10.out.rb.storedAt R0.out _).storedAt R2.out _
  · exact (HS10.out.below.setCell (p := ⟨w.heap.size + 1 + 1, 0, none⟩) (by show _ ≤ w.heap.size + 1 + 1; omega) _).setCell (p := ⟨w.heap.size + 1 + 1, 1, none⟩) (by show _ ≤ w.heap.size + 1 + 1; omega) _
end Go.Proofs.YtbhfhekjcnnfeaaDoor

namespace Go.Proofs.YtbhfhekjcnnfeaaDoor
open Go Go.RowKit Go.Shelf

set_option maxRecDepth 100000 in
set_option maxHeartbeats 1000000 in
/-- **ref01.Same** at limbs of two lengths. -/
theorem same_len (a b : Option Addr) (zs ys : List Int) (ca cb : Nat) (w : World) (hl : zs.length ≠ ys.length) :
    Calls Tryd.prog 14 #[.agg #[.slice a zs.length ca], .agg #[.slice b ys.length cb]] w fun e W' => e = .returned (.bool false) ∧ Below w.heap.size w W' := by
  have hB := boxes2_below w (.slice a zs.length ca) (.slice b ys.length cb)
  have HBB := Lib.hid hB
  have hb : ((zs.length : Int) != (ys.length : Int)) = true := by rw [bne_iff_ne]; omega
  clear hB hl
  go_enter Tryd.func14, Tryd.ntmps14
  go_wp2_with fail
  go_ret
  exact ⟨rfl, HBB.out⟩

set_option maxRecDepth 100000 in
set_option maxHeartbeats 1000000 in
/-- **ref01.Same** at other limbs, as many. -/
theorem same_not (a b : Option Addr) (zs ys : List Int) (ca cb : Nat) (w : World) (ha : Row w a zs ca) (hb : Row w b ys cb) (hl : zs.length = ys.length) (hne : zs ≠ ys) :
    Calls Tryd.prog 14 #[.agg #[.slice a zs.length ca], .agg #[.slice b ys.length cb]] w fun e W' => e = .returned (.bool false) ∧ Below w.heap.size w W' := by
  have hB := boxes2_below w (.slice a zs.length ca) (.slice b ys.length cb)
  have HC := Lib.hid (boxes2_cells w (.slice a zs.length ca) (.slice b ys.length cb))
  have HA := Lib.hid (ha.below hB)
  have HB := Lib.hid (hb.below hB)
  have HBB := Lib.hid hB
  have HNE := Lib.hid hne
  have HL := Lib.hid hl
  have hra := ha.room
  have hrb := hb.room
  have hma := ha.most
  have hmb := hb.most
  have hlb : ((zs.length : Int) != (ys.length : Int)) = false := by rw [bne_eq_false_iff_eq, hl]
  clear ha hb hB hne hl
  go_enter Tryd.func14, Tryd.ntmps14
  go_wp2_with fail
  generalize hw2 : ((w.alloc (.cells #[.slice a zs.length ca] 31)).alloc (.cells #[.slice b ys.length cb] 31)) = w2
  obtain rfl : boxes2 w (.slice a zs.length ca) (.slice b ys.length cb) = w2 := hw2
  generalize boxes2 w (.slice a zs.length ca) (.slice b ys.length cb) = w2 at *
  go_loopw [5] (fun i wr => ∃ k : Nat, i = .int .i64 (k : Int) ∧ k ≤ zs.length ∧ (∀ j : Nat, j < k → M.el zs j = M.el ys j) ∧ Below w2.heap.size w2 wr) (fun i _ => zs.length - (intOf i).toNat)
  case atStart => exact ⟨0, rfl, Nat.zero_le _, fun j hj => by omega, Below.refl _ _⟩
  case round =>
    obtain ⟨k, rfl, hk, he, hbw⟩ := hrel
    have c0 : wr.cell? ⟨w.heap.size, 0, none⟩ = some (.slice a zs.length ca) := (hbw.cell (p := ⟨w.heap.size, 0, none⟩) (lt_of_cell HC.out.1)).trans HC.out.1
    have c1 : wr.cell? ⟨w.heap.size + 1, 0, none⟩ = some (.slice b ys.length cb) := (hbw.cell (p := ⟨w.heap.size + 1, 0, none⟩) (lt_of_cell HC.out.2)).trans HC.out.2
    have HBW := Lib.hid hbw
    have HE := Lib.hid he
    clear hbw he
    by_cases hlt : k < zs.length
    · obtain ⟨b1, o1, rfl, h1⟩ := (HA.out.below HBW.out).el k hlt
      have hlty : k < ys.length := by rw [← HL.out]; exact hlt
      obtain ⟨b2, o2, rfl, h2⟩ := (HB.out.below HBW.out).el k hlty
      by_cases hk2 : M.el zs k = M.el ys k
      · have HK := Lib.hid hk2
        rw [hk2] at h1
        clear hk2
        go_wp2_with fail
        go_quiet (fail)
        go_wp2
        go_roundw
        case rel =>
          refine ⟨k + 1, by go_num, by omega, fun j hj => ?_, belowN HBW.out _⟩
          by_cases e : j = k
          · rw [e]; exact HK.out
          · exact HE.out j (by omega)
        case measure => simp [intOf]; omega
      · have hkb : (M.el zs k != M.el ys k) = true := by rw [bne_iff_ne]; exact hk2
        clear hk2
        go_wp2_with fail
        go_quiet (fail)
        go_wp2_with fail
        go_ret
        exact ⟨rfl, HBB.out.trans ((belowN HBW.out _).mono HBB.out.size)⟩
    · exact absurd (M.ext_el HL.out fun j hj => HE.out j (by omega)) HNE.out

/-- **ref01.Same** of two numbers. -/
theorem same_is {u v : Value} {x y : Nat} {w : World} (hu : Num w u x) (hv : Num w v y) :
    Calls Tryd.prog 14 #[u, v] w fun e W' => e = .returned (.bool (decide (x = y))) ∧ Below w.heap.size w W' := by
  by_cases h : x = y
  · subst h
    rw [show decide (x = x) = true from decide_eq_true rfl]
    exact same_num hu hv
  · rw [show decide (x = y) = false from decide_eq_false h]
    obtain ⟨a, ca, rfl, ha⟩ := hu
    obtain ⟨b, cb, rfl, hb⟩ := hv
    by_cases hl : (M.dig x).length = (M.dig y).length
    · exact same_not a b _ _ ca cb w ha hb hl fun e => h (M.dig_inj e)
    · exact same_len a b _ _ ca cb w hl
end Go.Proofs.YtbhfhekjcnnfeaaDoor

namespace Go.Proofs.YtbhfhekjcnnfeaaDoor
open Go Go.RowKit Go.Shelf

theorem RatV.below {W W' : World} {v : Value} {x y : Nat} (h : RatV W v x y) (hb : Below W.heap.size W W') : RatV W' v x y := by
  obtain ⟨a, c, b, d, rfl, h1, h2⟩ := h
  exact ⟨a, c, b, d, rfl, h1.below hb, h2.below hb⟩

end Go.Proofs.YtbhfhekjcnnfeaaDoor

namespace Go.Proofs.YtbhfhekjcnnfeaaDoor
open Go Go.RowKit Go.Shelf

set_option maxRecDepth 100000 in
set_option maxHeartbeats 1000000 in
theorem isOne_yes (a : Option Addr) (ca : Nat) (w : World) (hR : Row w a (M.dig 1) ca) :
    Calls Tryd.prog 79 #[.agg #[.slice a (M.dig 1).length ca]] w fun e W' => e = .returned (.bool true) ∧ Below w.heap.size w W' := by
  have h1 : M.dig 1 = [1] := by rw [M.dig_pos (by omega), show 1 / 16777216 = 0 from rfl, M.dig_zero]; rfl
  rw [h1] at hR ⊢
  obtain ⟨b, off, rfl, hc⟩ := hR.el 0 (by simp)
  have hro := hR.room
  have hmo := hR.most
  have hc2 := cell_later (.cells #[.slice (some ⟨b, off, none⟩) [(1 : Int)].length ca] 31) hc
  simp only [M.el_zero, Nat.add_zero] at hc2
  simp only [List.length_singleton] at hro hc2 ⊢
  clear hR hc h1
  go_enter Tryd.func79, Tryd.ntmps79
  go_wp2_with fail
  go_ret
  exact ⟨rfl, (Below.refl _ w).alloc (Nat.le_refl _) _⟩

set_option maxRecDepth 100000 in
set_option maxHeartbeats 1000000 in
/-- **ratio.Valid** -/
theorem ratValid_yes {v : Value} {x y : Nat} {w : World} (hV : RatV w v x y) (hy0 : 0 < y) (hg : Nat.gcd x y = 1) (hx : (M.dig x).length ≤ 200) (hy : (M.dig y).length ≤ 200) :
    Calls Tryd.prog 53 #[v] w fun e W' => e = .returned (.bool true) ∧ Below w.heap.size w W' := by
  obtain ⟨a, c, b, d, rfl, hA, hB⟩ := hV
  have hyl : ¬ (M.dig y).length = 0 := by intro h; have := M.dig_nil.1 (List.length_eq_zero_iff.1 h); omega
  have hyn : (((M.dig y).length : Int) == 0) = false := beq_eq_false_iff_ne.2 (by omega)
  have HYN := Lib.hid hyn
  have HG := Lib.hid hg
  obtain ⟨⟨c0, _⟩, c1, _⟩ := two_cells w (.slice a (M.dig x).length c) (.slice b (M.dig y).length d) 50
  have hb := (Below.refl _ w).alloc (Nat.le_refl _) (.cells #[.slice a (M.dig x).length c, .slice b (M.dig y).length d] 50)
  have HA := Lib.hid (hA.below hb)
  have HB := Lib.hid (hB.below hb)
  have HBB := Lib.hid hb
  clear hA hB hb hg hyn
  go_enter Tryd.func53, Tryd.ntmps53
  go_wp2_with fail
  generalize (w.alloc (.cells #[.slice a (M.dig x).length c, .slice b (M.dig y).length d] 50)) = w1 at *
  refine (gcd_any a b c d x y w1 hx hy HA.out HB.out).mono ?_
  rintro e w2 ⟨⟨v, rfl, ag, cg, rfl, hrg⟩, hb2⟩
  rw [HG.out] at hrg ⊢
  have VG := Lib.hid (Var.new hrg)
  have d1 := cell_later (.cells #[.slice ag (M.dig 1).length cg] 31) (cell_below hb2 c1)
  have HB2 := Lib.hid ((HBB.out.trans (hb2.mono HBB.out.size)).alloc (Nat.le_trans HBB.out.size hb2.size) (.cells #[.slice ag (M.dig 1).length cg] 31))
  clear hrg hb2 c0 c1
  go_wp2_with fail
  refine (isZero_any b d y _).mono ?_
  rintro e w3 ⟨rfl, hb3⟩
  rw [HYN.out]
  have V3 := Lib.hid (VG.out.below hb3)
  have e3 := V3.out.cell
  have HB3 := Lib.hid (HB2.out.trans (hb3.mono HB2.out.size))
  clear hb3 d1
  go_wp2_with fail
  refine (isOne_yes ag cg _ V3.out.row).mono ?_
  rintro e w4 ⟨rfl, hb4⟩
  go_wp2_with fail
  go_ret
  exact ⟨rfl, HB3.out.trans (hb4.mono HB3.out.size)⟩
end Go.Proofs.YtbhfhekjcnnfeaaDoor

namespace Go.Proofs.YtbhfhekjcnnfeaaDoor
open Go Go.RowKit Go.Shelf

/-- Two parameters of type Ratio in boxes, a result of type Ratio. -/
structure R2St (w : World) (a b c d : Option Addr) (ca cb cc cd x y z t : Nat) (W : World) : Prop where
  p0 : W.cell? ⟨w.heap.size, 0, none⟩ = some (.slice a (M.dig x).length ca)
  p1 : W.cell? ⟨w.heap.size, 1, none⟩ = some (.slice b (M.dig y).length cb)
  q0 : W.cell? ⟨w.heap.size + 1, 0, none⟩ = some (.slice c (M.dig z).length cc)
  q1 : W.cell? ⟨w.heap.size + 1, 1, none⟩ = some (.slice d (M.dig t).length cd)
  r0 : W.cell? ⟨w.heap.size + 1 + 1, 0, none⟩ = some (.slice none 0 0)
  f0 : W.frozen? ⟨w.heap.size + 1 + 1, 0, none⟩ = false
  r1 : W.cell? ⟨w.heap.size + 1 + 1, 1, none⟩ = some (.slice none 0 0)
  f1 : W.frozen? ⟨w.heap.size + 1 + 1, 1, none⟩ = false
  ra : Row W a (M.dig x) ca
  rb : Row W b (M.dig y) cb
  rc : Row W c (M.dig z) cc
  rd : Row W d (M.dig t) cd
  below : Below w.heap.size w W
section
variable {w W : World} {a b c d : Option Addr} {ca cb cc cd x y z t : Nat}
theorem R2St.keep {W' : World} (h : R2St w a b c d ca cb cc cd x y z t W) (hb : Below W.heap.size W W') : R2St w a b c d ca cb cc cd x y z t W' :=
  ⟨cell_below hb h.p0, cell_below hb h.p1, cell_below hb h.q0, cell_below hb h.q1, cell_below hb h.r0, frozen_below hb h.r0 h.f0, cell_below hb h.r1, frozen_below hb h.r1 h.f1, h.ra.below hb, h.rb.below hb, h.rc.below hb, h.rd.below hb, h.below.trans (hb.mono h.below.size)⟩
theorem R2St.alloc (h : R2St w a b c d ca cb cc cd x y z t W) (o : Obj) : R2St w a b c d ca cb cc cd x y z t (W.alloc o) := h.keep ((Below.refl _ W).alloc (Nat.le_refl _) o)
theorem R2St.start (hA : Row w a (M.dig x) ca) (hB : Row w b (M.dig y) cb) (hC : Row w c (M.dig z) cc) (hD : Row w d (M.dig t) cd) :
    R2St w a b c d ca cb cc cd x y z t (((w.alloc (.cells #[.slice a (M.dig x).length ca, .slice b (M.dig y).length cb] 50)).alloc (.cells #[.slice c (M.dig z).length cc, .slice d (M.dig t).length cd] 50)).alloc (.cells #[.slice none 0 0, .slice none 0 0] 50)) := by
  obtain ⟨⟨h0, _⟩, h1, _⟩ := two_cells w (.slice a (M.dig x).length ca) (.slice b (M.dig y).length cb) 50
  obtain ⟨⟨h2, _⟩, h3, _⟩ := two_cells (w.alloc (.cells #[.slice a (M.dig x).length ca, .slice b (M.dig y).length cb] 50)) (.slice c (M.dig z).length cc) (.slice d (M.dig t).length cd) 50
  obtain ⟨⟨h4, h5⟩, h6, h7⟩ := two_cells ((w.alloc (.cells #[.slice a (M.dig x).length ca, .slice b (M.dig y).length cb] 50)).alloc (.cells #[.slice c (M.dig z).length cc, .slice d (M.dig t).length cd] 50)) (.slice none 0 0) (.slice none 0 0) 50
  simp only [World.size_alloc] at h2 h3 h4 h5 h6 h7
  exact ⟨cell_later _ (cell_later _ h0), cell_later _ (cell_later _ h1), cell_later _ h2, cell_later _ h3, h4, h5, h6, h7, ((hA.alloc _).alloc _).alloc _, ((hB.alloc _).alloc _).alloc _, ((hC.alloc _).alloc _).alloc _, ((hD.alloc _).alloc _).alloc _, (((Below.refl _ w).alloc (Nat.le_refl _) _).alloc (by simp) _).alloc (by simp; omega) _⟩
/-- The result has been stored. -/
theorem R2St.done {e f : Option Addr} {ce cf k l : Nat} (h : R2St w a b c d ca cb cc cd x y z t W) (hE : Row W e (M.dig k) ce) (hF : Row W f (M.dig l) cf) :
    RatV ((W.setCell ⟨w.heap.size + 1 + 1, 0, none⟩ (.slice e (M.dig k).length ce)).setCell ⟨w.heap.size + 1 + 1, 1, none⟩ (.slice f (M.dig l).length cf)) (.agg #[.slice e (M.dig k).length ce, .slice f (M.dig l).length cf]) k l ∧
    Below w.heap.size w ((W.setCell ⟨w.heap.size + 1 + 1, 0, none⟩ (.slice e (M.dig k).length ce)).setCell ⟨w.heap.size + 1 + 1, 1, none⟩ (.slice f (M.dig l).length cf)) := by
  have r2 : (W.setCell ⟨w.heap.size + 1 + 1, 0, none⟩ (.slice e (M.dig k).length ce)).cell? ⟨w.heap.size + 1 + 1, 1, none⟩ = some (.slice none 0 0) := (World.cell?_setCell_other _ _ _ _ (by intro e; cases e)).trans h.r1
  exact ⟨⟨e, ce, f, cf, rfl, (hE.storedAt h.r0 _).storedAt r2 _, (hF.storedAt h.r0 _).storedAt r2 _⟩, (h.below.setCell (p := ⟨w.heap.size + 1 + 1, 0, none⟩) (by show _ ≤ w.heap.size + 1 + 1; omega) _).setCell (p := ⟨w.heap.size + 1 + 1, 1, none⟩) (by show _ ≤ w.heap.size + 1 + 1; omega) _⟩
end

end Go.Proofs.YtbhfhekjcnnfeaaDoor

namespace Go.Proofs.YtbhfhekjcnnfeaaDoor
open Go Go.RowKit Go.Shelf

/-- Two parameters of type Ratio in boxes, two results of type Nat. -/
structure CwSt (w : World) (a b c d : Option Addr) (ca cb cc cd x y z t : Nat) (e : Option Addr) (ne ce : Nat) (f : Option Addr) (nf cf : Nat) (W : World) : Prop where
  p0 : W.cell? ⟨w.heap.size, 0, none⟩ = some (.slice a (M.dig x).length ca)
  p1 : W.cell? ⟨w.heap.size, 1, none⟩ = some (.slice b (M.dig y).length cb)
  q0 : W.cell? ⟨w.heap.size + 1, 0, none⟩ = some (.slice c (M.dig z).length cc)
  q1 : W.cell? ⟨w.heap.size + 1, 1, none⟩ = some (.slice d (M.dig t).length cd)
  l0 : W.cell? ⟨w.heap.size + 1 + 1, 0, none⟩ = some (.slice e ne ce)
  lf : W.frozen? ⟨w.heap.size + 1 + 1, 0, none⟩ = false
  r0 : W.cell? ⟨w.heap.size + 1 + 1 + 1, 0, none⟩ = some (.slice f nf cf)
  rf : W.frozen? ⟨w.heap.size + 1 + 1 + 1, 0, none⟩ = false
  ra : Row W a (M.dig x) ca
  rb : Row W b (M.dig y) cb
  rc : Row W c (M.dig z) cc
  rd : Row W d (M.dig t) cd
  below : Below w.heap.size w W
section
variable {w W : World} {a b c d e f : Option Addr} {ca cb cc cd x y z t ne ce nf cf : Nat}
theorem CwSt.keep {W' : World} (h : CwSt w a b c d ca cb cc cd x y z t e ne ce f nf cf W) (hb : Below W.heap.size W W') : CwSt w a b c d ca cb cc cd x y z t e ne ce f nf cf W' :=
  ⟨cell_below hb h.p0, cell_below hb h.p1, cell_below hb h.q0, cell_below hb h.q1, cell_below hb h.l0, frozen_below hb h.l0 h.lf, cell_below hb h.r0, frozen_below hb h.r0 h.rf, h.ra.below hb, h.rb.below hb, h.rc.below hb, h.rd.below hb, h.below.trans (hb.mono h.below.size)⟩
theorem CwSt.setL (h : CwSt w a b c d ca cb cc cd x y z t e ne ce f nf cf W) (e' : Option Addr) (n' c' : Nat) : CwSt w a b c d ca cb cc cd x y z t e' n' c' f nf cf (W.setCell ⟨w.heap.size + 1 + 1, 0, none⟩ (.slice e' n' c')) :=
  ⟨(cell_other _ (show w.heap.size ≠ w.heap.size + 1 + 1 by omega)).trans h.p0, (cell_other _ (show w.heap.size ≠ w.heap.size + 1 + 1 by omega)).trans h.p1, (cell_other _ (show w.heap.size + 1 ≠ w.heap.size + 1 + 1 by omega)).trans h.q0, (cell_other _ (show w.heap.size + 1 ≠ w.heap.size + 1 + 1 by omega)).trans h.q1,
    World.cell?_setCell_same _ _ _ h.l0, (World.frozen?_setCell _ _ _ _).trans h.lf, (cell_other _ (show w.heap.size + 1 + 1 + 1 ≠ w.heap.size + 1 + 1 by omega)).trans h.r0, (World.frozen?_setCell _ _ _ _).trans h.rf,
    h.ra.storedAt h.l0 _, h.rb.storedAt h.l0 _, h.rc.storedAt h.l0 _, h.rd.storedAt h.l0 _, h.below.setCell (p := ⟨w.heap.size + 1 + 1, 0, none⟩) (by show _ ≤ w.heap.size + 1 + 1; omega) _⟩
theorem CwSt.setR (h : CwSt w a b c d ca cb cc cd x y z t e ne ce f nf cf W) (e' : Option Addr) (n' c' : Nat) : CwSt w a b c d ca cb cc cd x y z t e ne ce e' n' c' (W.setCell ⟨w.heap.size + 1 + 1 + 1, 0, none⟩ (.slice e' n' c')) :=
  ⟨(cell_other _ (show w.heap.size ≠ w.heap.size + 1 + 1 + 1 by omega)).trans h.p0, (cell_other _ (show w.heap.size ≠ w.heap.size + 1 + 1 + 1 by omega)).trans h.p1, (cell_other _ (show w.heap.size + 1 ≠ w.heap.size + 1 + 1 + 1 by omega)).trans h.q0, (cell_other _ (show w.heap.size + 1 ≠ w.heap.size + 1 + 1 + 1 by omega)).trans h.q1,
    (cell_other _ (show w.heap.size + 1 + 1 ≠ w.heap.size + 1 + 1 + 1 by omega)).trans h.l0, (World.frozen?_setCell _ _ _ _).trans h.lf, World.cell?_setCell_same _ _ _ h.r0, (World.frozen?_setCell _ _ _ _).trans h.rf,
    h.ra.storedAt h.r0 _, h.rb.storedAt h.r0 _, h.rc.storedAt h.r0 _, h.rd.storedAt h.r0 _, h.below.setCell (p := ⟨w.heap.size + 1 + 1 + 1, 0, none⟩) (by show _ ≤ w.heap.size + 1 + 1 + 1; omega) _⟩
theorem CwSt.start (hA : Row w a (M.dig x) ca) (hB : Row w b (M.dig y) cb) (hC : Row w c (M.dig z) cc) (hD : Row w d (M.dig t) cd) :
    CwSt w a b c d ca cb cc cd x y z t none 0 0 none 0 0 ((((w.alloc (.cells #[.slice a (M.dig x).length ca, .slice b (M.dig y).length cb] 50)).alloc (.cells #[.slice c (M.dig z).length cc, .slice d (M.dig t).length cd] 50)).alloc (.cells #[.slice none 0 0] 31)).alloc (.cells #[.slice none 0 0] 31)) := by
  obtain ⟨⟨h0, _⟩, h1, _⟩ := two_cells w (.slice a (M.dig x).length ca) (.slice b (M.dig y).length cb) 50
  obtain ⟨⟨h2, _⟩, h3, _⟩ := two_cells (w.alloc (.cells #[.slice a (M.dig x).length ca, .slice b (M.dig y).length cb] 50)) (.slice c (M.dig z).length cc) (.slice d (M.dig t).length cd) 50
  have h4 := cell_new ((w.alloc (.cells #[.slice a (M.dig x).length ca, .slice b (M.dig y).length cb] 50)).alloc (.cells #[.slice c (M.dig z).length cc, .slice d (M.dig t).length cd] 50)) (.slice none 0 0) 31
  have h5 := frozen_new ((w.alloc (.cells #[.slice a (M.dig x).length ca, .slice b (M.dig y).length cb] 50)).alloc (.cells #[.slice c (M.dig z).length cc, .slice d (M.dig t).length cd] 50)) (.slice none 0 0) 31
  have h6 := cell_new (((w.alloc (.cells #[.slice a (M.dig x).length ca, .slice b (M.dig y).length cb] 50)).alloc (.cells #[.slice c (M.dig z).length cc, .slice d (M.dig t).length cd] 50)).alloc (.cells #[.slice none 0 0] 31)) (.slice none 0 0) 31
  have h7 := frozen_new (((w.alloc (.cells #[.slice a (M.dig x).length ca, .slice b (M.dig y).length cb] 50)).alloc (.cells #[.slice c (M.dig z).length cc, .slice d (M.dig t).length cd] 50)).alloc (.cells #[.slice none 0 0] 31)) (.slice none 0 0) 31
  simp only [World.size_alloc] at h2 h3 h4 h5 h6 h7
  exact ⟨cell_later _ (cell_later _ (cell_later _ h0)), cell_later _ (cell_later _ (cell_later _ h1)), cell_later _ (cell_later _ h2), cell_later _ (cell_later _ h3), cell_later _ h4, frozen_later _ h4 h5, h6, h7, (((hA.alloc _).alloc _).alloc _).alloc _, (((hB.alloc _).alloc _).alloc _).alloc _, (((hC.alloc _).alloc _).alloc _).alloc _, (((hD.alloc _).alloc _).alloc _).alloc _,
    ((((Below.refl _ w).alloc (Nat.le_refl _) _).alloc (by simp) _).alloc (by simp; omega) _).alloc (by simp; omega) _⟩
end

end Go.Proofs.YtbhfhekjcnnfeaaDoor

namespace Go.Proofs.YtbhfhekjcnnfeaaDoor
open Go Go.RowKit Go.Shelf

end Go.Proofs.YtbhfhekjcnnfeaaDoor

namespace Go.Proofs.YtbhfhekjcnnfeaaDoor
open Go Go.RowKit Go.Shelf

theorem sub_num_ge {u v : Value} {x y : Nat} {w : World} (hx : (M.dig x).length ≤ 200) (hy : (M.dig y).length ≤ 200) (hle : y ≤ x) (hu : Num w u x) (hv : Num w v y) :
    Calls Tryd.prog 81 #[u, v] w fun e W' => NatRes (x - y) e W' ∧ Below w.heap.size w W' := by
  obtain ⟨a, ca, rfl, ha⟩ := hu
  obtain ⟨b, cb, rfl, hb⟩ := hv
  exact sub_ge a b ca cb x y w hx hy ha hb hle
theorem sub_num_lt {u v : Value} {x y : Nat} {w : World} (hx : (M.dig x).length ≤ 200) (hy : (M.dig y).length ≤ 200) (hlt : x < y) (hu : Num w u x) (hv : Num w v y) :
    Calls Tryd.prog 81 #[u, v] w fun e W' => e = .returned (.tuple #[.agg #[.slice none 0 0], .int .i64 5]) ∧ Below w.heap.size w W' := by
  obtain ⟨a, ca, rfl, ha⟩ := hu
  obtain ⟨b, cb, rfl, hb⟩ := hv
  exact sub_lt a b ca cb x y w hx hy ha hb hlt
theorem R2St.none {w : World} {a b c d : Option Addr} {ca cb cc cd x y z t : Nat} {W : World} (h : R2St w a b c d ca cb cc cd x y z t W) :
    Below w.heap.size w ((W.setCell ⟨w.heap.size + 1 + 1, 0, none⟩ (.slice none 0 0)).setCell ⟨w.heap.size + 1 + 1, 1, none⟩ (.slice none 0 0)) := by
  have := h.below
  exact (h.below.setCell (by simp; omega) _).setCell (by simp; omega) _
end Go.Proofs.YtbhfhekjcnnfeaaDoor

namespace Go.Proofs.YtbhfhekjcnnfeaaDoor
open Go Go.RowKit Go.Shelf

/-- A variable of type Ratio in a block of its own. -/
structure RVar (W : World) (p : Nat) (a : Option Addr) (ca : Nat) (b : Option Addr) (cb x y : Nat) : Prop where
  c0 : W.cell? ⟨p, 0, none⟩ = some (.slice a (M.dig x).length ca)
  c1 : W.cell? ⟨p, 1, none⟩ = some (.slice b (M.dig y).length cb)
  ra : Row W a (M.dig x) ca
  rb : Row W b (M.dig y) cb
section
variable {W W' : World} {p : Nat} {a b : Option Addr} {ca cb x y : Nat}
theorem RVar.new (hA : Row W a (M.dig x) ca) (hB : Row W b (M.dig y) cb) : RVar (W.alloc (.cells #[.slice a (M.dig x).length ca, .slice b (M.dig y).length cb] 50)) W.heap.size a ca b cb x y := by
  obtain ⟨⟨h0, _⟩, h1, _⟩ := two_cells W (.slice a (M.dig x).length ca) (.slice b (M.dig y).length cb) 50
  exact ⟨h0, h1, hA.alloc _, hB.alloc _⟩
theorem RVar.below (h : RVar W p a ca b cb x y) (hb : Below W.heap.size W W') : RVar W' p a ca b cb x y :=
  ⟨cell_below hb h.c0, cell_below hb h.c1, h.ra.below hb, h.rb.below hb⟩
theorem RVar.alloc (h : RVar W p a ca b cb x y) (o : Obj) : RVar (W.alloc o) p a ca b cb x y := h.below ((Below.refl _ W).alloc (Nat.le_refl _) o)
theorem RVar.val (h : RVar W p a ca b cb x y) : RatV W (.agg #[.slice a (M.dig x).length ca, .slice b (M.dig y).length cb]) x y := ⟨a, ca, b, cb, rfl, h.ra, h.rb⟩
theorem RVar.lt (h : RVar W p a ca b cb x y) : p < W.heap.size := lt_of_cell h.c0
end

end Go.Proofs.YtbhfhekjcnnfeaaDoor

namespace Go.Proofs.YtbhfhekjcnnfeaaDoor
open Go Go.RowKit Go.Shelf

/-- A result of type Ratio alone in its cell. -/
structure ResSt (w : World) (W : World) : Prop where
  r0 : W.cell? ⟨w.heap.size, 0, none⟩ = some (.slice none 0 0)
  f0 : W.frozen? ⟨w.heap.size, 0, none⟩ = false
  r1 : W.cell? ⟨w.heap.size, 1, none⟩ = some (.slice none 0 0)
  f1 : W.frozen? ⟨w.heap.size, 1, none⟩ = false
  below : Below w.heap.size w W
section
variable {w W W' : World}
theorem ResSt.keep (h : ResSt w W) (hb : Below W.heap.size W W') : ResSt w W' :=
  ⟨cell_below hb h.r0, frozen_below hb h.r0 h.f0, cell_below hb h.r1, frozen_below hb h.r1 h.f1, h.below.trans (hb.mono h.below.size)⟩
theorem ResSt.alloc (h : ResSt w W) (o : Obj) : ResSt w (W.alloc o) := h.keep ((Below.refl _ W).alloc (Nat.le_refl _) o)
theorem ResSt.done {e f : Option Addr} {ce cf k l : Nat} (h : ResSt w W) (hE : Row W e (M.dig k) ce) (hF : Row W f (M.dig l) cf) :
    RatV ((W.setCell ⟨w.heap.size, 0, none⟩ (.slice e (M.dig k).length ce)).setCell ⟨w.heap.size, 1, none⟩ (.slice f (M.dig l).length cf)) (.agg #[.slice e (M.dig k).length ce, .slice f (M.dig l).length cf]) k l ∧
    Below w.heap.size w ((W.setCell ⟨w.heap.size, 0, none⟩ (.slice e (M.dig k).length ce)).setCell ⟨w.heap.size, 1, none⟩ (.slice f (M.dig l).length cf)) := by
  have r2 : (W.setCell ⟨w.heap.size, 0, none⟩ (.slice e (M.dig k).length ce)).cell? ⟨w.heap.size, 1, none⟩ = some (.slice none 0 0) := (World.cell?_setCell_other _ _ _ _ (by intro e; cases e)).trans h.r1
  exact ⟨⟨e, ce, f, cf, rfl, (hE.storedAt h.r0 _).storedAt r2 _, (hF.storedAt h.r0 _).storedAt r2 _⟩, (h.below.setCell (p := ⟨w.heap.size, 0, none⟩) (Nat.le_refl _) _).setCell (p := ⟨w.heap.size, 1, none⟩) (Nat.le_refl _) _⟩
end

end Go.Proofs.YtbhfhekjcnnfeaaDoor

namespace Go.Proofs.YtbhfhekjcnnfeaaDoor
open Go Go.RowKit Go.Shelf

theorem decs_eleven : (M.decs 2 11).map UInt8.ofNat = [49, 49] := by decide
theorem decs_six : (M.decs 1 6).map UInt8.ofNat = [54] := by decide
set_option maxRecDepth 100000 in
theorem print_eleven {a : Option Addr} {cap : Nat} {w : World} (hR : Row w a (M.dig 11) cap) :
    Calls Tryd.prog 20 #[.agg #[.slice a (M.dig 11).length cap]] w fun e W' => e = .returned (.string ⟨#[49, 49]⟩) ∧ Below w.heap.size w W' :=
  (print_pos a cap 11 w (by omega) (small_len (by decide)) hR).mono fun _ _ h => ⟨(prPost_at (K := 2) h.1 (by decide)).trans (by rw [decs_eleven]), h.2⟩
set_option maxRecDepth 100000 in
theorem print_six {a : Option Addr} {cap : Nat} {w : World} (hR : Row w a (M.dig 6) cap) :
    Calls Tryd.prog 20 #[.agg #[.slice a (M.dig 6).length cap]] w fun e W' => e = .returned (.string ⟨#[54]⟩) ∧ Below w.heap.size w W' :=
  (print_pos a cap 6 w (by omega) (small_len (by decide)) hR).mono fun _ _ h => ⟨(prPost_at (K := 1) h.1 (by decide)).trans (by rw [decs_six]), h.2⟩

set_option maxRecDepth 100000 in
set_option maxHeartbeats 2000000 in
theorem ratPrint_116 {u : Value} {w : World} (hu : RatV w u 11 6) :
    Calls Tryd.prog 21 #[u] w fun e W' => e = .returned (.string ⟨#[49, 49, 47, 54]⟩) ∧ Below w.heap.size w W' := by
  obtain ⟨a, ca, b, cb, rfl, hA, hB⟩ := hu
  have A := Lib.hid (RVar.new hA hB)
  have HB := Lib.hid (show Below w.heap.size w (w.alloc (.cells #[.slice a (M.dig 11).length ca, .slice b (M.dig 6).length cb] 50)) from ((Below.refl _ w).alloc (Nat.le_refl _) _))
  have hv := ratValid_yes (x := 11) (y := 6) A.out.val (by decide) (by decide) (small_len (by decide)) (small_len (by decide))
  have HV := Lib.hid hv
  have P11 := Lib.hid (fun (W : World) (h : Row W a (M.dig 11) ca) => print_eleven h)
  have P6 := Lib.hid (fun (W : World) (h : Row W b (M.dig 6) cb) => print_six h)
  clear hA hB hv
  have HA := Lib.hid A.out.ra
  have HBr := Lib.hid A.out.rb
  clear A
  generalize M.dig 11 = d11 at *
  generalize M.dig 6 = d6 at *
  have p0 : (w.alloc (.cells #[.slice a d11.length ca, .slice b d6.length cb] 50)).cell? ⟨w.heap.size, 0, none⟩ = some (.slice a d11.length ca) := (two_cells w _ _ _).1.1
  have p1 : (w.alloc (.cells #[.slice a d11.length ca, .slice b d6.length cb] 50)).cell? ⟨w.heap.size, 1, none⟩ = some (.slice b d6.length cb) := (two_cells w _ _ _).2.1
  go_enter Tryd.func21, Tryd.ntmps21
  go_wp2_with fail
  generalize (w.alloc (.cells #[.slice a d11.length ca, .slice b d6.length cb] 50)) = w1 at *
  refine HV.out.mono ?_
  rintro e w2 ⟨rfl, hb2⟩
  have HB2 := Lib.hid (HB.out.trans (hb2.mono HB.out.size))
  have q0 := cell_below hb2 p0
  have q1 := cell_below hb2 p1
  have HRA := Lib.hid (HA.out.below hb2)
  have HRB := Lib.hid (HBr.out.below hb2)
  clear hb2 HB HA HBr p0 p1 HV
  go_wp2_with fail
  have hra : Row w2.drew a d11 ca := HRA.out.drewN 1
  have hrb : Row w2.drew b d6 cb := HRB.out.drewN 1
  have hB2 : Below w.heap.size w w2.drew := belowN HB2.out 1
  have q1d : w2.drew.cell? ⟨w.heap.size, 1, none⟩ = some (.slice b d6.length cb) := q1
  go_region_law (first
    | (go_simp; go_at_call 20; (with_reducible refine (P11.out _ hra).mono ?_); rintro e w5 ⟨rfl, hb5⟩; have q1' : w5.cell? ⟨w.heap.size, 1, none⟩ = some (.slice b d6.length cb) := cell_below hb5 q1d; have HRB5 := Lib.hid (hrb.below hb5); have HB5 := Lib.hid (hB2.trans (hb5.mono hB2.size)); clear hb5; go_simp)
    | (go_simp; go_at_call 20; (with_reducible refine (P6.out _ HRB5.out).mono ?_); rintro e w6 ⟨rfl, hb6⟩; have HB6 := Lib.hid (HB5.out.trans (hb6.mono HB5.out.size)); clear hb6; go_simp))
  all_goals
    go_wp2_with fail
    go_ret
    exact ⟨by rfl, HB6.out⟩
end Go.Proofs.YtbhfhekjcnnfeaaDoor

namespace Go.Proofs.YtbhfhekjcnnfeaaDoor
open Go Go.RowKit Go.Shelf

def dvalN (l : List Nat) : Nat := l.foldl (fun v c => v * 10 + (c - 48)) 0
theorem dvalN_snoc (l : List Nat) (c : Nat) : dvalN (l ++ [c]) = dvalN l * 10 + (c - 48) := by unfold dvalN; rw [List.foldl_append]; rfl
theorem dvalN_dg (k g : Nat) : dvalN (M.dg k g).reverse = g % 10 ^ k := by
  induction k generalizing g with
  | zero => rw [Nat.pow_zero, Nat.mod_one]; rfl
  | succ k ih =>
    rw [M.dg, List.reverse_cons, dvalN_snoc, ih, Nat.pow_succ, Nat.mul_comm (10 ^ k) 10, Nat.mod_mul]
    omega
theorem dvalN_drop (l : List Nat) : dvalN (l.dropWhile (· == 48)) = dvalN l := by
  induction l with
  | nil => rfl
  | cons c l ih =>
    by_cases h : c = 48
    · subst h; rw [List.dropWhile_cons_of_pos rfl, ih]; rfl
    · rw [List.dropWhile_cons_of_neg (by simpa using h)]
theorem dval_map (l : List Nat) (h : ∀ b ∈ l, b < 256) : dval (l.map UInt8.ofNat) = dvalN l := by
  unfold dval dvalN
  generalize 0 = v
  induction l generalizing v with
  | nil => rfl
  | cons c l ih =>
    have hc := h c (List.mem_cons_self ..)
    simp only [List.map_cons, List.foldl_cons]
    rw [ih (fun b hb => h b (List.mem_cons_of_mem _ hb))]
    congr 2
    rw [UInt8.toNat_ofNat']; omega
theorem mem_dropWhile {p : Nat → Bool} {l : List Nat} {b : Nat} (h : b ∈ l.dropWhile p) : b ∈ l := (List.dropWhile_sublist p).mem h
theorem decs_byte (k n : Nat) : ∀ b ∈ M.decs k n, 48 ≤ b ∧ b ≤ 57 := fun b hb => M.dg_byte k n b (by have := mem_dropWhile hb; simpa using this)
theorem dvalN_decs {k n : Nat} (h : n < 10 ^ k) : dvalN (M.decs k n) = n := by
  unfold M.decs; rw [dvalN_drop, dvalN_dg, Nat.mod_eq_of_lt h]
theorem decs_len (k n : Nat) : (M.decs k n).length ≤ k := by
  unfold M.decs
  have := (List.dropWhile_sublist (l := (M.dg k n).reverse) (· == 48)).length_le
  rw [List.length_reverse, M.dg_len] at this
  exact this
theorem decs_head {k n : Nat} : (M.decs k n).head? ≠ some 48 := by
  unfold M.decs
  intro h
  have := List.head?_dropWhile_not (· == 48) (M.dg k n).reverse
  rw [h] at this
  simp at this

/-- The text of n. -/
def TextOf (n : Nat) (s : ByteArray) : Prop := decB s = true ∧ dval s.data.toList = n

theorem text_decs {k n : Nat} (h0 : 0 < n) (h : n < 10 ^ k) : TextOf n ⟨((M.decs k n).map UInt8.ofNat).toArray⟩ := by
  have hb := decs_byte k n
  refine ⟨?_, by rw [List.toList_toArray, dval_map _ (fun b hm => by have := hb b hm; omega), dvalN_decs h]⟩
  unfold decB
  simp only
  have hall : ((M.decs k n).map UInt8.ofNat).all digB = true := by
    rw [List.all_eq_true]
    intro c hc
    obtain ⟨b, hm, rfl⟩ := List.mem_map.1 hc
    have := hb b hm
    unfold digB
    rw [UInt8.toNat_ofNat', Bool.and_eq_true, decide_eq_true_eq, decide_eq_true_eq]; omega
  have hne : (M.decs k n).map UInt8.ofNat ≠ [] := by
    intro e
    have : M.decs k n = [] := List.map_eq_nil_iff.1 e
    have h1 := dvalN_decs h
    rw [this] at h1
    have : dvalN [] = 0 := rfl
    omega
  have hh : ((M.decs k n).map UInt8.ofNat).head? ≠ some 48 := by
    rw [List.head?_map]
    cases hd : (M.decs k n).head? with
    | none => simp
    | some b =>
      have hm : b ∈ M.decs k n := List.mem_of_head? hd
      have h1 := hb b hm
      have h2 := decs_head (k := k) (n := n)
      rw [hd] at h2
      intro e
      apply h2
      have := congrArg UInt8.toNat (Option.some.inj e)
      rw [UInt8.toNat_ofNat'] at this
      have h48 : (48 : UInt8).toNat = 48 := rfl
      rw [h48] at this
      congr 1; omega
  rw [hall, decide_eq_true hne, decide_eq_true hh]
  simp

theorem text_zero : TextOf 0 ⟨#[48]⟩ := ⟨rfl, rfl⟩

set_option maxRecDepth 100000 in
set_option maxHeartbeats 1000000 in
theorem print_zero (a : Option Addr) (cap : Nat) (w : World) (hR : Row w a [] cap) :
    Calls Tryd.prog 20 #[.agg #[.slice a 0 cap]] w fun e W' => e = .returned (.string ⟨#[48]⟩) ∧ Below w.heap.size w W' := by
  have hb1 := (Below.refl _ w).alloc (Nat.le_refl _) (.cells #[.slice a 0 cap] 31)
  have c0 := cell_new w (.slice a 0 cap) 31
  have HV := Lib.hid (valid_yes a [] cap _ (hR.below hb1) (by have := vld_dig (n := 0) (by rw [M.dig_zero]; simp); rwa [M.dig_zero] at this))
  have HB1 := Lib.hid hb1
  clear hb1 hR
  go_enter Tryd.func20, Tryd.ntmps20
  go_wp2_with fail
  refine HV.out.mono ?_
  rintro e w2 ⟨rfl, hb2⟩
  have c2 := (hb2.cell (p := ⟨w.heap.size, 0, none⟩) (by simp)).trans c0
  have HB2 := Lib.hid (HB1.out.trans (hb2.mono (by simp)))
  clear hb2 c0
  go_wp2_with fail
  go_ret
  exact ⟨rfl, HB2.out⟩

/-- **nat.Print**, of numbers below 10^j. -/
theorem print_text (a : Option Addr) (cap n j : Nat) (w : World) (hj : n < 10 ^ j) (hj1 : 1 ≤ j) (hlen : (M.dig n).length ≤ 200) (hR : Row w a (M.dig n) cap) :
    Calls Tryd.prog 20 #[.agg #[.slice a (M.dig n).length cap]] w fun e W' => (∃ s, e = .returned (.string s) ∧ TextOf n s ∧ s.size ≤ j) ∧ Below w.heap.size w W' := by
  rcases Nat.eq_zero_or_pos n with rfl | h0
  · rw [M.dig_zero] at hR ⊢
    exact (print_zero a cap w hR).mono fun e W' ⟨he, hb⟩ => ⟨⟨_, he, text_zero, hj1⟩, hb⟩
  · refine (print_pos a cap n w h0 hlen hR).mono ?_
    rintro e W' ⟨⟨k, hk, rfl⟩, hb⟩
    refine ⟨⟨_, rfl, text_decs h0 hk, ?_⟩, hb⟩
    rw [M.decs_any hk hj]
    have := decs_len j n
    simpa [ByteArray.size] using this
end Go.Proofs.YtbhfhekjcnnfeaaDoor

namespace Go.Proofs.YtbhfhekjcnnfeaaDoor
open Go Go.RowKit Go.Shelf

theorem decs_one : (M.decs 1 1).map UInt8.ofNat = [49] := by decide
theorem decs_255 : (M.decs 3 255).map UInt8.ofNat = [50, 53, 53] := by decide
set_option maxRecDepth 100000 in
theorem print_one {a : Option Addr} {cap : Nat} {w : World} (hR : Row w a (M.dig 1) cap) :
    Calls Tryd.prog 20 #[.agg #[.slice a (M.dig 1).length cap]] w fun e W' => e = .returned (.string ⟨#[49]⟩) ∧ Below w.heap.size w W' :=
  (print_pos a cap 1 w (by omega) (small_len (by decide)) hR).mono fun _ _ h => ⟨(prPost_at (K := 1) h.1 (by decide)).trans (by rw [decs_one]), h.2⟩
set_option maxRecDepth 100000 in
theorem print_255 {a : Option Addr} {cap : Nat} {w : World} (hR : Row w a (M.dig 255) cap) :
    Calls Tryd.prog 20 #[.agg #[.slice a (M.dig 255).length cap]] w fun e W' => e = .returned (.string ⟨#[50, 53, 53]⟩) ∧ Below w.heap.size w W' :=
  (print_pos a cap 255 w (by omega) (small_len (by decide)) hR).mono fun _ _ h => ⟨(prPost_at (K := 3) h.1 (by decide)).trans (by rw [decs_255]), h.2⟩

set_option maxRecDepth 100000 in
set_option maxHeartbeats 2000000 in
theorem ratPrint_1255 {u : Value} {w : World} (hu : RatV w u 1 255) :
    Calls Tryd.prog 21 #[u] w fun e W' => e = .returned (.string ⟨#[49, 47, 50, 53, 53]⟩) ∧ Below w.heap.size w W' := by
  obtain ⟨a, ca, b, cb, rfl, hA, hB⟩ := hu
  have A := Lib.hid (RVar.new hA hB)
  have HB := Lib.hid (show Below w.heap.size w (w.alloc (.cells #[.slice a (M.dig 1).length ca, .slice b (M.dig 255).length cb] 50)) from ((Below.refl _ w).alloc (Nat.le_refl _) _))
  have hv := ratValid_yes (x := 1) (y := 255) A.out.val (by decide) (by decide) (small_len (by decide)) (small_len (by decide))
  have HV := Lib.hid hv
  have P11 := Lib.hid (fun (W : World) (h : Row W a (M.dig 1) ca) => print_one h)
  have P6 := Lib.hid (fun (W : World) (h : Row W b (M.dig 255) cb) => print_255 h)
  clear hA hB hv
  have HA := Lib.hid A.out.ra
  have HBr := Lib.hid A.out.rb
  clear A
  generalize M.dig 1 = d11 at *
  generalize M.dig 255 = d6 at *
  have p0 : (w.alloc (.cells #[.slice a d11.length ca, .slice b d6.length cb] 50)).cell? ⟨w.heap.size, 0, none⟩ = some (.slice a d11.length ca) := (two_cells w _ _ _).1.1
  have p1 : (w.alloc (.cells #[.slice a d11.length ca, .slice b d6.length cb] 50)).cell? ⟨w.heap.size, 1, none⟩ = some (.slice b d6.length cb) := (two_cells w _ _ _).2.1
  go_enter Tryd.func21, Tryd.ntmps21
  go_wp2_with fail
  generalize (w.alloc (.cells #[.slice a d11.length ca, .slice b d6.length cb] 50)) = w1 at *
  refine HV.out.mono ?_
  rintro e w2 ⟨rfl, hb2⟩
  have HB2 := Lib.hid (HB.out.trans (hb2.mono HB.out.size))
  have q0 := cell_below hb2 p0
  have q1 := cell_below hb2 p1
  have HRA := Lib.hid (HA.out.below hb2)
  have HRB := Lib.hid (HBr.out.below hb2)
  clear hb2 HB HA HBr p0 p1 HV
  go_wp2_with fail
  have hra : Row w2.drew a d11 ca := HRA.out.drewN 1
  have hrb : Row w2.drew b d6 cb := HRB.out.drewN 1
  have hB2 : Below w.heap.size w w2.drew := belowN HB2.out 1
  have q1d : w2.drew.cell? ⟨w.heap.size, 1, none⟩ = some (.slice b d6.length cb) := q1
  go_region_law (first
    | (go_simp; go_at_call 20; (with_reducible refine (P11.out _ hra).mono ?_); rintro e w5 ⟨rfl, hb5⟩; have q1' : w5.cell? ⟨w.heap.size, 1, none⟩ = some (.slice b d6.length cb) := cell_below hb5 q1d; have HRB5 := Lib.hid (hrb.below hb5); have HB5 := Lib.hid (hB2.trans (hb5.mono hB2.size)); clear hb5; go_simp)
    | (go_simp; go_at_call 20; (with_reducible refine (P6.out _ HRB5.out).mono ?_); rintro e w6 ⟨rfl, hb6⟩; have HB6 := Lib.hid (HB5.out.trans (hb6.mono HB5.out.size)); clear hb6; go_simp))
  all_goals
    go_wp2_with fail
    go_ret
    exact ⟨by rfl, HB6.out⟩
end Go.Proofs.YtbhfhekjcnnfeaaDoor

namespace Go.Proofs.YtbhfhekjcnnfeaaDoor
open Go Go.RowKit Go.Shelf

namespace C
theorem ok11 : Ok 1 1 0 := ⟨by omega, by omega, by omega, by omega, by omega⟩
theorem wrong112 : wrongN 2 1 2 0 = 255 := by rw [wrong0 2 1 2 (by omega) (by omega), words112]
theorem err22 : errN 2 2 = 65025 := by decide
set_option maxRecDepth 100000 in
set_option maxHeartbeats 2000000 in
/-- **chance.Chance** of one data byte and one check byte, for two wrong bytes -/
theorem chance_112 (u : World) :
    Calls Tryd.prog 19 #[.agg #[.int .i64 2, .int .i64 1, .int .i64 1, .int .i64 0], .int .i64 2] u fun e W => (∃ r, e = .returned (.tuple #[r, .int .i64 0]) ∧ RatV W r 1 255) ∧ Below u.heap.size u W := by
  have HW := Lib.hid (fun W => (show Calls Tryd.prog 46 #[.agg #[.int .i64 2, .int .i64 1, .int .i64 1, .int .i64 0], .int .i64 2] W fun e W' => NumE 255 e W' ∧ Below W.heap.size W W' from by
    have h := wrong_any ok11 2 (by omega) W
    rw [wrong112] at h
    exact h))
  have HE := Lib.hid (fun W => (show Calls Tryd.prog 12 #[.agg #[.int .i64 2, .int .i64 1, .int .i64 1, .int .i64 0], .int .i64 2] W fun e W' => NumE 65025 e W' ∧ Below W.heap.size W W' from by
    have h := errors_any ok11 2 (by omega) W
    rw [err22] at h
    exact h))
  obtain ⟨u1, hu1, hbx1, hB1, hs1⟩ := CBox.new u 1 1 0
  have hu1' : u.alloc (.cells #[.int .i64 2, .int .i64 1, .int .i64 1, .int .i64 0] 26) = u1 := hu1
  obtain ⟨u2, hu2⟩ : ∃ u2, u1.alloc (.cells #[.slice none 0 0, .slice none 0 0] 50) = u2 := ⟨_, rfl⟩
  have hb2 := G.Box.new u1 50 [.slice none 0 0, .slice none 0 0]
  have hB2 : Below u1.heap.size u1 u2 := by rw [← hu2]; exact (Below.refl _ u1).alloc (Nat.le_refl _) _
  obtain ⟨pr, hpr⟩ : ∃ pr, u1.heap.size = pr := ⟨_, rfl⟩
  have hb2' : G.Box u2 pr 50 [.slice none 0 0, .slice none 0 0] := by rw [← hu2, ← hpr]; exact hb2
  have HC := Lib.hid (hbx1.below hB2)
  have HR := Lib.hid hb2'
  have hs := hB1.size
  have hpr0 : u.heap.size ≤ pr := by omega
  have HB := Lib.hid (hB1.trans (hB2.mono (by omega)))
  obtain ⟨k0, k1, k2, k3⟩ := HC.out.at
  have k1' : u2.cell? ⟨u.heap.size, 1, none⟩ = some (.int .i64 1) := k1
  have k2' : u2.cell? ⟨u.heap.size, 2, none⟩ = some (.int .i64 1) := k2
  have k3' : u2.cell? ⟨u.heap.size, 3, none⟩ = some (.int .i64 0) := k3
  clear hu1 hb2 hb2' hB1 hB2 hbx1 hs hs1 k1 k2 k3
  go_enter Tryd.func19, Tryd.ntmps19
  go_wp2_with fail
  (with_reducible refine (HW.out _).mono ?_)
  rintro e w1 ⟨⟨a, ca, rfl, hr⟩, hb1⟩
  have hv := Bx.new hr
  obtain ⟨pa, hpa⟩ : ∃ p, w1.heap.size = p := ⟨_, rfl⟩
  obtain ⟨w2, hw2⟩ : ∃ w2, w1.alloc (.cells #[.slice a (M.dig 255).length ca] 31) = w2 := ⟨_, rfl⟩
  have hbw : Below w1.heap.size w1 w2 := by rw [← hw2]; exact (Below.refl _ w1).alloc (Nat.le_refl _) _
  have hb12 := hb1.trans (hbw.mono hb1.size)
  have ha2 : w2.cell? ⟨pa, 0, none⟩ = some (.slice a (M.dig 255).length ca) := by rw [← hw2, ← hpa]; exact cell_new _ _ _
  have HRA := Lib.hid (hr.below hbw)
  have HC2 := Lib.hid (HC.out.below hb12)
  have HR2 := Lib.hid (HR.out.below hb12)
  have HB2 := Lib.hid (HB.out.trans (hb12.mono HB.out.size))
  obtain ⟨q0, q1, q2, q3⟩ := HC2.out.at
  have q1' : w2.cell? ⟨u.heap.size, 1, none⟩ = some (.int .i64 1) := q1
  have q2' : w2.cell? ⟨u.heap.size, 2, none⟩ = some (.int .i64 1) := q2
  have q3' : w2.cell? ⟨u.heap.size, 3, none⟩ = some (.int .i64 0) := q3
  clear hr hv hb1 hbw hb12 HC HR HB k0 k1' k2' k3' q1 q2 q3 HW
  go_wp2_with fail
  (with_reducible refine (HE.out _).mono ?_)
  rintro e w3 ⟨⟨b, cb, rfl, hr⟩, hb3⟩
  obtain ⟨pb, hpb⟩ : ∃ p, w3.heap.size = p := ⟨_, rfl⟩
  obtain ⟨w4, hw4⟩ : ∃ w4, w3.alloc (.cells #[.slice b (M.dig 65025).length cb] 31) = w4 := ⟨_, rfl⟩
  have hbw : Below w3.heap.size w3 w4 := by rw [← hw4]; exact (Below.refl _ w3).alloc (Nat.le_refl _) _
  have hb34 := hb3.trans (hbw.mono hb3.size)
  have hb4 : w4.cell? ⟨pb, 0, none⟩ = some (.slice b (M.dig 65025).length cb) := by rw [← hw4, ← hpb]; exact cell_new _ _ _
  have ha4 : w4.cell? ⟨pa, 0, none⟩ = some (.slice a (M.dig 255).length ca) := (hb34.cell (lt_of_cell ha2)).trans ha2
  have HMK := Lib.hid (make_pos a b ca cb 255 65025 w4 (by omega) (small_len (by decide)) (small_len (by decide)) (HRA.out.below hb34) (hr.below hbw))
  have HR4 := Lib.hid (HR2.out.below hb34)
  have HB4 := Lib.hid (HB2.out.trans (hb34.mono HB2.out.size))
  clear hr hb3 hbw hb34 HC2 HR2 HB2 q0 q1' q2' q3' HE HRA ha2
  go_wp2_with fail
  (with_reducible refine HMK.out.mono ?_)
  rintro e w5 ⟨⟨v, rfl, a5, c5, b5, d5, rfl, h5a, h5b⟩, hb5⟩
  rw [show (255 : Nat) / Nat.gcd 255 65025 = 1 by decide] at h5a ⊢
  rw [show (65025 : Nat) / Nat.gcd 255 65025 = 255 by decide] at h5b ⊢
  have hr5 := HR4.out.below hb5
  have d0 := hr5.cell 0 rfl
  have d1 := hr5.cell 1 rfl
  have f0 := hr5.free 0
  have f1 := hr5.free 1
  have hr6 := hr5.set 0 (.slice a5 (M.dig 1).length c5)
  have e1 := hr6.cell 1 rfl
  have g1 := hr6.free 1
  have hr7 := hr6.set 1 (.slice b5 (M.dig 255).length d5)
  obtain ⟨w6, hw6⟩ : ∃ w6, w5.setCell ⟨pr, 0, none⟩ (.slice a5 (M.dig 1).length c5) = w6 := ⟨_, rfl⟩
  obtain ⟨w7, hw7⟩ : ∃ w7, w6.setCell ⟨pr, 1, none⟩ (.slice b5 (M.dig 255).length d5) = w7 := ⟨_, rfl⟩
  have i0 := hr7.cell 0 rfl
  have i1 := hr7.cell 1 rfl
  have ra6 := h5a.store d0 (.slice a5 (M.dig 1).length c5)
  have rb6 := h5b.store d0 (.slice a5 (M.dig 1).length c5)
  have RA := Lib.hid (ra6.store e1 (.slice b5 (M.dig 255).length d5))
  have RB := Lib.hid (rb6.store e1 (.slice b5 (M.dig 255).length d5))
  have HB7 := Lib.hid (((HB4.out.trans (hb5.mono HB4.out.size)).setCell (p := ⟨pr, 0, none⟩) hpr0 (.slice a5 (M.dig 1).length c5)).setCell (p := ⟨pr, 1, none⟩) hpr0 (.slice b5 (M.dig 255).length d5))
  rw [hw6] at e1 g1 i0 i1 RA RB HB7
  rw [hw7] at i0 i1 RA RB HB7
  clear hr5 hr6 hr7 ra6 rb6 h5a h5b hb5 HR4 HB4 HMK
  go_wp2_with fail
  exact bodyPost_ret (v := .tuple #[.agg #[.slice a5 (M.dig 1).length c5, .slice b5 (M.dig 255).length d5], .int .i64 0]) (by simp [results, Tryd.results19, go_sem, i0, i1]) rfl ⟨⟨_, rfl, a5, c5, b5, d5, rfl, RA.out, RB.out⟩, HB7.out⟩
end C
end Go.Proofs.YtbhfhekjcnnfeaaDoor

namespace Go.Proofs.YtbhfhekjcnnfeaaDoor.IN
def el (zs : List Int) (k : Nat) : Int := zs[k]?.getD 0
end Go.Proofs.YtbhfhekjcnnfeaaDoor.IN
namespace Go.Proofs.YtbhfhekjcnnfeaaDoor.G
open Go Go.RowKit Go.Shelf

theorem mod_any (n m : Int) (hm : 1 ≤ m) (hm2 : m ≤ 1000000) (w : World) :
    Calls Tryd.prog 15 #[.int .i64 n, .int .i64 m] w fun e w' => e = .returned (.int .i64 (n % m)) ∧ w = w' := by
  have hs : n.tmod m < 0 → n.tmod m + m = n % m ∧ -1000000 < n.tmod m := by
    intro h
    rcases Int.le_total 0 n with hn | hn
    · rw [Int.tmod_eq_emod_of_nonneg hn] at h
      have := Int.emod_nonneg n (by omega : m ≠ 0)
      omega
    · have e := Int.neg_tmod (a := -n) (b := m)
      rw [Int.neg_neg, Int.tmod_eq_emod_of_nonneg (by omega : 0 ≤ -n)] at e
      have h1 := Int.emod_lt_of_pos (-n) (by omega : 0 < m)
      have h2 := Int.emod_nonneg (-n) (by omega : m ≠ 0)
      refine ⟨?_, by omega⟩
      have h3 : n % m = (n.tmod m + m) % m := by
        rw [e, Int.add_emod_right]
        have h4 : (-((-n) % m)) % m = (-(-n)) % m := by
          have := Int.emod_add_mul_ediv (-n) m
          have h5 : -((-n) % m) = -(-n) + m * ((-n) / m) := by omega
          rw [h5, Int.add_mul_emod_self_left]
        rw [h4, Int.neg_neg]
      rw [h3, Int.emod_eq_of_lt (by omega) (by omega)]
  have hp : ¬ n.tmod m < 0 → n.tmod m = n % m := by
    intro h
    rcases Int.le_total 0 n with hn | hn
    · exact Int.tmod_eq_emod_of_nonneg hn
    · have e := Int.neg_tmod (a := -n) (b := m)
      rw [Int.neg_neg, Int.tmod_eq_emod_of_nonneg (by omega : 0 ≤ -n)] at e
      have h2 := Int.emod_nonneg (-n) (by omega : m ≠ 0)
      have h0 : (-n) % m = 0 := by omega
      have h6 : m ∣ -n := Int.dvd_of_emod_eq_zero h0
      rw [e, h0, Int.emod_eq_zero_of_dvd (Int.dvd_neg.1 h6)]; rfl
  have hm0 : ¬ m < 1 := by omega
  have hz : m ≠ 0 := by omega
  by_cases h : n.tmod m < 0
  · have hb := (hs h).2
    have HR := Lib.hid (hs h).1
    clear hs hp
    go_enter Tryd.func15, Tryd.ntmps15
    go_wp2_with fail
    go_ret
    exact ⟨ret_int HR.out, rfl⟩
  · have HR := Lib.hid (hp h)
    have h' : 0 ≤ n.tmod m := by omega
    clear hs hp
    go_enter Tryd.func15, Tryd.ntmps15
    go_wp2_with fail
    go_ret
    exact ⟨ret_int HR.out, rfl⟩

/-- The slice at a, of capacity cap, holds the ints zs. -/
structure IRow (w : World) (a : Option Addr) (zs : List Int) (cap : Nat) : Prop where
  room : zs.length ≤ cap
  most : cap ≤ 9223372036854775807
  el : ∀ j, j < zs.length → ∃ b off, a = some ⟨b, off, none⟩ ∧ w.cell? ⟨b, off + j, none⟩ = some (.int .i64 (IN.el zs j))
theorem IRow.below {w w' : World} {a : Option Addr} {zs : List Int} {cap : Nat} (h : IRow w a zs cap) (hb : Below w.heap.size w w') : IRow w' a zs cap :=
  ⟨h.room, h.most, fun j hj => by
    obtain ⟨b, off, e, hc⟩ := h.el j hj
    exact ⟨b, off, e, (hb.cell (p := ⟨b, off + j, none⟩) (lt_of_cell hc)).trans hc⟩⟩
theorem IRow.drewN {w : World} {a : Option Addr} {zs : List Int} {cap : Nat} (h : IRow w a zs cap) (n : Nat) : IRow (w.drewN n) a zs cap := ⟨h.room, h.most, h.el⟩
theorem IRow.alloc {w : World} {a : Option Addr} {zs : List Int} {cap : Nat} (h : IRow w a zs cap) (o : Obj) : IRow (w.alloc o) a zs cap :=
  h.below ((Below.refl _ w).alloc (Nat.le_refl _) _)
theorem mod_nat (x : Int) (n : Nat) (hn : 0 < n) : ∃ r : Nat, x % (n : Int) = (r : Int) ∧ r < n := by
  have h1 := Int.emod_nonneg x (b := (n : Int)) (by omega)
  have h2 := Int.emod_lt_of_pos x (b := (n : Int)) (by omega)
  exact ⟨(x % (n : Int)).toNat, by omega, by omega⟩

/-- The dice in block dp: the numbers ts, k of which have been given out. -/
structure Dice (W : World) (dp : Nat) (a : Option Addr) (cap : Nat) (ts : List Int) (k : Nat) : Prop where
  list : W.cell? ⟨dp, 0, none⟩ = some (.slice a ts.length cap)
  at' : W.cell? ⟨dp, 1, none⟩ = some (.int .i64 (k : Int))
  free : W.frozen? ⟨dp, 1, none⟩ = false
  row : IRow W a ts cap
  least : k ≤ ts.length
  few : ts.length ≤ 400
  other : ∀ b off, a = some ⟨b, off, none⟩ → 0 < ts.length → b ≠ dp

theorem Dice.below {W W' : World} {dp : Nat} {a : Option Addr} {cap : Nat} {ts : List Int} {k : Nat} (h : Dice W dp a cap ts k) (hb : Below W.heap.size W W') : Dice W' dp a cap ts k :=
  ⟨(hb.cell (p := ⟨dp, 0, none⟩) (lt_of_cell h.list)).trans h.list, (hb.cell (p := ⟨dp, 1, none⟩) (lt_of_cell h.at')).trans h.at', (hb.frozen (p := ⟨dp, 1, none⟩) (lt_of_cell h.at')).trans h.free, h.row.below hb, h.least, h.few, h.other⟩
theorem Dice.lt {W : World} {dp : Nat} {a : Option Addr} {cap : Nat} {ts : List Int} {k : Nat} (h : Dice W dp a cap ts k) : dp < W.heap.size := lt_of_cell h.list
theorem Dice.alloc {W : World} {dp : Nat} {a : Option Addr} {cap : Nat} {ts : List Int} {k : Nat} (h : Dice W dp a cap ts k) (o : Obj) : Dice (W.alloc o) dp a cap ts k :=
  h.below ((Below.refl _ W).alloc (Nat.le_refl _) _)
theorem Dice.drewN {W : World} {dp : Nat} {a : Option Addr} {cap : Nat} {ts : List Int} {k : Nat} (h : Dice W dp a cap ts k) (n : Nat) : Dice (W.drewN n) dp a cap ts k :=
  ⟨h.list, h.at', h.free, h.row.drewN n, h.least, h.few, h.other⟩
/-- One number more has been given out. -/
theorem Dice.next {W : World} {dp : Nat} {a : Option Addr} {cap : Nat} {ts : List Int} {k : Nat} (h : Dice W dp a cap ts k) (hk : k < ts.length) : Dice (W.setCell ⟨dp, 1, none⟩ (.int .i64 ((k : Int) + 1))) dp a cap ts (k + 1) :=
  ⟨(World.cell?_setCell_other _ _ _ _ (by intro e; cases e)).trans h.list, World.cell?_setCell_same' _ _ _ (by rw [h.at']; rfl), (World.frozen?_setCell _ _ _ _).trans h.free,
    ⟨h.row.room, h.row.most, fun j hj => by
      obtain ⟨b, off, e, hc⟩ := h.row.el j hj
      exact ⟨b, off, e, (cell_other _ (by intro e2; exact h.other b off e (by omega) e2)).trans hc⟩⟩, by omega, h.few, h.other⟩


/-- What Next gives: a number below n; only the dice have turned. -/
def NextPost (w : World) (dp : Nat) (a : Option Addr) (cap : Nat) (ts : List Int) (n : Nat) (e : Ending) (W : World) : Prop :=
  ∃ (r k' : Nat), r < n ∧ e = .returned (.int .i64 (r : Int)) ∧ Dice W dp a cap ts k' ∧ w.grownBy W (some dp)

set_option maxRecDepth 100000 in
set_option maxHeartbeats 1000000 in
theorem next_any (w : World) (dp : Nat) (a : Option Addr) (cap : Nat) (ts : List Int) (k n : Nat) (hn : 0 < n) (hn2 : n ≤ 1000000) (hD : Dice w dp a cap ts k) :
    Calls Tryd.prog 22 #[.pointer (some ⟨dp, 0, none⟩), .int .i64 (n : Int)] w (NextPost w dp a cap ts n) := by
  have c0 := hD.list
  have c1 := hD.at'
  have f1 := hD.free
  have hfew := hD.few
  have hleast := hD.least
  have HD := Lib.hid hD
  clear hD
  by_cases hk : k < ts.length
  · obtain ⟨b, off, rfl, hc⟩ := HD.out.row.el k hk
    have hne := HD.out.other b off rfl (by omega)
    have HNX := Lib.hid (HD.out.next hk)
    have hcap := HD.out.row.room
    have hmost := HD.out.row.most
    have hmod := fun W : World => (mod_any (IN.el ts k) (n : Int) (by omega) (by omega) W).mono fun e W' h => And.intro h.1 h.2.symm
    have HMOD := Lib.hid hmod
    clear hmod
    go_enter Tryd.func22, Tryd.ntmps22
    go_wp2_with fail
    go_quiet (fail)
    go_wp2_with fail
    go_quiet ((go_at_call 15; exact Calls.quiet_of_same (HMOD.out _)))
    go_wp2_with fail
    go_ret
    obtain ⟨r, hr, hrn⟩ := mod_nat (IN.el ts k) n hn
    exact ⟨r, k + 1, hrn, congrArg (fun z => Ending.returned (.int .i64 z)) hr, (HD.out.drewN _).next hk |>.drewN _, grown_drewN (grown_setCell (grown_drewN (World.grownBy.refl w _) _) _ (.inr rfl)) _⟩
  · go_enter Tryd.func22, Tryd.ntmps22
    go_wp2_with fail
    go_quiet (fail)
    go_wp2_with fail
    go_ret
    exact ⟨0, k, hn, rfl, HD.out.drewN _, grown_drewN (World.grownBy.refl w _) _⟩

theorem light_any (a : Option Addr) (n cap : Nat) (w : World) :
    Calls Tryd.prog 5 #[.slice a n cap] w fun e W' => e = .returned (.bool (decide ((n : Int) ≤ 400))) ∧ w = W' := by
  go_enter Tryd.func5, Tryd.ntmps5
  go_wp2_with fail
  go_ret
  exact ⟨rfl, rfl⟩
theorem roll_dice {a : Option Addr} {cap : Nat} {ts : List Int} {w : World} (hr : IRow w a ts cap) (hf : ts.length ≤ 400) (t : TypeId) : Dice (w.alloc (.cells #[.slice a ts.length cap, .int .i64 0] t)) w.heap.size a cap ts 0 := by
  have hb : (w.alloc (.cells #[.slice a ts.length cap, .int .i64 0] t)).heap[w.heap.size]? = some (.cells #[.slice a ts.length cap, .int .i64 0] t) := Array.getElem?_push_size
  refine ⟨?_, ?_, ?_, hr.alloc _, Nat.zero_le _, hf, fun b off e hl => ?_⟩
  · rw [cell_of_row _ _ 0 _ _ _ hb]; rfl
  · rw [cell_of_row _ _ 1 _ _ _ hb]; rfl
  · unfold World.frozen?; rw [hb]; rfl
  · obtain ⟨b', off', e', hc⟩ := hr.el 0 hl
    rw [e] at e'; cases e'
    have h := lt_of_cell hc
    exact Nat.ne_of_lt h
theorem roll_any (a : Option Addr) (cap : Nat) (ts : List Int) (w : World) (hr : IRow w a ts cap) (hf : ts.length ≤ 400) :
    Calls Tryd.prog 7 #[.slice a ts.length cap] w fun e W' => e = .returned (.pointer (some ⟨w.heap.size, 0, none⟩)) ∧ Dice W' w.heap.size a cap ts 0 ∧ Below w.heap.size w W' := by
  go_enter Tryd.func7, Tryd.ntmps7
  go_wp2_with fail
  go_ret
  refine ⟨rfl, roll_dice hr hf _, (Below.refl _ w).alloc (Nat.le_refl _) _⟩

theorem Dice.belowAt {W W' : World} {B dp : Nat} {a : Option Addr} {cap : Nat} {ts : List Int} {k : Nat} (h : Dice W dp a cap ts k) (hb : Below B W W') (hdp : dp < B) (hf : ∀ b off, a = some ⟨b, off, none⟩ → 0 < ts.length → b < B) : Dice W' dp a cap ts k :=
  ⟨(hb.cell (p := ⟨dp, 0, none⟩) hdp).trans h.list, (hb.cell (p := ⟨dp, 1, none⟩) hdp).trans h.at', (hb.frozen (p := ⟨dp, 1, none⟩) hdp).trans h.free,
    ⟨h.row.room, h.row.most, fun j hj => by
      obtain ⟨b, off, e, hc⟩ := h.row.el j hj
      exact ⟨b, off, e, (hb.cell (p := ⟨b, off + j, none⟩) (hf b off e (by omega))).trans hc⟩⟩, h.least, h.few, h.other⟩
theorem Dice.far {W : World} {dp : Nat} {a : Option Addr} {cap : Nat} {ts : List Int} {k : Nat} (h : Dice W dp a cap ts k) : ∀ b off, a = some ⟨b, off, none⟩ → 0 < ts.length → b < W.heap.size := fun b off e h0 => by
  obtain ⟨b', off', e', hc⟩ := h.row.el 0 h0
  rw [e] at e'; cases e'
  exact lt_of_cell hc
theorem grown_then {w W W' : World} {row : Option Nat} (h : w.grownBy W row) (hb : Below w.heap.size W W') : w.grownBy W' row :=
  ⟨hb.os.trans h.os, hb.tape.trans h.tape, hb.output.trans h.output, Nat.le_trans h.size hb.size, fun k hk hne => (hb.block k hk).trans (h.block k hk hne)⟩

end Go.Proofs.YtbhfhekjcnnfeaaDoor.G

namespace Go.Proofs.YtbhfhekjcnnfeaaDoor.G
open Go Go.RowKit Go.Shelf

/-- **Dice.One** -/
theorem one_any (w : World) (dp : Nat) (a : Option Addr) (cap : Nat) (ts : List Int) (k n : Nat) (hn : 0 < n) (hn2 : n ≤ 1000) (hD : Dice w dp a cap ts k) :
    Calls Tryd.prog 23 #[.pointer (some ⟨dp, 0, none⟩), .int .i64 (n : Int)] w fun e W => ∃ (t : Bool) (k' : Nat), e = .returned (.bool t) ∧ Dice W dp a cap ts k' ∧ w.grownBy W (some dp) := by
  have HNX := Lib.hid (next_any w dp a cap ts k n hn (by omega) hD)
  clear hD
  go_enter Tryd.func23, Tryd.ntmps23
  go_wp2_with fail
  refine HNX.out.mono ?_
  rintro e w1 ⟨r, k1, hr, rfl, hd1, hg1⟩
  go_wp2
  go_ret
  exact ⟨_, k1, rfl, hd1, hg1⟩
end Go.Proofs.YtbhfhekjcnnfeaaDoor.G

namespace Go.Proofs.YtbhfhekjcnnfeaaDoor.CS
open Go Go.RowKit Go.Shelf
open C (codeV Ok)
open G (Box IRow Dice NextPost next_any one_any grown_then Dice.belowAt)

theorem box4_at {W : World} {p : Nat} {t : TypeId} {v0 v1 v2 v3 : Value} (h : Box W p t [v0, v1, v2, v3]) : W.cell? ⟨p, 0, none⟩ = some v0 ∧ W.cell? ⟨p, 1, none⟩ = some v1 ∧ W.cell? ⟨p, 2, none⟩ = some v2 ∧ W.cell? ⟨p, 3, none⟩ = some v3 :=
  ⟨h.cell 0 rfl, h.cell 1 rfl, h.cell 2 rfl, h.cell 3 rfl⟩
theorem grown_setCell4 {w W : World} {r : Option Nat} {p : Nat} {u0 u1 u2 u3 : Value} (hg : w.grownBy W r) (hr : w.heap.size ≤ p ∨ r = some p) : w.grownBy ((((W.setCell ⟨p, 0, none⟩ u0).setCell ⟨p, 1, none⟩ u1).setCell ⟨p, 2, none⟩ u2).setCell ⟨p, 3, none⟩ u3) r :=
  G.grown_setCell (G.grown_setCell (G.grown_setCell (G.grown_setCell hg (a := ⟨p, 0, none⟩) u0 hr) (a := ⟨p, 1, none⟩) u1 hr) (a := ⟨p, 2, none⟩) u2 hr) (a := ⟨p, 3, none⟩) u3 hr
/-- A struct of four is stored in a box. -/
theorem name4 {W : World} {p : Nat} {t : TypeId} {v0 v1 v2 v3 : Value} (h : Box W p t [v0, v1, v2, v3]) (u0 u1 u2 u3 : Value) : ∃ Wa Wb Wc Wd : World, W.setCell ⟨p, 0, none⟩ u0 = Wa ∧ Wa.setCell ⟨p, 1, none⟩ u1 = Wb ∧ Wb.setCell ⟨p, 2, none⟩ u2 = Wc ∧ Wc.setCell ⟨p, 3, none⟩ u3 = Wd ∧
    (W.cell? ⟨p, 0, none⟩ = some v0 ∧ W.frozen? ⟨p, 0, none⟩ = false ∧ Wa.cell? ⟨p, 1, none⟩ = some v1 ∧ Wa.frozen? ⟨p, 1, none⟩ = false ∧ Wb.cell? ⟨p, 2, none⟩ = some v2 ∧ Wb.frozen? ⟨p, 2, none⟩ = false ∧ Wc.cell? ⟨p, 3, none⟩ = some v3 ∧ Wc.frozen? ⟨p, 3, none⟩ = false) ∧
    Box Wd p t [u0, u1, u2, u3] ∧ (∀ (w : World) (r : Option Nat), w.grownBy W r → (w.heap.size ≤ p ∨ r = some p) → w.grownBy Wd r) ∧ (∀ (B : Nat) (w : World), Below B w W → B ≤ p → Below B w Wd) ∧ Below p W Wd ∧ Wd.heap.size = W.heap.size := by
  have h1 := h.set 0 u0
  have h2 := h1.set 1 u1
  have h3 := h2.set 2 u2
  have h4 := h3.set 3 u3
  refine ⟨_, _, _, _, rfl, rfl, rfl, rfl, ⟨h.cell 0 rfl, h.free 0, h1.cell 1 rfl, h1.free 1, h2.cell 2 rfl, h2.free 2, h3.cell 3 rfl, h3.free 3⟩, h4, fun w r hg hr => ?_, fun B w hb hp => ?_, ?_, by simp [World.setCell]⟩
  · exact grown_setCell4 hg hr
  · exact (((hb.setCell (p := ⟨p, 0, none⟩) hp _).setCell (p := ⟨p, 1, none⟩) hp _).setCell (p := ⟨p, 2, none⟩) hp _).setCell (p := ⟨p, 3, none⟩) hp _
  · exact ((((Below.refl p W).setCell (p := ⟨p, 0, none⟩) (Nat.le_refl p) _).setCell (p := ⟨p, 1, none⟩) (Nat.le_refl p) _).setCell (p := ⟨p, 2, none⟩) (Nat.le_refl p) _).setCell (p := ⟨p, 3, none⟩) (Nat.le_refl p) _
theorem new_code (W : World) (D C F : Nat) : ∃ (p : Nat) (W1 W2 : World), W.heap.size = p ∧ W.alloc (.cells #[.int .i64 0, .int .i64 0, .int .i64 0, .int .i64 0] 26) = W1 ∧
    (∃ Wa Wb Wc : World, W1.setCell ⟨p, 0, none⟩ (.int .i64 2) = Wa ∧ Wa.setCell ⟨p, 1, none⟩ (.int .i64 (D : Int)) = Wb ∧ Wb.setCell ⟨p, 2, none⟩ (.int .i64 (C : Int)) = Wc ∧ Wc.setCell ⟨p, 3, none⟩ (.int .i64 (F : Int)) = W2 ∧
      W1.cell? ⟨p, 0, none⟩ = some (.int .i64 0) ∧ W1.frozen? ⟨p, 0, none⟩ = false ∧ Wa.cell? ⟨p, 1, none⟩ = some (.int .i64 0) ∧ Wa.frozen? ⟨p, 1, none⟩ = false ∧ Wb.cell? ⟨p, 2, none⟩ = some (.int .i64 0) ∧ Wb.frozen? ⟨p, 2, none⟩ = false ∧ Wc.cell? ⟨p, 3, none⟩ = some (.int .i64 0) ∧ Wc.frozen? ⟨p, 3, none⟩ = false) ∧
    Box W2 p 26 [.int .i64 2, .int .i64 (D : Int), .int .i64 (C : Int), .int .i64 (F : Int)] ∧ Below W.heap.size W W2 ∧ p < W2.heap.size := by
  have hb0 := Box.new W 26 [.int .i64 0, .int .i64 0, .int .i64 0, .int .i64 0]
  have hb1 : Below W.heap.size W (W.alloc (.cells #[.int .i64 0, .int .i64 0, .int .i64 0, .int .i64 0] 26)) := (Below.refl _ W).alloc (Nat.le_refl _) _
  obtain ⟨Wa, Wb, Wc, W2, e1, e2, e3, e4, ⟨f1, f2, f3, f4, f5, f6, f7, f8⟩, hbx, _, hbe, _, _⟩ := name4 hb0 (.int .i64 2) (.int .i64 (D : Int)) (.int .i64 (C : Int)) (.int .i64 (F : Int))
  exact ⟨_, _, W2, rfl, rfl, ⟨Wa, Wb, Wc, e1, e2, e3, e4, f1, f2, f3, f4, f5, f6, f7, f8⟩, hbx, hbe _ _ hb1 (Nat.le_refl _), hbx.lt⟩

/-- What Symbols gives: a valid code. -/
def SymPost (w : World) (dp : Nat) (a : Option Addr) (cap : Nat) (ts : List Int) (e : Ending) (W : World) : Prop :=
  ∃ (D C F k' : Nat), Ok D C F ∧ e = .returned (codeV D C F) ∧ Dice W dp a cap ts k' ∧ w.grownBy W (some dp)
theorem box_grown {w W W' : World} {p dp : Nat} {t : TypeId} {vs : List Value} (h : Box W p t vs) (hg : W.grownBy W' (some dp)) (hd : dp < w.heap.size) (hp : w.heap.size ≤ p) : Box W' p t vs :=
  h.grown hg (by intro e; cases e; omega)

set_option maxRecDepth 100000 in
set_option maxHeartbeats 4000000 in
/-- **Dice.Symbols** -/
theorem symbols_any (w : World) (dp : Nat) (a : Option Addr) (cap : Nat) (ts : List Int) (k : Nat) (hD : Dice w dp a cap ts k) :
    Calls Tryd.prog 8 #[.pointer (some ⟨dp, 0, none⟩)] w (SymPost w dp a cap ts) := by
  have hdp := hD.lt
  have hfar := hD.far
  have hb0 := Box.new w 26 [.int .i64 0, .int .i64 0, .int .i64 0, .int .i64 0]
  obtain ⟨w1, hw1⟩ : ∃ w1, w.alloc (.cells #[.int .i64 0, .int .i64 0, .int .i64 0, .int .i64 0] 26) = w1 := ⟨_, rfl⟩
  have hbw1 : Below w.heap.size w w1 := by rw [← hw1]; exact (Below.refl _ w).alloc (Nat.le_refl _) _
  have hbx1 : Box w1 w.heap.size 26 [.int .i64 0, .int .i64 0, .int .i64 0, .int .i64 0] := by rw [← hw1]; exact hb0
  have hl2 := G.row_list (α := Nat) w1 [4, 8, 32] 3 (by simp)
  have hb12 : Below w1.heap.size w1 (w1.alloc (.cells #[.int .i64 4, .int .i64 8, .int .i64 32] 3)) := (Below.refl _ w1).alloc (Nat.le_refl _) _
  obtain ⟨w2, hw2⟩ : ∃ w2, w1.alloc (.cells #[.int .i64 4, .int .i64 8, .int .i64 32] 3) = w2 := ⟨_, rfl⟩
  have hl2' : G.Row w2 (some ⟨w1.heap.size, 0, none⟩) [4, 8, 32] 3 := by rw [← hw2]; exact hl2
  rw [hw2] at hb12
  have hbw2 : Below w.heap.size w w2 := hbw1.trans (hb12.mono hbw1.size)
  have HD2 := Lib.hid ((hD.below hbw1).below hb12)
  have HX2 := Lib.hid (hbx1.below hb12)
  have HL2 := Lib.hid hl2'
  have HG2 := Lib.hid (G.grown_then (World.grownBy.refl w (some dp)) hbw2)
  have hs1 := hbw1.size
  have hs1' : w1.heap.size = w.heap.size + 1 := by rw [← hw1]; simp
  have hs2 := hb12.size
  have HN2 := Lib.hid (show Calls Tryd.prog 22 #[.pointer (some ⟨dp, 0, none⟩), .int .i64 3] w2 (NextPost w2 dp a cap ts 3) from next_any w2 dp a cap ts k 3 (by omega) (by omega) HD2.out)
  have HFAR := Lib.hid hfar
  clear hD hb0 hbw1 hbx1 hl2 hb12 hl2' hbw2 hfar
  go_enter Tryd.func8, Tryd.ntmps8
  go_wp2_with fail
  refine HN2.out.mono ?_
  rintro e w3 ⟨r, k3, hr, rfl, hd3, hg3⟩
  have hl3 := HL2.out.grown hg3 (by intro b off e; cases e; intro e2; cases e2; omega)
  obtain ⟨b, off, eb, hc⟩ := hl3.elN r hr
  cases eb
  obtain ⟨v, hv⟩ : ∃ v, G.el [4, 8, 32] r = v := ⟨_, rfl⟩
  rw [hv, Nat.zero_add, hs1'] at hc
  have hv2 : 1 ≤ v ∧ v ≤ 32 := by
    rw [← hv]
    match r, hr with
    | 0, _ => decide
    | 1, _ => decide
    | 2, _ => decide
  obtain ⟨hv1, hv32⟩ := hv2
  have HX3 := Lib.hid (box_grown HX2.out hg3 hdp (Nat.le_refl _))
  have HG3 := Lib.hid (G.grown_trans HG2.out hg3)
  have hs3 := hg3.size
  have HN3 := Lib.hid (next_any w3 dp a cap ts k3 v (by omega) (by omega) hd3)
  clear hv hl3 hd3 hg3 HN2 HX2 HG2 HL2 HD2
  go_wp2_with fail
  refine HN3.out.mono ?_
  rintro e w4 ⟨r4, k4, hr4, rfl, hd4, hg4⟩
  obtain ⟨D, hDD⟩ : ∃ D, 1 + r4 = D := ⟨_, rfl⟩
  have e4 : (1 : Int) + (r4 : Int) = (D : Int) := by omega
  have HX4 := Lib.hid (box_grown HX3.out hg4 hdp (Nat.le_refl _))
  have HG4 := Lib.hid (G.grown_trans HG3.out hg4)
  have hs4 := hg4.size
  have HN4 := Lib.hid (show Calls Tryd.prog 22 #[.pointer (some ⟨dp, 0, none⟩), .int .i64 8] w4 (NextPost w4 dp a cap ts 8) from next_any w4 dp a cap ts k4 8 (by omega) (by omega) hd4)
  clear hc hd4 hg4 HN3 HX3 HG3
  go_wp2_with fail
  refine HN4.out.mono ?_
  rintro e w5 ⟨r5, k5, hr5, rfl, hd5, hg5⟩
  have hx5 := box_grown HX4.out hg5 hdp (Nat.le_refl _)
  have hg05 := G.grown_trans HG4.out hg5
  have hs5 := hg5.size
  -- the box of c
  have hb6 := Box.new w5 26 [.int .i64 0, .int .i64 0, .int .i64 0, .int .i64 0]
  have hbb6 : Below w5.heap.size w5 (w5.alloc (.cells #[.int .i64 0, .int .i64 0, .int .i64 0, .int .i64 0] 26)) := (Below.refl _ w5).alloc (Nat.le_refl _) _
  obtain ⟨w6, hw6⟩ : ∃ w6, w5.alloc (.cells #[.int .i64 0, .int .i64 0, .int .i64 0, .int .i64 0] 26) = w6 := ⟨_, rfl⟩
  rw [hw6] at hbb6
  have hbx6 : Box w6 w5.heap.size 26 [.int .i64 0, .int .i64 0, .int .i64 0, .int .i64 0] := by rw [← hw6]; exact hb6
  obtain ⟨C, hCC⟩ : ∃ C, 1 + r5 = C := ⟨_, rfl⟩
  have e5 : (1 : Int) + (r5 : Int) = (C : Int) := by omega
  obtain ⟨H, hH⟩ : ∃ H, C / 2 = H := ⟨_, rfl⟩
  have eH : (C : Int) / 2 = (H : Int) := by omega
  have hD32 : 1 ≤ D ∧ D ≤ 32 := by omega
  have hC8 : 1 ≤ C ∧ C ≤ 8 := by omega
  obtain ⟨p, hp⟩ : ∃ p, w5.heap.size = p := ⟨_, rfl⟩
  have hpw : w.heap.size + 1 ≤ p := by omega
  have hp6 : p < w6.heap.size := by rw [← hp]; exact hbx6.lt
  rw [hp] at hbx6 hbb6
  obtain ⟨Wa, Wb, Wc, W6, e1, e2, e3, e6, ⟨f1, f2, f3, f4, f5, f6, f7, f8⟩, hbx7, hgr, _, hb67, hs67⟩ := name4 hbx6 (.int .i64 2) (.int .i64 (D : Int)) (.int .i64 (C : Int)) (.int .i64 0)
  have hbb7 : Below w5.heap.size w5 W6 := by rw [hp]; exact hbb6.trans hb67
  have HX7 := Lib.hid (hx5.below hbb7)
  have HG7 := Lib.hid (grown_then hg05 (hbb7.mono (by omega)))
  have HD7 := Lib.hid (hd5.below hbb7)
  have hb8 := hbx7.set 3 (.int .i64 (H : Int))
  obtain ⟨q0, q1, q2, q3⟩ := box4_at hbx7
  have q4 := hbx7.free 3
  obtain ⟨W8, hW8⟩ : ∃ W8, W6.setCell ⟨p, 3, none⟩ (.int .i64 (H : Int)) = W8 := ⟨_, rfl⟩
  have hb78 : Below p W6 W8 := by rw [← hW8]; exact (Below.refl p W6).setCell (p := ⟨p, 3, none⟩) (Nat.le_refl p) _
  rw [hW8] at hb8
  have hp8 : p < W8.heap.size := hb8.lt
  have HB8 := Lib.hid hb8
  have hgx8 : Box W8 w.heap.size 26 [.int .i64 0, .int .i64 0, .int .i64 0, .int .i64 0] := HX7.out.belowAt hb78 (by omega)
  have HX8 := Lib.hid hgx8
  have HG8 := Lib.hid (show w.grownBy W8 (some dp) from grown_then HG7.out (hb78.mono (by omega)))
  have hd8 := HD7.out.belowAt hb78 (by omega) (fun b off e h0 => by have := HFAR.out b off e h0; omega)
  have HO8 := Lib.hid (show Calls Tryd.prog 23 #[.pointer (some ⟨dp, 0, none⟩), .int .i64 3] W8 _ from one_any W8 dp a cap ts k5 3 (by omega) (by omega) hd8)
  clear hbx6 hbb6 hbx7 hgr hb67 hbb7 hb8 hb78 hgx8 hd8 hx5 hg05 hd5 hg5 HN4 HX4 HG4 HX7 HG7 HD7 hb6
  go_wp2_with fail
  refine HO8.out.mono ?_
  rintro e w9 ⟨t, k9, rfl, hd9, hg9⟩
  have hx9 := box_grown HX8.out hg9 hdp (Nat.le_refl _)
  have hb9 := box_grown HB8.out hg9 hdp (by omega)
  have hg09 := G.grown_trans HG8.out hg9
  cases t with
  | false =>
    obtain ⟨x0, x1, x2, x3⟩ := box4_at hb9
    obtain ⟨Wa', Wb', Wc', Wd', e1', e2', e3', e6', ⟨f1', f2', f3', f4', f5', f6', f7', f8'⟩, hbx10, hgr', hbe', _, _⟩ := name4 hx9 (.int .i64 2) (.int .i64 (D : Int)) (.int .i64 (C : Int)) (.int .i64 (H : Int))
    have HG10 := Lib.hid (hgr' _ _ hg09 (.inl (Nat.le_refl _)))
    have HD10 := Lib.hid (hd9.belowAt (hbe' w.heap.size w9 (Below.refl _ _) (Nat.le_refl _)) hdp HFAR.out)
    have HY := Lib.hid (box4_at hbx10)
    clear hbx10 hgr' hbe' hg09 hd9 hx9 hb9 hg9 HO8 HX8 HB8 HG8
    go_wp2_with fail
    exact bodyPost_ret (v := .agg #[.int .i64 2, .int .i64 (D : Int), .int .i64 (C : Int), .int .i64 (H : Int)]) (by simp [results, Tryd.results8, go_sem, HY.out.1, HY.out.2.1, HY.out.2.2.1, HY.out.2.2.2]) rfl ⟨D, C, H, k9, ⟨hD32.1, hD32.2, hC8.1, hC8.2, by omega⟩, rfl, HD10.out, HG10.out⟩
  | true =>
    obtain ⟨x0, x1, x2, x3⟩ := box4_at hb9
    have HX9 := Lib.hid hx9
    have HB9 := Lib.hid hb9
    have HG9 := Lib.hid hg09
    have eH1 : (H : Int) + 1 = ((H + 1 : Nat) : Int) := rfl
    have hs9 := hg9.size
    have HN9 := Lib.hid (next_any w9 dp a cap ts k9 (H + 1) (by omega) (by omega) hd9)
    rw [← eH1] at HN9
    clear eH1 hg09 hd9 hx9 hb9 hg9 HO8 HX8 HB8 HG8
    go_wp2_with fail
    refine HN9.out.mono ?_
    rintro e w10 ⟨F, k10, hF, rfl, hd10, hg10⟩
    have hx10 := box_grown HX9.out hg10 hdp (Nat.le_refl _)
    have hb10 := box_grown HB9.out hg10 hdp (by omega)
    have hg010 := G.grown_trans HG9.out hg10
    have hp10 : p < w10.heap.size := hb10.lt
    have y3 := hb10.cell 3 rfl
    have y4 := hb10.free 3
    have hb11 := hb10.set 3 (.int .i64 (F : Int))
    obtain ⟨W11, hW11⟩ : ∃ W11, w10.setCell ⟨p, 3, none⟩ (.int .i64 (F : Int)) = W11 := ⟨_, rfl⟩
    have hb1011 : Below p w10 W11 := by rw [← hW11]; exact (Below.refl p w10).setCell (p := ⟨p, 3, none⟩) (Nat.le_refl p) _
    rw [hW11] at hb11
    have hx11 : Box W11 w.heap.size 26 [.int .i64 0, .int .i64 0, .int .i64 0, .int .i64 0] := hx10.belowAt hb1011 (by omega)
    have hg011 : w.grownBy W11 (some dp) := grown_then hg010 (hb1011.mono (by omega))
    have hd11 := hd10.belowAt hb1011 (by omega) (fun b off e h0 => by have := HFAR.out b off e h0; omega)
    obtain ⟨z0, z1, z2, z3⟩ := box4_at hb11
    obtain ⟨Wa', Wb', Wc', Wd', e1', e2', e3', e6', ⟨f1', f2', f3', f4', f5', f6', f7', f8'⟩, hbx12, hgr', hbe', _, _⟩ := name4 hx11 (.int .i64 2) (.int .i64 (D : Int)) (.int .i64 (C : Int)) (.int .i64 (F : Int))
    have HG12 := Lib.hid (hgr' _ _ hg011 (.inl (Nat.le_refl _)))
    have HD12 := Lib.hid (hd11.belowAt (hbe' w.heap.size W11 (Below.refl _ _) (Nat.le_refl _)) hdp HFAR.out)
    have HY := Lib.hid (box4_at hbx12)
    clear hbx12 hgr' hbe' hg011 hd11 hx11 hb11 hb1011 hg010 hx10 hb10 hd10 hg10 HN9 HX9 HB9 HG9
    go_wp2_with fail
    exact bodyPost_ret (v := .agg #[.int .i64 2, .int .i64 (D : Int), .int .i64 (C : Int), .int .i64 (F : Int)]) (by simp [results, Tryd.results8, go_sem, HY.out.1, HY.out.2.1, HY.out.2.2.1, HY.out.2.2.2]) rfl ⟨D, C, F, k10, ⟨hD32.1, hD32.2, hC8.1, hC8.2, by omega⟩, rfl, HD12.out, HG12.out⟩
end Go.Proofs.YtbhfhekjcnnfeaaDoor.CS

namespace Go.Proofs.YtbhfhekjcnnfeaaDoor
open Go Go.RowKit Go.Shelf

namespace C
set_option maxRecDepth 100000 in
set_option maxHeartbeats 2000000 in
/-- **awake** -/
theorem awake_yes (u : World) : Calls Tryd.prog 6 #[] u fun e W => e = .returned (.bool true) ∧ Below u.heap.size u W := by
  have HW := Lib.hid (fun W => (show Calls Tryd.prog 11 #[.agg #[.int .i64 2, .int .i64 1, .int .i64 1, .int .i64 0], .int .i64 2] W fun e W' => NumE 255 e W' ∧ Below W.heap.size W W' from by
    have h := Words_any ok11 2 (by omega) W
    rw [words112] at h
    exact h))
  have HC := Lib.hid chance_112
  have HB' := Lib.hid (fun W => (show Calls Tryd.prog 17 #[.int .i64 2] W fun e W' => (∃ a c, e = .returned (.tuple #[.agg #[.slice a 0 c], .int .i64 0]) ∧ Row W' a [] c) ∧ Below W.heap.size W W' from by
    have h := wrongBits_any 2 (by omega) W
    rw [wb2] at h
    refine h.mono ?_
    rintro e W' ⟨⟨a, c, h1, h2⟩, h3⟩
    rw [M.dig_zero] at h1 h2
    exact ⟨⟨a, c, h1, h2⟩, h3⟩))
  obtain ⟨pc, u0, u1, hpc, hu0, hst, hbx1, hB1, _⟩ := CS.new_code u 1 1 0
  obtain ⟨Wa, Wb, Wc, e1, e2, e3, e4, f1, f2, f3, f4, f5, f6, f7, f8⟩ := hst
  obtain ⟨k0, k1, k2, k3⟩ := CBox.at (show CBox u1 pc 1 1 0 from hbx1)
  have k1' : u1.cell? ⟨pc, 1, none⟩ = some (.int .i64 1) := k1
  have k2' : u1.cell? ⟨pc, 2, none⟩ = some (.int .i64 1) := k2
  have k3' : u1.cell? ⟨pc, 3, none⟩ = some (.int .i64 0) := k3
  have e2' : Wa.setCell ⟨pc, 1, none⟩ (.int .i64 1) = Wb := e2
  have e3' : Wb.setCell ⟨pc, 2, none⟩ (.int .i64 1) = Wc := e3
  have e4' : Wc.setCell ⟨pc, 3, none⟩ (.int .i64 0) = u1 := e4
  have HX := Lib.hid (show CBox u1 pc 1 1 0 from hbx1)
  have HB := Lib.hid hB1
  clear hbx1 hB1 k1 k2 k3 e2 e3 e4
  go_enter Tryd.func6, Tryd.ntmps6
  go_wp2_with fail
  (with_reducible refine (HW.out _).mono ?_)
  rintro e w1 ⟨⟨a, ca, rfl, hr⟩, hb1⟩
  obtain ⟨pa, hpa⟩ : ∃ p, w1.heap.size = p := ⟨_, rfl⟩
  obtain ⟨w2, hw2⟩ : ∃ w2, w1.alloc (.cells #[.slice a (M.dig 255).length ca] 31) = w2 := ⟨_, rfl⟩
  have hbw : Below w1.heap.size w1 w2 := by rw [← hw2]; exact (Below.refl _ w1).alloc (Nat.le_refl _) _
  have hb12 := hb1.trans (hbw.mono hb1.size)
  have ha2 : w2.cell? ⟨pa, 0, none⟩ = some (.slice a (M.dig 255).length ca) := by rw [← hw2, ← hpa]; exact cell_new _ _ _
  have HA2 := Lib.hid ha2
  have HRA := Lib.hid (hr.below hbw)
  have HX2 := Lib.hid (HX.out.below hb12)
  have HB2 := Lib.hid (HB.out.trans (hb12.mono HB.out.size))
  obtain ⟨q0, q1, q2, q3⟩ := HX2.out.at
  have q1' : w2.cell? ⟨pc, 1, none⟩ = some (.int .i64 1) := q1
  have q2' : w2.cell? ⟨pc, 2, none⟩ = some (.int .i64 1) := q2
  have q3' : w2.cell? ⟨pc, 3, none⟩ = some (.int .i64 0) := q3
  clear hr hb1 hbw hb12 ha2 HX HB k0 k1' k2' k3' q1 q2 q3 HW
  go_wp2_with fail
  (with_reducible refine (HC.out _).mono ?_)
  rintro e w3 ⟨⟨v, rfl, b, cb, d, cd, rfl, hrb, hrd⟩, hb3⟩
  have hrv := RVar.new hrb hrd
  obtain ⟨pb, hpb⟩ : ∃ p, w3.heap.size = p := ⟨_, rfl⟩
  obtain ⟨w4, hw4⟩ : ∃ w4, w3.alloc (.cells #[.slice b (M.dig 1).length cb, .slice d (M.dig 255).length cd] 50) = w4 := ⟨_, rfl⟩
  have hbw : Below w3.heap.size w3 w4 := by rw [← hw4]; exact (Below.refl _ w3).alloc (Nat.le_refl _) _
  rw [hw4, hpb] at hrv
  have hb34 := hb3.trans (hbw.mono hb3.size)
  have HRV := Lib.hid hrv
  have HA4 := Lib.hid ((hb34.cell (lt_of_cell HA2.out)).trans HA2.out)
  have HRA4 := Lib.hid (HRA.out.below hb34)
  have HB4 := Lib.hid (HB2.out.trans (hb34.mono HB2.out.size))
  clear hrb hrd hrv hb3 hbw hb34 HX2 HB2 HC q0 q1' q2' q3' HRA HA2
  go_wp2_with fail
  (with_reducible refine (HB'.out _).mono ?_)
  rintro e w5 ⟨⟨f, cf, rfl, hrf⟩, hb5⟩
  obtain ⟨pf, hpf⟩ : ∃ p, w5.heap.size = p := ⟨_, rfl⟩
  obtain ⟨w6, hw6⟩ : ∃ w6, w5.alloc (.cells #[.slice f 0 cf] 31) = w6 := ⟨_, rfl⟩
  have hbw : Below w5.heap.size w5 w6 := by rw [← hw6]; exact (Below.refl _ w5).alloc (Nat.le_refl _) _
  have hb56 := hb5.trans (hbw.mono hb5.size)
  have hf6 : w6.cell? ⟨pf, 0, none⟩ = some (.slice f 0 cf) := by rw [← hw6, ← hpf]; exact cell_new _ _ _
  have HF6 := Lib.hid hf6
  have HRF := Lib.hid (hrf.below hbw)
  have HV6 := Lib.hid (HRV.out.below hb56)
  have ha6 := (hb56.cell (lt_of_cell HA4.out)).trans HA4.out
  have HP1 := Lib.hid (print_255 (HRA4.out.below hb56))
  have HB6 := Lib.hid (HB4.out.trans (hb56.mono HB4.out.size))
  clear hrf hb5 hbw hb56 hf6 HRV HA4 HRA4 HB4 HB'
  go_wp2_with fail
  (with_reducible refine HP1.out.mono ?_)
  rintro e w7 ⟨rfl, hb7⟩
  have HV7 := Lib.hid (HV6.out.below hb7)
  have p0 := HV7.out.c0
  have p1 := HV7.out.c1
  have HP2 := Lib.hid (ratPrint_1255 HV7.out.val)
  have HF7 := Lib.hid ((hb7.cell (lt_of_cell HF6.out)).trans HF6.out)
  have HRF7 := Lib.hid (HRF.out.below hb7)
  have HB7 := Lib.hid (HB6.out.trans (hb7.mono HB6.out.size))
  clear hb7 HV6 HV7 HF6 HRF HB6 HP1 ha6
  go_wp2_with fail
  (with_reducible refine HP2.out.mono ?_)
  rintro e w8 ⟨rfl, hb8⟩
  have f8 := (hb8.cell (lt_of_cell HF7.out)).trans HF7.out
  have HP3 := Lib.hid (print_zero f cf w8 (HRF7.out.below hb8))
  have HB8 := Lib.hid (HB7.out.trans (hb8.mono HB7.out.size))
  clear hb8 HP2 HF7 HRF7 HB7 p0 p1
  go_wp2_with fail
  (with_reducible refine HP3.out.mono ?_)
  rintro e w9 ⟨rfl, hb9⟩
  have HB9 := Lib.hid (HB8.out.trans (hb9.mono HB8.out.size))
  clear hb9
  go_wp2_with fail
  go_ret
  exact ⟨rfl, HB9.out⟩
end C
end Go.Proofs.YtbhfhekjcnnfeaaDoor

namespace Go.Proofs.YtbhfhekjcnnfeaaDoor
open Go Go.ChangeShapes Go.WideShapes Go.ChangeAt Go.RowKit

theorem own : ownKnob Tryd.prog.godebug = none := by kernel_rfl

section
variable {H : Type} {enc : TypeId × Value → H} {P : Program}
/-- The row's post where all that lay before the call lies as it lay. -/
theorem post_below {f : Func} {s : ChangeSpec} {apart fresh handsOn again : Bool} {W W' : World} {args : Array Value} {v : Value} {ds gs : List (DataW H)} {before pa pv : List MemPlace}
    (hW : DataW.Whole enc P f.params.toList s.vars apart W args.toList ds gs before) (hb : Below W.heap.size W W') (hps : before = pa ++ pv)
    (hres : ∀ (b : Nat) (sp : Nat → Bool) (hd : Bool), DataW.TrodAll enc P W' b sp hd f.resultTypes.toList (v.resultList f.resultTypes.size) (s.fn H (ds ++ gs)).results [])
    (hargs : ∀ sp : Nat → Bool, (∀ p ∈ before, sp p.block = true) → DataW.TrodAll enc P W' 0 sp true f.params.toList args.toList (s.fn H (ds ++ gs)).args pa)
    (hvars : ∀ sp : Nat → Bool, (∀ p ∈ before, sp p.block = true) → DataW.TrodVars enc P W' sp s.vars (s.fn H (ds ++ gs)).vars pv)
    (hok : ∀ (j : Nat) (t : TypeId) (r : Value), f.resultTypes[j]? = some t → (v.resultList f.resultTypes.size)[j]? = some r → Value.okWide P W' .any 0 t r) :
    s.post enc P f apart fresh handsOn again W args v W' := by
  have hlt : ∀ p ∈ before, p.block < W.heap.size := fun p hp => hW.lt p hp
  have hall : ∀ p ∈ before, (fun b => decide (b < W.heap.size)) p.block = true := fun p hp => by simpa using hlt p hp
  obtain ⟨_, _, _, _, _, hz, hn⟩ := id hW
  refine ⟨ds, gs, before, [], pa, pv, hW, hres _ _ _, hargs _ hall, hvars _ hall, World.keptBut_mono (fun p hp => ⟨hp, by rw [hps, List.mem_append] at hp; exact .inr hp⟩) (hb.frame (· ∈ before)), fun _ => ⟨hok, _, _, ([] ++ pa) ++ pv, ⟨[] ++ pa, pv, trodAll_append (hargs _ (fun _ _ => rfl)) (hres _ _ _), hvars _ (fun _ _ => rfl), rfl, ?_, ?_⟩, ?_⟩⟩
  · intro b off hp
    have hin : MemPlace.cell b off ∈ before := by rw [hps]; simpa using hp
    exact (hb.frozen (hlt _ hin)).trans (hz b off hin)
  · intro ha
    have := hn ha
    rw [hps] at this
    simpa using this
  · intro p hp _
    rw [hps]
    simpa using hp
end

def layFirst : Obj → Obj
  | .cells _ t frozen => .cells (Go.Pinned.utf8FirstZ.map fun (n : Nat) => Value.int .u8 (n : Int)).toArray t frozen
  | o => o
def layRanges : Obj → Obj
  | .cells _ t frozen => .cells #[.int .u8 128, .int .u8 191, .int .u8 160, .int .u8 191, .int .u8 128, .int .u8 159, .int .u8 144, .int .u8 191, .int .u8 128, .int .u8 143, .int .u8 0, .int .u8 0, .int .u8 0, .int .u8 0, .int .u8 0, .int .u8 0, .int .u8 0, .int .u8 0, .int .u8 0, .int .u8 0, .int .u8 0, .int .u8 0, .int .u8 0, .int .u8 0, .int .u8 0, .int .u8 0, .int .u8 0, .int .u8 0, .int .u8 0, .int .u8 0, .int .u8 0, .int .u8 0] t frozen
  | o => o
/-- A world for the start: the settled one, Go's two tables in their blocks. -/
noncomputable def startWorld (os : Os) (blocks : Array Obj) : World :=
  { World.holding Tryd.prog os ⟨blocks, #[], []⟩ with heap := ((World.holding Tryd.prog os ⟨blocks, #[], []⟩).heap.modify 0 layFirst).modify 1 layRanges }
end Go.Proofs.YtbhfhekjcnnfeaaDoor

namespace Go.Proofs.YtbhfhekjcnnfeaaDoor
open Go Go.ChangeShapes Go.WideShapes Go.ChangeAt Go.RowKit

theorem cells_int : Tryd.prog.cellsOf 3 = 1 := by kernel_rfl

set_option maxRecDepth 100000 in
theorem slice_param {H : Type} {enc : TypeId × Value → H} {W : World} {base : Nat} {v : Value} {d : DataW H} {p : List MemPlace}
    (hv : Value.okWide Tryd.prog W .any base 22 v) (hd : DataW.Trod enc Tryd.prog W 0 (fun _ => true) true 22 v d p) :
    ∃ (a : Option Addr) (ts : List Int) (cap : Nat), v = .slice a ts.length cap ∧ Row W a ts cap ∧
      ∀ (W' : World) (sp : Nat → Bool), Below W.heap.size W W' → (∀ q ∈ p, sp q.block = true) → DataW.Trod enc Tryd.prog W' 0 sp true 22 v d p := by
  obtain ⟨a0, len, cap, rfl⟩ := okWide_slice Tryd.underlying22 hv
  obtain ⟨fuel, hf⟩ := hd
  rcases open_ints Tryd.underlying22 Tryd.underlying3 cells_int hf with ⟨hcs, hx⟩ | ⟨a, len', cap', zs, hcs, _, hl, hm, hz, hx, hcell, hwz⟩
  · simp [Value.cells] at hcs
    obtain ⟨rfl, rfl, rfl⟩ := hcs
    simp only [Prod.mk.injEq] at hx
    obtain ⟨rfl, rfl⟩ := hx
    exact ⟨none, [], 0, rfl, ⟨Nat.le_refl _, by omega, fun j hj => by simp at hj⟩, fun _ _ _ _ => shut_slice_nil Tryd.underlying22⟩
  · simp [Value.cells] at hcs
    obtain ⟨rfl, rfl, rfl⟩ := hcs
    simp only [Prod.mk.injEq] at hx
    obtain ⟨rfl, rfl⟩ := hx
    rw [if_pos rfl] at hz
    have e1 : (zs.take len).length = len := by rw [List.length_take]; omega
    refine ⟨some a, zs.take len, cap, by rw [e1], ⟨by omega, by unfold maxLen at hm; omega, fun j hj => ?_⟩, fun W' sp hb hsp => ?_⟩
    · obtain ⟨b, off, rfl, hc⟩ := ints_at hcell (by omega)
      refine ⟨b, off, rfl, ?_⟩
      rw [hc j (by omega), M.el_take (by omega)]
      rfl
    · refine ⟨2, shut_ints 0 Tryd.underlying22 Tryd.underlying3 cells_int (Nat.zero_le _) hl hm ?_ (fun i hi => (hb.cell (p := a.add i) (lt_of_cell (hcell i hi))).trans (hcell i hi)) hwz⟩
      by_cases h0 : 0 < zs.length
      · rw [if_pos]
        · exact hz
        · refine hsp (.cell a.block (a.off + 0)) ?_
          unfold MemPlace.row
          exact List.mem_map.2 ⟨0, List.mem_range.2 h0, rfl⟩
      · split <;> omega
end Go.Proofs.YtbhfhekjcnnfeaaDoor

namespace Go.Proofs.YtbhfhekjcnnfeaaDoor
open Go Go.RowKit Go.Shelf

namespace C
theorem each_small : ∀ C, C < 9 → ∀ v, v < 9 → 1 ≤ v → v ≤ C → eachF C v = 0 := by decide +kernel
theorem words_few {n C v : Nat} (hC : C ≤ 8) (h1 : 1 ≤ v) (h2 : v ≤ C) : wordsN n C v = 0 := by
  unfold wordsN
  rw [each_F, each_small C (by omega) v (by omega) h1 h2, Nat.mul_zero]
theorem prd_zero {x : Nat} (xs : List Nat) (h : nth xs 0 = 0) : ∀ k, prd xs (k + 1) = 0
  | 0 => by rw [prd, h, Nat.mul_zero]
  | k + 1 => by rw [prd, prd_zero (x := x) xs h k, Nat.zero_mul]
theorem near_few {n C w g o m F : Nat} (hC : C ≤ 8) (hg : g ≤ F) (h : w + F ≤ C) : nearN n C w g o m = 0 := by
  unfold nearN
  split
  · rfl
  · exact prd_zero (x := 0) (nearL n C (w + g - m) g o m) (show wordsN n C (w + g - m) = 0 from words_few hC (by omega) (by omega)) 5
theorem sm_zero {f : Nat → Nat} : ∀ k, (∀ z, z < k → f z = 0) → sm f k = 0
  | 0, _ => rfl
  | k + 1, h => by rw [sm_succ, sm_zero k (fun z hz => h z (by omega)), h k (Nat.lt_succ_self k)]
/-- Errors of few bytes never pass. -/
theorem wrong_few {n C w F : Nat} (hC : C ≤ 8) (h : w + F ≤ C) : wrongN n C w F = 0 :=
  sm_zero _ (fun g hg => sm_zero _ (fun o _ => sm_zero _ (fun m _ => near_few (F := F) hC (by omega) h)))
theorem le_sm {f : Nat → Nat} {k : Nat} (h : 0 < k) : f 0 ≤ sm f k := by
  induction k with
  | zero => omega
  | succ k ih =>
    rw [sm_succ]
    by_cases e : k = 0
    · subst e; omega
    · have := ih (by omega); omega
/-- With more corrections no fewer errors pass. -/
theorem words_le_wrong {n C w F : Nat} (h1 : 1 ≤ w) (h2 : w ≤ n) : wordsN n C w ≤ wrongN n C w F := by
  rw [← near_zero n C w h1 h2]
  exact Nat.le_trans (le_sm (f := f3 n C w 0 0) (k := F - 0 - 0 + 1) (Nat.succ_pos _)) (Nat.le_trans (le_sm (f := f2 n C w F 0) (k := F - 0 + 1) (Nat.succ_pos _)) (le_sm (f := f1 n C w F) (k := F + 1) (Nat.succ_pos _)))
theorem b4096 {x B : Nat} (h : x ≤ 16 * (16 * (16 * 2 ^ B))) : x ≤ 2 ^ (B + 12) := by
  rw [Nat.pow_add, show (2 : Nat) ^ 12 = 4096 from rfl]
  generalize (2 : Nat) ^ B = X at *
  omega
theorem wrong_len {n C w F : Nat} (hn : n ≤ 40) (hF : F ≤ 4) : (M.dig (wrongN n C w F)).length ≤ 200 :=
  bits_len (b4096 (s1_le (C := C) (w := w) hn hF (Nat.le_refl (F + 1)))) (by have := EB_eq; omega)
end C
end Go.Proofs.YtbhfhekjcnnfeaaDoor
