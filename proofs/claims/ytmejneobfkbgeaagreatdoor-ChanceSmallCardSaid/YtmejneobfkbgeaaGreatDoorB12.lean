/- chance's numbers, in a form that is reckoned fast. nat.Gcd. append of any slice of ints, with no word on a nil one's room. The reference's Gcd. The reference's Make of two numbers. ratio.Make of two numbers. The reference's Same at any two lists of limbs. ref02.Same. ratio.Valid of a fraction in lowest terms. ratio.product and ratio.Mul of valid fractions whose products are short. ratio.crosswise of valid fractions whose products are short. ratio.Add of valid fractions whose products and sum are short. ratio.Add and ratio.Sub of valid fractions whose products are short. ratio.Cmp and ratio.Floor of valid fractions whose products are short. ref02.Of and ratio.Of of numbers. ratio.Print of eleven sixths. What nat.Print writes is read by nat.Parse. ratio.Print of 1 / 255. chance.Chance, for the code of law08.awake; awake. The dice of the statements: made.Mod, Light, Roll, Dice.Next, One. Dice.One. Dice.Symbols, for the laws of chance; a code that is stored in a variable. law08.awake. The field of 256 elements: products, powers of 2, logarithms. Polynomials over the field of 256 elements: coefficients as functions, lists of them, values. Polynomials: products by a monomial, division, divisors, roots. Codes of symbols, plain mathematics: sums over places, Vandermonde's argument, the locator of the wrong places. Equations over the field: elimination with pivots, the one solution. Plain mathematics. Decoding beside erased places, plain mathematics: the elements of the places, what Encode and Decode look for, the wrong places found by their locator. ChanceSmall: which words of one data byte and two check bytes, the last one 0, are near a code word: plain mathematics. A range over slices.Backward: what a loop body must keep, and what then holds behind the loop. Slices of bytes in memory: what is read, what a call has made itself. -/
import Derived.Test.YtmejneobfkbgeaaGreatDoorB11
import Derived.Deep.RegionHeld3
import Derived.Deep.RegionLaw
import Derived.RangeFuncNested
import Derived.RangeFuncBound
import Derived.RangeFuncCalls
import Derived.RangeFuncLeaves
import Derived.Shelf.Abstract
import Derived.Shelf.RegionOpen
import Derived.WalkKit
import Derived.OwnWalkIn
import Derived.TacticsInMore
import Derived.LoopNIn
import Derived.LoopIn
import Derived.Test.YtmejneobfkbgeaaGreatDoorProg
import Derived.Laws.OwnMore
import Derived.Laws.CopyOwn
import Derived.Lib.Hide
import Derived.Outline
import Derived.BigQuiet
import Derived.Deep.QuietTactic
import Derived.Laws.ResultCell
import Derived.WalkSpells
namespace Go.Proofs.YtmejneobfkbgeaaGreatDoor
open Go Go.RowKit Go.Shelf

namespace C
open G (el)
/-- The number of sets of k out of n things, factor by factor. -/
def chF (n : Nat) : Nat → Nat
  | 0 => 1
  | k + 1 => chF n k * (n - k) / (k + 1)
theorem chF_eq (n : Nat) : ∀ k, chF n k = M.ch n k
  | 0 => (M.ch_zero n).symm
  | k + 1 => by
    rw [chF, chF_eq n k]
    by_cases h : k < n
    · rw [Nat.mul_comm, M.ch_next n k h, Nat.mul_div_cancel_left _ (Nat.succ_pos k)]
    · rw [show n - k = 0 by omega, Nat.mul_zero, Nat.zero_div]
      exact (M.ch_gt n (k + 1) (by omega)).symm
theorem chI_F (n k : Nat) : chI n (k : Int) = chF n k := by unfold chI; rw [if_neg (by omega), Int.toNat_natCast, chF_eq]
def setTF (odd even c : Nat) : Nat := el CL c * chF c odd * chF (72 - c) even
def setsF (odd even : Nat) : Nat := sm (setTF odd even) 73
def btF (w k : Nat) : Nat := setsF k (w - k)
def altF (w : Nat) : Nat := ev (btF w) (w + 1) - od (btF w) (w + 1)
theorem bt_F (w : Nat) : bt w = btF w := by
  funext k
  show sm (setT k (w - k)) 73 = sm (setTF k (w - k)) 73
  rw [show setT k (w - k) = setTF k (w - k) from by funext c; unfold setT setTF; rw [chI_F, chI_F]]
theorem altB_F (w : Nat) : altB w = altF w := by unfold altB altF; rw [bt_F]
def bwF (w : Nat) : Nat := if w = 0 then 0 else altF w / 256
theorem bwN_F (w : Nat) : bwN (w : Int) = bwF w := by
  unfold bwN bwF
  by_cases h : w = 0
  · subst h; rfl
  · rw [if_neg (by omega), if_neg h, Int.toNat_natCast, altB_F]
def termF (C w z : Nat) : Nat := chF w z * 256 ^ (w - z - C)
theorem term_F (C w : Nat) : term C w = termF C w := by funext z; unfold term termF; rw [chI_F]
def eachF (C w : Nat) : Nat := ev (termF C w) (w + 1) - od (termF C w) (w + 1)
theorem each_F (C w : Nat) : each C w = eachF C w := by unfold each eachF; rw [term_F]
def wordsF (n C w : Nat) : Nat := chF n w * eachF C w
theorem words_F (n C w : Nat) : wordsN n C w = wordsF n C w := by unfold wordsN wordsF; rw [chI_F, each_F]
def errF (n w : Nat) : Nat := chF n w * 255 ^ w
theorem err_F (n w : Nat) : errN n w = errF n w := by unfold errN errF; rw [chI_F]
theorem bw1 : bwF 1 = 0 := by decide +kernel
theorem bw2 : bwF 2 = 0 := by decide +kernel
theorem bw3 : bwF 3 = 0 := by decide +kernel
theorem wb2 : wbN 2 = 0 := by
  unfold wbN
  rw [show ((2 : Nat) : Int) + 1 = ((3 : Nat) : Int) from rfl, show ((2 : Nat) : Int) - 1 = ((1 : Nat) : Int) from rfl, bwN_F, bwN_F, bwN_F, bw1, bw2, bw3]
theorem words112 : wordsN 2 1 2 = 255 := by rw [words_F]; decide +kernel
theorem near_zero (n C w : Nat) (h1 : 1 ≤ w) (h2 : w ≤ n) : nearN n C w 0 0 0 = wordsN n C w := by
  unfold nearN
  rw [if_neg (by omega), show w + 0 - 0 = w by omega]
  have c0 : ∀ m : Nat, chI m ((0 : Nat) : Int) = 1 := fun m => by unfold chI; rw [if_neg (by omega)]; exact M.ch_zero m
  have e : nearL n C w 0 0 0 = [wordsN n C w, 1, 1, 1, 1, 1] := by
    unfold nearL
    rw [c0, c0, if_neg (by omega), c0]
  rw [e]
  simp [prd, nth]
theorem wrong0 (n C w : Nat) (h1 : 1 ≤ w) (h2 : w ≤ n) : wrongN n C w 0 = wordsN n C w := by
  show 0 + (0 + (0 + nearN n C w 0 0 0)) = _
  rw [near_zero n C w h1 h2]
  omega
end C
end Go.Proofs.YtmejneobfkbgeaaGreatDoor

namespace Go.Proofs.YtmejneobfkbgeaaGreatDoor
open Go Go.RowKit Go.Shelf

/-- The int in cell j of a slice. -/
def cellInt (W : World) (a : Option Addr) (j : Nat) : Int :=
  match a with
  | some p => match W.cell? ⟨p.block, p.off + j, none⟩ with | some (.int _ z) => z | _ => 0
  | none => 0
/-- The number that a slice holds. -/
def numAt (W : World) : Value → Nat
  | .slice a n _ => (M.val ((List.range n).map (cellInt W a))).toNat
  | _ => 0
theorem numAt_row {W : World} {a : Option Addr} {c v : Nat} (h : Row W a (M.dig v) c) : numAt W (.slice a (M.dig v).length c) = v := by
  have e : (List.range (M.dig v).length).map (cellInt W a) = M.dig v := by
    refine M.ext_el (by simp) fun j hj => ?_
    have hj' : j < (M.dig v).length := by simpa using hj
    obtain ⟨b, off, rfl, hc⟩ := h.el j hj'
    rw [M.el_lt hj, List.getElem_map, List.getElem_range]
    simp [cellInt, hc]
  unfold numAt
  simp only
  rw [e, M.val_dig, Int.toNat_natCast]

def GcdRel (w : World) (x y : Nat) (s t : Value) (W : World) : Prop :=
  ∃ (u v : Nat) (a b : Option Addr) (ca cb : Nat), s = .slice a (M.dig u).length ca ∧ t = .slice b (M.dig v).length cb ∧ Row W a (M.dig u) ca ∧ Row W b (M.dig v) cb ∧ Fresh (w.heap.size + 3) a (M.dig u) ∧ Fresh (w.heap.size + 3) b (M.dig v) ∧
    (M.dig u).length ≤ 200 ∧ (M.dig v).length ≤ 200 ∧ Nat.gcd u v = Nat.gcd x y ∧ W.cell? ⟨w.heap.size + 1 + 1, 0, none⟩ = some (.slice none 0 0) ∧ W.frozen? ⟨w.heap.size + 1 + 1, 0, none⟩ = false ∧ w.heap.size + 3 ≤ W.heap.size ∧ Below w.heap.size w W

set_option maxRecDepth 100000 in
set_option maxHeartbeats 1000000 in
theorem gcd_any (a b : Option Addr) (ca cb x y : Nat) (w : World) (hx200 : (M.dig x).length ≤ 200) (hy200 : (M.dig y).length ≤ 200) (hA : Row w a (M.dig x) ca) (hB : Row w b (M.dig y) cb) :
    Calls Tryz.prog 89 #[.agg #[.slice a (M.dig x).length ca], .agg #[.slice b (M.dig y).length cb]] w fun e W' => (∃ v, e = .returned (.tuple #[v, .int .i64 0]) ∧ Num W' v (Nat.gcd x y)) ∧ Below w.heap.size w W' := by
  have Hvx := Lib.hid (vld_dig hx200)
  have Hvy := Lib.hid (vld_dig hy200)
  have hb3 := boxes_below w (.slice a (M.dig x).length ca) (.slice b (M.dig y).length cb)
  have hs3 := boxes_size w (.slice a (M.dig x).length ca) (.slice b (M.dig y).length cb)
  obtain ⟨c0, c1, c2, f2⟩ := boxes_cells w (.slice a (M.dig x).length ca) (.slice b (M.dig y).length cb)
  have HA := Lib.hid hA
  have HB := Lib.hid hB
  have HB3 := Lib.hid hb3
  clear hA hB hb3
  go_enter Tryz.func89, Tryz.ntmps89
  go_wp2_with fail
  generalize hw3 : (((w.alloc (.cells #[.slice a (M.dig x).length ca] 41)).alloc (.cells #[.slice b (M.dig y).length cb] 41)).alloc (.cells #[.slice none 0 0] 41)) = w3
  obtain rfl : boxes w (.slice a (M.dig x).length ca) (.slice b (M.dig y).length cb) = w3 := hw3
  generalize boxes w (.slice a (M.dig x).length ca) (.slice b (M.dig y).length cb) = w3 at *
  refine (valid_yes a _ ca _ (HA.out.below HB3.out) Hvx.out).mono ?_
  rintro e w5 ⟨rfl, hb5⟩
  have d0 := cell_below hb5 c0
  have d1 := cell_below hb5 c1
  have d2 := cell_below hb5 c2
  have g2 := frozen_below hb5 c2 f2
  have HB5 := Lib.hid (HB3.out.trans (hb5.mono HB3.out.size))
  have hs5 := hb5.size
  clear c0 c1 c2 f2 hb5
  go_wp2_with fail
  refine (valid_yes b _ cb _ (HB.out.below HB5.out) Hvy.out).mono ?_
  rintro e w6 ⟨rfl, hb6⟩
  have c0 := cell_below hb6 d0
  have c1 := cell_below hb6 d1
  have c2 := cell_below hb6 d2
  have f2 := frozen_below hb6 d2 g2
  have HB6 := Lib.hid (HB5.out.trans (hb6.mono HB5.out.size))
  have hs6 := hb6.size
  clear d0 d1 d2 g2 hb6
  have HCA := Lib.hid (fun (W : World) (hb : Below w6.heap.size w6 W) => clone_row a (M.dig x) ca W ((HA.out.below HB6.out).below hb) (by omega))
  have HCB := Lib.hid (fun (W : World) (hb : Below w6.heap.size w6 W) => clone_row b (M.dig y) cb W ((HB.out.below HB6.out).below hb) (by omega))
  have hw6 : w.heap.size + 3 ≤ w6.heap.size := by omega
  go_wp2_with fail
  have hbd : Below w6.heap.size w6 w6.drew := belowN (Below.refl _ _) 1
  have hsd : w6.drew.heap.size = w6.heap.size := rfl
  go_region_held3 (fun w' => w'.cell? ⟨w.heap.size, 0, none⟩ = some (.slice a (M.dig x).length ca) ∧ w'.cell? ⟨w.heap.size + 1, 0, none⟩ = some (.slice b (M.dig y).length cb))
    (first | exact ⟨c0, c1⟩ | exact ⟨cell_below hb1 c0, cell_below hb1 c1⟩ | exact ⟨cell_below (hb1.trans (hb2.mono hb1.size)) c0, cell_below (hb1.trans (hb2.mono hb1.size)) c1⟩)
    (first
      | (go_at_call 47; (with_reducible refine (HCA.out _ hbd).mono ?_); rintro e wa ⟨a1, p1, rfl, ho1, hb1⟩)
      | (go_at_call 47; (with_reducible refine (HCB.out _ (hbd.trans (hb1.mono (Nat.le_refl _)))).mono ?_); rintro e wb ⟨b1, q1, rfl, ho2, hb2⟩))
  have hs1 := hb1.size
  have hs2 := hb2.size
  have hab := hbd.trans (hb1.mono (Nat.le_refl _))
  have hab2 := hab.trans (hb2.mono hab.size)
  have hr0 : GcdRel w x y (.slice a1 (M.dig x).length p1) (.slice b1 (M.dig y).length q1) wb :=
    ⟨x, y, a1, b1, p1, q1, rfl, rfl, ho1.rowAt.below hb2, ho2.rowAt, (ho1.mono (by omega)).fresh, (ho2.mono (by omega)).fresh, hx200, hy200, rfl, cell_below hab2 c2, frozen_below hab2 c2 f2, by omega, HB6.out.trans (hab2.mono (by omega))⟩
  have HR0 := Lib.hid hr0
  clear hr0 hab hab2 hs1 hs2 hsd hbd hb1 hb2 ho1 ho2 HCA HCB c0 c1 c2 f2 HB6 HB5 HB3 HA HB Hvx Hvy hs3 hs5 hs6 hw6
  try clear hHeld
  go_wp2_with fail
  go_loopw [6, 7] (fun s t wr => GcdRel w x y s t wr) (fun _ t wr => numAt wr t)
  case atStart => exact HR0.out
  case round =>
    clear HR0
    obtain ⟨u, v, a, b, ca, cb, rfl, rfl, hra, hrb, hfa, hfb, hu200, hv200, hg, c2, f2, hsz, hbw⟩ := hrel
    have HRA := Lib.hid hra
    have HRB := Lib.hid hrb
    have HFA := Lib.hid hfa
    have HFB := Lib.hid hfb
    have HG := Lib.hid hg
    have HBW := Lib.hid hbw
    clear hra hrb hfa hfb hg hbw
    by_cases hv0 : v = 0
    · subst hv0
      have hg0 := HG.out
      rw [Nat.gcd_zero_right] at hg0
      have HG0 := Lib.hid hg0
      clear hg0
      have hlt : w.heap.size + 1 + 1 < wr.heap.size := by omega
      rw [M.dig_zero]
      go_wp2_with fail
      refine bodyPost_ret (v := .tuple #[.agg #[.slice a (M.dig u).length ca], .int .i64 0]) (by simp [results, Tryz.results89, go_sem, c2]) rfl ⟨⟨_, rfl, a, ca, by rw [HG0.out], ?_⟩, ?_⟩
      · rw [← HG0.out]
        exact HRA.out.setFresh HFA.out (p := ⟨w.heap.size + 1 + 1, 0, none⟩) (by show w.heap.size + 1 + 1 < w.heap.size + 3; omega) _
      · exact HBW.out.setCell (p := ⟨w.heap.size + 1 + 1, 0, none⟩) (by simp; omega) _
    · have hvp : 0 < v := by omega
      have hvl : 0 < (M.dig v).length := by
        rcases Nat.eq_zero_or_pos (M.dig v).length with h | h
        · exact absurd (M.dig_nil.1 (List.length_eq_zero_iff.1 h)) hv0
        · exact h
      go_wp2_with fail
      refine (divideLimbs_any a b ca cb u v wr hvp hu200 hv200 HRA.out HRB.out).mono ?_
      rintro e w2 ⟨a1, c1, a2, p2, rfl, _, hr2, _, hf2, hb2⟩
      have HR2 := Lib.hid hr2
      have HF2 := Lib.hid hf2
      have HB2 := Lib.hid hb2
      clear hr2 hf2 hb2
      go_wp2_with fail
      go_roundw
      case rel =>
        exact ⟨v, u % v, b, a2, cb, p2, rfl, rfl, HRB.out.below HB2.out, HR2.out, HFB.out, fun b off e hl => Nat.le_trans hsz (HF2.out b off e hl), hv200, Nat.le_trans (dig_len_mod u v) hu200, by rw [← HG.out, Nat.gcd_comm v, ← Nat.gcd_rec, Nat.gcd_comm],
          cell_below HB2.out c2, frozen_below HB2.out c2 f2, Nat.le_trans hsz HB2.out.size, HBW.out.trans (HB2.out.mono HBW.out.size)⟩
      case measure =>
        rw [numAt_row HR2.out, numAt_row HRB.out]
        exact Nat.mod_lt u hvp
end Go.Proofs.YtmejneobfkbgeaaGreatDoor

namespace Go.Proofs.YtmejneobfkbgeaaGreatDoor
open Go Go.RowKit Go.Shelf

theorem run_append_nil {P : Program} {w : World} (base : Nat) (t ty e : TypeId) (i : TypeInfo) (size : Nat) (ht : P.underlying t = some (.slice e)) (hi : P.info? e = some i)
    (v : Value) (n : Nat) (xs : List Value) (c : Nat) (hown : w.ownsRow base e size v n xs) :
    (Builtin.append_ #[t, t] ty #[v, .slice none 0 c]).run P w = .ok v w := by
  rcases hown.2 with ⟨rfl, rfl⟩ | ⟨g, cap, cur, rfl, _, _, hnc, _⟩
  · simp [Builtin.append_, run_underlying ht, sizeOf, typeInfo, hi, Builtin.lenOf, Builtin.firstCells]
  · simp [Builtin.append_, run_underlying ht, sizeOf, typeInfo, hi, Builtin.lenOf, Builtin.firstCells, hnc, storeCells]

theorem wp_appAny {W : World} {o : Oper} {a : Act} {K : Act → World → Prop} {Q : Exit → Act → World → Prop} (s x : Operand) (ho : o.op = .call { callee := .builtin .append, args := #[s, x], argTypes := #[24, 24] })
    {B : Nat} {v : Value} {zs ys : List Int} (hs : a.eval s = v) (hown : Own W B v zs) {ad : Option Addr} {cap : Nat} (hx : a.eval x = .slice ad ys.length cap) (hr : Row W ad ys cap)
    (hl : zs.length + ys.length < 1000000) (hbase : B ≤ W.heap.size)
    (h : ∀ a' cap' W', Own W' B (.slice a' (zs ++ ys).length cap') (zs ++ ys) → Below B W W' → K (a.put o.dst (.slice a' (zs.length + ys.length) cap')) W') : Oper.wp Tryz.prog o a W K Q := by
  cases ad with
  | none =>
    obtain ⟨i0, hi, hz0, hz1, hz2⟩ := info_parts info_int
    have hy : ys = [] := by
      cases ys with
      | nil => rfl
      | cons y ys =>
        obtain ⟨b, off, e, _⟩ := hr.el 0 (by simp)
        cases e
    subst hy
    have hrun := run_append_nil (P := Tryz.prog) B 24 o.type 3 i0 1 Tryz.underlying24 hi v zs.length (zs.map (Value.int .i64)) cap hown
    obtain ⟨a', cap', rfl, _⟩ := hown.row
    unfold Oper.wp execOp
    simp only [ho, resolve, invoke, builtin, Sem.run_bind, Sem.run_pure, Result.andThen_ok, List.map_toArray, List.map_cons, List.map_nil, hs, hx, List.length_nil, hrun]
    have := h a' cap' W (by simpa using hown) (Below.refl _ _)
    exact (show K (a.put o.dst (.slice a' zs.length cap')) W by simpa using this)
  | some p => exact wp_appRow s x ho hs hown hx hr (fun e => nomatch e) hl hbase h

theorem wpList_appAny {W : World} {ops : Array Oper} {rest : List Oper} {o : Oper} {a : Act} {Q : Exit → Act → World → Prop} (hgd : o.guard = none) (s x : Operand)
    (ho : o.op = .call { callee := .builtin .append, args := #[s, x], argTypes := #[24, 24] }) {B : Nat} {v : Value} {zs ys : List Int} (hs : a.eval s = v) (hown : Own W B v zs)
    {ad : Option Addr} {cap : Nat} (hx : a.eval x = .slice ad ys.length cap) (hr : Row W ad ys cap) (hl : zs.length + ys.length < 1000000) (hbase : B ≤ W.heap.size)
    (h : ∀ a' cap' W', Own W' B (.slice a' (zs ++ ys).length cap') (zs ++ ys) → Below B W W' → wpList Tryz.prog ops Q rest (a.put o.dst (.slice a' (zs.length + ys.length) cap')) W') : wpList Tryz.prog ops Q (o :: rest) a W :=
  wpList_plain hgd fun _ hK => wp_appAny s x ho hs hown hx hr hl hbase fun a' c' W' h1 h2 => hK _ _ (h a' c' W' h1 h2)
end Go.Proofs.YtmejneobfkbgeaaGreatDoor

namespace Go.Proofs.YtmejneobfkbgeaaGreatDoor
open Go Go.RowKit Go.Shelf

/-- The number in a variable. -/
def cellNum (W : World) (p : Addr) : Nat := match W.cell? p with | some v => numAt W v | none => 0
theorem cellNum_row {W : World} {p : Addr} {a : Option Addr} {c v : Nat} (hc : W.cell? p = some (.slice a (M.dig v).length c)) (h : Row W a (M.dig v) c) : cellNum W p = v := by
  unfold cellNum; rw [hc]; exact numAt_row h

structure RgSt (w : World) (x y u v : Nat) (a b : Option Addr) (ca cb : Nat) (W : World) : Prop where
  ca0 : W.cell? ⟨w.heap.size, 0, none⟩ = some (.slice a (M.dig u).length ca)
  fa0 : W.frozen? ⟨w.heap.size, 0, none⟩ = false
  cb0 : W.cell? ⟨w.heap.size + 1, 0, none⟩ = some (.slice b (M.dig v).length cb)
  fb0 : W.frozen? ⟨w.heap.size + 1, 0, none⟩ = false
  cr0 : W.cell? ⟨w.heap.size + 1 + 1, 0, none⟩ = some (.slice none 0 0)
  fr0 : W.frozen? ⟨w.heap.size + 1 + 1, 0, none⟩ = false
  ra : Row W a (M.dig u) ca
  rb : Row W b (M.dig v) cb
  la : (M.dig u).length ≤ 200
  lb : (M.dig v).length ≤ 200
  same : Nat.gcd u v = Nat.gcd x y
  below : Below w.heap.size w W

theorem RgSt.keep {w : World} {x y u v : Nat} {a b : Option Addr} {ca cb : Nat} {W W' : World} (h : RgSt w x y u v a b ca cb W) (hb : Below W.heap.size W W') : RgSt w x y u v a b ca cb W' :=
  ⟨cell_below hb h.ca0, frozen_below hb h.ca0 h.fa0, cell_below hb h.cb0, frozen_below hb h.cb0 h.fb0, cell_below hb h.cr0, frozen_below hb h.cr0 h.fr0, h.ra.below hb, h.rb.below hb, h.la, h.lb, h.same, h.below.trans (hb.mono h.below.size)⟩

/-- a, b = b, r -/
theorem RgSt.turn {w : World} {x y u v : Nat} {a b r : Option Addr} {ca cb cr : Nat} {W : World} (h : RgSt w x y u v a b ca cb W) (hr : Row W r (M.dig (u % v)) cr) :
    RgSt w x y v (u % v) b r cb cr ((W.setCell ⟨w.heap.size, 0, none⟩ (.slice b (M.dig v).length cb)).setCell ⟨w.heap.size + 1, 0, none⟩ (.slice r (M.dig (u % v)).length cr)) := by
  have h1 := (cell_other (W := W) (p := ⟨w.heap.size, 0, none⟩) (a := ⟨w.heap.size + 1, 0, none⟩) (.slice b (M.dig v).length cb) (show w.heap.size + 1 ≠ w.heap.size by omega)).trans h.cb0
  have h2 := (cell_other (W := W) (p := ⟨w.heap.size, 0, none⟩) (a := ⟨w.heap.size + 1 + 1, 0, none⟩) (.slice b (M.dig v).length cb) (show w.heap.size + 1 + 1 ≠ w.heap.size by omega)).trans h.cr0
  have h3 := World.cell?_setCell_same W ⟨w.heap.size, 0, none⟩ (.slice b (M.dig v).length cb) h.ca0
  refine ⟨(cell_other _ (show w.heap.size ≠ w.heap.size + 1 by omega)).trans h3, ?_, World.cell?_setCell_same _ _ _ h1, ?_, (cell_other _ (show w.heap.size + 1 + 1 ≠ w.heap.size + 1 by omega)).trans h2, ?_, (h.rb.storedAt h.ca0 _).storedAt h1 _, (hr.storedAt h.ca0 _).storedAt h1 _, h.lb, Nat.le_trans (dig_len_mod u v) h.la, ?_,
    (h.below.setCell (p := ⟨w.heap.size, 0, none⟩) (Nat.le_refl _) _).setCell (p := ⟨w.heap.size + 1, 0, none⟩) (by show _ ≤ w.heap.size + 1; omega) _⟩
  · rw [World.frozen?_setCell, World.frozen?_setCell]; exact h.fa0
  · rw [World.frozen?_setCell, World.frozen?_setCell]; exact h.fb0
  · rw [World.frozen?_setCell, World.frozen?_setCell]; exact h.fr0
  · rw [← h.same, Nat.gcd_comm v, ← Nat.gcd_rec, Nat.gcd_comm]

def RgRel (w : World) (x y : Nat) (W : World) : Prop := ∃ (u v : Nat) (a b : Option Addr) (ca cb : Nat), RgSt w x y u v a b ca cb W

set_option maxRecDepth 100000 in
set_option maxHeartbeats 1000000 in
/-- **ref01.Gcd** -/
theorem rgcd_any (a b : Option Addr) (ca cb x y : Nat) (w : World) (hx200 : (M.dig x).length ≤ 200) (hy200 : (M.dig y).length ≤ 200) (hA : Row w a (M.dig x) ca) (hB : Row w b (M.dig y) cb) :
    Calls Tryz.prog 116 #[.agg #[.slice a (M.dig x).length ca], .agg #[.slice b (M.dig y).length cb]] w fun e W' => (∃ v, e = .returned (.tuple #[v, .int .i64 0]) ∧ Num W' v (Nat.gcd x y)) ∧ Below w.heap.size w W' := by
  have Hvx := Lib.hid (vld_dig hx200)
  have Hvy := Lib.hid (vld_dig hy200)
  have hb3 := boxes_below w (.slice a (M.dig x).length ca) (.slice b (M.dig y).length cb)
  have hs3 := boxes_size w (.slice a (M.dig x).length ca) (.slice b (M.dig y).length cb)
  obtain ⟨c0, c1, c2, f2⟩ := boxes_cells w (.slice a (M.dig x).length ca) (.slice b (M.dig y).length cb)
  have f1 : (boxes w (.slice a (M.dig x).length ca) (.slice b (M.dig y).length cb)).frozen? ⟨w.heap.size + 1, 0, none⟩ = false := by
    have h := cell_new (w.alloc (.cells #[.slice a (M.dig x).length ca] 41)) (.slice b (M.dig y).length cb) 41
    have h2 := frozen_new (w.alloc (.cells #[.slice a (M.dig x).length ca] 41)) (.slice b (M.dig y).length cb) 41
    rw [World.size_alloc] at h h2
    exact frozen_later _ h h2
  have f0 : (boxes w (.slice a (M.dig x).length ca) (.slice b (M.dig y).length cb)).frozen? ⟨w.heap.size, 0, none⟩ = false :=
    frozen_later _ (cell_later _ (cell_new _ _ _)) (frozen_later _ (cell_new _ _ _) (frozen_new _ _ _))
  have hst : RgSt w x y x y a b ca cb (boxes w (.slice a (M.dig x).length ca) (.slice b (M.dig y).length cb)) := ⟨c0, f0, c1, f1, c2, f2, hA.below hb3, hB.below hb3, hx200, hy200, rfl, hb3⟩
  have HST := Lib.hid hst
  clear hA hB hb3 hst c2 f2 f0 f1
  go_enter Tryz.func116, Tryz.ntmps116
  go_wp2_with fail
  generalize hw3 : (((w.alloc (.cells #[.slice a (M.dig x).length ca] 41)).alloc (.cells #[.slice b (M.dig y).length cb] 41)).alloc (.cells #[.slice none 0 0] 41)) = w3
  obtain rfl : boxes w (.slice a (M.dig x).length ca) (.slice b (M.dig y).length cb) = w3 := hw3
  generalize boxes w (.slice a (M.dig x).length ca) (.slice b (M.dig y).length cb) = w3 at *
  refine (rvalid_yes a _ ca _ HST.out.ra Hvx.out).mono ?_
  rintro e w5 ⟨rfl, hb5⟩
  have HS5 := Lib.hid (HST.out.keep hb5)
  have d0 := HS5.out.ca0
  have d1 := HS5.out.cb0
  clear hb5 c0 c1 HST hs3
  go_wp2_with fail
  refine (rvalid_yes b _ cb _ HS5.out.rb Hvy.out).mono ?_
  rintro e w6 ⟨rfl, hb6⟩
  have HS6 := Lib.hid (HS5.out.keep hb6)
  clear hb6 d0 d1 HS5
  go_wp2_with fail
  go_loopw [6] (fun _ wr => RgRel w x y wr) (fun _ wr => cellNum wr ⟨w.heap.size + 1, 0, none⟩)
  case atStart => exact ⟨x, y, a, b, ca, cb, HS6.out⟩
  case round =>
    clear HS6
    obtain ⟨u, v, a, b, ca, cb, hst⟩ := hrel
    have HST := Lib.hid hst
    have c0 := hst.ca0
    have c1 := hst.cb0
    clear hst
    by_cases hv0 : v = 0
    · subst hv0
      have hg0 := HST.out.same
      rw [Nat.gcd_zero_right] at hg0
      have HG0 := Lib.hid hg0
      have hul := HST.out.la
      clear hg0
      rw [M.dig_zero] at c1
      have c2 := HST.out.cr0
      have f2 := HST.out.fr0
      go_wp2_with (at_builtin; refine wpList_appAny rfl _ _ rfl rfl (Own.nil _ wr.heap.size) rfl HST.out.ra (by simp; omega) (Nat.le_refl _) ?_; intro a' cap' W' hown' hb'; have k2 := cell_below hb' c2; have l2 := frozen_below hb' c2 f2)
      rw [List.nil_append] at hown'
      refine bodyPost_ret (v := .tuple #[.agg #[.slice a' (M.dig u).length cap'], .int .i64 0]) (by simp [results, Tryz.results116, go_sem, k2]) rfl ⟨⟨_, rfl, a', cap', by rw [HG0.out], ?_⟩, ?_⟩
      · rw [← HG0.out]
        exact hown'.rowAt.storedAt k2 _
      · exact ((HST.out.below.trans (hb'.mono HST.out.below.size))).setCell (p := ⟨w.heap.size + 1 + 1, 0, none⟩) (by show _ ≤ w.heap.size + 1 + 1; omega) _
    · have hvp : 0 < v := by omega
      have hvl : 0 < (M.dig v).length := by
        rcases Nat.eq_zero_or_pos (M.dig v).length with h | h
        · exact absurd (M.dig_nil.1 (List.length_eq_zero_iff.1 h)) hv0
        · exact h
      go_wp2_with fail
      refine (rdiv_pos a b ca cb u v wr hvp HST.out.la HST.out.lb HST.out.ra HST.out.rb).mono ?_
      rintro e w2 ⟨⟨a1, c1', a2, c2', rfl, _, hr2, _, _⟩, hb2⟩
      have HS2 := Lib.hid ((HST.out.keep hb2).keep (((Below.refl _ w2).alloc (Nat.le_refl _) (.cells #[.slice a1 (M.dig (u / v)).length c1'] 41)).alloc (by simp) (.cells #[.slice a2 (M.dig (u % v)).length c2'] 41)))
      have HR2 := Lib.hid ((hr2.alloc (.cells #[.slice a1 (M.dig (u / v)).length c1'] 41)).alloc (.cells #[.slice a2 (M.dig (u % v)).length c2'] 41))
      have c7 := cell_new (w2.alloc (.cells #[.slice a1 (M.dig (u / v)).length c1'] 41)) (.slice a2 (M.dig (u % v)).length c2') 41
      rw [World.size_alloc] at c7
      have hsz : w.heap.size + 1 < w2.heap.size := Nat.lt_of_lt_of_le (show w.heap.size + 1 < wr.heap.size from lt_of_cell c1) hb2.size
      have n1 : ¬ w2.heap.size + 1 = w.heap.size := by omega
      have n2 : ¬ w2.heap.size + 1 = w.heap.size + 1 := by omega
      have n3 : ¬ w.heap.size = w2.heap.size + 1 := by omega
      have n4 : ¬ w.heap.size + 1 = w2.heap.size + 1 := by omega
      clear hr2 hb2 c0 c1
      go_upto_region 5 with fail
      generalize ((w2.alloc (.cells #[.slice a1 (M.dig (u / v)).length c1'] 41)).alloc (.cells #[.slice a2 (M.dig (u % v)).length c2'] 41)) = w4 at *
      have c0 := HS2.out.ca0
      have f0 := HS2.out.fa0
      have c1 := HS2.out.cb0
      have f1 := HS2.out.fb0
      have d7 := (cell_other (W := w4) (p := ⟨w.heap.size, 0, none⟩) (a := ⟨w2.heap.size + 1, 0, none⟩) (.slice b (M.dig v).length cb) (show w2.heap.size + 1 ≠ w.heap.size by omega)).trans c7
      go_region
      all_goals (
        have HS9 := Lib.hid (show RgSt w x y v (u % v) b a2 cb c2' (World.drew _) from (HS2.out.turn HR2.out).keep (belowN (Below.refl _ _) 1))
        clear c7 d7 c0 c1 f0 f1
        go_wp2_with fail
        go_roundw
        case rel => exact ⟨v, u % v, b, a2, cb, c2', HS9.out⟩
        case measure =>
          rw [cellNum_row HS9.out.cb0 HS9.out.rb, cellNum_row HST.out.cb0 HST.out.rb]
          exact Nat.mod_lt u hvp)
end Go.Proofs.YtmejneobfkbgeaaGreatDoor

namespace Go.Proofs.YtmejneobfkbgeaaGreatDoor
open Go Go.RowKit Go.Shelf

/-- The value is the fraction x / y, as its two numbers stand. -/
def RatV (W : World) (v : Value) (x y : Nat) : Prop := ∃ a c b d, v = .agg #[.slice a (M.dig x).length c, .slice b (M.dig y).length d] ∧ Row W a (M.dig x) c ∧ Row W b (M.dig y) d

/-- .. in blocks from B on. -/
def RatF (B : Nat) (W : World) (v : Value) (x y : Nat) : Prop := ∃ a c b d, v = .agg #[.slice a (M.dig x).length c, .slice b (M.dig y).length d] ∧ Row W a (M.dig x) c ∧ Row W b (M.dig y) d ∧ Fresh B a (M.dig x) ∧ Fresh B b (M.dig y)
theorem RatF.val {B : Nat} {W : World} {v : Value} {x y : Nat} (h : RatF B W v x y) : RatV W v x y := by
  obtain ⟨a, c, b, d, e, h1, h2, _, _⟩ := h
  exact ⟨a, c, b, d, e, h1, h2⟩

structure MkSt (w : World) (a b : Option Addr) (ca cb x y : Nat) (W : World) : Prop where
  c0 : W.cell? ⟨w.heap.size, 0, none⟩ = some (.slice a (M.dig x).length ca)
  c1 : W.cell? ⟨w.heap.size + 1, 0, none⟩ = some (.slice b (M.dig y).length cb)
  r0 : W.cell? ⟨w.heap.size + 1 + 1, 0, none⟩ = some (.slice none 0 0)
  f0 : W.frozen? ⟨w.heap.size + 1 + 1, 0, none⟩ = false
  r1 : W.cell? ⟨w.heap.size + 1 + 1, 1, none⟩ = some (.slice none 0 0)
  f1 : W.frozen? ⟨w.heap.size + 1 + 1, 1, none⟩ = false
  ra : Row W a (M.dig x) ca
  rb : Row W b (M.dig y) cb
  below : Below w.heap.size w W
theorem MkSt.keep {w : World} {a b : Option Addr} {ca cb x y : Nat} {W W' : World} (h : MkSt w a b ca cb x y W) (hb : Below W.heap.size W W') : MkSt w a b ca cb x y W' :=
  ⟨cell_below hb h.c0, cell_below hb h.c1, cell_below hb h.r0, frozen_below hb h.r0 h.f0, cell_below hb h.r1, frozen_below hb h.r1 h.f1, h.ra.below hb, h.rb.below hb, h.below.trans (hb.mono h.below.size)⟩
theorem MkSt.alloc {w : World} {a b : Option Addr} {ca cb x y : Nat} {W : World} (h : MkSt w a b ca cb x y W) (o : Obj) : MkSt w a b ca cb x y (W.alloc o) := h.keep ((Below.refl _ W).alloc (Nat.le_refl _) o)
/-- A variable of type Ratio has just been laid. -/
theorem two_cells (w : World) (u v : Value) (t : TypeId) : ((w.alloc (.cells #[u, v] t)).cell? ⟨w.heap.size, 0, none⟩ = some u ∧ (w.alloc (.cells #[u, v] t)).frozen? ⟨w.heap.size, 0, none⟩ = false) ∧ (w.alloc (.cells #[u, v] t)).cell? ⟨w.heap.size, 1, none⟩ = some v ∧ (w.alloc (.cells #[u, v] t)).frozen? ⟨w.heap.size, 1, none⟩ = false := by
  have hb : (w.alloc (.cells #[u, v] t)).heap[w.heap.size]? = some (.cells #[u, v] t) := Array.getElem?_push_size
  refine ⟨⟨?_, ?_⟩, ?_, ?_⟩
  · rw [cell_of_row _ _ 0 _ _ _ hb]; rfl
  · simp only [World.frozen?, hb]; rfl
  · rw [cell_of_row _ _ 1 _ _ _ hb]; rfl
  · simp only [World.frozen?, hb]; rfl
theorem mk_start (w : World) (a b : Option Addr) (ca cb x y : Nat) (t : TypeId) (hA : Row w a (M.dig x) ca) (hB : Row w b (M.dig y) cb) :
    MkSt w a b ca cb x y (((w.alloc (.cells #[.slice a (M.dig x).length ca] 41)).alloc (.cells #[.slice b (M.dig y).length cb] 41)).alloc (.cells #[.slice none 0 0, .slice none 0 0] t)) := by
  obtain ⟨⟨h0, h1⟩, h2, h3⟩ := two_cells ((w.alloc (.cells #[.slice a (M.dig x).length ca] 41)).alloc (.cells #[.slice b (M.dig y).length cb] 41)) (.slice none 0 0) (.slice none 0 0) t
  have k1 := cell_new (w.alloc (.cells #[.slice a (M.dig x).length ca] 41)) (.slice b (M.dig y).length cb) 41
  simp only [World.size_alloc] at h0 h1 h2 h3 k1
  exact ⟨cell_later _ (cell_later _ (cell_new _ _ _)), cell_later _ k1, h0, h1, h2, h3, ((hA.alloc _).alloc _).alloc _, ((hB.alloc _).alloc _).alloc _, (((Below.refl _ w).alloc (Nat.le_refl _) _).alloc (by simp) _).alloc (by simp; omega) _⟩

set_option maxRecDepth 100000 in
set_option maxHeartbeats 2000000 in
/-- **ref02.Make** -/
theorem rmake_pos (a b : Option Addr) (ca cb x y : Nat) (w : World) (hy0 : 0 < y) (hx : (M.dig x).length ≤ 200) (hy : (M.dig y).length ≤ 200) (hA : Row w a (M.dig x) ca) (hB : Row w b (M.dig y) cb) :
    Calls Tryz.prog 64 #[.agg #[.slice a (M.dig x).length ca], .agg #[.slice b (M.dig y).length cb]] w fun e W' => (∃ v, e = .returned (.tuple #[v, .int .i64 0]) ∧ RatF w.heap.size W' v (x / Nat.gcd x y) (y / Nat.gcd x y)) ∧ Below w.heap.size w W' := by
  have hyl : ¬ (M.dig y).length = 0 := by intro h; have := M.dig_nil.1 (List.length_eq_zero_iff.1 h); omega
  have hyn : (((M.dig y).length : Int) == 0) = false := beq_eq_false_iff_ne.2 (by omega)
  have hgp : 0 < Nat.gcd x y := Nat.gcd_pos_of_pos_right x hy0
  have hgl : (M.dig (Nat.gcd x y)).length ≤ 200 := Nat.le_trans (M.dig_len_mono (Nat.gcd_le_right x hy0)) hy
  have Hvx := Lib.hid (vld_dig hx)
  have Hvy := Lib.hid (vld_dig hy)
  have HS0 := Lib.hid (mk_start w a b ca cb x y 48 hA hB)
  clear hA hB
  go_enter Tryz.func64, Tryz.ntmps64
  go_wp2_with fail
  generalize (((w.alloc (.cells #[.slice a (M.dig x).length ca] 41)).alloc (.cells #[.slice b (M.dig y).length cb] 41)).alloc (.cells #[.slice none 0 0, .slice none 0 0] 48)) = w3 at *
  refine (rvalid_yes a _ ca _ HS0.out.ra Hvx.out).mono ?_
  rintro e w5 ⟨rfl, hb5⟩
  have HS5 := Lib.hid (HS0.out.keep hb5)
  have d1 := HS5.out.c1
  clear hb5 HS0
  go_wp2_with fail
  refine (rvalid_yes b _ cb _ HS5.out.rb Hvy.out).mono ?_
  rintro e w6 ⟨rfl, hb6⟩
  have HS6 := Lib.hid (HS5.out.keep hb6)
  clear hb6 HS5 d1
  have d0 := HS6.out.c0
  have d1 := HS6.out.c1
  go_wp2_with fail
  refine (rgcd_any a b ca cb x y w6 hx hy HS6.out.ra HS6.out.rb).mono ?_
  rintro e w7 ⟨⟨v, rfl, ag, cg, rfl, hrg⟩, hb7⟩
  obtain ⟨k, hk⟩ : ∃ k, Nat.gcd x y = k := ⟨_, rfl⟩
  rw [hk] at hgp hgl hrg ⊢
  have HK := Lib.hid hk
  have HS7 := Lib.hid ((HS6.out.keep hb7).alloc (.cells #[.slice ag (M.dig k).length cg] 41))
  have VG := Lib.hid (Var.new hrg)
  have hb7s := HS7.out.c1
  clear hk hrg hb7 HS6 d0 d1 hb7s
  have d0 := HS7.out.c0
  have e6 := VG.out.cell
  go_wp2_with fail
  refine (rdiv_pos a ag ca cg x k _ hgp hx hgl HS7.out.ra VG.out.row).mono ?_
  rintro e w8 ⟨⟨a1, c1, a2, c2, rfl, hr1, hr2, hf1, _⟩, hb8⟩
  have HF1 := Lib.hid hf1
  have hq7 := HS7.out.below.size
  have HS8 := Lib.hid (((HS7.out.keep hb8).alloc (.cells #[.slice a1 (M.dig (x / k)).length c1] 41)).alloc (.cells #[.slice a2 (M.dig (x % k)).length c2] 41))
  have VG8 := Lib.hid (((VG.out.below hb8).alloc (.cells #[.slice a1 (M.dig (x / k)).length c1] 41)).alloc (.cells #[.slice a2 (M.dig (x % k)).length c2] 41))
  have V1 := Lib.hid ((Var.new hr1).alloc (.cells #[.slice a2 (M.dig (x % k)).length c2] 41))
  clear hr1 hr2 hf1 hb8 HS7 VG d0 e6
  have d1 := HS8.out.c1
  have e6 := VG8.out.cell
  go_wp2_with fail
  refine (rdiv_pos b ag cb cg y k _ hgp hy hgl HS8.out.rb VG8.out.row).mono ?_
  rintro e w9 ⟨⟨b1, p1, b2, p2, rfl, hs1, hs2, hf2, _⟩, hb9⟩
  have HF2 := Lib.hid hf2
  have hq8 := HS8.out.below.size
  have HS9 := Lib.hid (((HS8.out.keep hb9).alloc (.cells #[.slice b1 (M.dig (y / k)).length p1] 41)).alloc (.cells #[.slice b2 (M.dig (y % k)).length p2] 41))
  have V19 := Lib.hid (((V1.out.below hb9).alloc (.cells #[.slice b1 (M.dig (y / k)).length p1] 41)).alloc (.cells #[.slice b2 (M.dig (y % k)).length p2] 41))
  have V2 := Lib.hid ((Var.new hs1).alloc (.cells #[.slice b2 (M.dig (y % k)).length p2] 41))
  clear hs1 hs2 hf2 hb9 HS8 VG8 V1 d1 e6
  have e8 := V19.out.cell
  have e11 := V2.out.cell
  have r0 := HS9.out.r0
  have r1 := HS9.out.r1
  have f0 := HS9.out.f0
  have f1 := HS9.out.f1
  go_upto_region 8 with fail
  generalize ((w9.alloc (.cells #[.slice b1 (M.dig (y / k)).length p1] 41)).alloc (.cells #[.slice b2 (M.dig (y % k)).length p2] 41)) = w10 at *
  have r2 : (w10.setCell ⟨w.heap.size + 1 + 1, 0, none⟩ (.slice a1 (M.dig (x / k)).length c1)).cell? ⟨w.heap.size + 1 + 1, 1, none⟩ = some (.slice none 0 0) := (World.cell?_setCell_other _ _ _ _ (by intro e; cases e)).trans r1
  have R0 := Lib.hid r0
  have R2 := Lib.hid r2
  clear r2
  go_wp2_with fail
  refine bodyPost_ret (v := .tuple #[.agg #[.slice a1 (M.dig (x / k)).length c1, .slice b1 (M.dig (y / k)).length p1], .int .i64 0]) (by simp [results, Tryz.results64, go_sem, r0, r1]) rfl ⟨⟨_, rfl, a1, c1, b1, p1, by rw [HK.out], ?_, ?_, ?_, ?_⟩, ?_⟩
  · rw [HK.out]; exact (V19.out.row.storedAt R0.out _).storedAt R2.out _
  · rw [HK.out]; exact (V2.out.row.storedAt R0.out _).storedAt R2.out _
  · rw [HK.out]; exact fun b off e hl => Nat.le_trans hq7 (HF1.out b off e hl)
  · rw [HK.out]; exact fun b off e hl => Nat.le_trans hq8 (HF2.out b off e hl)
  · exact (HS9.out.below.setCell (p := ⟨w.heap.size + 1 + 1, 0, none⟩) (by show _ ≤ w.heap.size + 1 + 1; omega) _).setCell (p := ⟨w.heap.size + 1 + 1, 1, none⟩) (by show _ ≤ w.heap.size + 1 + 1; omega) _
end Go.Proofs.YtmejneobfkbgeaaGreatDoor

namespace Go.Proofs.YtmejneobfkbgeaaGreatDoor
open Go Go.RowKit Go.Shelf

/-- Two parameters of type Nat in boxes, a result of type Ratio. -/
structure RmSt (w : World) (a b : Option Addr) (ca cb x y : Nat) (W : World) : Prop where
  c0 : W.cell? ⟨w.heap.size, 0, none⟩ = some (.slice a (M.dig x).length ca)
  e0 : W.frozen? ⟨w.heap.size, 0, none⟩ = false
  c1 : W.cell? ⟨w.heap.size + 1, 0, none⟩ = some (.slice b (M.dig y).length cb)
  e1 : W.frozen? ⟨w.heap.size + 1, 0, none⟩ = false
  r0 : W.cell? ⟨w.heap.size + 1 + 1, 0, none⟩ = some (.slice none 0 0)
  f0 : W.frozen? ⟨w.heap.size + 1 + 1, 0, none⟩ = false
  r1 : W.cell? ⟨w.heap.size + 1 + 1, 1, none⟩ = some (.slice none 0 0)
  f1 : W.frozen? ⟨w.heap.size + 1 + 1, 1, none⟩ = false
  ra : Row W a (M.dig x) ca
  rb : Row W b (M.dig y) cb
  below : Below w.heap.size w W
section
variable {w W : World} {a b : Option Addr} {ca cb x y : Nat}
theorem RmSt.keep {W' : World} (h : RmSt w a b ca cb x y W) (hb : Below W.heap.size W W') : RmSt w a b ca cb x y W' :=
  ⟨cell_below hb h.c0, frozen_below hb h.c0 h.e0, cell_below hb h.c1, frozen_below hb h.c1 h.e1, cell_below hb h.r0, frozen_below hb h.r0 h.f0, cell_below hb h.r1, frozen_below hb h.r1 h.f1, h.ra.below hb, h.rb.below hb, h.below.trans (hb.mono h.below.size)⟩
theorem RmSt.alloc (h : RmSt w a b ca cb x y W) (o : Obj) : RmSt w a b ca cb x y (W.alloc o) := h.keep ((Below.refl _ W).alloc (Nat.le_refl _) o)
theorem RmSt.set0 {a' : Option Addr} {c' x' : Nat} (h : RmSt w a b ca cb x y W) (hr : Row W a' (M.dig x') c') : RmSt w a' b c' cb x' y (W.setCell ⟨w.heap.size, 0, none⟩ (.slice a' (M.dig x').length c')) :=
  ⟨World.cell?_setCell_same _ _ _ h.c0, (World.frozen?_setCell _ _ _ _).trans h.e0, (cell_other _ (show w.heap.size + 1 ≠ w.heap.size by omega)).trans h.c1, (World.frozen?_setCell _ _ _ _).trans h.e1, (cell_other _ (show w.heap.size + 1 + 1 ≠ w.heap.size by omega)).trans h.r0, (World.frozen?_setCell _ _ _ _).trans h.f0,
    (cell_other _ (show w.heap.size + 1 + 1 ≠ w.heap.size by omega)).trans h.r1, (World.frozen?_setCell _ _ _ _).trans h.f1, hr.storedAt h.c0 _, h.rb.storedAt h.c0 _, h.below.setCell (p := ⟨w.heap.size, 0, none⟩) (Nat.le_refl _) _⟩
theorem RmSt.set1 {b' : Option Addr} {d' y' : Nat} (h : RmSt w a b ca cb x y W) (hr : Row W b' (M.dig y') d') : RmSt w a b' ca d' x y' (W.setCell ⟨w.heap.size + 1, 0, none⟩ (.slice b' (M.dig y').length d')) :=
  ⟨(cell_other _ (show w.heap.size ≠ w.heap.size + 1 by omega)).trans h.c0, (World.frozen?_setCell _ _ _ _).trans h.e0, World.cell?_setCell_same _ _ _ h.c1, (World.frozen?_setCell _ _ _ _).trans h.e1, (cell_other _ (show w.heap.size + 1 + 1 ≠ w.heap.size + 1 by omega)).trans h.r0, (World.frozen?_setCell _ _ _ _).trans h.f0,
    (cell_other _ (show w.heap.size + 1 + 1 ≠ w.heap.size + 1 by omega)).trans h.r1, (World.frozen?_setCell _ _ _ _).trans h.f1, h.ra.storedAt h.c1 _, hr.storedAt h.c1 _, h.below.setCell (p := ⟨w.heap.size + 1, 0, none⟩) (by show _ ≤ w.heap.size + 1; omega) _⟩
theorem RmSt.start (hA : Row w a (M.dig x) ca) (hB : Row w b (M.dig y) cb) (t : TypeId) :
    RmSt w a b ca cb x y (((w.alloc (.cells #[.slice a (M.dig x).length ca] 41)).alloc (.cells #[.slice b (M.dig y).length cb] 41)).alloc (.cells #[.slice none 0 0, .slice none 0 0] t)) := by
  have h := mk_start w a b ca cb x y t hA hB
  have k1 := cell_new (w.alloc (.cells #[.slice a (M.dig x).length ca] 41)) (.slice b (M.dig y).length cb) 41
  have k2 := frozen_new (w.alloc (.cells #[.slice a (M.dig x).length ca] 41)) (.slice b (M.dig y).length cb) 41
  rw [World.size_alloc] at k1 k2
  exact ⟨h.c0, frozen_later _ (cell_later _ (cell_new _ _ _)) (frozen_later _ (cell_new _ _ _) (frozen_new _ _ _)), h.c1, frozen_later _ k1 k2, h.r0, h.f0, h.r1, h.f1, h.ra, h.rb, h.below⟩
end

theorem Var.beside {W : World} {p q n c : Nat} {a s : Option Addr} {ca x : Nat} (h : Var W p a ca x) (hq : W.cell? ⟨q, 0, none⟩ = some (.slice s n c)) (hne : p ≠ q) (u : Value) : Var (W.setCell ⟨q, 0, none⟩ u) p a ca x :=
  ⟨(cell_other u (show p ≠ q from hne)).trans h.cell, h.row.storedAt hq u⟩

set_option maxRecDepth 100000 in
set_option maxHeartbeats 1000000 in
theorem isZero_any (a : Option Addr) (ca x : Nat) (w : World) :
    Calls Tryz.prog 90 #[.agg #[.slice a (M.dig x).length ca]] w fun e W' => e = .returned (.bool ((((M.dig x).length : Int) == 0))) ∧ Below w.heap.size w W' := by
  go_enter Tryz.func90, Tryz.ntmps90
  go_wp2_with fail
  go_ret
  exact ⟨rfl, (Below.refl _ w).alloc (Nat.le_refl _) _⟩

set_option maxRecDepth 100000 in
set_option maxHeartbeats 2000000 in
/-- **ratio.Make** -/
theorem make_pos (a b : Option Addr) (ca cb x y : Nat) (w : World) (hy0 : 0 < y) (hx : (M.dig x).length ≤ 200) (hy : (M.dig y).length ≤ 200) (hA : Row w a (M.dig x) ca) (hB : Row w b (M.dig y) cb) :
    Calls Tryz.prog 41 #[.agg #[.slice a (M.dig x).length ca], .agg #[.slice b (M.dig y).length cb]] w fun e W' => (∃ v, e = .returned (.tuple #[v, .int .i64 0]) ∧ RatV W' v (x / Nat.gcd x y) (y / Nat.gcd x y)) ∧ Below w.heap.size w W' := by
  have hyl : ¬ (M.dig y).length = 0 := by intro h; have := M.dig_nil.1 (List.length_eq_zero_iff.1 h); omega
  have hyn : (((M.dig y).length : Int) == 0) = false := beq_eq_false_iff_ne.2 (by omega)
  have HYN := Lib.hid hyn
  have hgp : 0 < Nat.gcd x y := Nat.gcd_pos_of_pos_right x hy0
  have hgl : (M.dig (Nat.gcd x y)).length ≤ 200 := Nat.le_trans (M.dig_len_mono (Nat.gcd_le_right x hy0)) hy
  have HS0 := Lib.hid (RmSt.start hA hB 48)
  clear hA hB hyn
  go_enter Tryz.func41, Tryz.ntmps41
  go_wp2_with fail
  generalize (((w.alloc (.cells #[.slice a (M.dig x).length ca] 41)).alloc (.cells #[.slice b (M.dig y).length cb] 41)).alloc (.cells #[.slice none 0 0, .slice none 0 0] 48)) = w3 at *
  refine (gcd_any a b ca cb x y w3 hx hy HS0.out.ra HS0.out.rb).mono ?_
  rintro e w7 ⟨⟨v, rfl, ag, cg, rfl, hrg⟩, hb7⟩
  obtain ⟨k, hk⟩ : ∃ k, Nat.gcd x y = k := ⟨_, rfl⟩
  rw [hk] at hgp hgl hrg ⊢
  have HK := Lib.hid hk
  have hw7 : w.heap.size + 1 < w7.heap.size := lt_of_cell (HS0.out.keep hb7).c1
  have HS7 := Lib.hid ((HS0.out.keep hb7).alloc (.cells #[.slice ag (M.dig k).length cg] 41))
  have VG := Lib.hid (Var.new hrg)
  have d1 := HS7.out.c1
  clear hk hrg hb7 HS0
  go_wp2_with fail
  refine (isZero_any b cb y _).mono ?_
  rintro e w8 ⟨rfl, hb8⟩
  rw [HYN.out]
  have HS8 := Lib.hid (HS7.out.keep hb8)
  have VG8 := Lib.hid (VG.out.below hb8)
  clear hb8 HS7 VG d1
  have d0 := HS8.out.c0
  have e6 := VG8.out.cell
  go_wp2_with fail
  refine (divide_any a ag ca cg x k _ hgp hx hgl HS8.out.ra VG8.out.row).mono ?_
  rintro e w9 ⟨⟨a1, c1, a2, c2, rfl, hr1, _⟩, hb9⟩
  have h9 := HS8.out.keep hb9
  have HS9 := Lib.hid (h9.set0 hr1)
  have VG9 := Lib.hid ((VG8.out.below hb9).beside h9.c0 (Nat.ne_of_gt (by omega)) (.slice a1 (M.dig (x / k)).length c1))
  have q0 := h9.c0
  have g0 := h9.e0
  clear h9 hr1 hb9 d0 e6 HS8 VG8
  go_upto_region 7 with fail
  clear q0 g0
  generalize (w9.setCell ⟨w.heap.size, 0, none⟩ (.slice a1 (M.dig (x / k)).length c1)) = wa at *
  have d1 := HS9.out.c1
  have e6 := VG9.out.cell
  go_wp2_with fail
  refine (divide_any b ag cb cg y k _ hgp hy hgl HS9.out.rb VG9.out.row).mono ?_
  rintro e w10 ⟨⟨b1, p1, b2, p2, rfl, hr2, _⟩, hb10⟩
  have h10 := HS9.out.keep hb10
  have HS10 := Lib.hid (h10.set1 hr2)
  have q1 := h10.c1
  have g1 := h10.e1
  clear h10 hr2 hb10 d1 e6 HS9 VG9
  go_upto_region 8 with fail
  clear q1 g1
  generalize (w10.setCell ⟨w.heap.size + 1, 0, none⟩ (.slice b1 (M.dig (y / k)).length p1)) = wb at *
  have d0 := HS10.out.c0
  have d1 := HS10.out.c1
  have r0 := HS10.out.r0
  have r1 := HS10.out.r1
  have f0 := HS10.out.f0
  have f1 := HS10.out.f1
  have R0 := Lib.hid r0
  have R2 := Lib.hid (show (wb.setCell ⟨w.heap.size + 1 + 1, 0, none⟩ (.slice a1 (M.dig (x / k)).length c1)).cell? ⟨w.heap.size + 1 + 1, 1, none⟩ = some (.slice none 0 0) from (World.cell?_setCell_other _ _ _ _ (by intro e; cases e)).trans r1)
  go_wp2_with fail
  refine bodyPost_ret (v := .tuple #[.agg #[.slice a1 (M.dig (x / k)).length c1, .slice b1 (M.dig (y / k)).length p1], .int .i64 0]) (by simp [results, Tryz.results41, go_sem, r0, r1]) rfl ⟨⟨_, rfl, a1, c1, b1, p1, by rw [HK.out], ?_, ?_⟩, ?_⟩
  · rw [HK.out]; exact (HS10.out.ra.storedAt R0.out _).storedAt R2.out _
  · rw [HK.out]; exact (HS10.out.rb.storedAt R0.out _).storedAt R2.out _
  · exact (HS10.out.below.setCell (p := ⟨w.heap.size + 1 + 1, 0, none⟩) (by show _ ≤ w.heap.size + 1 + 1; omega) _).setCell (p := ⟨w.heap.size + 1 + 1, 1, none⟩) (by show _ ≤ w.heap.size + 1 + 1; omega) _
end Go.Proofs.YtmejneobfkbgeaaGreatDoor

namespace Go.Proofs.YtmejneobfkbgeaaGreatDoor
open Go Go.RowKit Go.Shelf

set_option maxRecDepth 100000 in
set_option maxHeartbeats 1000000 in
/-- **ref01.Same** at limbs of two lengths. -/
theorem same_len (a b : Option Addr) (zs ys : List Int) (ca cb : Nat) (w : World) (hl : zs.length ≠ ys.length) :
    Calls Tryz.prog 15 #[.agg #[.slice a zs.length ca], .agg #[.slice b ys.length cb]] w fun e W' => e = .returned (.bool false) ∧ Below w.heap.size w W' := by
  have hB := boxes2_below w (.slice a zs.length ca) (.slice b ys.length cb)
  have HBB := Lib.hid hB
  have hb : ((zs.length : Int) != (ys.length : Int)) = true := by rw [bne_iff_ne]; omega
  clear hB hl
  go_enter Tryz.func15, Tryz.ntmps15
  go_wp2_with fail
  go_ret
  exact ⟨rfl, HBB.out⟩

set_option maxRecDepth 100000 in
set_option maxHeartbeats 1000000 in
/-- **ref01.Same** at other limbs, as many. -/
theorem same_not (a b : Option Addr) (zs ys : List Int) (ca cb : Nat) (w : World) (ha : Row w a zs ca) (hb : Row w b ys cb) (hl : zs.length = ys.length) (hne : zs ≠ ys) :
    Calls Tryz.prog 15 #[.agg #[.slice a zs.length ca], .agg #[.slice b ys.length cb]] w fun e W' => e = .returned (.bool false) ∧ Below w.heap.size w W' := by
  have hB := boxes2_below w (.slice a zs.length ca) (.slice b ys.length cb)
  have HC := Lib.hid (boxes2_cells w (.slice a zs.length ca) (.slice b ys.length cb))
  have HA := Lib.hid (ha.below hB)
  have HB := Lib.hid (hb.below hB)
  have HBB := Lib.hid hB
  have HNE := Lib.hid hne
  have HL := Lib.hid hl
  have hra := ha.room
  have hrb := hb.room
  have hma := ha.most
  have hmb := hb.most
  have hlb : ((zs.length : Int) != (ys.length : Int)) = false := by rw [bne_eq_false_iff_eq, hl]
  clear ha hb hB hne hl
  go_enter Tryz.func15, Tryz.ntmps15
  go_wp2_with fail
  generalize hw2 : ((w.alloc (.cells #[.slice a zs.length ca] 41)).alloc (.cells #[.slice b ys.length cb] 41)) = w2
  obtain rfl : boxes2 w (.slice a zs.length ca) (.slice b ys.length cb) = w2 := hw2
  generalize boxes2 w (.slice a zs.length ca) (.slice b ys.length cb) = w2 at *
  go_loopw [5] (fun i wr => ∃ k : Nat, i = .int .i64 (k : Int) ∧ k ≤ zs.length ∧ (∀ j : Nat, j < k → M.el zs j = M.el ys j) ∧ Below w2.heap.size w2 wr) (fun i _ => zs.length - (intOf i).toNat)
  case atStart => exact ⟨0, rfl, Nat.zero_le _, fun j hj => by omega, Below.refl _ _⟩
  case round =>
    obtain ⟨k, rfl, hk, he, hbw⟩ := hrel
    have c0 : wr.cell? ⟨w.heap.size, 0, none⟩ = some (.slice a zs.length ca) := (hbw.cell (p := ⟨w.heap.size, 0, none⟩) (lt_of_cell HC.out.1)).trans HC.out.1
    have c1 : wr.cell? ⟨w.heap.size + 1, 0, none⟩ = some (.slice b ys.length cb) := (hbw.cell (p := ⟨w.heap.size + 1, 0, none⟩) (lt_of_cell HC.out.2)).trans HC.out.2
    have HBW := Lib.hid hbw
    have HE := Lib.hid he
    clear hbw he
    by_cases hlt : k < zs.length
    · obtain ⟨b1, o1, rfl, h1⟩ := (HA.out.below HBW.out).el k hlt
      have hlty : k < ys.length := by rw [← HL.out]; exact hlt
      obtain ⟨b2, o2, rfl, h2⟩ := (HB.out.below HBW.out).el k hlty
      by_cases hk2 : M.el zs k = M.el ys k
      · have HK := Lib.hid hk2
        rw [hk2] at h1
        clear hk2
        go_wp2_with fail
        go_quiet (fail)
        go_wp2
        go_roundw
        case rel =>
          refine ⟨k + 1, by go_num, by omega, fun j hj => ?_, belowN HBW.out _⟩
          by_cases e : j = k
          · rw [e]; exact HK.out
          · exact HE.out j (by omega)
        case measure => simp [intOf]; omega
      · have hkb : (M.el zs k != M.el ys k) = true := by rw [bne_iff_ne]; exact hk2
        clear hk2
        go_wp2_with fail
        go_quiet (fail)
        go_wp2_with fail
        go_ret
        exact ⟨rfl, HBB.out.trans ((belowN HBW.out _).mono HBB.out.size)⟩
    · exact absurd (M.ext_el HL.out fun j hj => HE.out j (by omega)) HNE.out

/-- **ref01.Same** of two numbers. -/
theorem same_is {u v : Value} {x y : Nat} {w : World} (hu : Num w u x) (hv : Num w v y) :
    Calls Tryz.prog 15 #[u, v] w fun e W' => e = .returned (.bool (decide (x = y))) ∧ Below w.heap.size w W' := by
  by_cases h : x = y
  · subst h
    rw [show decide (x = x) = true from decide_eq_true rfl]
    exact same_num hu hv
  · rw [show decide (x = y) = false from decide_eq_false h]
    obtain ⟨a, ca, rfl, ha⟩ := hu
    obtain ⟨b, cb, rfl, hb⟩ := hv
    by_cases hl : (M.dig x).length = (M.dig y).length
    · exact same_not a b _ _ ca cb w ha hb hl fun e => h (M.dig_inj e)
    · exact same_len a b _ _ ca cb w hl
end Go.Proofs.YtmejneobfkbgeaaGreatDoor

namespace Go.Proofs.YtmejneobfkbgeaaGreatDoor
open Go Go.RowKit Go.Shelf

theorem RatV.below {W W' : World} {v : Value} {x y : Nat} (h : RatV W v x y) (hb : Below W.heap.size W W') : RatV W' v x y := by
  obtain ⟨a, c, b, d, rfl, h1, h2⟩ := h
  exact ⟨a, c, b, d, rfl, h1.below hb, h2.below hb⟩

set_option maxRecDepth 100000 in
set_option maxHeartbeats 1000000 in
/-- **ref02.Same** -/
theorem ratSame_is {u v : Value} {x y z t : Nat} {w : World} (hu : RatV w u x y) (hv : RatV w v z t) :
    Calls Tryz.prog 27 #[u, v] w fun e W' => e = .returned (.bool (decide (x = z ∧ y = t))) ∧ Below w.heap.size w W' := by
  obtain ⟨a, c, b, d, rfl, h1, h2⟩ := hu
  obtain ⟨a', c', b', d', rfl, h1', h2'⟩ := hv
  have hb := ((Below.refl _ w).alloc (Nat.le_refl _) (.cells #[.slice a (M.dig x).length c, .slice b (M.dig y).length d] 48)).alloc (by simp) (.cells #[.slice a' (M.dig z).length c', .slice b' (M.dig t).length d'] 48)
  obtain ⟨⟨k0, _⟩, k1, _⟩ := two_cells w (.slice a (M.dig x).length c) (.slice b (M.dig y).length d) 48
  obtain ⟨⟨l0, _⟩, l1, _⟩ := two_cells (w.alloc (.cells #[.slice a (M.dig x).length c, .slice b (M.dig y).length d] 48)) (.slice a' (M.dig z).length c') (.slice b' (M.dig t).length d') 48
  rw [World.size_alloc] at l0 l1
  have c0 := cell_later (.cells #[.slice a' (M.dig z).length c', .slice b' (M.dig t).length d'] 48) k0
  have c1 := cell_later (.cells #[.slice a' (M.dig z).length c', .slice b' (M.dig t).length d'] 48) k1
  have H1 := Lib.hid (h1.below hb)
  have H2 := Lib.hid (h2.below hb)
  have H3 := Lib.hid (h1'.below hb)
  have H4 := Lib.hid (h2'.below hb)
  have HB := Lib.hid hb
  clear h1 h2 h1' h2' hb k0 k1
  go_enter Tryz.func27, Tryz.ntmps27
  go_wp2_with fail
  generalize ((w.alloc (.cells #[.slice a (M.dig x).length c, .slice b (M.dig y).length d] 48)).alloc (.cells #[.slice a' (M.dig z).length c', .slice b' (M.dig t).length d'] 48)) = w2 at *
  refine (same_is (x := x) (y := z) ⟨a, c, rfl, H1.out⟩ ⟨a', c', rfl, H3.out⟩).mono ?_
  rintro e w3 ⟨rfl, hb3⟩
  have d1 := cell_below hb3 c1
  have m1 := cell_below hb3 l1
  have HB3 := Lib.hid (HB.out.trans (hb3.mono HB.out.size))
  have H24 := Lib.hid (H2.out.below hb3)
  have H44 := Lib.hid (H4.out.below hb3)
  clear hb3 c0 c1 l0 l1
  by_cases hxz : x = z
  · rw [show decide (x = z) = true from decide_eq_true hxz]
    go_wp2_with fail
    refine (same_is (x := y) (y := t) ⟨b, d, rfl, H24.out⟩ ⟨b', d', rfl, H44.out⟩).mono ?_
    rintro e w4 ⟨rfl, hb4⟩
    go_wp2_with fail
    go_ret
    exact ⟨by simp [hxz], HB3.out.trans (hb4.mono HB3.out.size)⟩
  · rw [show decide (x = z) = false from decide_eq_false hxz]
    go_wp2_with fail
    go_ret
    exact ⟨by simp [hxz], HB3.out⟩
end Go.Proofs.YtmejneobfkbgeaaGreatDoor

namespace Go.Proofs.YtmejneobfkbgeaaGreatDoor
open Go Go.RowKit Go.Shelf

set_option maxRecDepth 100000 in
set_option maxHeartbeats 1000000 in
theorem isOne_yes (a : Option Addr) (ca : Nat) (w : World) (hR : Row w a (M.dig 1) ca) :
    Calls Tryz.prog 102 #[.agg #[.slice a (M.dig 1).length ca]] w fun e W' => e = .returned (.bool true) ∧ Below w.heap.size w W' := by
  have h1 : M.dig 1 = [1] := by rw [M.dig_pos (by omega), show 1 / 16777216 = 0 from rfl, M.dig_zero]; rfl
  rw [h1] at hR ⊢
  obtain ⟨b, off, rfl, hc⟩ := hR.el 0 (by simp)
  have hro := hR.room
  have hmo := hR.most
  have hc2 := cell_later (.cells #[.slice (some ⟨b, off, none⟩) [(1 : Int)].length ca] 41) hc
  simp only [M.el_zero, Nat.add_zero] at hc2
  simp only [List.length_singleton] at hro hc2 ⊢
  clear hR hc h1
  go_enter Tryz.func102, Tryz.ntmps102
  go_wp2_with fail
  go_ret
  exact ⟨rfl, (Below.refl _ w).alloc (Nat.le_refl _) _⟩

set_option maxRecDepth 100000 in
set_option maxHeartbeats 1000000 in
/-- **ratio.Valid** -/
theorem ratValid_yes {v : Value} {x y : Nat} {w : World} (hV : RatV w v x y) (hy0 : 0 < y) (hg : Nat.gcd x y = 1) (hx : (M.dig x).length ≤ 200) (hy : (M.dig y).length ≤ 200) :
    Calls Tryz.prog 52 #[v] w fun e W' => e = .returned (.bool true) ∧ Below w.heap.size w W' := by
  obtain ⟨a, c, b, d, rfl, hA, hB⟩ := hV
  have hyl : ¬ (M.dig y).length = 0 := by intro h; have := M.dig_nil.1 (List.length_eq_zero_iff.1 h); omega
  have hyn : (((M.dig y).length : Int) == 0) = false := beq_eq_false_iff_ne.2 (by omega)
  have HYN := Lib.hid hyn
  have HG := Lib.hid hg
  obtain ⟨⟨c0, _⟩, c1, _⟩ := two_cells w (.slice a (M.dig x).length c) (.slice b (M.dig y).length d) 48
  have hb := (Below.refl _ w).alloc (Nat.le_refl _) (.cells #[.slice a (M.dig x).length c, .slice b (M.dig y).length d] 48)
  have HA := Lib.hid (hA.below hb)
  have HB := Lib.hid (hB.below hb)
  have HBB := Lib.hid hb
  clear hA hB hb hg hyn
  go_enter Tryz.func52, Tryz.ntmps52
  go_wp2_with fail
  generalize (w.alloc (.cells #[.slice a (M.dig x).length c, .slice b (M.dig y).length d] 48)) = w1 at *
  refine (gcd_any a b c d x y w1 hx hy HA.out HB.out).mono ?_
  rintro e w2 ⟨⟨v, rfl, ag, cg, rfl, hrg⟩, hb2⟩
  rw [HG.out] at hrg ⊢
  have VG := Lib.hid (Var.new hrg)
  have d1 := cell_later (.cells #[.slice ag (M.dig 1).length cg] 41) (cell_below hb2 c1)
  have HB2 := Lib.hid ((HBB.out.trans (hb2.mono HBB.out.size)).alloc (Nat.le_trans HBB.out.size hb2.size) (.cells #[.slice ag (M.dig 1).length cg] 41))
  clear hrg hb2 c0 c1
  go_wp2_with fail
  refine (isZero_any b d y _).mono ?_
  rintro e w3 ⟨rfl, hb3⟩
  rw [HYN.out]
  have V3 := Lib.hid (VG.out.below hb3)
  have e3 := V3.out.cell
  have HB3 := Lib.hid (HB2.out.trans (hb3.mono HB2.out.size))
  clear hb3 d1
  go_wp2_with fail
  refine (isOne_yes ag cg _ V3.out.row).mono ?_
  rintro e w4 ⟨rfl, hb4⟩
  go_wp2_with fail
  go_ret
  exact ⟨rfl, HB3.out.trans (hb4.mono HB3.out.size)⟩
end Go.Proofs.YtmejneobfkbgeaaGreatDoor

namespace Go.Proofs.YtmejneobfkbgeaaGreatDoor
open Go Go.RowKit Go.Shelf

/-- Two parameters of type Ratio in boxes, a result of type Ratio. -/
structure R2St (w : World) (a b c d : Option Addr) (ca cb cc cd x y z t : Nat) (W : World) : Prop where
  p0 : W.cell? ⟨w.heap.size, 0, none⟩ = some (.slice a (M.dig x).length ca)
  p1 : W.cell? ⟨w.heap.size, 1, none⟩ = some (.slice b (M.dig y).length cb)
  q0 : W.cell? ⟨w.heap.size + 1, 0, none⟩ = some (.slice c (M.dig z).length cc)
  q1 : W.cell? ⟨w.heap.size + 1, 1, none⟩ = some (.slice d (M.dig t).length cd)
  r0 : W.cell? ⟨w.heap.size + 1 + 1, 0, none⟩ = some (.slice none 0 0)
  f0 : W.frozen? ⟨w.heap.size + 1 + 1, 0, none⟩ = false
  r1 : W.cell? ⟨w.heap.size + 1 + 1, 1, none⟩ = some (.slice none 0 0)
  f1 : W.frozen? ⟨w.heap.size + 1 + 1, 1, none⟩ = false
  ra : Row W a (M.dig x) ca
  rb : Row W b (M.dig y) cb
  rc : Row W c (M.dig z) cc
  rd : Row W d (M.dig t) cd
  below : Below w.heap.size w W
section
variable {w W : World} {a b c d : Option Addr} {ca cb cc cd x y z t : Nat}
theorem R2St.keep {W' : World} (h : R2St w a b c d ca cb cc cd x y z t W) (hb : Below W.heap.size W W') : R2St w a b c d ca cb cc cd x y z t W' :=
  ⟨cell_below hb h.p0, cell_below hb h.p1, cell_below hb h.q0, cell_below hb h.q1, cell_below hb h.r0, frozen_below hb h.r0 h.f0, cell_below hb h.r1, frozen_below hb h.r1 h.f1, h.ra.below hb, h.rb.below hb, h.rc.below hb, h.rd.below hb, h.below.trans (hb.mono h.below.size)⟩
theorem R2St.alloc (h : R2St w a b c d ca cb cc cd x y z t W) (o : Obj) : R2St w a b c d ca cb cc cd x y z t (W.alloc o) := h.keep ((Below.refl _ W).alloc (Nat.le_refl _) o)
theorem R2St.start (hA : Row w a (M.dig x) ca) (hB : Row w b (M.dig y) cb) (hC : Row w c (M.dig z) cc) (hD : Row w d (M.dig t) cd) :
    R2St w a b c d ca cb cc cd x y z t (((w.alloc (.cells #[.slice a (M.dig x).length ca, .slice b (M.dig y).length cb] 48)).alloc (.cells #[.slice c (M.dig z).length cc, .slice d (M.dig t).length cd] 48)).alloc (.cells #[.slice none 0 0, .slice none 0 0] 48)) := by
  obtain ⟨⟨h0, _⟩, h1, _⟩ := two_cells w (.slice a (M.dig x).length ca) (.slice b (M.dig y).length cb) 48
  obtain ⟨⟨h2, _⟩, h3, _⟩ := two_cells (w.alloc (.cells #[.slice a (M.dig x).length ca, .slice b (M.dig y).length cb] 48)) (.slice c (M.dig z).length cc) (.slice d (M.dig t).length cd) 48
  obtain ⟨⟨h4, h5⟩, h6, h7⟩ := two_cells ((w.alloc (.cells #[.slice a (M.dig x).length ca, .slice b (M.dig y).length cb] 48)).alloc (.cells #[.slice c (M.dig z).length cc, .slice d (M.dig t).length cd] 48)) (.slice none 0 0) (.slice none 0 0) 48
  simp only [World.size_alloc] at h2 h3 h4 h5 h6 h7
  exact ⟨cell_later _ (cell_later _ h0), cell_later _ (cell_later _ h1), cell_later _ h2, cell_later _ h3, h4, h5, h6, h7, ((hA.alloc _).alloc _).alloc _, ((hB.alloc _).alloc _).alloc _, ((hC.alloc _).alloc _).alloc _, ((hD.alloc _).alloc _).alloc _, (((Below.refl _ w).alloc (Nat.le_refl _) _).alloc (by simp) _).alloc (by simp; omega) _⟩
/-- The result has been stored. -/
theorem R2St.done {e f : Option Addr} {ce cf k l : Nat} (h : R2St w a b c d ca cb cc cd x y z t W) (hE : Row W e (M.dig k) ce) (hF : Row W f (M.dig l) cf) :
    RatV ((W.setCell ⟨w.heap.size + 1 + 1, 0, none⟩ (.slice e (M.dig k).length ce)).setCell ⟨w.heap.size + 1 + 1, 1, none⟩ (.slice f (M.dig l).length cf)) (.agg #[.slice e (M.dig k).length ce, .slice f (M.dig l).length cf]) k l ∧
    Below w.heap.size w ((W.setCell ⟨w.heap.size + 1 + 1, 0, none⟩ (.slice e (M.dig k).length ce)).setCell ⟨w.heap.size + 1 + 1, 1, none⟩ (.slice f (M.dig l).length cf)) := by
  have r2 : (W.setCell ⟨w.heap.size + 1 + 1, 0, none⟩ (.slice e (M.dig k).length ce)).cell? ⟨w.heap.size + 1 + 1, 1, none⟩ = some (.slice none 0 0) := (World.cell?_setCell_other _ _ _ _ (by intro e; cases e)).trans h.r1
  exact ⟨⟨e, ce, f, cf, rfl, (hE.storedAt h.r0 _).storedAt r2 _, (hF.storedAt h.r0 _).storedAt r2 _⟩, (h.below.setCell (p := ⟨w.heap.size + 1 + 1, 0, none⟩) (by show _ ≤ w.heap.size + 1 + 1; omega) _).setCell (p := ⟨w.heap.size + 1 + 1, 1, none⟩) (by show _ ≤ w.heap.size + 1 + 1; omega) _⟩
end

end Go.Proofs.YtmejneobfkbgeaaGreatDoor

namespace Go.Proofs.YtmejneobfkbgeaaGreatDoor
open Go Go.RowKit Go.Shelf

/-- Two parameters of type Ratio in boxes, two results of type Nat. -/
structure CwSt (w : World) (a b c d : Option Addr) (ca cb cc cd x y z t : Nat) (e : Option Addr) (ne ce : Nat) (f : Option Addr) (nf cf : Nat) (W : World) : Prop where
  p0 : W.cell? ⟨w.heap.size, 0, none⟩ = some (.slice a (M.dig x).length ca)
  p1 : W.cell? ⟨w.heap.size, 1, none⟩ = some (.slice b (M.dig y).length cb)
  q0 : W.cell? ⟨w.heap.size + 1, 0, none⟩ = some (.slice c (M.dig z).length cc)
  q1 : W.cell? ⟨w.heap.size + 1, 1, none⟩ = some (.slice d (M.dig t).length cd)
  l0 : W.cell? ⟨w.heap.size + 1 + 1, 0, none⟩ = some (.slice e ne ce)
  lf : W.frozen? ⟨w.heap.size + 1 + 1, 0, none⟩ = false
  r0 : W.cell? ⟨w.heap.size + 1 + 1 + 1, 0, none⟩ = some (.slice f nf cf)
  rf : W.frozen? ⟨w.heap.size + 1 + 1 + 1, 0, none⟩ = false
  ra : Row W a (M.dig x) ca
  rb : Row W b (M.dig y) cb
  rc : Row W c (M.dig z) cc
  rd : Row W d (M.dig t) cd
  below : Below w.heap.size w W
section
variable {w W : World} {a b c d e f : Option Addr} {ca cb cc cd x y z t ne ce nf cf : Nat}
theorem CwSt.keep {W' : World} (h : CwSt w a b c d ca cb cc cd x y z t e ne ce f nf cf W) (hb : Below W.heap.size W W') : CwSt w a b c d ca cb cc cd x y z t e ne ce f nf cf W' :=
  ⟨cell_below hb h.p0, cell_below hb h.p1, cell_below hb h.q0, cell_below hb h.q1, cell_below hb h.l0, frozen_below hb h.l0 h.lf, cell_below hb h.r0, frozen_below hb h.r0 h.rf, h.ra.below hb, h.rb.below hb, h.rc.below hb, h.rd.below hb, h.below.trans (hb.mono h.below.size)⟩
theorem CwSt.setL (h : CwSt w a b c d ca cb cc cd x y z t e ne ce f nf cf W) (e' : Option Addr) (n' c' : Nat) : CwSt w a b c d ca cb cc cd x y z t e' n' c' f nf cf (W.setCell ⟨w.heap.size + 1 + 1, 0, none⟩ (.slice e' n' c')) :=
  ⟨(cell_other _ (show w.heap.size ≠ w.heap.size + 1 + 1 by omega)).trans h.p0, (cell_other _ (show w.heap.size ≠ w.heap.size + 1 + 1 by omega)).trans h.p1, (cell_other _ (show w.heap.size + 1 ≠ w.heap.size + 1 + 1 by omega)).trans h.q0, (cell_other _ (show w.heap.size + 1 ≠ w.heap.size + 1 + 1 by omega)).trans h.q1,
    World.cell?_setCell_same _ _ _ h.l0, (World.frozen?_setCell _ _ _ _).trans h.lf, (cell_other _ (show w.heap.size + 1 + 1 + 1 ≠ w.heap.size + 1 + 1 by omega)).trans h.r0, (World.frozen?_setCell _ _ _ _).trans h.rf,
    h.ra.storedAt h.l0 _, h.rb.storedAt h.l0 _, h.rc.storedAt h.l0 _, h.rd.storedAt h.l0 _, h.below.setCell (p := ⟨w.heap.size + 1 + 1, 0, none⟩) (by show _ ≤ w.heap.size + 1 + 1; omega) _⟩
theorem CwSt.setR (h : CwSt w a b c d ca cb cc cd x y z t e ne ce f nf cf W) (e' : Option Addr) (n' c' : Nat) : CwSt w a b c d ca cb cc cd x y z t e ne ce e' n' c' (W.setCell ⟨w.heap.size + 1 + 1 + 1, 0, none⟩ (.slice e' n' c')) :=
  ⟨(cell_other _ (show w.heap.size ≠ w.heap.size + 1 + 1 + 1 by omega)).trans h.p0, (cell_other _ (show w.heap.size ≠ w.heap.size + 1 + 1 + 1 by omega)).trans h.p1, (cell_other _ (show w.heap.size + 1 ≠ w.heap.size + 1 + 1 + 1 by omega)).trans h.q0, (cell_other _ (show w.heap.size + 1 ≠ w.heap.size + 1 + 1 + 1 by omega)).trans h.q1,
    (cell_other _ (show w.heap.size + 1 + 1 ≠ w.heap.size + 1 + 1 + 1 by omega)).trans h.l0, (World.frozen?_setCell _ _ _ _).trans h.lf, World.cell?_setCell_same _ _ _ h.r0, (World.frozen?_setCell _ _ _ _).trans h.rf,
    h.ra.storedAt h.r0 _, h.rb.storedAt h.r0 _, h.rc.storedAt h.r0 _, h.rd.storedAt h.r0 _, h.below.setCell (p := ⟨w.heap.size + 1 + 1 + 1, 0, none⟩) (by show _ ≤ w.heap.size + 1 + 1 + 1; omega) _⟩
theorem CwSt.start (hA : Row w a (M.dig x) ca) (hB : Row w b (M.dig y) cb) (hC : Row w c (M.dig z) cc) (hD : Row w d (M.dig t) cd) :
    CwSt w a b c d ca cb cc cd x y z t none 0 0 none 0 0 ((((w.alloc (.cells #[.slice a (M.dig x).length ca, .slice b (M.dig y).length cb] 48)).alloc (.cells #[.slice c (M.dig z).length cc, .slice d (M.dig t).length cd] 48)).alloc (.cells #[.slice none 0 0] 41)).alloc (.cells #[.slice none 0 0] 41)) := by
  obtain ⟨⟨h0, _⟩, h1, _⟩ := two_cells w (.slice a (M.dig x).length ca) (.slice b (M.dig y).length cb) 48
  obtain ⟨⟨h2, _⟩, h3, _⟩ := two_cells (w.alloc (.cells #[.slice a (M.dig x).length ca, .slice b (M.dig y).length cb] 48)) (.slice c (M.dig z).length cc) (.slice d (M.dig t).length cd) 48
  have h4 := cell_new ((w.alloc (.cells #[.slice a (M.dig x).length ca, .slice b (M.dig y).length cb] 48)).alloc (.cells #[.slice c (M.dig z).length cc, .slice d (M.dig t).length cd] 48)) (.slice none 0 0) 41
  have h5 := frozen_new ((w.alloc (.cells #[.slice a (M.dig x).length ca, .slice b (M.dig y).length cb] 48)).alloc (.cells #[.slice c (M.dig z).length cc, .slice d (M.dig t).length cd] 48)) (.slice none 0 0) 41
  have h6 := cell_new (((w.alloc (.cells #[.slice a (M.dig x).length ca, .slice b (M.dig y).length cb] 48)).alloc (.cells #[.slice c (M.dig z).length cc, .slice d (M.dig t).length cd] 48)).alloc (.cells #[.slice none 0 0] 41)) (.slice none 0 0) 41
  have h7 := frozen_new (((w.alloc (.cells #[.slice a (M.dig x).length ca, .slice b (M.dig y).length cb] 48)).alloc (.cells #[.slice c (M.dig z).length cc, .slice d (M.dig t).length cd] 48)).alloc (.cells #[.slice none 0 0] 41)) (.slice none 0 0) 41
  simp only [World.size_alloc] at h2 h3 h4 h5 h6 h7
  exact ⟨cell_later _ (cell_later _ (cell_later _ h0)), cell_later _ (cell_later _ (cell_later _ h1)), cell_later _ (cell_later _ h2), cell_later _ (cell_later _ h3), cell_later _ h4, frozen_later _ h4 h5, h6, h7, (((hA.alloc _).alloc _).alloc _).alloc _, (((hB.alloc _).alloc _).alloc _).alloc _, (((hC.alloc _).alloc _).alloc _).alloc _, (((hD.alloc _).alloc _).alloc _).alloc _,
    ((((Below.refl _ w).alloc (Nat.le_refl _) _).alloc (by simp) _).alloc (by simp; omega) _).alloc (by simp; omega) _⟩
end

end Go.Proofs.YtmejneobfkbgeaaGreatDoor

namespace Go.Proofs.YtmejneobfkbgeaaGreatDoor
open Go Go.RowKit Go.Shelf

end Go.Proofs.YtmejneobfkbgeaaGreatDoor

namespace Go.Proofs.YtmejneobfkbgeaaGreatDoor
open Go Go.RowKit Go.Shelf

theorem sub_num_ge {u v : Value} {x y : Nat} {w : World} (hx : (M.dig x).length ≤ 200) (hy : (M.dig y).length ≤ 200) (hle : y ≤ x) (hu : Num w u x) (hv : Num w v y) :
    Calls Tryz.prog 133 #[u, v] w fun e W' => NatRes (x - y) e W' ∧ Below w.heap.size w W' := by
  obtain ⟨a, ca, rfl, ha⟩ := hu
  obtain ⟨b, cb, rfl, hb⟩ := hv
  exact sub_ge a b ca cb x y w hx hy ha hb hle
theorem sub_num_lt {u v : Value} {x y : Nat} {w : World} (hx : (M.dig x).length ≤ 200) (hy : (M.dig y).length ≤ 200) (hlt : x < y) (hu : Num w u x) (hv : Num w v y) :
    Calls Tryz.prog 133 #[u, v] w fun e W' => e = .returned (.tuple #[.agg #[.slice none 0 0], .int .i64 5]) ∧ Below w.heap.size w W' := by
  obtain ⟨a, ca, rfl, ha⟩ := hu
  obtain ⟨b, cb, rfl, hb⟩ := hv
  exact sub_lt a b ca cb x y w hx hy ha hb hlt
theorem R2St.none {w : World} {a b c d : Option Addr} {ca cb cc cd x y z t : Nat} {W : World} (h : R2St w a b c d ca cb cc cd x y z t W) :
    Below w.heap.size w ((W.setCell ⟨w.heap.size + 1 + 1, 0, none⟩ (.slice none 0 0)).setCell ⟨w.heap.size + 1 + 1, 1, none⟩ (.slice none 0 0)) := by
  have := h.below
  exact (h.below.setCell (by simp; omega) _).setCell (by simp; omega) _
end Go.Proofs.YtmejneobfkbgeaaGreatDoor

namespace Go.Proofs.YtmejneobfkbgeaaGreatDoor
open Go Go.RowKit Go.Shelf

/-- A variable of type Ratio in a block of its own. -/
structure RVar (W : World) (p : Nat) (a : Option Addr) (ca : Nat) (b : Option Addr) (cb x y : Nat) : Prop where
  c0 : W.cell? ⟨p, 0, none⟩ = some (.slice a (M.dig x).length ca)
  c1 : W.cell? ⟨p, 1, none⟩ = some (.slice b (M.dig y).length cb)
  ra : Row W a (M.dig x) ca
  rb : Row W b (M.dig y) cb
section
variable {W W' : World} {p : Nat} {a b : Option Addr} {ca cb x y : Nat}
theorem RVar.new (hA : Row W a (M.dig x) ca) (hB : Row W b (M.dig y) cb) : RVar (W.alloc (.cells #[.slice a (M.dig x).length ca, .slice b (M.dig y).length cb] 48)) W.heap.size a ca b cb x y := by
  obtain ⟨⟨h0, _⟩, h1, _⟩ := two_cells W (.slice a (M.dig x).length ca) (.slice b (M.dig y).length cb) 48
  exact ⟨h0, h1, hA.alloc _, hB.alloc _⟩
theorem RVar.below (h : RVar W p a ca b cb x y) (hb : Below W.heap.size W W') : RVar W' p a ca b cb x y :=
  ⟨cell_below hb h.c0, cell_below hb h.c1, h.ra.below hb, h.rb.below hb⟩
theorem RVar.alloc (h : RVar W p a ca b cb x y) (o : Obj) : RVar (W.alloc o) p a ca b cb x y := h.below ((Below.refl _ W).alloc (Nat.le_refl _) o)
theorem RVar.val (h : RVar W p a ca b cb x y) : RatV W (.agg #[.slice a (M.dig x).length ca, .slice b (M.dig y).length cb]) x y := ⟨a, ca, b, cb, rfl, h.ra, h.rb⟩
theorem RVar.lt (h : RVar W p a ca b cb x y) : p < W.heap.size := lt_of_cell h.c0
end

end Go.Proofs.YtmejneobfkbgeaaGreatDoor

namespace Go.Proofs.YtmejneobfkbgeaaGreatDoor
open Go Go.RowKit Go.Shelf

/-- A result of type Ratio alone in its cell. -/
structure ResSt (w : World) (W : World) : Prop where
  r0 : W.cell? ⟨w.heap.size, 0, none⟩ = some (.slice none 0 0)
  f0 : W.frozen? ⟨w.heap.size, 0, none⟩ = false
  r1 : W.cell? ⟨w.heap.size, 1, none⟩ = some (.slice none 0 0)
  f1 : W.frozen? ⟨w.heap.size, 1, none⟩ = false
  below : Below w.heap.size w W
section
variable {w W W' : World}
theorem ResSt.keep (h : ResSt w W) (hb : Below W.heap.size W W') : ResSt w W' :=
  ⟨cell_below hb h.r0, frozen_below hb h.r0 h.f0, cell_below hb h.r1, frozen_below hb h.r1 h.f1, h.below.trans (hb.mono h.below.size)⟩
theorem ResSt.alloc (h : ResSt w W) (o : Obj) : ResSt w (W.alloc o) := h.keep ((Below.refl _ W).alloc (Nat.le_refl _) o)
theorem ResSt.done {e f : Option Addr} {ce cf k l : Nat} (h : ResSt w W) (hE : Row W e (M.dig k) ce) (hF : Row W f (M.dig l) cf) :
    RatV ((W.setCell ⟨w.heap.size, 0, none⟩ (.slice e (M.dig k).length ce)).setCell ⟨w.heap.size, 1, none⟩ (.slice f (M.dig l).length cf)) (.agg #[.slice e (M.dig k).length ce, .slice f (M.dig l).length cf]) k l ∧
    Below w.heap.size w ((W.setCell ⟨w.heap.size, 0, none⟩ (.slice e (M.dig k).length ce)).setCell ⟨w.heap.size, 1, none⟩ (.slice f (M.dig l).length cf)) := by
  have r2 : (W.setCell ⟨w.heap.size, 0, none⟩ (.slice e (M.dig k).length ce)).cell? ⟨w.heap.size, 1, none⟩ = some (.slice none 0 0) := (World.cell?_setCell_other _ _ _ _ (by intro e; cases e)).trans h.r1
  exact ⟨⟨e, ce, f, cf, rfl, (hE.storedAt h.r0 _).storedAt r2 _, (hF.storedAt h.r0 _).storedAt r2 _⟩, (h.below.setCell (p := ⟨w.heap.size, 0, none⟩) (Nat.le_refl _) _).setCell (p := ⟨w.heap.size, 1, none⟩) (Nat.le_refl _) _⟩
end

end Go.Proofs.YtmejneobfkbgeaaGreatDoor

namespace Go.Proofs.YtmejneobfkbgeaaGreatDoor
open Go Go.RowKit Go.Shelf

theorem decs_eleven : (M.decs 2 11).map UInt8.ofNat = [49, 49] := by decide
theorem decs_six : (M.decs 1 6).map UInt8.ofNat = [54] := by decide
set_option maxRecDepth 100000 in
theorem print_eleven {a : Option Addr} {cap : Nat} {w : World} (hR : Row w a (M.dig 11) cap) :
    Calls Tryz.prog 19 #[.agg #[.slice a (M.dig 11).length cap]] w fun e W' => e = .returned (.string ⟨#[49, 49]⟩) ∧ Below w.heap.size w W' :=
  (print_pos a cap 11 w (by omega) (small_len (by decide)) hR).mono fun _ _ h => ⟨(prPost_at (K := 2) h.1 (by decide)).trans (by rw [decs_eleven]), h.2⟩
set_option maxRecDepth 100000 in
theorem print_six {a : Option Addr} {cap : Nat} {w : World} (hR : Row w a (M.dig 6) cap) :
    Calls Tryz.prog 19 #[.agg #[.slice a (M.dig 6).length cap]] w fun e W' => e = .returned (.string ⟨#[54]⟩) ∧ Below w.heap.size w W' :=
  (print_pos a cap 6 w (by omega) (small_len (by decide)) hR).mono fun _ _ h => ⟨(prPost_at (K := 1) h.1 (by decide)).trans (by rw [decs_six]), h.2⟩

set_option maxRecDepth 100000 in
set_option maxHeartbeats 2000000 in
theorem ratPrint_116 {u : Value} {w : World} (hu : RatV w u 11 6) :
    Calls Tryz.prog 20 #[u] w fun e W' => e = .returned (.string ⟨#[49, 49, 47, 54]⟩) ∧ Below w.heap.size w W' := by
  obtain ⟨a, ca, b, cb, rfl, hA, hB⟩ := hu
  have A := Lib.hid (RVar.new hA hB)
  have HB := Lib.hid (show Below w.heap.size w (w.alloc (.cells #[.slice a (M.dig 11).length ca, .slice b (M.dig 6).length cb] 48)) from ((Below.refl _ w).alloc (Nat.le_refl _) _))
  have hv := ratValid_yes (x := 11) (y := 6) A.out.val (by decide) (by decide) (small_len (by decide)) (small_len (by decide))
  have HV := Lib.hid hv
  have P11 := Lib.hid (fun (W : World) (h : Row W a (M.dig 11) ca) => print_eleven h)
  have P6 := Lib.hid (fun (W : World) (h : Row W b (M.dig 6) cb) => print_six h)
  clear hA hB hv
  have HA := Lib.hid A.out.ra
  have HBr := Lib.hid A.out.rb
  clear A
  generalize M.dig 11 = d11 at *
  generalize M.dig 6 = d6 at *
  have p0 : (w.alloc (.cells #[.slice a d11.length ca, .slice b d6.length cb] 48)).cell? ⟨w.heap.size, 0, none⟩ = some (.slice a d11.length ca) := (two_cells w _ _ _).1.1
  have p1 : (w.alloc (.cells #[.slice a d11.length ca, .slice b d6.length cb] 48)).cell? ⟨w.heap.size, 1, none⟩ = some (.slice b d6.length cb) := (two_cells w _ _ _).2.1
  go_enter Tryz.func20, Tryz.ntmps20
  go_wp2_with fail
  generalize (w.alloc (.cells #[.slice a d11.length ca, .slice b d6.length cb] 48)) = w1 at *
  refine HV.out.mono ?_
  rintro e w2 ⟨rfl, hb2⟩
  have HB2 := Lib.hid (HB.out.trans (hb2.mono HB.out.size))
  have q0 := cell_below hb2 p0
  have q1 := cell_below hb2 p1
  have HRA := Lib.hid (HA.out.below hb2)
  have HRB := Lib.hid (HBr.out.below hb2)
  clear hb2 HB HA HBr p0 p1 HV
  go_wp2_with fail
  have hra : Row w2.drew a d11 ca := HRA.out.drewN 1
  have hrb : Row w2.drew b d6 cb := HRB.out.drewN 1
  have hB2 : Below w.heap.size w w2.drew := belowN HB2.out 1
  have q1d : w2.drew.cell? ⟨w.heap.size, 1, none⟩ = some (.slice b d6.length cb) := q1
  go_region_law (first
    | (go_simp; go_at_call 19; (with_reducible refine (P11.out _ hra).mono ?_); rintro e w5 ⟨rfl, hb5⟩; have q1' : w5.cell? ⟨w.heap.size, 1, none⟩ = some (.slice b d6.length cb) := cell_below hb5 q1d; have HRB5 := Lib.hid (hrb.below hb5); have HB5 := Lib.hid (hB2.trans (hb5.mono hB2.size)); clear hb5; go_simp)
    | (go_simp; go_at_call 19; (with_reducible refine (P6.out _ HRB5.out).mono ?_); rintro e w6 ⟨rfl, hb6⟩; have HB6 := Lib.hid (HB5.out.trans (hb6.mono HB5.out.size)); clear hb6; go_simp))
  all_goals
    go_wp2_with fail
    go_ret
    exact ⟨by rfl, HB6.out⟩
end Go.Proofs.YtmejneobfkbgeaaGreatDoor

namespace Go.Proofs.YtmejneobfkbgeaaGreatDoor
open Go Go.RowKit Go.Shelf

def dvalN (l : List Nat) : Nat := l.foldl (fun v c => v * 10 + (c - 48)) 0
theorem dvalN_snoc (l : List Nat) (c : Nat) : dvalN (l ++ [c]) = dvalN l * 10 + (c - 48) := by unfold dvalN; rw [List.foldl_append]; rfl
theorem dvalN_dg (k g : Nat) : dvalN (M.dg k g).reverse = g % 10 ^ k := by
  induction k generalizing g with
  | zero => rw [Nat.pow_zero, Nat.mod_one]; rfl
  | succ k ih =>
    rw [M.dg, List.reverse_cons, dvalN_snoc, ih, Nat.pow_succ, Nat.mul_comm (10 ^ k) 10, Nat.mod_mul]
    omega
theorem dvalN_drop (l : List Nat) : dvalN (l.dropWhile (· == 48)) = dvalN l := by
  induction l with
  | nil => rfl
  | cons c l ih =>
    by_cases h : c = 48
    · subst h; rw [List.dropWhile_cons_of_pos rfl, ih]; rfl
    · rw [List.dropWhile_cons_of_neg (by simpa using h)]
theorem dval_map (l : List Nat) (h : ∀ b ∈ l, b < 256) : dval (l.map UInt8.ofNat) = dvalN l := by
  unfold dval dvalN
  generalize 0 = v
  induction l generalizing v with
  | nil => rfl
  | cons c l ih =>
    have hc := h c (List.mem_cons_self ..)
    simp only [List.map_cons, List.foldl_cons]
    rw [ih (fun b hb => h b (List.mem_cons_of_mem _ hb))]
    congr 2
    rw [UInt8.toNat_ofNat']; omega
theorem mem_dropWhile {p : Nat → Bool} {l : List Nat} {b : Nat} (h : b ∈ l.dropWhile p) : b ∈ l := (List.dropWhile_sublist p).mem h
theorem decs_byte (k n : Nat) : ∀ b ∈ M.decs k n, 48 ≤ b ∧ b ≤ 57 := fun b hb => M.dg_byte k n b (by have := mem_dropWhile hb; simpa using this)
theorem dvalN_decs {k n : Nat} (h : n < 10 ^ k) : dvalN (M.decs k n) = n := by
  unfold M.decs; rw [dvalN_drop, dvalN_dg, Nat.mod_eq_of_lt h]
theorem decs_len (k n : Nat) : (M.decs k n).length ≤ k := by
  unfold M.decs
  have := (List.dropWhile_sublist (l := (M.dg k n).reverse) (· == 48)).length_le
  rw [List.length_reverse, M.dg_len] at this
  exact this
theorem decs_head {k n : Nat} : (M.decs k n).head? ≠ some 48 := by
  unfold M.decs
  intro h
  have := List.head?_dropWhile_not (· == 48) (M.dg k n).reverse
  rw [h] at this
  simp at this

/-- The text of n. -/
def TextOf (n : Nat) (s : ByteArray) : Prop := decB s = true ∧ dval s.data.toList = n

theorem text_decs {k n : Nat} (h0 : 0 < n) (h : n < 10 ^ k) : TextOf n ⟨((M.decs k n).map UInt8.ofNat).toArray⟩ := by
  have hb := decs_byte k n
  refine ⟨?_, by rw [List.toList_toArray, dval_map _ (fun b hm => by have := hb b hm; omega), dvalN_decs h]⟩
  unfold decB
  simp only
  have hall : ((M.decs k n).map UInt8.ofNat).all digB = true := by
    rw [List.all_eq_true]
    intro c hc
    obtain ⟨b, hm, rfl⟩ := List.mem_map.1 hc
    have := hb b hm
    unfold digB
    rw [UInt8.toNat_ofNat', Bool.and_eq_true, decide_eq_true_eq, decide_eq_true_eq]; omega
  have hne : (M.decs k n).map UInt8.ofNat ≠ [] := by
    intro e
    have : M.decs k n = [] := List.map_eq_nil_iff.1 e
    have h1 := dvalN_decs h
    rw [this] at h1
    have : dvalN [] = 0 := rfl
    omega
  have hh : ((M.decs k n).map UInt8.ofNat).head? ≠ some 48 := by
    rw [List.head?_map]
    cases hd : (M.decs k n).head? with
    | none => simp
    | some b =>
      have hm : b ∈ M.decs k n := List.mem_of_head? hd
      have h1 := hb b hm
      have h2 := decs_head (k := k) (n := n)
      rw [hd] at h2
      intro e
      apply h2
      have := congrArg UInt8.toNat (Option.some.inj e)
      rw [UInt8.toNat_ofNat'] at this
      have h48 : (48 : UInt8).toNat = 48 := rfl
      rw [h48] at this
      congr 1; omega
  rw [hall, decide_eq_true hne, decide_eq_true hh]
  simp

theorem text_zero : TextOf 0 ⟨#[48]⟩ := ⟨rfl, rfl⟩

set_option maxRecDepth 100000 in
set_option maxHeartbeats 1000000 in
theorem print_zero (a : Option Addr) (cap : Nat) (w : World) (hR : Row w a [] cap) :
    Calls Tryz.prog 19 #[.agg #[.slice a 0 cap]] w fun e W' => e = .returned (.string ⟨#[48]⟩) ∧ Below w.heap.size w W' := by
  have hb1 := (Below.refl _ w).alloc (Nat.le_refl _) (.cells #[.slice a 0 cap] 41)
  have c0 := cell_new w (.slice a 0 cap) 41
  have HV := Lib.hid (valid_yes a [] cap _ (hR.below hb1) (by have := vld_dig (n := 0) (by rw [M.dig_zero]; simp); rwa [M.dig_zero] at this))
  have HB1 := Lib.hid hb1
  clear hb1 hR
  go_enter Tryz.func19, Tryz.ntmps19
  go_wp2_with fail
  refine HV.out.mono ?_
  rintro e w2 ⟨rfl, hb2⟩
  have c2 := (hb2.cell (p := ⟨w.heap.size, 0, none⟩) (by simp)).trans c0
  have HB2 := Lib.hid (HB1.out.trans (hb2.mono (by simp)))
  clear hb2 c0
  go_wp2_with fail
  go_ret
  exact ⟨rfl, HB2.out⟩

/-- **nat.Print**, of numbers below 10^j. -/
theorem print_text (a : Option Addr) (cap n j : Nat) (w : World) (hj : n < 10 ^ j) (hj1 : 1 ≤ j) (hlen : (M.dig n).length ≤ 200) (hR : Row w a (M.dig n) cap) :
    Calls Tryz.prog 19 #[.agg #[.slice a (M.dig n).length cap]] w fun e W' => (∃ s, e = .returned (.string s) ∧ TextOf n s ∧ s.size ≤ j) ∧ Below w.heap.size w W' := by
  rcases Nat.eq_zero_or_pos n with rfl | h0
  · rw [M.dig_zero] at hR ⊢
    exact (print_zero a cap w hR).mono fun e W' ⟨he, hb⟩ => ⟨⟨_, he, text_zero, hj1⟩, hb⟩
  · refine (print_pos a cap n w h0 hlen hR).mono ?_
    rintro e W' ⟨⟨k, hk, rfl⟩, hb⟩
    refine ⟨⟨_, rfl, text_decs h0 hk, ?_⟩, hb⟩
    rw [M.decs_any hk hj]
    have := decs_len j n
    simpa [ByteArray.size] using this
end Go.Proofs.YtmejneobfkbgeaaGreatDoor

namespace Go.Proofs.YtmejneobfkbgeaaGreatDoor
open Go Go.RowKit Go.Shelf

theorem decs_one : (M.decs 1 1).map UInt8.ofNat = [49] := by decide
theorem decs_255 : (M.decs 3 255).map UInt8.ofNat = [50, 53, 53] := by decide
set_option maxRecDepth 100000 in
theorem print_one {a : Option Addr} {cap : Nat} {w : World} (hR : Row w a (M.dig 1) cap) :
    Calls Tryz.prog 19 #[.agg #[.slice a (M.dig 1).length cap]] w fun e W' => e = .returned (.string ⟨#[49]⟩) ∧ Below w.heap.size w W' :=
  (print_pos a cap 1 w (by omega) (small_len (by decide)) hR).mono fun _ _ h => ⟨(prPost_at (K := 1) h.1 (by decide)).trans (by rw [decs_one]), h.2⟩
set_option maxRecDepth 100000 in
theorem print_255 {a : Option Addr} {cap : Nat} {w : World} (hR : Row w a (M.dig 255) cap) :
    Calls Tryz.prog 19 #[.agg #[.slice a (M.dig 255).length cap]] w fun e W' => e = .returned (.string ⟨#[50, 53, 53]⟩) ∧ Below w.heap.size w W' :=
  (print_pos a cap 255 w (by omega) (small_len (by decide)) hR).mono fun _ _ h => ⟨(prPost_at (K := 3) h.1 (by decide)).trans (by rw [decs_255]), h.2⟩

set_option maxRecDepth 100000 in
set_option maxHeartbeats 2000000 in
theorem ratPrint_1255 {u : Value} {w : World} (hu : RatV w u 1 255) :
    Calls Tryz.prog 20 #[u] w fun e W' => e = .returned (.string ⟨#[49, 47, 50, 53, 53]⟩) ∧ Below w.heap.size w W' := by
  obtain ⟨a, ca, b, cb, rfl, hA, hB⟩ := hu
  have A := Lib.hid (RVar.new hA hB)
  have HB := Lib.hid (show Below w.heap.size w (w.alloc (.cells #[.slice a (M.dig 1).length ca, .slice b (M.dig 255).length cb] 48)) from ((Below.refl _ w).alloc (Nat.le_refl _) _))
  have hv := ratValid_yes (x := 1) (y := 255) A.out.val (by decide) (by decide) (small_len (by decide)) (small_len (by decide))
  have HV := Lib.hid hv
  have P11 := Lib.hid (fun (W : World) (h : Row W a (M.dig 1) ca) => print_one h)
  have P6 := Lib.hid (fun (W : World) (h : Row W b (M.dig 255) cb) => print_255 h)
  clear hA hB hv
  have HA := Lib.hid A.out.ra
  have HBr := Lib.hid A.out.rb
  clear A
  generalize M.dig 1 = d11 at *
  generalize M.dig 255 = d6 at *
  have p0 : (w.alloc (.cells #[.slice a d11.length ca, .slice b d6.length cb] 48)).cell? ⟨w.heap.size, 0, none⟩ = some (.slice a d11.length ca) := (two_cells w _ _ _).1.1
  have p1 : (w.alloc (.cells #[.slice a d11.length ca, .slice b d6.length cb] 48)).cell? ⟨w.heap.size, 1, none⟩ = some (.slice b d6.length cb) := (two_cells w _ _ _).2.1
  go_enter Tryz.func20, Tryz.ntmps20
  go_wp2_with fail
  generalize (w.alloc (.cells #[.slice a d11.length ca, .slice b d6.length cb] 48)) = w1 at *
  refine HV.out.mono ?_
  rintro e w2 ⟨rfl, hb2⟩
  have HB2 := Lib.hid (HB.out.trans (hb2.mono HB.out.size))
  have q0 := cell_below hb2 p0
  have q1 := cell_below hb2 p1
  have HRA := Lib.hid (HA.out.below hb2)
  have HRB := Lib.hid (HBr.out.below hb2)
  clear hb2 HB HA HBr p0 p1 HV
  go_wp2_with fail
  have hra : Row w2.drew a d11 ca := HRA.out.drewN 1
  have hrb : Row w2.drew b d6 cb := HRB.out.drewN 1
  have hB2 : Below w.heap.size w w2.drew := belowN HB2.out 1
  have q1d : w2.drew.cell? ⟨w.heap.size, 1, none⟩ = some (.slice b d6.length cb) := q1
  go_region_law (first
    | (go_simp; go_at_call 19; (with_reducible refine (P11.out _ hra).mono ?_); rintro e w5 ⟨rfl, hb5⟩; have q1' : w5.cell? ⟨w.heap.size, 1, none⟩ = some (.slice b d6.length cb) := cell_below hb5 q1d; have HRB5 := Lib.hid (hrb.below hb5); have HB5 := Lib.hid (hB2.trans (hb5.mono hB2.size)); clear hb5; go_simp)
    | (go_simp; go_at_call 19; (with_reducible refine (P6.out _ HRB5.out).mono ?_); rintro e w6 ⟨rfl, hb6⟩; have HB6 := Lib.hid (HB5.out.trans (hb6.mono HB5.out.size)); clear hb6; go_simp))
  all_goals
    go_wp2_with fail
    go_ret
    exact ⟨by rfl, HB6.out⟩
end Go.Proofs.YtmejneobfkbgeaaGreatDoor

namespace Go.Proofs.YtmejneobfkbgeaaGreatDoor
open Go Go.RowKit Go.Shelf

namespace C
theorem ok11 : Ok 1 1 0 := ⟨by omega, by omega, by omega, by omega, by omega⟩
theorem wrong112 : wrongN 2 1 2 0 = 255 := by rw [wrong0 2 1 2 (by omega) (by omega), words112]
theorem err22 : errN 2 2 = 65025 := by decide
set_option maxRecDepth 100000 in
set_option maxHeartbeats 2000000 in
/-- **chance.Chance** of one data byte and one check byte, for two wrong bytes -/
theorem chance_112 (u : World) :
    Calls Tryz.prog 17 #[.agg #[.int .i64 2, .int .i64 1, .int .i64 1, .int .i64 0], .int .i64 2] u fun e W => (∃ r, e = .returned (.tuple #[r, .int .i64 0]) ∧ RatV W r 1 255) ∧ Below u.heap.size u W := by
  have HW := Lib.hid (fun W => (show Calls Tryz.prog 13 #[.agg #[.int .i64 2, .int .i64 1, .int .i64 1, .int .i64 0], .int .i64 2] W fun e W' => NumE 255 e W' ∧ Below W.heap.size W W' from by
    have h := wrong_any ok11 2 (by omega) W
    rw [wrong112] at h
    exact h))
  have HE := Lib.hid (fun W => (show Calls Tryz.prog 22 #[.agg #[.int .i64 2, .int .i64 1, .int .i64 1, .int .i64 0], .int .i64 2] W fun e W' => NumE 65025 e W' ∧ Below W.heap.size W W' from by
    have h := errors_any ok11 2 (by omega) W
    rw [err22] at h
    exact h))
  obtain ⟨u1, hu1, hbx1, hB1, hs1⟩ := CBox.new u 1 1 0
  have hu1' : u.alloc (.cells #[.int .i64 2, .int .i64 1, .int .i64 1, .int .i64 0] 23) = u1 := hu1
  obtain ⟨u2, hu2⟩ : ∃ u2, u1.alloc (.cells #[.slice none 0 0, .slice none 0 0] 48) = u2 := ⟨_, rfl⟩
  have hb2 := G.Box.new u1 48 [.slice none 0 0, .slice none 0 0]
  have hB2 : Below u1.heap.size u1 u2 := by rw [← hu2]; exact (Below.refl _ u1).alloc (Nat.le_refl _) _
  obtain ⟨pr, hpr⟩ : ∃ pr, u1.heap.size = pr := ⟨_, rfl⟩
  have hb2' : G.Box u2 pr 48 [.slice none 0 0, .slice none 0 0] := by rw [← hu2, ← hpr]; exact hb2
  have HC := Lib.hid (hbx1.below hB2)
  have HR := Lib.hid hb2'
  have hs := hB1.size
  have hpr0 : u.heap.size ≤ pr := by omega
  have HB := Lib.hid (hB1.trans (hB2.mono (by omega)))
  obtain ⟨k0, k1, k2, k3⟩ := HC.out.at
  have k1' : u2.cell? ⟨u.heap.size, 1, none⟩ = some (.int .i64 1) := k1
  have k2' : u2.cell? ⟨u.heap.size, 2, none⟩ = some (.int .i64 1) := k2
  have k3' : u2.cell? ⟨u.heap.size, 3, none⟩ = some (.int .i64 0) := k3
  clear hu1 hb2 hb2' hB1 hB2 hbx1 hs hs1 k1 k2 k3
  go_enter Tryz.func17, Tryz.ntmps17
  go_wp2_with fail
  (with_reducible refine (HW.out _).mono ?_)
  rintro e w1 ⟨⟨a, ca, rfl, hr⟩, hb1⟩
  have hv := Bx.new hr
  obtain ⟨pa, hpa⟩ : ∃ p, w1.heap.size = p := ⟨_, rfl⟩
  obtain ⟨w2, hw2⟩ : ∃ w2, w1.alloc (.cells #[.slice a (M.dig 255).length ca] 41) = w2 := ⟨_, rfl⟩
  have hbw : Below w1.heap.size w1 w2 := by rw [← hw2]; exact (Below.refl _ w1).alloc (Nat.le_refl _) _
  have hb12 := hb1.trans (hbw.mono hb1.size)
  have ha2 : w2.cell? ⟨pa, 0, none⟩ = some (.slice a (M.dig 255).length ca) := by rw [← hw2, ← hpa]; exact cell_new _ _ _
  have HRA := Lib.hid (hr.below hbw)
  have HC2 := Lib.hid (HC.out.below hb12)
  have HR2 := Lib.hid (HR.out.below hb12)
  have HB2 := Lib.hid (HB.out.trans (hb12.mono HB.out.size))
  obtain ⟨q0, q1, q2, q3⟩ := HC2.out.at
  have q1' : w2.cell? ⟨u.heap.size, 1, none⟩ = some (.int .i64 1) := q1
  have q2' : w2.cell? ⟨u.heap.size, 2, none⟩ = some (.int .i64 1) := q2
  have q3' : w2.cell? ⟨u.heap.size, 3, none⟩ = some (.int .i64 0) := q3
  clear hr hv hb1 hbw hb12 HC HR HB k0 k1' k2' k3' q1 q2 q3 HW
  go_wp2_with fail
  (with_reducible refine (HE.out _).mono ?_)
  rintro e w3 ⟨⟨b, cb, rfl, hr⟩, hb3⟩
  obtain ⟨pb, hpb⟩ : ∃ p, w3.heap.size = p := ⟨_, rfl⟩
  obtain ⟨w4, hw4⟩ : ∃ w4, w3.alloc (.cells #[.slice b (M.dig 65025).length cb] 41) = w4 := ⟨_, rfl⟩
  have hbw : Below w3.heap.size w3 w4 := by rw [← hw4]; exact (Below.refl _ w3).alloc (Nat.le_refl _) _
  have hb34 := hb3.trans (hbw.mono hb3.size)
  have hb4 : w4.cell? ⟨pb, 0, none⟩ = some (.slice b (M.dig 65025).length cb) := by rw [← hw4, ← hpb]; exact cell_new _ _ _
  have ha4 : w4.cell? ⟨pa, 0, none⟩ = some (.slice a (M.dig 255).length ca) := (hb34.cell (lt_of_cell ha2)).trans ha2
  have HMK := Lib.hid (make_pos a b ca cb 255 65025 w4 (by omega) (small_len (by decide)) (small_len (by decide)) (HRA.out.below hb34) (hr.below hbw))
  have HR4 := Lib.hid (HR2.out.below hb34)
  have HB4 := Lib.hid (HB2.out.trans (hb34.mono HB2.out.size))
  clear hr hb3 hbw hb34 HC2 HR2 HB2 q0 q1' q2' q3' HE HRA ha2
  go_wp2_with fail
  (with_reducible refine HMK.out.mono ?_)
  rintro e w5 ⟨⟨v, rfl, a5, c5, b5, d5, rfl, h5a, h5b⟩, hb5⟩
  rw [show (255 : Nat) / Nat.gcd 255 65025 = 1 by decide] at h5a ⊢
  rw [show (65025 : Nat) / Nat.gcd 255 65025 = 255 by decide] at h5b ⊢
  have hr5 := HR4.out.below hb5
  have d0 := hr5.cell 0 rfl
  have d1 := hr5.cell 1 rfl
  have f0 := hr5.free 0
  have f1 := hr5.free 1
  have hr6 := hr5.set 0 (.slice a5 (M.dig 1).length c5)
  have e1 := hr6.cell 1 rfl
  have g1 := hr6.free 1
  have hr7 := hr6.set 1 (.slice b5 (M.dig 255).length d5)
  obtain ⟨w6, hw6⟩ : ∃ w6, w5.setCell ⟨pr, 0, none⟩ (.slice a5 (M.dig 1).length c5) = w6 := ⟨_, rfl⟩
  obtain ⟨w7, hw7⟩ : ∃ w7, w6.setCell ⟨pr, 1, none⟩ (.slice b5 (M.dig 255).length d5) = w7 := ⟨_, rfl⟩
  have i0 := hr7.cell 0 rfl
  have i1 := hr7.cell 1 rfl
  have ra6 := h5a.store d0 (.slice a5 (M.dig 1).length c5)
  have rb6 := h5b.store d0 (.slice a5 (M.dig 1).length c5)
  have RA := Lib.hid (ra6.store e1 (.slice b5 (M.dig 255).length d5))
  have RB := Lib.hid (rb6.store e1 (.slice b5 (M.dig 255).length d5))
  have HB7 := Lib.hid (((HB4.out.trans (hb5.mono HB4.out.size)).setCell (p := ⟨pr, 0, none⟩) hpr0 (.slice a5 (M.dig 1).length c5)).setCell (p := ⟨pr, 1, none⟩) hpr0 (.slice b5 (M.dig 255).length d5))
  rw [hw6] at e1 g1 i0 i1 RA RB HB7
  rw [hw7] at i0 i1 RA RB HB7
  clear hr5 hr6 hr7 ra6 rb6 h5a h5b hb5 HR4 HB4 HMK
  go_wp2_with fail
  exact bodyPost_ret (v := .tuple #[.agg #[.slice a5 (M.dig 1).length c5, .slice b5 (M.dig 255).length d5], .int .i64 0]) (by simp [results, Tryz.results17, go_sem, i0, i1]) rfl ⟨⟨_, rfl, a5, c5, b5, d5, rfl, RA.out, RB.out⟩, HB7.out⟩
end C
end Go.Proofs.YtmejneobfkbgeaaGreatDoor

namespace Go.Proofs.YtmejneobfkbgeaaGreatDoor.IN
def el (zs : List Int) (k : Nat) : Int := zs[k]?.getD 0
end Go.Proofs.YtmejneobfkbgeaaGreatDoor.IN
namespace Go.Proofs.YtmejneobfkbgeaaGreatDoor.G
open Go Go.RowKit Go.Shelf

theorem mod_any (n m : Int) (hm : 1 ≤ m) (hm2 : m ≤ 1000000) (w : World) :
    Calls Tryz.prog 11 #[.int .i64 n, .int .i64 m] w fun e w' => e = .returned (.int .i64 (n % m)) ∧ w = w' := by
  have hs : n.tmod m < 0 → n.tmod m + m = n % m ∧ -1000000 < n.tmod m := by
    intro h
    rcases Int.le_total 0 n with hn | hn
    · rw [Int.tmod_eq_emod_of_nonneg hn] at h
      have := Int.emod_nonneg n (by omega : m ≠ 0)
      omega
    · have e := Int.neg_tmod (a := -n) (b := m)
      rw [Int.neg_neg, Int.tmod_eq_emod_of_nonneg (by omega : 0 ≤ -n)] at e
      have h1 := Int.emod_lt_of_pos (-n) (by omega : 0 < m)
      have h2 := Int.emod_nonneg (-n) (by omega : m ≠ 0)
      refine ⟨?_, by omega⟩
      have h3 : n % m = (n.tmod m + m) % m := by
        rw [e, Int.add_emod_right]
        have h4 : (-((-n) % m)) % m = (-(-n)) % m := by
          have := Int.emod_add_mul_ediv (-n) m
          have h5 : -((-n) % m) = -(-n) + m * ((-n) / m) := by omega
          rw [h5, Int.add_mul_emod_self_left]
        rw [h4, Int.neg_neg]
      rw [h3, Int.emod_eq_of_lt (by omega) (by omega)]
  have hp : ¬ n.tmod m < 0 → n.tmod m = n % m := by
    intro h
    rcases Int.le_total 0 n with hn | hn
    · exact Int.tmod_eq_emod_of_nonneg hn
    · have e := Int.neg_tmod (a := -n) (b := m)
      rw [Int.neg_neg, Int.tmod_eq_emod_of_nonneg (by omega : 0 ≤ -n)] at e
      have h2 := Int.emod_nonneg (-n) (by omega : m ≠ 0)
      have h0 : (-n) % m = 0 := by omega
      have h6 : m ∣ -n := Int.dvd_of_emod_eq_zero h0
      rw [e, h0, Int.emod_eq_zero_of_dvd (Int.dvd_neg.1 h6)]; rfl
  have hm0 : ¬ m < 1 := by omega
  have hz : m ≠ 0 := by omega
  by_cases h : n.tmod m < 0
  · have hb := (hs h).2
    have HR := Lib.hid (hs h).1
    clear hs hp
    go_enter Tryz.func11, Tryz.ntmps11
    go_wp2_with fail
    go_ret
    exact ⟨ret_int HR.out, rfl⟩
  · have HR := Lib.hid (hp h)
    have h' : 0 ≤ n.tmod m := by omega
    clear hs hp
    go_enter Tryz.func11, Tryz.ntmps11
    go_wp2_with fail
    go_ret
    exact ⟨ret_int HR.out, rfl⟩

/-- The slice at a, of capacity cap, holds the ints zs. -/
structure IRow (w : World) (a : Option Addr) (zs : List Int) (cap : Nat) : Prop where
  room : zs.length ≤ cap
  most : cap ≤ 9223372036854775807
  el : ∀ j, j < zs.length → ∃ b off, a = some ⟨b, off, none⟩ ∧ w.cell? ⟨b, off + j, none⟩ = some (.int .i64 (IN.el zs j))
theorem IRow.below {w w' : World} {a : Option Addr} {zs : List Int} {cap : Nat} (h : IRow w a zs cap) (hb : Below w.heap.size w w') : IRow w' a zs cap :=
  ⟨h.room, h.most, fun j hj => by
    obtain ⟨b, off, e, hc⟩ := h.el j hj
    exact ⟨b, off, e, (hb.cell (p := ⟨b, off + j, none⟩) (lt_of_cell hc)).trans hc⟩⟩
theorem IRow.drewN {w : World} {a : Option Addr} {zs : List Int} {cap : Nat} (h : IRow w a zs cap) (n : Nat) : IRow (w.drewN n) a zs cap := ⟨h.room, h.most, h.el⟩
theorem IRow.alloc {w : World} {a : Option Addr} {zs : List Int} {cap : Nat} (h : IRow w a zs cap) (o : Obj) : IRow (w.alloc o) a zs cap :=
  h.below ((Below.refl _ w).alloc (Nat.le_refl _) _)
theorem mod_nat (x : Int) (n : Nat) (hn : 0 < n) : ∃ r : Nat, x % (n : Int) = (r : Int) ∧ r < n := by
  have h1 := Int.emod_nonneg x (b := (n : Int)) (by omega)
  have h2 := Int.emod_lt_of_pos x (b := (n : Int)) (by omega)
  exact ⟨(x % (n : Int)).toNat, by omega, by omega⟩

/-- The dice in block dp: the numbers ts, k of which have been given out. -/
structure Dice (W : World) (dp : Nat) (a : Option Addr) (cap : Nat) (ts : List Int) (k : Nat) : Prop where
  list : W.cell? ⟨dp, 0, none⟩ = some (.slice a ts.length cap)
  at' : W.cell? ⟨dp, 1, none⟩ = some (.int .i64 (k : Int))
  free : W.frozen? ⟨dp, 1, none⟩ = false
  row : IRow W a ts cap
  least : k ≤ ts.length
  few : ts.length ≤ 400
  other : ∀ b off, a = some ⟨b, off, none⟩ → 0 < ts.length → b ≠ dp

theorem Dice.below {W W' : World} {dp : Nat} {a : Option Addr} {cap : Nat} {ts : List Int} {k : Nat} (h : Dice W dp a cap ts k) (hb : Below W.heap.size W W') : Dice W' dp a cap ts k :=
  ⟨(hb.cell (p := ⟨dp, 0, none⟩) (lt_of_cell h.list)).trans h.list, (hb.cell (p := ⟨dp, 1, none⟩) (lt_of_cell h.at')).trans h.at', (hb.frozen (p := ⟨dp, 1, none⟩) (lt_of_cell h.at')).trans h.free, h.row.below hb, h.least, h.few, h.other⟩
theorem Dice.lt {W : World} {dp : Nat} {a : Option Addr} {cap : Nat} {ts : List Int} {k : Nat} (h : Dice W dp a cap ts k) : dp < W.heap.size := lt_of_cell h.list
theorem Dice.alloc {W : World} {dp : Nat} {a : Option Addr} {cap : Nat} {ts : List Int} {k : Nat} (h : Dice W dp a cap ts k) (o : Obj) : Dice (W.alloc o) dp a cap ts k :=
  h.below ((Below.refl _ W).alloc (Nat.le_refl _) _)
theorem Dice.drewN {W : World} {dp : Nat} {a : Option Addr} {cap : Nat} {ts : List Int} {k : Nat} (h : Dice W dp a cap ts k) (n : Nat) : Dice (W.drewN n) dp a cap ts k :=
  ⟨h.list, h.at', h.free, h.row.drewN n, h.least, h.few, h.other⟩
/-- One number more has been given out. -/
theorem Dice.next {W : World} {dp : Nat} {a : Option Addr} {cap : Nat} {ts : List Int} {k : Nat} (h : Dice W dp a cap ts k) (hk : k < ts.length) : Dice (W.setCell ⟨dp, 1, none⟩ (.int .i64 ((k : Int) + 1))) dp a cap ts (k + 1) :=
  ⟨(World.cell?_setCell_other _ _ _ _ (by intro e; cases e)).trans h.list, World.cell?_setCell_same' _ _ _ (by rw [h.at']; rfl), (World.frozen?_setCell _ _ _ _).trans h.free,
    ⟨h.row.room, h.row.most, fun j hj => by
      obtain ⟨b, off, e, hc⟩ := h.row.el j hj
      exact ⟨b, off, e, (cell_other _ (by intro e2; exact h.other b off e (by omega) e2)).trans hc⟩⟩, by omega, h.few, h.other⟩


/-- What Next gives: a number below n; only the dice have turned. -/
def NextPost (w : World) (dp : Nat) (a : Option Addr) (cap : Nat) (ts : List Int) (n : Nat) (e : Ending) (W : World) : Prop :=
  ∃ (r k' : Nat), r < n ∧ e = .returned (.int .i64 (r : Int)) ∧ Dice W dp a cap ts k' ∧ w.grownBy W (some dp)

set_option maxRecDepth 100000 in
set_option maxHeartbeats 1000000 in
theorem next_any (w : World) (dp : Nat) (a : Option Addr) (cap : Nat) (ts : List Int) (k n : Nat) (hn : 0 < n) (hn2 : n ≤ 1000000) (hD : Dice w dp a cap ts k) :
    Calls Tryz.prog 10 #[.pointer (some ⟨dp, 0, none⟩), .int .i64 (n : Int)] w (NextPost w dp a cap ts n) := by
  have c0 := hD.list
  have c1 := hD.at'
  have f1 := hD.free
  have hfew := hD.few
  have hleast := hD.least
  have HD := Lib.hid hD
  clear hD
  by_cases hk : k < ts.length
  · obtain ⟨b, off, rfl, hc⟩ := HD.out.row.el k hk
    have hne := HD.out.other b off rfl (by omega)
    have HNX := Lib.hid (HD.out.next hk)
    have hcap := HD.out.row.room
    have hmost := HD.out.row.most
    have hmod := fun W : World => (mod_any (IN.el ts k) (n : Int) (by omega) (by omega) W).mono fun e W' h => And.intro h.1 h.2.symm
    have HMOD := Lib.hid hmod
    clear hmod
    go_enter Tryz.func10, Tryz.ntmps10
    go_wp2_with fail
    go_quiet (fail)
    go_wp2_with fail
    go_quiet ((go_at_call 11; exact Calls.quiet_of_same (HMOD.out _)))
    go_wp2_with fail
    go_ret
    obtain ⟨r, hr, hrn⟩ := mod_nat (IN.el ts k) n hn
    exact ⟨r, k + 1, hrn, congrArg (fun z => Ending.returned (.int .i64 z)) hr, (HD.out.drewN _).next hk |>.drewN _, grown_drewN (grown_setCell (grown_drewN (World.grownBy.refl w _) _) _ (.inr rfl)) _⟩
  · go_enter Tryz.func10, Tryz.ntmps10
    go_wp2_with fail
    go_quiet (fail)
    go_wp2_with fail
    go_ret
    exact ⟨0, k, hn, rfl, HD.out.drewN _, grown_drewN (World.grownBy.refl w _) _⟩

theorem light_any (a : Option Addr) (n cap : Nat) (w : World) :
    Calls Tryz.prog 5 #[.slice a n cap] w fun e W' => e = .returned (.bool (decide ((n : Int) ≤ 400))) ∧ w = W' := by
  go_enter Tryz.func5, Tryz.ntmps5
  go_wp2_with fail
  go_ret
  exact ⟨rfl, rfl⟩
theorem roll_dice {a : Option Addr} {cap : Nat} {ts : List Int} {w : World} (hr : IRow w a ts cap) (hf : ts.length ≤ 400) (t : TypeId) : Dice (w.alloc (.cells #[.slice a ts.length cap, .int .i64 0] t)) w.heap.size a cap ts 0 := by
  have hb : (w.alloc (.cells #[.slice a ts.length cap, .int .i64 0] t)).heap[w.heap.size]? = some (.cells #[.slice a ts.length cap, .int .i64 0] t) := Array.getElem?_push_size
  refine ⟨?_, ?_, ?_, hr.alloc _, Nat.zero_le _, hf, fun b off e hl => ?_⟩
  · rw [cell_of_row _ _ 0 _ _ _ hb]; rfl
  · rw [cell_of_row _ _ 1 _ _ _ hb]; rfl
  · unfold World.frozen?; rw [hb]; rfl
  · obtain ⟨b', off', e', hc⟩ := hr.el 0 hl
    rw [e] at e'; cases e'
    have h := lt_of_cell hc
    exact Nat.ne_of_lt h
theorem roll_any (a : Option Addr) (cap : Nat) (ts : List Int) (w : World) (hr : IRow w a ts cap) (hf : ts.length ≤ 400) :
    Calls Tryz.prog 7 #[.slice a ts.length cap] w fun e W' => e = .returned (.pointer (some ⟨w.heap.size, 0, none⟩)) ∧ Dice W' w.heap.size a cap ts 0 ∧ Below w.heap.size w W' := by
  go_enter Tryz.func7, Tryz.ntmps7
  go_wp2_with fail
  go_ret
  refine ⟨rfl, roll_dice hr hf _, (Below.refl _ w).alloc (Nat.le_refl _) _⟩

theorem Dice.belowAt {W W' : World} {B dp : Nat} {a : Option Addr} {cap : Nat} {ts : List Int} {k : Nat} (h : Dice W dp a cap ts k) (hb : Below B W W') (hdp : dp < B) (hf : ∀ b off, a = some ⟨b, off, none⟩ → 0 < ts.length → b < B) : Dice W' dp a cap ts k :=
  ⟨(hb.cell (p := ⟨dp, 0, none⟩) hdp).trans h.list, (hb.cell (p := ⟨dp, 1, none⟩) hdp).trans h.at', (hb.frozen (p := ⟨dp, 1, none⟩) hdp).trans h.free,
    ⟨h.row.room, h.row.most, fun j hj => by
      obtain ⟨b, off, e, hc⟩ := h.row.el j hj
      exact ⟨b, off, e, (hb.cell (p := ⟨b, off + j, none⟩) (hf b off e (by omega))).trans hc⟩⟩, h.least, h.few, h.other⟩
theorem Dice.far {W : World} {dp : Nat} {a : Option Addr} {cap : Nat} {ts : List Int} {k : Nat} (h : Dice W dp a cap ts k) : ∀ b off, a = some ⟨b, off, none⟩ → 0 < ts.length → b < W.heap.size := fun b off e h0 => by
  obtain ⟨b', off', e', hc⟩ := h.row.el 0 h0
  rw [e] at e'; cases e'
  exact lt_of_cell hc
theorem grown_then {w W W' : World} {row : Option Nat} (h : w.grownBy W row) (hb : Below w.heap.size W W') : w.grownBy W' row :=
  ⟨hb.os.trans h.os, hb.tape.trans h.tape, hb.output.trans h.output, Nat.le_trans h.size hb.size, fun k hk hne => (hb.block k hk).trans (h.block k hk hne)⟩

end Go.Proofs.YtmejneobfkbgeaaGreatDoor.G

namespace Go.Proofs.YtmejneobfkbgeaaGreatDoor.G
open Go Go.RowKit Go.Shelf

/-- **Dice.One** -/
theorem one_any (w : World) (dp : Nat) (a : Option Addr) (cap : Nat) (ts : List Int) (k n : Nat) (hn : 0 < n) (hn2 : n ≤ 1000) (hD : Dice w dp a cap ts k) :
    Calls Tryz.prog 21 #[.pointer (some ⟨dp, 0, none⟩), .int .i64 (n : Int)] w fun e W => ∃ (t : Bool) (k' : Nat), e = .returned (.bool t) ∧ Dice W dp a cap ts k' ∧ w.grownBy W (some dp) := by
  have HNX := Lib.hid (next_any w dp a cap ts k n hn (by omega) hD)
  clear hD
  go_enter Tryz.func21, Tryz.ntmps21
  go_wp2_with fail
  refine HNX.out.mono ?_
  rintro e w1 ⟨r, k1, hr, rfl, hd1, hg1⟩
  go_wp2
  go_ret
  exact ⟨_, k1, rfl, hd1, hg1⟩
end Go.Proofs.YtmejneobfkbgeaaGreatDoor.G

namespace Go.Proofs.YtmejneobfkbgeaaGreatDoor.CS
open Go Go.RowKit Go.Shelf
open C (codeV Ok)
open G (Box IRow Dice NextPost next_any one_any grown_then Dice.belowAt)

theorem box4_at {W : World} {p : Nat} {t : TypeId} {v0 v1 v2 v3 : Value} (h : Box W p t [v0, v1, v2, v3]) : W.cell? ⟨p, 0, none⟩ = some v0 ∧ W.cell? ⟨p, 1, none⟩ = some v1 ∧ W.cell? ⟨p, 2, none⟩ = some v2 ∧ W.cell? ⟨p, 3, none⟩ = some v3 :=
  ⟨h.cell 0 rfl, h.cell 1 rfl, h.cell 2 rfl, h.cell 3 rfl⟩
theorem grown_setCell4 {w W : World} {r : Option Nat} {p : Nat} {u0 u1 u2 u3 : Value} (hg : w.grownBy W r) (hr : w.heap.size ≤ p ∨ r = some p) : w.grownBy ((((W.setCell ⟨p, 0, none⟩ u0).setCell ⟨p, 1, none⟩ u1).setCell ⟨p, 2, none⟩ u2).setCell ⟨p, 3, none⟩ u3) r :=
  G.grown_setCell (G.grown_setCell (G.grown_setCell (G.grown_setCell hg (a := ⟨p, 0, none⟩) u0 hr) (a := ⟨p, 1, none⟩) u1 hr) (a := ⟨p, 2, none⟩) u2 hr) (a := ⟨p, 3, none⟩) u3 hr
/-- A struct of four is stored in a box. -/
theorem name4 {W : World} {p : Nat} {t : TypeId} {v0 v1 v2 v3 : Value} (h : Box W p t [v0, v1, v2, v3]) (u0 u1 u2 u3 : Value) : ∃ Wa Wb Wc Wd : World, W.setCell ⟨p, 0, none⟩ u0 = Wa ∧ Wa.setCell ⟨p, 1, none⟩ u1 = Wb ∧ Wb.setCell ⟨p, 2, none⟩ u2 = Wc ∧ Wc.setCell ⟨p, 3, none⟩ u3 = Wd ∧
    (W.cell? ⟨p, 0, none⟩ = some v0 ∧ W.frozen? ⟨p, 0, none⟩ = false ∧ Wa.cell? ⟨p, 1, none⟩ = some v1 ∧ Wa.frozen? ⟨p, 1, none⟩ = false ∧ Wb.cell? ⟨p, 2, none⟩ = some v2 ∧ Wb.frozen? ⟨p, 2, none⟩ = false ∧ Wc.cell? ⟨p, 3, none⟩ = some v3 ∧ Wc.frozen? ⟨p, 3, none⟩ = false) ∧
    Box Wd p t [u0, u1, u2, u3] ∧ (∀ (w : World) (r : Option Nat), w.grownBy W r → (w.heap.size ≤ p ∨ r = some p) → w.grownBy Wd r) ∧ (∀ (B : Nat) (w : World), Below B w W → B ≤ p → Below B w Wd) ∧ Below p W Wd ∧ Wd.heap.size = W.heap.size := by
  have h1 := h.set 0 u0
  have h2 := h1.set 1 u1
  have h3 := h2.set 2 u2
  have h4 := h3.set 3 u3
  refine ⟨_, _, _, _, rfl, rfl, rfl, rfl, ⟨h.cell 0 rfl, h.free 0, h1.cell 1 rfl, h1.free 1, h2.cell 2 rfl, h2.free 2, h3.cell 3 rfl, h3.free 3⟩, h4, fun w r hg hr => ?_, fun B w hb hp => ?_, ?_, by simp [World.setCell]⟩
  · exact grown_setCell4 hg hr
  · exact (((hb.setCell (p := ⟨p, 0, none⟩) hp _).setCell (p := ⟨p, 1, none⟩) hp _).setCell (p := ⟨p, 2, none⟩) hp _).setCell (p := ⟨p, 3, none⟩) hp _
  · exact ((((Below.refl p W).setCell (p := ⟨p, 0, none⟩) (Nat.le_refl p) _).setCell (p := ⟨p, 1, none⟩) (Nat.le_refl p) _).setCell (p := ⟨p, 2, none⟩) (Nat.le_refl p) _).setCell (p := ⟨p, 3, none⟩) (Nat.le_refl p) _
theorem new_code (W : World) (D C F : Nat) : ∃ (p : Nat) (W1 W2 : World), W.heap.size = p ∧ W.alloc (.cells #[.int .i64 0, .int .i64 0, .int .i64 0, .int .i64 0] 23) = W1 ∧
    (∃ Wa Wb Wc : World, W1.setCell ⟨p, 0, none⟩ (.int .i64 2) = Wa ∧ Wa.setCell ⟨p, 1, none⟩ (.int .i64 (D : Int)) = Wb ∧ Wb.setCell ⟨p, 2, none⟩ (.int .i64 (C : Int)) = Wc ∧ Wc.setCell ⟨p, 3, none⟩ (.int .i64 (F : Int)) = W2 ∧
      W1.cell? ⟨p, 0, none⟩ = some (.int .i64 0) ∧ W1.frozen? ⟨p, 0, none⟩ = false ∧ Wa.cell? ⟨p, 1, none⟩ = some (.int .i64 0) ∧ Wa.frozen? ⟨p, 1, none⟩ = false ∧ Wb.cell? ⟨p, 2, none⟩ = some (.int .i64 0) ∧ Wb.frozen? ⟨p, 2, none⟩ = false ∧ Wc.cell? ⟨p, 3, none⟩ = some (.int .i64 0) ∧ Wc.frozen? ⟨p, 3, none⟩ = false) ∧
    Box W2 p 23 [.int .i64 2, .int .i64 (D : Int), .int .i64 (C : Int), .int .i64 (F : Int)] ∧ Below W.heap.size W W2 ∧ p < W2.heap.size := by
  have hb0 := Box.new W 23 [.int .i64 0, .int .i64 0, .int .i64 0, .int .i64 0]
  have hb1 : Below W.heap.size W (W.alloc (.cells #[.int .i64 0, .int .i64 0, .int .i64 0, .int .i64 0] 23)) := (Below.refl _ W).alloc (Nat.le_refl _) _
  obtain ⟨Wa, Wb, Wc, W2, e1, e2, e3, e4, ⟨f1, f2, f3, f4, f5, f6, f7, f8⟩, hbx, _, hbe, _, _⟩ := name4 hb0 (.int .i64 2) (.int .i64 (D : Int)) (.int .i64 (C : Int)) (.int .i64 (F : Int))
  exact ⟨_, _, W2, rfl, rfl, ⟨Wa, Wb, Wc, e1, e2, e3, e4, f1, f2, f3, f4, f5, f6, f7, f8⟩, hbx, hbe _ _ hb1 (Nat.le_refl _), hbx.lt⟩

/-- What Symbols gives: a valid code. -/
def SymPost (w : World) (dp : Nat) (a : Option Addr) (cap : Nat) (ts : List Int) (e : Ending) (W : World) : Prop :=
  ∃ (D C F k' : Nat), Ok D C F ∧ e = .returned (codeV D C F) ∧ Dice W dp a cap ts k' ∧ w.grownBy W (some dp)
theorem box_grown {w W W' : World} {p dp : Nat} {t : TypeId} {vs : List Value} (h : Box W p t vs) (hg : W.grownBy W' (some dp)) (hd : dp < w.heap.size) (hp : w.heap.size ≤ p) : Box W' p t vs :=
  h.grown hg (by intro e; cases e; omega)

set_option maxRecDepth 100000 in
set_option maxHeartbeats 4000000 in
/-- **Dice.Symbols** -/
theorem symbols_any (w : World) (dp : Nat) (a : Option Addr) (cap : Nat) (ts : List Int) (k : Nat) (hD : Dice w dp a cap ts k) :
    Calls Tryz.prog 8 #[.pointer (some ⟨dp, 0, none⟩)] w (SymPost w dp a cap ts) := by
  have hdp := hD.lt
  have hfar := hD.far
  have hb0 := Box.new w 23 [.int .i64 0, .int .i64 0, .int .i64 0, .int .i64 0]
  obtain ⟨w1, hw1⟩ : ∃ w1, w.alloc (.cells #[.int .i64 0, .int .i64 0, .int .i64 0, .int .i64 0] 23) = w1 := ⟨_, rfl⟩
  have hbw1 : Below w.heap.size w w1 := by rw [← hw1]; exact (Below.refl _ w).alloc (Nat.le_refl _) _
  have hbx1 : Box w1 w.heap.size 23 [.int .i64 0, .int .i64 0, .int .i64 0, .int .i64 0] := by rw [← hw1]; exact hb0
  have hl2 := G.row_list (α := Nat) w1 [4, 8, 32] 3 (by simp)
  have hb12 : Below w1.heap.size w1 (w1.alloc (.cells #[.int .i64 4, .int .i64 8, .int .i64 32] 3)) := (Below.refl _ w1).alloc (Nat.le_refl _) _
  obtain ⟨w2, hw2⟩ : ∃ w2, w1.alloc (.cells #[.int .i64 4, .int .i64 8, .int .i64 32] 3) = w2 := ⟨_, rfl⟩
  have hl2' : G.Row w2 (some ⟨w1.heap.size, 0, none⟩) [4, 8, 32] 3 := by rw [← hw2]; exact hl2
  rw [hw2] at hb12
  have hbw2 : Below w.heap.size w w2 := hbw1.trans (hb12.mono hbw1.size)
  have HD2 := Lib.hid ((hD.below hbw1).below hb12)
  have HX2 := Lib.hid (hbx1.below hb12)
  have HL2 := Lib.hid hl2'
  have HG2 := Lib.hid (G.grown_then (World.grownBy.refl w (some dp)) hbw2)
  have hs1 := hbw1.size
  have hs1' : w1.heap.size = w.heap.size + 1 := by rw [← hw1]; simp
  have hs2 := hb12.size
  have HN2 := Lib.hid (show Calls Tryz.prog 10 #[.pointer (some ⟨dp, 0, none⟩), .int .i64 3] w2 (NextPost w2 dp a cap ts 3) from next_any w2 dp a cap ts k 3 (by omega) (by omega) HD2.out)
  have HFAR := Lib.hid hfar
  clear hD hb0 hbw1 hbx1 hl2 hb12 hl2' hbw2 hfar
  go_enter Tryz.func8, Tryz.ntmps8
  go_wp2_with fail
  refine HN2.out.mono ?_
  rintro e w3 ⟨r, k3, hr, rfl, hd3, hg3⟩
  have hl3 := HL2.out.grown hg3 (by intro b off e; cases e; intro e2; cases e2; omega)
  obtain ⟨b, off, eb, hc⟩ := hl3.elN r hr
  cases eb
  obtain ⟨v, hv⟩ : ∃ v, G.el [4, 8, 32] r = v := ⟨_, rfl⟩
  rw [hv, Nat.zero_add, hs1'] at hc
  have hv2 : 1 ≤ v ∧ v ≤ 32 := by
    rw [← hv]
    match r, hr with
    | 0, _ => decide
    | 1, _ => decide
    | 2, _ => decide
  obtain ⟨hv1, hv32⟩ := hv2
  have HX3 := Lib.hid (box_grown HX2.out hg3 hdp (Nat.le_refl _))
  have HG3 := Lib.hid (G.grown_trans HG2.out hg3)
  have hs3 := hg3.size
  have HN3 := Lib.hid (next_any w3 dp a cap ts k3 v (by omega) (by omega) hd3)
  clear hv hl3 hd3 hg3 HN2 HX2 HG2 HL2 HD2
  go_wp2_with fail
  refine HN3.out.mono ?_
  rintro e w4 ⟨r4, k4, hr4, rfl, hd4, hg4⟩
  obtain ⟨D, hDD⟩ : ∃ D, 1 + r4 = D := ⟨_, rfl⟩
  have e4 : (1 : Int) + (r4 : Int) = (D : Int) := by omega
  have HX4 := Lib.hid (box_grown HX3.out hg4 hdp (Nat.le_refl _))
  have HG4 := Lib.hid (G.grown_trans HG3.out hg4)
  have hs4 := hg4.size
  have HN4 := Lib.hid (show Calls Tryz.prog 10 #[.pointer (some ⟨dp, 0, none⟩), .int .i64 8] w4 (NextPost w4 dp a cap ts 8) from next_any w4 dp a cap ts k4 8 (by omega) (by omega) hd4)
  clear hc hd4 hg4 HN3 HX3 HG3
  go_wp2_with fail
  refine HN4.out.mono ?_
  rintro e w5 ⟨r5, k5, hr5, rfl, hd5, hg5⟩
  have hx5 := box_grown HX4.out hg5 hdp (Nat.le_refl _)
  have hg05 := G.grown_trans HG4.out hg5
  have hs5 := hg5.size
  -- the box of c
  have hb6 := Box.new w5 23 [.int .i64 0, .int .i64 0, .int .i64 0, .int .i64 0]
  have hbb6 : Below w5.heap.size w5 (w5.alloc (.cells #[.int .i64 0, .int .i64 0, .int .i64 0, .int .i64 0] 23)) := (Below.refl _ w5).alloc (Nat.le_refl _) _
  obtain ⟨w6, hw6⟩ : ∃ w6, w5.alloc (.cells #[.int .i64 0, .int .i64 0, .int .i64 0, .int .i64 0] 23) = w6 := ⟨_, rfl⟩
  rw [hw6] at hbb6
  have hbx6 : Box w6 w5.heap.size 23 [.int .i64 0, .int .i64 0, .int .i64 0, .int .i64 0] := by rw [← hw6]; exact hb6
  obtain ⟨C, hCC⟩ : ∃ C, 1 + r5 = C := ⟨_, rfl⟩
  have e5 : (1 : Int) + (r5 : Int) = (C : Int) := by omega
  obtain ⟨H, hH⟩ : ∃ H, C / 2 = H := ⟨_, rfl⟩
  have eH : (C : Int) / 2 = (H : Int) := by omega
  have hD32 : 1 ≤ D ∧ D ≤ 32 := by omega
  have hC8 : 1 ≤ C ∧ C ≤ 8 := by omega
  obtain ⟨p, hp⟩ : ∃ p, w5.heap.size = p := ⟨_, rfl⟩
  have hpw : w.heap.size + 1 ≤ p := by omega
  have hp6 : p < w6.heap.size := by rw [← hp]; exact hbx6.lt
  rw [hp] at hbx6 hbb6
  obtain ⟨Wa, Wb, Wc, W6, e1, e2, e3, e6, ⟨f1, f2, f3, f4, f5, f6, f7, f8⟩, hbx7, hgr, _, hb67, hs67⟩ := name4 hbx6 (.int .i64 2) (.int .i64 (D : Int)) (.int .i64 (C : Int)) (.int .i64 0)
  have hbb7 : Below w5.heap.size w5 W6 := by rw [hp]; exact hbb6.trans hb67
  have HX7 := Lib.hid (hx5.below hbb7)
  have HG7 := Lib.hid (grown_then hg05 (hbb7.mono (by omega)))
  have HD7 := Lib.hid (hd5.below hbb7)
  have hb8 := hbx7.set 3 (.int .i64 (H : Int))
  obtain ⟨q0, q1, q2, q3⟩ := box4_at hbx7
  have q4 := hbx7.free 3
  obtain ⟨W8, hW8⟩ : ∃ W8, W6.setCell ⟨p, 3, none⟩ (.int .i64 (H : Int)) = W8 := ⟨_, rfl⟩
  have hb78 : Below p W6 W8 := by rw [← hW8]; exact (Below.refl p W6).setCell (p := ⟨p, 3, none⟩) (Nat.le_refl p) _
  rw [hW8] at hb8
  have hp8 : p < W8.heap.size := hb8.lt
  have HB8 := Lib.hid hb8
  have hgx8 : Box W8 w.heap.size 23 [.int .i64 0, .int .i64 0, .int .i64 0, .int .i64 0] := HX7.out.belowAt hb78 (by omega)
  have HX8 := Lib.hid hgx8
  have HG8 := Lib.hid (show w.grownBy W8 (some dp) from grown_then HG7.out (hb78.mono (by omega)))
  have hd8 := HD7.out.belowAt hb78 (by omega) (fun b off e h0 => by have := HFAR.out b off e h0; omega)
  have HO8 := Lib.hid (show Calls Tryz.prog 21 #[.pointer (some ⟨dp, 0, none⟩), .int .i64 3] W8 _ from one_any W8 dp a cap ts k5 3 (by omega) (by omega) hd8)
  clear hbx6 hbb6 hbx7 hgr hb67 hbb7 hb8 hb78 hgx8 hd8 hx5 hg05 hd5 hg5 HN4 HX4 HG4 HX7 HG7 HD7 hb6
  go_wp2_with fail
  refine HO8.out.mono ?_
  rintro e w9 ⟨t, k9, rfl, hd9, hg9⟩
  have hx9 := box_grown HX8.out hg9 hdp (Nat.le_refl _)
  have hb9 := box_grown HB8.out hg9 hdp (by omega)
  have hg09 := G.grown_trans HG8.out hg9
  cases t with
  | false =>
    obtain ⟨x0, x1, x2, x3⟩ := box4_at hb9
    obtain ⟨Wa', Wb', Wc', Wd', e1', e2', e3', e6', ⟨f1', f2', f3', f4', f5', f6', f7', f8'⟩, hbx10, hgr', hbe', _, _⟩ := name4 hx9 (.int .i64 2) (.int .i64 (D : Int)) (.int .i64 (C : Int)) (.int .i64 (H : Int))
    have HG10 := Lib.hid (hgr' _ _ hg09 (.inl (Nat.le_refl _)))
    have HD10 := Lib.hid (hd9.belowAt (hbe' w.heap.size w9 (Below.refl _ _) (Nat.le_refl _)) hdp HFAR.out)
    have HY := Lib.hid (box4_at hbx10)
    clear hbx10 hgr' hbe' hg09 hd9 hx9 hb9 hg9 HO8 HX8 HB8 HG8
    go_wp2_with fail
    exact bodyPost_ret (v := .agg #[.int .i64 2, .int .i64 (D : Int), .int .i64 (C : Int), .int .i64 (H : Int)]) (by simp [results, Tryz.results8, go_sem, HY.out.1, HY.out.2.1, HY.out.2.2.1, HY.out.2.2.2]) rfl ⟨D, C, H, k9, ⟨hD32.1, hD32.2, hC8.1, hC8.2, by omega⟩, rfl, HD10.out, HG10.out⟩
  | true =>
    obtain ⟨x0, x1, x2, x3⟩ := box4_at hb9
    have HX9 := Lib.hid hx9
    have HB9 := Lib.hid hb9
    have HG9 := Lib.hid hg09
    have eH1 : (H : Int) + 1 = ((H + 1 : Nat) : Int) := rfl
    have hs9 := hg9.size
    have HN9 := Lib.hid (next_any w9 dp a cap ts k9 (H + 1) (by omega) (by omega) hd9)
    rw [← eH1] at HN9
    clear eH1 hg09 hd9 hx9 hb9 hg9 HO8 HX8 HB8 HG8
    go_wp2_with fail
    refine HN9.out.mono ?_
    rintro e w10 ⟨F, k10, hF, rfl, hd10, hg10⟩
    have hx10 := box_grown HX9.out hg10 hdp (Nat.le_refl _)
    have hb10 := box_grown HB9.out hg10 hdp (by omega)
    have hg010 := G.grown_trans HG9.out hg10
    have hp10 : p < w10.heap.size := hb10.lt
    have y3 := hb10.cell 3 rfl
    have y4 := hb10.free 3
    have hb11 := hb10.set 3 (.int .i64 (F : Int))
    obtain ⟨W11, hW11⟩ : ∃ W11, w10.setCell ⟨p, 3, none⟩ (.int .i64 (F : Int)) = W11 := ⟨_, rfl⟩
    have hb1011 : Below p w10 W11 := by rw [← hW11]; exact (Below.refl p w10).setCell (p := ⟨p, 3, none⟩) (Nat.le_refl p) _
    rw [hW11] at hb11
    have hx11 : Box W11 w.heap.size 23 [.int .i64 0, .int .i64 0, .int .i64 0, .int .i64 0] := hx10.belowAt hb1011 (by omega)
    have hg011 : w.grownBy W11 (some dp) := grown_then hg010 (hb1011.mono (by omega))
    have hd11 := hd10.belowAt hb1011 (by omega) (fun b off e h0 => by have := HFAR.out b off e h0; omega)
    obtain ⟨z0, z1, z2, z3⟩ := box4_at hb11
    obtain ⟨Wa', Wb', Wc', Wd', e1', e2', e3', e6', ⟨f1', f2', f3', f4', f5', f6', f7', f8'⟩, hbx12, hgr', hbe', _, _⟩ := name4 hx11 (.int .i64 2) (.int .i64 (D : Int)) (.int .i64 (C : Int)) (.int .i64 (F : Int))
    have HG12 := Lib.hid (hgr' _ _ hg011 (.inl (Nat.le_refl _)))
    have HD12 := Lib.hid (hd11.belowAt (hbe' w.heap.size W11 (Below.refl _ _) (Nat.le_refl _)) hdp HFAR.out)
    have HY := Lib.hid (box4_at hbx12)
    clear hbx12 hgr' hbe' hg011 hd11 hx11 hb11 hb1011 hg010 hx10 hb10 hd10 hg10 HN9 HX9 HB9 HG9
    go_wp2_with fail
    exact bodyPost_ret (v := .agg #[.int .i64 2, .int .i64 (D : Int), .int .i64 (C : Int), .int .i64 (F : Int)]) (by simp [results, Tryz.results8, go_sem, HY.out.1, HY.out.2.1, HY.out.2.2.1, HY.out.2.2.2]) rfl ⟨D, C, F, k10, ⟨hD32.1, hD32.2, hC8.1, hC8.2, by omega⟩, rfl, HD12.out, HG12.out⟩
end Go.Proofs.YtmejneobfkbgeaaGreatDoor.CS

namespace Go.Proofs.YtmejneobfkbgeaaGreatDoor
open Go Go.RowKit Go.Shelf

namespace C
set_option maxRecDepth 100000 in
set_option maxHeartbeats 2000000 in
/-- **awake** -/
theorem awake_yes (u : World) : Calls Tryz.prog 6 #[] u fun e W => e = .returned (.bool true) ∧ Below u.heap.size u W := by
  have HW := Lib.hid (fun W => (show Calls Tryz.prog 16 #[.agg #[.int .i64 2, .int .i64 1, .int .i64 1, .int .i64 0], .int .i64 2] W fun e W' => NumE 255 e W' ∧ Below W.heap.size W W' from by
    have h := Words_any ok11 2 (by omega) W
    rw [words112] at h
    exact h))
  have HC := Lib.hid chance_112
  have HB' := Lib.hid (fun W => (show Calls Tryz.prog 18 #[.int .i64 2] W fun e W' => (∃ a c, e = .returned (.tuple #[.agg #[.slice a 0 c], .int .i64 0]) ∧ Row W' a [] c) ∧ Below W.heap.size W W' from by
    have h := wrongBits_any 2 (by omega) W
    rw [wb2] at h
    refine h.mono ?_
    rintro e W' ⟨⟨a, c, h1, h2⟩, h3⟩
    rw [M.dig_zero] at h1 h2
    exact ⟨⟨a, c, h1, h2⟩, h3⟩))
  obtain ⟨pc, u0, u1, hpc, hu0, hst, hbx1, hB1, _⟩ := CS.new_code u 1 1 0
  obtain ⟨Wa, Wb, Wc, e1, e2, e3, e4, f1, f2, f3, f4, f5, f6, f7, f8⟩ := hst
  obtain ⟨k0, k1, k2, k3⟩ := CBox.at (show CBox u1 pc 1 1 0 from hbx1)
  have k1' : u1.cell? ⟨pc, 1, none⟩ = some (.int .i64 1) := k1
  have k2' : u1.cell? ⟨pc, 2, none⟩ = some (.int .i64 1) := k2
  have k3' : u1.cell? ⟨pc, 3, none⟩ = some (.int .i64 0) := k3
  have e2' : Wa.setCell ⟨pc, 1, none⟩ (.int .i64 1) = Wb := e2
  have e3' : Wb.setCell ⟨pc, 2, none⟩ (.int .i64 1) = Wc := e3
  have e4' : Wc.setCell ⟨pc, 3, none⟩ (.int .i64 0) = u1 := e4
  have HX := Lib.hid (show CBox u1 pc 1 1 0 from hbx1)
  have HB := Lib.hid hB1
  clear hbx1 hB1 k1 k2 k3 e2 e3 e4
  go_enter Tryz.func6, Tryz.ntmps6
  go_wp2_with fail
  (with_reducible refine (HW.out _).mono ?_)
  rintro e w1 ⟨⟨a, ca, rfl, hr⟩, hb1⟩
  obtain ⟨pa, hpa⟩ : ∃ p, w1.heap.size = p := ⟨_, rfl⟩
  obtain ⟨w2, hw2⟩ : ∃ w2, w1.alloc (.cells #[.slice a (M.dig 255).length ca] 41) = w2 := ⟨_, rfl⟩
  have hbw : Below w1.heap.size w1 w2 := by rw [← hw2]; exact (Below.refl _ w1).alloc (Nat.le_refl _) _
  have hb12 := hb1.trans (hbw.mono hb1.size)
  have ha2 : w2.cell? ⟨pa, 0, none⟩ = some (.slice a (M.dig 255).length ca) := by rw [← hw2, ← hpa]; exact cell_new _ _ _
  have HA2 := Lib.hid ha2
  have HRA := Lib.hid (hr.below hbw)
  have HX2 := Lib.hid (HX.out.below hb12)
  have HB2 := Lib.hid (HB.out.trans (hb12.mono HB.out.size))
  obtain ⟨q0, q1, q2, q3⟩ := HX2.out.at
  have q1' : w2.cell? ⟨pc, 1, none⟩ = some (.int .i64 1) := q1
  have q2' : w2.cell? ⟨pc, 2, none⟩ = some (.int .i64 1) := q2
  have q3' : w2.cell? ⟨pc, 3, none⟩ = some (.int .i64 0) := q3
  clear hr hb1 hbw hb12 ha2 HX HB k0 k1' k2' k3' q1 q2 q3 HW
  go_wp2_with fail
  (with_reducible refine (HC.out _).mono ?_)
  rintro e w3 ⟨⟨v, rfl, b, cb, d, cd, rfl, hrb, hrd⟩, hb3⟩
  have hrv := RVar.new hrb hrd
  obtain ⟨pb, hpb⟩ : ∃ p, w3.heap.size = p := ⟨_, rfl⟩
  obtain ⟨w4, hw4⟩ : ∃ w4, w3.alloc (.cells #[.slice b (M.dig 1).length cb, .slice d (M.dig 255).length cd] 48) = w4 := ⟨_, rfl⟩
  have hbw : Below w3.heap.size w3 w4 := by rw [← hw4]; exact (Below.refl _ w3).alloc (Nat.le_refl _) _
  rw [hw4, hpb] at hrv
  have hb34 := hb3.trans (hbw.mono hb3.size)
  have HRV := Lib.hid hrv
  have HA4 := Lib.hid ((hb34.cell (lt_of_cell HA2.out)).trans HA2.out)
  have HRA4 := Lib.hid (HRA.out.below hb34)
  have HB4 := Lib.hid (HB2.out.trans (hb34.mono HB2.out.size))
  clear hrb hrd hrv hb3 hbw hb34 HX2 HB2 HC q0 q1' q2' q3' HRA HA2
  go_wp2_with fail
  (with_reducible refine (HB'.out _).mono ?_)
  rintro e w5 ⟨⟨f, cf, rfl, hrf⟩, hb5⟩
  obtain ⟨pf, hpf⟩ : ∃ p, w5.heap.size = p := ⟨_, rfl⟩
  obtain ⟨w6, hw6⟩ : ∃ w6, w5.alloc (.cells #[.slice f 0 cf] 41) = w6 := ⟨_, rfl⟩
  have hbw : Below w5.heap.size w5 w6 := by rw [← hw6]; exact (Below.refl _ w5).alloc (Nat.le_refl _) _
  have hb56 := hb5.trans (hbw.mono hb5.size)
  have hf6 : w6.cell? ⟨pf, 0, none⟩ = some (.slice f 0 cf) := by rw [← hw6, ← hpf]; exact cell_new _ _ _
  have HF6 := Lib.hid hf6
  have HRF := Lib.hid (hrf.below hbw)
  have HV6 := Lib.hid (HRV.out.below hb56)
  have ha6 := (hb56.cell (lt_of_cell HA4.out)).trans HA4.out
  have HP1 := Lib.hid (print_255 (HRA4.out.below hb56))
  have HB6 := Lib.hid (HB4.out.trans (hb56.mono HB4.out.size))
  clear hrf hb5 hbw hb56 hf6 HRV HA4 HRA4 HB4 HB'
  go_wp2_with fail
  (with_reducible refine HP1.out.mono ?_)
  rintro e w7 ⟨rfl, hb7⟩
  have HV7 := Lib.hid (HV6.out.below hb7)
  have p0 := HV7.out.c0
  have p1 := HV7.out.c1
  have HP2 := Lib.hid (ratPrint_1255 HV7.out.val)
  have HF7 := Lib.hid ((hb7.cell (lt_of_cell HF6.out)).trans HF6.out)
  have HRF7 := Lib.hid (HRF.out.below hb7)
  have HB7 := Lib.hid (HB6.out.trans (hb7.mono HB6.out.size))
  clear hb7 HV6 HV7 HF6 HRF HB6 HP1 ha6
  go_wp2_with fail
  (with_reducible refine HP2.out.mono ?_)
  rintro e w8 ⟨rfl, hb8⟩
  have f8 := (hb8.cell (lt_of_cell HF7.out)).trans HF7.out
  have HP3 := Lib.hid (print_zero f cf w8 (HRF7.out.below hb8))
  have HB8 := Lib.hid (HB7.out.trans (hb8.mono HB7.out.size))
  clear hb8 HP2 HF7 HRF7 HB7 p0 p1
  go_wp2_with fail
  (with_reducible refine HP3.out.mono ?_)
  rintro e w9 ⟨rfl, hb9⟩
  have HB9 := Lib.hid (HB8.out.trans (hb9.mono HB8.out.size))
  clear hb9
  go_wp2_with fail
  go_ret
  exact ⟨rfl, HB9.out⟩
end C
end Go.Proofs.YtmejneobfkbgeaaGreatDoor

namespace Go.Proofs.YtmejneobfkbgeaaGreatDoor.FM

/-- a times 2. -/
def dbl (a : Nat) : Nat := (a * 2 % 256) ^^^ (a / 128 * 29)
def bitOf (b k a : Nat) : Nat := if b.testBit k then a else 0
/-- The product by Horner's rule, the k highest bits of b. -/
def mulTo (a b : Nat) : Nat → Nat
  | 0 => 0
  | k + 1 => dbl (mulTo a b k) ^^^ bitOf b (7 - k) a
def mul (a b : Nat) : Nat := mulTo a b 8
def dblN : Nat → Nat → Nat
  | 0, a => a
  | k + 1, a => dbl (dblN k a)
/-- The powers of 2. -/
def E (n : Nat) : Nat := dblN n 1
/-- The reference's product, the k lowest bits of b. -/
def rmulTo (a b : Nat) : Nat → Nat
  | 0 => 0
  | k + 1 => rmulTo a b k ^^^ bitOf b k (dblN k a)

theorem dbl_lt' : ∀ a : Fin 256, dbl a.val < 256 := by decide +kernel
theorem dbl_lt {a : Nat} (h : a < 256) : dbl a < 256 := dbl_lt' ⟨a, h⟩
theorem xor_lt {a b : Nat} (ha : a < 256) (hb : b < 256) : a ^^^ b < 256 := Nat.xor_lt_two_pow (n := 8) ha hb
set_option maxRecDepth 100000 in
theorem dbl_xor' : ∀ a b : Fin 256, dbl (a.val ^^^ b.val) = dbl a.val ^^^ dbl b.val := by decide +kernel
theorem dbl_xor {a b : Nat} (ha : a < 256) (hb : b < 256) : dbl (a ^^^ b) = dbl a ^^^ dbl b := dbl_xor' ⟨a, ha⟩ ⟨b, hb⟩
theorem bitOf_lt {b k a : Nat} (ha : a < 256) : bitOf b k a < 256 := by unfold bitOf; split <;> omega
theorem mulTo_lt {a b : Nat} (ha : a < 256) : ∀ k, mulTo a b k < 256
  | 0 => by simp [mulTo]
  | k + 1 => xor_lt (dbl_lt (mulTo_lt ha k)) (bitOf_lt ha)
theorem mul_lt {a b : Nat} (ha : a < 256) : mul a b < 256 := mulTo_lt ha 8
theorem dblN_lt {a : Nat} (ha : a < 256) : ∀ k, dblN k a < 256
  | 0 => ha
  | k + 1 => dbl_lt (dblN_lt ha k)
theorem E_lt (n : Nat) : E n < 256 := dblN_lt (by decide) n
theorem xor4 (p q r s : Nat) : (p ^^^ q) ^^^ (r ^^^ s) = (p ^^^ r) ^^^ (q ^^^ s) := by
  rw [Nat.xor_assoc, Nat.xor_assoc, ← Nat.xor_assoc q r s, Nat.xor_comm q r, Nat.xor_assoc r q s]
theorem bitOf_xor_r (b c k a : Nat) : bitOf (b ^^^ c) k a = bitOf b k a ^^^ bitOf c k a := by
  unfold bitOf; rw [Nat.testBit_xor]
  cases b.testBit k <;> cases c.testBit k <;> simp
theorem bitOf_xor_l (b k a c : Nat) : bitOf b k (a ^^^ c) = bitOf b k a ^^^ bitOf b k c := by
  unfold bitOf; split <;> simp
theorem mulTo_xor_r {a : Nat} (ha : a < 256) (b c : Nat) : ∀ k, mulTo a (b ^^^ c) k = mulTo a b k ^^^ mulTo a c k
  | 0 => by simp [mulTo]
  | k + 1 => by
    simp only [mulTo]
    rw [mulTo_xor_r ha b c k, dbl_xor (mulTo_lt ha k) (mulTo_lt ha k), bitOf_xor_r, xor4]
theorem mulTo_xor_l {a c : Nat} (ha : a < 256) (hc : c < 256) (b : Nat) : ∀ k, mulTo (a ^^^ c) b k = mulTo a b k ^^^ mulTo c b k
  | 0 => by simp [mulTo]
  | k + 1 => by
    simp only [mulTo]
    rw [mulTo_xor_l ha hc b k, dbl_xor (mulTo_lt ha k) (mulTo_lt hc k), bitOf_xor_l, xor4]
theorem mul_xor_r {a : Nat} (ha : a < 256) (b c : Nat) : mul a (b ^^^ c) = mul a b ^^^ mul a c := mulTo_xor_r ha b c 8
theorem mul_xor_l {a c : Nat} (ha : a < 256) (hc : c < 256) (b : Nat) : mul (a ^^^ c) b = mul a b ^^^ mul c b := mulTo_xor_l ha hc b 8
theorem dblN_xor {a c : Nat} (ha : a < 256) (hc : c < 256) : ∀ k, dblN k (a ^^^ c) = dblN k a ^^^ dblN k c
  | 0 => rfl
  | k + 1 => by simp only [dblN]; rw [dblN_xor ha hc k, dbl_xor (dblN_lt ha k) (dblN_lt hc k)]
theorem rmulTo_xor_l {a c : Nat} (ha : a < 256) (hc : c < 256) (b : Nat) : ∀ k, rmulTo (a ^^^ c) b k = rmulTo a b k ^^^ rmulTo c b k
  | 0 => by simp [rmulTo]
  | k + 1 => by simp only [rmulTo]; rw [rmulTo_xor_l ha hc b k, dblN_xor ha hc, bitOf_xor_l, xor4]

theorem top_bit : ∀ n : Fin 8, ∀ a : Fin 256, 2 ^ n.val ≤ a.val → a.val < 2 ^ (n.val + 1) → 2 ^ n.val ^^^ (a.val - 2 ^ n.val) = a.val := by decide +kernel
/-- Two additive functions that agree at the eight bits agree at all bytes. -/
theorem add_ext {f g : Nat → Nat} (hf : ∀ a b, a < 256 → b < 256 → f (a ^^^ b) = f a ^^^ f b) (hg : ∀ a b, a < 256 → b < 256 → g (a ^^^ b) = g a ^^^ g b)
    (h : ∀ k, k < 8 → f (2 ^ k) = g (2 ^ k)) : ∀ a, a < 256 → f a = g a := by
  have f0 : f 0 = 0 := by have := hf 0 0 (by decide) (by decide); simpa using this
  have g0 : g 0 = 0 := by have := hg 0 0 (by decide) (by decide); simpa using this
  have : ∀ n, n ≤ 8 → ∀ a, a < 2 ^ n → f a = g a := by
    intro n
    induction n with
    | zero => intro _ a ha; have : a = 0 := by simpa using ha
              rw [this, f0, g0]
    | succ n ih =>
      intro hn a ha
      have hp : 2 ^ (n + 1) ≤ 256 := Nat.pow_le_pow_right (n := 2) (by decide) hn
      have hs : 2 ^ (n + 1) = 2 ^ n * 2 := Nat.pow_succ 2 n
      by_cases hl : a < 2 ^ n
      · exact ih (by omega) a hl
      · have e := top_bit ⟨n, by omega⟩ ⟨a, by omega⟩ (by simpa using hl) ha
        simp only at e
        rw [← e, hf _ _ (by omega) (by omega), hg _ _ (by omega) (by omega), h n (by omega), ih (by omega) (a - 2 ^ n) (by omega)]
  intro a ha
  exact this 8 (Nat.le_refl _) a ha

theorem mul_dbl_bits : ∀ a : Fin 256, ∀ k : Fin 8, mul a.val (dbl (2 ^ k.val)) = dbl (mul a.val (2 ^ k.val)) := by decide +kernel
theorem mul_dbl {a b : Nat} (ha : a < 256) (hb : b < 256) : mul a (dbl b) = dbl (mul a b) :=
  add_ext (f := fun b => mul a (dbl b)) (g := fun b => dbl (mul a b))
    (fun p q hp hq => by show mul a (dbl (p ^^^ q)) = _; rw [dbl_xor hp hq, mul_xor_r ha]) (fun p q _ _ => by show dbl (mul a (p ^^^ q)) = _; rw [mul_xor_r ha, dbl_xor (mul_lt ha) (mul_lt ha)])
    (fun k hk => mul_dbl_bits ⟨a, ha⟩ ⟨k, hk⟩) b hb
theorem mul_one' : ∀ a : Fin 256, mul a.val 1 = a.val ∧ mul a.val 0 = 0 ∧ mul 0 a.val = 0 := by decide +kernel
theorem mul_one {a : Nat} (ha : a < 256) : mul a 1 = a := (mul_one' ⟨a, ha⟩).1
theorem mul_zero {a : Nat} (ha : a < 256) : mul a 0 = 0 := (mul_one' ⟨a, ha⟩).2.1
theorem zero_mul {a : Nat} (ha : a < 256) : mul 0 a = 0 := (mul_one' ⟨a, ha⟩).2.2
theorem mul_E {a : Nat} (ha : a < 256) : ∀ j, mul a (E j) = dblN j a
  | 0 => mul_one ha
  | j + 1 => by
    show mul a (dbl (E j)) = dbl (dblN j a)
    rw [mul_dbl ha (E_lt j), mul_E ha j]
theorem dblN_E (i : Nat) : ∀ j, dblN j (E i) = E (i + j)
  | 0 => rfl
  | j + 1 => by show dbl (dblN j (E i)) = dbl (E (i + j)); rw [dblN_E i j]
theorem E_mul (i j : Nat) : mul (E i) (E j) = E (i + j) := by rw [mul_E (E_lt i), dblN_E]
theorem E_255 : E 255 = 1 := by decide +kernel
theorem E_add (i : Nat) : E (i + 255) = E i := by
  rw [← E_mul, E_255, mul_one (E_lt i)]
theorem E_mul255 (i : Nat) : ∀ k, E (i + 255 * k) = E i
  | 0 => rfl
  | k + 1 => by rw [show i + 255 * (k + 1) = (i + 255 * k) + 255 by omega, E_add, E_mul255 i k]
theorem E_mod (i : Nat) : E (i % 255) = E i := by
  rw [← E_mul255 (i % 255) (i / 255)]; congr 1; omega
theorem E_congr {i j : Nat} (h : i % 255 = j % 255) : E i = E j := by rw [← E_mod i, h, E_mod]

/-- The logarithm: the first n from k on, at most f of them, with E n = a, beginning at x = E k. -/
def lgFrom (a : Nat) : Nat → Nat → Nat → Nat
  | 0, k, _ => k
  | f + 1, k, x => if x = a then k else lgFrom a f (k + 1) (dbl x)
def lg (a : Nat) : Nat := lgFrom a 255 0 1
theorem lg_all : ∀ a : Fin 256, a.val ≠ 0 → lg a.val < 255 ∧ E (lg a.val) = a.val := by decide +kernel
theorem lg_lt {a : Nat} (h : a < 256) (h0 : a ≠ 0) : lg a < 255 := (lg_all ⟨a, h⟩ h0).1
theorem E_lg {a : Nat} (h : a < 256) (h0 : a ≠ 0) : E (lg a) = a := (lg_all ⟨a, h⟩ h0).2
theorem lg_E' : ∀ i : Fin 255, lg (E i.val) = i.val ∧ E i.val ≠ 0 := by decide +kernel
theorem lg_E {i : Nat} (h : i < 255) : lg (E i) = i := (lg_E' ⟨i, h⟩).1
theorem E_ne (i : Nat) : E i ≠ 0 := by
  rw [← E_mod]; exact (lg_E' ⟨i % 255, Nat.mod_lt _ (by decide)⟩).2
theorem lg_E_mod (i : Nat) : lg (E i) = i % 255 := by rw [← E_mod, lg_E (Nat.mod_lt _ (by decide))]
theorem E_inj {i j : Nat} (h : E i = E j) : i % 255 = j % 255 := by rw [← lg_E_mod, h, lg_E_mod]

theorem mul_comm {a b : Nat} (ha : a < 256) (hb : b < 256) : mul a b = mul b a := by
  by_cases a0 : a = 0
  · rw [a0, zero_mul hb, mul_zero hb]
  by_cases b0 : b = 0
  · rw [b0, zero_mul ha, mul_zero ha]
  rw [← E_lg ha a0, ← E_lg hb b0, E_mul, E_mul, Nat.add_comm]
theorem mul_assoc {a b c : Nat} (ha : a < 256) (hb : b < 256) (hc : c < 256) : mul a (mul b c) = mul (mul a b) c := by
  by_cases a0 : a = 0
  · rw [a0, zero_mul (mul_lt hb), zero_mul hb, zero_mul hc]
  by_cases b0 : b = 0
  · rw [b0, zero_mul hc, mul_zero ha, zero_mul hc]
  by_cases c0 : c = 0
  · rw [c0, mul_zero hb, mul_zero ha, mul_zero (mul_lt ha)]
  rw [← E_lg ha a0, ← E_lg hb b0, ← E_lg hc c0, E_mul, E_mul, E_mul, E_mul, Nat.add_assoc]

theorem rmul_bits : ∀ k : Fin 8, ∀ b : Fin 256, rmulTo (2 ^ k.val) b.val 8 = mul (2 ^ k.val) b.val := by decide +kernel
theorem rmul_eq {a b : Nat} (ha : a < 256) (hb : b < 256) : rmulTo a b 8 = mul a b :=
  add_ext (f := fun a => rmulTo a b 8) (g := fun a => mul a b) (fun _ _ hp hq => rmulTo_xor_l hp hq b 8) (fun _ _ hp hq => mul_xor_l hp hq b)
    (fun k hk => rmul_bits ⟨k, hk⟩ ⟨b, hb⟩) a ha
theorem sq_xor {a b : Nat} (ha : a < 256) (hb : b < 256) : mul (a ^^^ b) (a ^^^ b) = mul a a ^^^ mul b b := by
  rw [mul_xor_l ha hb, mul_xor_r ha, mul_xor_r hb, mul_comm hb ha, xor4, ← xor4, ← Nat.xor_assoc, Nat.xor_assoc (mul a a), Nat.xor_self, Nat.xor_zero]

/-- The powers by squares: what the low k bits of n have made. -/
theorem pow_step1 (i n k : Nat) (h : n / 2 ^ k % 2 = 1) : mul (E (i * (n % 2 ^ k))) (E (i * 2 ^ k)) = E (i * (n % 2 ^ (k + 1))) := by
  rw [E_mul, ← Nat.mul_add, Nat.pow_succ, Nat.mod_mul, h, Nat.mul_one]
theorem pow_step0 (i n k : Nat) (h : n / 2 ^ k % 2 ≠ 1) : E (i * (n % 2 ^ k)) = E (i * (n % 2 ^ (k + 1))) := by
  have h0 : n / 2 ^ k % 2 = 0 := by omega
  rw [Nat.pow_succ, Nat.mod_mul, h0, Nat.mul_zero, Nat.add_zero]
theorem pow_sq (i k : Nat) : mul (E (i * 2 ^ k)) (E (i * 2 ^ k)) = E (i * 2 ^ (k + 1)) := by
  rw [E_mul, ← Nat.mul_add, Nat.pow_succ]; congr 2; omega
/-- An exponent modulo 255, from 0 on. -/
def cyc (n : Int) : Nat := (n % 255).toNat
theorem cyc_lt (n : Int) : cyc n < 255 := by unfold cyc; omega
theorem cyc_int (n : Int) : (cyc n : Int) = n % 255 := by unfold cyc; omega
/-- a to the power of n, for an a that is not 0. -/
def pw (a n : Nat) : Nat := E (lg a * n)
theorem pw_lt (a n : Nat) : pw a n < 256 := E_lt _
def invV (a : Nat) : Nat := if a = 0 then 0 else pw a 254
def errZ (a : Nat) : Int := if a = 0 then 4 else 0
def divV (a b : Nat) : Nat := if b = 0 then 0 else mul a (invV b)
def powV (a : Nat) (n : Int) : Nat := if a = 0 then (if n = 0 then 1 else 0) else pw a (cyc n)
def powE (a : Nat) (n : Int) : Int := if a = 0 then (if n < 0 then 4 else 0) else 0
def logV (a : Nat) : Nat := if a = 0 then 0 else lg a
theorem invV_lt (a : Nat) : invV a < 256 := by unfold invV; split; · decide
                                               · exact pw_lt _ _
theorem powV_lt (a : Nat) (n : Int) : powV a n < 256 := by
  unfold powV; split
  · split <;> decide
  · exact pw_lt _ _
theorem divV_lt {a b : Nat} (ha : a < 256) : divV a b < 256 := by unfold divV; split; · decide
                                                                  · exact mul_lt ha
theorem lg_two : lg 2 = 1 := by decide +kernel
end Go.Proofs.YtmejneobfkbgeaaGreatDoor.FM

namespace Go.Proofs.YtmejneobfkbgeaaGreatDoor.PM

/-- An element of the field. -/
structure G where
  v : Nat
  lt : v < 256
namespace G
theorem ext' {a b : G} (h : a.v = b.v) : a = b := by cases a; cases b; cases h; rfl
instance : DecidableEq G := fun a b => if h : a.v = b.v then isTrue (ext' h) else isFalse (fun e => h (by rw [e]))
instance : Add G := ⟨fun a b => ⟨a.v ^^^ b.v, FM.xor_lt a.lt b.lt⟩⟩
instance : Mul G := ⟨fun a b => ⟨FM.mul a.v b.v, FM.mul_lt a.lt⟩⟩
def z : G := ⟨0, by decide⟩
def one : G := ⟨1, by decide⟩
instance : Zero G := ⟨z⟩
instance : Inhabited G := ⟨z⟩
theorem add_v (a b : G) : (a + b).v = a.v ^^^ b.v := rfl
theorem mul_v (a b : G) : (a * b).v = FM.mul a.v b.v := rfl
theorem zero_v : (0 : G).v = 0 := rfl
theorem v_zero {a : G} : a.v = 0 ↔ a = 0 := ⟨fun h => ext' h, fun h => by rw [h]; rfl⟩
theorem add_comm (a b : G) : a + b = b + a := ext' (Nat.xor_comm _ _)
theorem add_assoc (a b c : G) : a + b + c = a + (b + c) := ext' (Nat.xor_assoc _ _ _)
theorem add_left_comm (a b c : G) : a + (b + c) = b + (a + c) := by rw [← add_assoc, add_comm a b, add_assoc]
theorem add_zero (a : G) : a + 0 = a := ext' (Nat.xor_zero _)
theorem zero_add (a : G) : 0 + a = a := ext' (Nat.zero_xor _)
theorem add_self (a : G) : a + a = 0 := ext' (Nat.xor_self _)
theorem mul_comm (a b : G) : a * b = b * a := ext' (FM.mul_comm a.lt b.lt)
theorem mul_assoc (a b c : G) : a * b * c = a * (b * c) := ext' (FM.mul_assoc a.lt b.lt c.lt).symm
theorem mul_left_comm (a b c : G) : a * (b * c) = b * (a * c) := by rw [← mul_assoc, mul_comm a b, mul_assoc]
theorem mul_add (a b c : G) : a * (b + c) = a * b + a * c := ext' (FM.mul_xor_r a.lt _ _)
theorem add_mul (a b c : G) : (a + b) * c = a * c + b * c := ext' (FM.mul_xor_l a.lt b.lt _)
theorem mul_zero (a : G) : a * 0 = 0 := ext' (FM.mul_zero a.lt)
theorem zero_mul (a : G) : 0 * a = 0 := ext' (FM.zero_mul a.lt)
theorem mul_one (a : G) : a * one = a := ext' (FM.mul_one a.lt)
theorem one_mul (a : G) : one * a = a := by rw [mul_comm, mul_one]
theorem mul_ne {a b : G} (ha : a ≠ 0) (hb : b ≠ 0) : a * b ≠ 0 := by
  intro h
  have h1 := congrArg G.v h
  rw [mul_v, ← FM.E_lg a.lt (fun e => ha (ext' e)), ← FM.E_lg b.lt (fun e => hb (ext' e)), FM.E_mul] at h1
  exact FM.E_ne _ h1
theorem mul_eq_zero {a b : G} : a * b = 0 ↔ a = 0 ∨ b = 0 := by
  constructor
  · intro h
    by_cases ha : a = 0
    · exact .inl ha
    · by_cases hb : b = 0
      · exact .inr hb
      · exact absurd h (mul_ne ha hb)
  · rintro (rfl | rfl)
    · exact zero_mul _
    · exact mul_zero _
theorem add_eq_zero {a b : G} : a + b = 0 ↔ a = b := by
  constructor
  · intro h
    have : a + b + b = 0 + b := by rw [h]
    rwa [add_assoc, add_self, add_zero, zero_add] at this
  · rintro rfl; exact add_self _
theorem add_cancel (a b : G) : a + (a + b) = b := by rw [← add_assoc, add_self, zero_add]
theorem add4 (a b c d : G) : (a + b) + (c + d) = (a + c) + (b + d) := by
  rw [add_assoc, add_assoc, add_left_comm b c d]
/-- The inverse. -/
def inv (a : G) : G := ⟨FM.invV a.v, FM.invV_lt _⟩
theorem mul_inv {a : G} (h : a ≠ 0) : a * a.inv = one := by
  refine ext' ?_
  have h0 : a.v ≠ 0 := fun e => h (ext' e)
  show FM.mul a.v (FM.invV a.v) = 1
  unfold FM.invV FM.pw
  rw [if_neg h0]
  have e1 := FM.E_lg a.lt h0
  have e2 := FM.E_mul (FM.lg a.v) (FM.lg a.v * 254)
  rw [e1] at e2
  rw [e2, show FM.lg a.v + FM.lg a.v * 254 = 0 + 255 * FM.lg a.v by omega, FM.E_mul255]
  rfl
theorem one_ne : one ≠ (0 : G) := by intro h; have := congrArg G.v h; exact absurd this (by decide)
theorem inv_ne {a : G} (h : a ≠ 0) : a.inv ≠ 0 := by
  intro e; have := mul_inv h; rw [e, mul_zero] at this; exact one_ne this.symm
end G
open Go.Proofs.YtmejneobfkbgeaaGreatDoor.PM.G

abbrev Co := Nat → G
/-- Shift down, shift up. -/
def sh (f : Co) : Co := fun k => f (k + 1)
def up (f : Co) : Co := fun k => match k with | 0 => 0 | k + 1 => f k
def addC (f g : Co) : Co := fun k => f k + g k
def smul (c : G) (f : Co) : Co := fun k => c * f k
def zeroC : Co := fun _ => 0
/-- The product. -/
def conv : Co → Co → Co := fun f g k => match k with
  | 0 => f 0 * g 0
  | k + 1 => f 0 * g (k + 1) + conv (sh f) g k
/-- The derivative. -/
def der (f : Co) : Co := fun k => if k % 2 = 0 then f (k + 1) else 0

theorem conv_zero (f g : Co) : conv f g 0 = f 0 * g 0 := by rw [conv]
theorem conv_succ (f g : Co) (k : Nat) : conv f g (k + 1) = f 0 * g (k + 1) + conv (sh f) g k := by rw [conv]
theorem conv_add_l (f g h : Co) : ∀ k, conv (addC f g) h k = conv f h k + conv g h k := by
  intro k
  induction k generalizing f g with
  | zero => rw [conv_zero, conv_zero, conv_zero]; exact add_mul _ _ _
  | succ k ih =>
    rw [conv_succ, conv_succ, conv_succ, show sh (addC f g) = addC (sh f) (sh g) from rfl, ih, show addC f g 0 = f 0 + g 0 from rfl, add_mul, add4]
theorem conv_smul_l (c : G) (f h : Co) : ∀ k, conv (smul c f) h k = c * conv f h k := by
  intro k
  induction k generalizing f with
  | zero => rw [conv_zero, conv_zero]; exact mul_assoc _ _ _
  | succ k ih =>
    rw [conv_succ, conv_succ, show sh (smul c f) = smul c (sh f) from rfl, ih, show smul c f 0 = c * f 0 from rfl, mul_add, mul_assoc]
theorem conv_zeroC_l (h : Co) : ∀ k, conv zeroC h k = 0 := by
  intro k
  induction k with
  | zero => rw [conv_zero]; exact zero_mul _
  | succ k ih => rw [conv_succ, show sh zeroC = zeroC from rfl, ih, show zeroC 0 = 0 from rfl, zero_mul, add_zero]
theorem conv_succ_r (f g : Co) : ∀ k, conv f g (k + 1) = f (k + 1) * g 0 + conv f (sh g) k := by
  intro k
  induction k generalizing f with
  | zero => rw [conv_succ, conv_zero, conv_zero, add_comm]; rfl
  | succ k ih =>
    rw [conv_succ, ih, conv_succ, show sh f (k + 1) = f (k + 1 + 1) from rfl, show sh g (k + 1) = g (k + 1 + 1) from rfl, add_left_comm]
theorem conv_comm (f g : Co) : ∀ k, conv f g k = conv g f k := by
  intro k
  induction k generalizing f g with
  | zero => rw [conv_zero, conv_zero, mul_comm]
  | succ k ih => rw [conv_succ, conv_succ_r g f, ih, mul_comm]
theorem conv_add_r (f g h : Co) (k : Nat) : conv f (addC g h) k = conv f g k + conv f h k := by
  rw [conv_comm, conv_add_l, conv_comm g, conv_comm h]
theorem conv_smul_r (c : G) (f h : Co) (k : Nat) : conv f (smul c h) k = c * conv f h k := by
  rw [conv_comm, conv_smul_l, conv_comm]
theorem sh_conv (f g : Co) : sh (conv f g) = addC (smul (f 0) (sh g)) (conv (sh f) g) := by
  funext k; exact conv_succ f g k
theorem conv_assoc (f g h : Co) : ∀ k, conv (conv f g) h k = conv f (conv g h) k := by
  intro k
  induction k generalizing f g with
  | zero => rw [conv_zero, conv_zero, conv_zero, conv_zero, mul_assoc]
  | succ k ih =>
    rw [conv_succ, sh_conv, conv_add_l, conv_smul_l, ih, conv_succ f, conv_zero, conv_succ g, mul_add, mul_assoc, add_assoc]
theorem conv_up_zero (f g : Co) : conv (up f) g 0 = 0 := by rw [conv_zero]; exact zero_mul _
theorem conv_up_succ (f g : Co) (k : Nat) : conv (up f) g (k + 1) = conv f g k := by
  rw [conv_succ, show sh (up f) = f from rfl, show up f 0 = 0 from rfl, zero_mul, zero_add]
theorem der_addC (f g : Co) (k : Nat) : der (addC f g) k = der f k + der g k := by
  unfold der addC; split
  · rfl
  · rw [add_zero]
theorem der_smul (c : G) (f : Co) (k : Nat) : der (smul c f) k = c * der f k := by
  unfold der smul; split
  · rfl
  · rw [mul_zero]
theorem der_up (h : Co) (k : Nat) : der (up h) k = h k + up (der h) k := by
  cases k with
  | zero => show (if 0 % 2 = 0 then h 0 else 0) = h 0 + 0; rw [add_zero]; rfl
  | succ k =>
    show (if (k + 1) % 2 = 0 then h (k + 1) else 0) = h (k + 1) + (if k % 2 = 0 then h (k + 1) else 0)
    by_cases e : k % 2 = 0
    · rw [if_neg (by omega), if_pos e, add_self]
    · rw [if_pos (by omega), if_neg e, add_zero]
theorem der_eq (f : Co) (k : Nat) : der f k = sh f k + up (der (sh f)) k := by
  have h := der_up (sh f) k
  rw [← h]; unfold der; rfl
theorem der_conv_eq (f g : Co) (k : Nat) : der (conv f g) k = f 0 * der g k + der (up (conv (sh f) g)) k := by
  rw [← der_smul, ← der_addC]
  unfold der addC smul
  split
  · rw [conv_succ]; rfl
  · rfl
theorem der_conv (f g : Co) : ∀ k, der (conv f g) k = conv (der f) g k + conv f (der g) k := by
  intro k
  induction k generalizing f with
  | zero =>
    rw [der_conv_eq, der_up, show up (der (conv (sh f) g)) 0 = 0 from rfl, conv_zero, conv_zero, conv_zero, add_zero, show der f 0 = sh f 0 from rfl, add_comm]
  | succ k ih =>
    have e1 : der f = addC (sh f) (up (der (sh f))) := by funext j; exact der_eq f j
    rw [der_conv_eq, der_up, show up (der (conv (sh f) g)) (k + 1) = der (conv (sh f) g) k from rfl, ih, e1, conv_add_l, conv_up_succ, conv_succ f (der g)]
    generalize f 0 * der g (k + 1) = a, conv (sh f) g (k + 1) = b, conv (der (sh f)) g k = c, conv (sh f) (der g) k = d
    rw [add_left_comm a b, add_left_comm a c, add_assoc b]

/-- From n on all coefficients are 0. -/
def Van (f : Co) (n : Nat) : Prop := ∀ k, n ≤ k → f k = 0
theorem Van.mono {f : Co} {m n : Nat} (h : Van f m) (hm : m ≤ n) : Van f n := fun k hk => h k (by omega)
theorem Van.sh {f : Co} {n : Nat} (h : Van f (n + 1)) : Van (sh f) n := fun k hk => h (k + 1) (by omega)
theorem van_zero {f : Co} (h : Van f 0) : f = zeroC := by funext k; exact h k (Nat.zero_le _)
theorem Van.addC {f g : Co} {n : Nat} (hf : Van f n) (hg : Van g n) : Van (addC f g) n := fun k hk => by
  show f k + g k = 0; rw [hf k hk, hg k hk, add_zero]
theorem Van.smul {f : Co} {n : Nat} (hf : Van f n) (c : G) : Van (smul c f) n := fun k hk => by
  show c * f k = 0; rw [hf k hk, mul_zero]
theorem Van.der {f : Co} {n : Nat} (hf : Van f (n + 1)) : Van (der f) n := fun k hk => by
  unfold PM.der; split
  · exact hf _ (by omega)
  · rfl
/-- The highest coefficient of a product. -/
theorem conv_top (f g : Co) (m n : Nat) (hf : Van f (m + 1)) (hg : Van g (n + 1)) : conv f g (m + n) = f m * g n ∧ Van (conv f g) (m + n + 1) := by
  induction m generalizing f with
  | zero =>
    have e : PM.sh f = zeroC := van_zero hf.sh
    have hc : ∀ k, conv f g k = f 0 * g k := by
      intro k
      cases k with
      | zero => rw [conv_zero]
      | succ k => rw [conv_succ, e, conv_zeroC_l, add_zero]
    rw [Nat.zero_add]
    exact ⟨hc n, fun k hk => by rw [hc, hg k hk, mul_zero]⟩
  | succ m ih =>
    obtain ⟨h1, h2⟩ := ih (PM.sh f) hf.sh
    rw [show m + 1 + n = m + n + 1 by omega]
    refine ⟨by rw [conv_succ, h1, hg _ (by omega), mul_zero, zero_add]; rfl, fun k hk => ?_⟩
    obtain ⟨k, rfl⟩ : ∃ j, k = j + 1 := ⟨k - 1, by omega⟩
    rw [conv_succ, hg _ (by omega), mul_zero, zero_add, h2 _ (by omega)]
theorem conv_van (f g : Co) (m n : Nat) (hf : Van f m) (hg : Van g (n + 1)) : Van (conv f g) (m + n) := by
  cases m with
  | zero => rw [van_zero hf]; exact fun k _ => conv_zeroC_l g k
  | succ m => rw [show m + 1 + n = m + n + 1 by omega]; exact (conv_top f g m n hf hg).2

/-- The value of the first n terms. -/
def evn (n : Nat) (f : Co) (x : G) : G := match n with
  | 0 => 0
  | n + 1 => f 0 + x * evn n (sh f) x
theorem evn_succ (n : Nat) (f : Co) (x : G) : evn (n + 1) f x = f 0 + x * evn n (sh f) x := by rw [evn]
theorem evn_addC (x : G) : ∀ (n : Nat) (f g : Co), evn n (addC f g) x = evn n f x + evn n g x
  | 0, _, _ => (add_zero _).symm
  | n + 1, f, g => by
    rw [evn_succ, evn_succ, evn_succ, show sh (addC f g) = addC (sh f) (sh g) from rfl, evn_addC x n, mul_add, show addC f g 0 = f 0 + g 0 from rfl, add4]
theorem evn_smul (x c : G) : ∀ (n : Nat) (f : Co), evn n (smul c f) x = c * evn n f x
  | 0, _ => (mul_zero _).symm
  | n + 1, f => by
    rw [evn_succ, evn_succ, show sh (smul c f) = smul c (sh f) from rfl, evn_smul x c n, show smul c f 0 = c * f 0 from rfl, mul_add, mul_left_comm]
theorem evn_zeroC (x : G) : ∀ n, evn n zeroC x = 0
  | 0 => rfl
  | n + 1 => by rw [evn_succ, show sh zeroC = zeroC from rfl, evn_zeroC x n, mul_zero, show zeroC 0 = 0 from rfl, add_zero]
theorem evn_van (x : G) : ∀ (n m : Nat) (f : Co), Van f n → n ≤ m → evn m f x = evn n f x
  | 0, m, f, h, _ => by rw [van_zero h, evn_zeroC]; rfl
  | n + 1, m, f, h, hm => by
    obtain ⟨m, rfl⟩ : ∃ j, m = j + 1 := ⟨m - 1, by omega⟩
    rw [evn_succ, evn_succ, evn_van x n m _ h.sh (by omega)]
theorem evn_conv (x : G) (g : Co) (n : Nat) (hg : Van g n) : ∀ (m : Nat) (f : Co), Van f m → evn (m + n) (conv f g) x = evn m f x * evn n g x
  | 0, f, hf => by
    have e : conv f g = zeroC := by funext k; rw [van_zero hf]; exact conv_zeroC_l g k
    rw [e, evn_zeroC, show evn 0 f x = 0 from rfl, zero_mul]
  | m + 1, f, hf => by
    rw [show m + 1 + n = m + n + 1 by omega, evn_succ, sh_conv, evn_addC, evn_smul, evn_conv x g n hg m _ hf.sh, conv_zero, evn_succ m f]
    have h1 := evn_van x n (m + n + 1) g hg (by omega)
    rw [evn_succ] at h1
    rw [← h1]
    generalize evn (m + n) (sh g) x = a at *
    rw [h1, mul_add, mul_left_comm x (f 0), ← mul_assoc x, ← add_assoc, ← mul_add, h1, add_mul]
/-- From the highest term down. -/
theorem evn_drop (x : G) (f : Co) (k : Nat) : ∀ n, evn (n + 1) (fun i => f (k + i)) x = f k + x * evn n (fun i => f (k + 1 + i)) x := by
  intro n
  rw [evn_succ]
  have : sh (fun i => f (k + i)) = fun i => f (k + 1 + i) := by funext i; show f (k + (i + 1)) = f (k + 1 + i); congr 1; omega
  rw [this]; rfl

/-- Element k of a list, 0 behind the end. -/
def el (p : List G) (k : Nat) : G := p.getD k 0
theorem el_ge {p : List G} {k : Nat} (h : p.length ≤ k) : el p k = 0 := by unfold el; simp [List.getD, List.getElem?_eq_none h]
theorem el_lt {p : List G} {k : Nat} (h : k < p.length) : el p k = p[k] := by unfold el; simp [List.getD, List.getElem?_eq_getElem h]
theorem el_nil (k : Nat) : el [] k = 0 := rfl
theorem el_van (p : List G) : Van (el p) p.length := fun _ h => el_ge h
theorem el_set {p : List G} {j : Nat} (h : j < p.length) (c : G) (k : Nat) : el (p.set j c) k = if k = j then c else el p k := by
  by_cases e : k = j
  · subst e; rw [if_pos rfl, el_lt (by simpa using h)]; simp
  · rw [if_neg e]; unfold el
    simp only [List.getD, List.getElem?_set_ne (Ne.symm e)]
theorem el_append {p q : List G} (k : Nat) : el (p ++ q) k = if k < p.length then el p k else el q (k - p.length) := by
  unfold el; simp only [List.getD]
  by_cases e : k < p.length
  · rw [if_pos e, List.getElem?_append_left e]
  · rw [if_neg e, List.getElem?_append_right (by omega)]
theorem el_take (p : List G) (n k : Nat) : el (p.take n) k = if k < n then el p k else 0 := by
  unfold el; simp only [List.getD, List.getElem?_take]
  split <;> rfl
theorem el_drop (p : List G) (n k : Nat) : el (p.drop n) k = el p (n + k) := by
  unfold el; simp only [List.getD, List.getElem?_drop]
theorem el_replicate (n k : Nat) : el (List.replicate n 0) k = 0 := by
  unfold el; simp only [List.getD, List.getElem?_replicate]
  split <;> rfl
theorem ext_el {p q : List G} (hl : p.length = q.length) (h : ∀ k, k < p.length → el p k = el q k) : p = q := by
  refine List.ext_getElem hl (fun k h1 h2 => ?_)
  have := h k h1
  rwa [el_lt h1, el_lt h2] at this

/-- No zero at the end. -/
def Can (p : List G) : Prop := 0 < p.length → el p (p.length - 1) ≠ 0
theorem can_nil : Can [] := fun h => absurd h (by simp)
theorem can_ext {p q : List G} (hp : Can p) (hq : Can q) (h : ∀ k, el p k = el q k) : p = q := by
  have key : ∀ {p q : List G}, Can p → (∀ k, el p k = el q k) → p.length ≤ q.length := by
    intro p q hp h
    rcases Nat.lt_or_ge q.length p.length with hlt | hge
    · exact absurd ((h _).trans (el_ge (by omega))) (hp (by omega))
    · exact hge
  exact ext_el (Nat.le_antisymm (key hp h) (key hq (fun k => (h k).symm))) (fun k _ => h k)
/-- The length is known by the coefficients. -/
theorem can_len {p : List G} (hp : Can p) {n : Nat} (hv : Van (el p) n) : p.length ≤ n := by
  rcases Nat.lt_or_ge n p.length with h | h
  · exact absurd (hv (p.length - 1) (by omega)) (hp (by omega))
  · exact h
/-- The list without the zeros at its end. -/
def trimL (p : List G) : List G := (p.reverse.dropWhile (fun c => decide (c = 0))).reverse
theorem trimL_append_zero (p : List G) : trimL (p ++ [0]) = trimL p := by
  unfold trimL; rw [List.reverse_append]; rfl
theorem trimL_append {p : List G} {c : G} (h : c ≠ 0) : trimL (p ++ [c]) = p ++ [c] := by
  unfold trimL; rw [List.reverse_append]
  simp [h]
theorem trimL_nil : trimL [] = [] := rfl
theorem split_last (p : List G) (h : p ≠ []) : ∃ q c, p = q ++ [c] := ⟨p.dropLast, p.getLast h, (List.dropLast_concat_getLast h).symm⟩
theorem trimL_all (p : List G) : (∀ k, el (trimL p) k = el p k) ∧ Can (trimL p) ∧ (trimL p).length ≤ p.length := by
  induction hn : p.length generalizing p with
  | zero => rw [List.length_eq_zero_iff.1 hn]; exact ⟨fun _ => rfl, can_nil, Nat.le_refl _⟩
  | succ n ih =>
    obtain ⟨q, c, rfl⟩ := split_last p (by intro e; rw [e] at hn; cases hn)
    have hq : q.length = n := by simpa using hn
    by_cases hc : c = 0
    · subst hc
      rw [trimL_append_zero]
      obtain ⟨h1, h2, h3⟩ := ih q hq
      refine ⟨fun k => ?_, h2, by omega⟩
      rw [h1, el_append]
      split
      · rfl
      · rename_i h
        rw [el_ge (by omega)]
        have : ∀ j, el [(0 : G)] j = 0 := fun j => by cases j <;> rfl
        rw [this]
    · rw [trimL_append hc]
      refine ⟨fun _ => rfl, fun _ => ?_, by rw [hn]; exact Nat.le_refl _⟩
      rw [el_append, List.length_append]
      simp only [List.length_cons, List.length_nil]
      rw [if_neg (by omega), show q.length + (0 + 1) - 1 - q.length = 0 by omega]
      exact hc
theorem el_trimL (p : List G) (k : Nat) : el (trimL p) k = el p k := (trimL_all p).1 k
theorem can_trimL (p : List G) : Can (trimL p) := (trimL_all p).2.1
theorem trimL_len (p : List G) : (trimL p).length ≤ p.length := (trimL_all p).2.2
theorem trimL_can {p : List G} (h : Can p) : trimL p = p := can_ext (can_trimL p) h (el_trimL p)
theorem trimL_none (p : List G) (h : ∀ j, el p j = 0) : trimL p = [] := can_ext (can_trimL p) can_nil (fun k => by rw [el_trimL, h]; rfl)
theorem trimL_take (p : List G) : p.take (trimL p).length = trimL p := by
  refine ext_el (by rw [List.length_take]; have := trimL_len p; omega) (fun k hk => ?_)
  rw [List.length_take] at hk
  rw [el_take, if_pos (by omega), el_trimL]
theorem trimL_at (p : List G) (k : Nat) (hne : el p k ≠ 0) (h : ∀ j, k < j → el p j = 0) : (trimL p).length = k + 1 := by
  have h1 : (trimL p).length ≤ k + 1 := can_len (can_trimL p) (fun j hj => by rw [el_trimL]; exact h j (by omega))
  rcases Nat.lt_or_ge k (trimL p).length with h2 | h2
  · omega
  · exact absurd ((el_trimL p k).symm.trans (el_ge h2)) hne
/-- The value at x. -/
def ev (p : List G) (x : G) : G := evn p.length (el p) x
theorem ev_any (p : List G) (x : G) {n : Nat} (h : p.length ≤ n) : evn n (el p) x = ev p x := evn_van x _ _ _ (el_van p) h
theorem ev_can {p q : List G} (h : ∀ k, el p k = el q k) (x : G) : ev p x = ev q x := by
  have e : el p = el q := funext h
  rw [← ev_any p x (Nat.le_max_left _ q.length), ← ev_any q x (Nat.le_max_right p.length _), e]
end Go.Proofs.YtmejneobfkbgeaaGreatDoor.PM

namespace Go.Proofs.YtmejneobfkbgeaaGreatDoor.PM
open Go.Proofs.YtmejneobfkbgeaaGreatDoor.PM.G

/-- c times the power k of the variable. -/
def mono (c : G) (k : Nat) : Co := fun j => if j = k then c else 0
theorem mono_succ (c : G) (k : Nat) : mono c (k + 1) = up (mono c k) := by
  funext j
  cases j with
  | zero => rfl
  | succ j => show (if j + 1 = k + 1 then c else 0) = (if j = k then c else 0); simp
theorem conv_mono (c : G) (g : Co) : ∀ (k j : Nat), conv (mono c k) g j = if j < k then 0 else c * g (j - k)
  | 0, j => by
    rw [if_neg (Nat.not_lt_zero _)]
    cases j with
    | zero => rw [conv_zero]; rfl
    | succ j =>
      rw [conv_succ, show sh (mono c 0) = zeroC by funext i; rfl, conv_zeroC_l, add_zero]; rfl
  | k + 1, j => by
    rw [mono_succ]
    cases j with
    | zero => rw [conv_up_zero, if_pos (Nat.succ_pos _)]
    | succ j =>
      rw [conv_up_succ, conv_mono c g k j]
      by_cases h : j < k
      · rw [if_pos h, if_pos (by omega)]
      · rw [if_neg h, if_neg (by omega), show j + 1 - (k + 1) = j - k by omega]
/-- A multiple of g, k places up, joins the product. -/
theorem conv_put (f f' g : Co) (c : G) (k : Nat) (h0 : f k = 0) (h : ∀ i, f' i = if i = k then c else f i) (j : Nat) : conv f' g j = conv f g j + if j < k then 0 else c * g (j - k) := by
  have e : f' = addC f (mono c k) := by
    funext i
    rw [h]; show _ = f i + (if i = k then c else 0)
    by_cases hi : i = k
    · rw [if_pos hi, if_pos hi, hi, h0, zero_add]
    · rw [if_neg hi, if_neg hi, add_zero]
  rw [e, conv_add_l, conv_mono]

theorem top_or (e : Co) : ∀ N, Van e N → e = zeroC ∨ ∃ m, e m ≠ 0 ∧ Van e (m + 1)
  | 0, h => .inl (van_zero h)
  | N + 1, h => by
    by_cases h0 : e N = 0
    · exact top_or e N (fun k hk => by
        by_cases hk' : k = N
        · rw [hk', h0]
        · exact h k (by omega))
    · exact .inr ⟨N, h0, h⟩
/-- A product with less than the factor's degree is 0. -/
theorem conv_small (e g : Co) (n N : Nat) (hg : Van g (n + 1)) (hn : g n ≠ 0) (he : Van e N) (h : Van (conv e g) n) : e = zeroC := by
  rcases top_or e N he with h0 | ⟨m, hm, hv⟩
  · exact h0
  · have h1 := (conv_top e g m n hv hg).1
    rw [h _ (by omega)] at h1
    exact absurd h1.symm (mul_ne hm hn)
/-- There is one quotient and one rest. -/
theorem div_unique (p a a' r r' g : Co) (n N N' : Nat) (hg : Van g (n + 1)) (hn : g n ≠ 0) (ha : Van a N) (ha' : Van a' N') (hr : Van r n) (hr' : Van r' n)
    (h : ∀ k, p k = conv a g k + r k) (h' : ∀ k, p k = conv a' g k + r' k) : a = a' ∧ r = r' := by
  have e : ∀ k, conv (addC a a') g k = r k + r' k := by
    intro k
    rw [conv_add_l]
    have := (h k).symm.trans (h' k)
    have h2 : conv a g k + r k + (conv a' g k + r k) = conv a' g k + r' k + (conv a' g k + r k) := by rw [this]
    rw [add4, add_self, add_zero, add4, add_self, zero_add] at h2
    rw [h2, add_comm]
  have hz := conv_small (addC a a') g n (N + N') hg hn ((ha.mono (by omega)).addC (ha'.mono (by omega))) (fun k hk => by rw [e, hr k hk, hr' k hk, add_zero])
  have ea : ∀ k, a k = a' k := fun k => add_eq_zero.1 (congrFun hz k)
  refine ⟨funext ea, funext fun k => add_eq_zero.1 ?_⟩
  rw [← e, hz, conv_zeroC_l]

/-- g divides p. -/
def Dv (g p : Co) : Prop := ∃ d N, Van d N ∧ ∀ k, p k = conv d g k
theorem Dv.zero (g : Co) : Dv g zeroC := ⟨zeroC, 0, fun _ _ => rfl, fun k => (conv_zeroC_l g k).symm⟩
def oneC : Co := mono one 0
theorem conv_oneC (g : Co) (k : Nat) : conv oneC g k = g k := by
  unfold oneC; rw [conv_mono, if_neg (Nat.not_lt_zero _), one_mul, Nat.sub_zero]
theorem Dv.refl (g : Co) : Dv g g := ⟨oneC, 1, fun k hk => by show (if k = 0 then one else 0) = 0; rw [if_neg (by omega)], fun k => (conv_oneC g k).symm⟩
/-- A divisor of the divisor and of the rest divides. -/
theorem Dv.step {g p q r a : Co} {N : Nat} (hq : Dv g q) (hr : Dv g r) (ha : Van a N) (h : ∀ k, p k = conv a q k + r k) : Dv g p := by
  obtain ⟨d, D, hd, hqd⟩ := hq
  obtain ⟨s, S, hs, hrs⟩ := hr
  refine ⟨addC (conv a d) s, N + (D + 1) + S, Van.addC ((conv_van a d N D ha (hd.mono (by omega))).mono (by omega)) (hs.mono (by omega)), fun k => ?_⟩
  rw [h, hrs, conv_add_l, conv_assoc, show q = conv d g from funext hqd]
/-- The divisor times an element that is not 0. -/
theorem Dv.scale {g p : Co} (h : Dv g p) {c : G} (hc : c ≠ 0) (g' : Co) (hg : ∀ k, g' k = c * g k) : Dv g' p := by
  obtain ⟨d, D, hd, hp⟩ := h
  refine ⟨smul c.inv d, D, hd.smul _, fun k => ?_⟩
  rw [show g' = smul c g from funext hg, conv_smul_l, conv_smul_r, ← mul_assoc, mul_comm c.inv, mul_inv hc, one_mul, hp]
theorem Dv.of_zero {g p : Co} (h : Dv g p) (hg : ∀ k, g k = 0) (k : Nat) : p k = 0 := by
  obtain ⟨d, D, _, hp⟩ := h
  rw [hp, show g = zeroC from funext hg, conv_comm, conv_zeroC_l]
/-- What is divided leaves no rest. -/
theorem Dv.rest {g p a r : Co} {n N : Nat} (h : Dv g p) (hg : Van g (n + 1)) (hn : g n ≠ 0) (ha : Van a N) (hr : Van r n) (he : ∀ k, p k = conv a g k + r k) : ∀ k, r k = 0 := by
  obtain ⟨d, D, hd, hp⟩ := h
  have := (div_unique p a d r zeroC g n N D hg hn ha hd hr (fun _ _ => rfl) he (fun k => by rw [hp]; exact (add_zero _).symm)).2
  intro k; rw [this]; rfl

/-- The polynomial x + r. -/
def lin (r : G) : Co := fun k => if k = 0 then r else if k = 1 then one else 0
theorem conv_lin (r : G) (f : Co) (k : Nat) : conv (lin r) f k = r * f k + up f k := by
  cases k with
  | zero => rw [conv_zero]; show r * f 0 = r * f 0 + 0; rw [add_zero]
  | succ k =>
    rw [conv_succ]
    have : sh (lin r) = oneC := by
      funext j
      show (if j + 1 = 0 then r else if j + 1 = 1 then one else 0) = (if j = 0 then one else 0)
      rw [if_neg (by omega)]
      by_cases h : j = 0
      · rw [if_pos h, if_pos (by omega)]
      · rw [if_neg h, if_neg (by omega)]
    rw [this, conv_oneC]; rfl
theorem lin_van (r : G) : Van (lin r) 2 := fun k hk => by unfold lin; rw [if_neg (by omega), if_neg (by omega)]
theorem evn_lin (r x : G) : evn 2 (lin r) x = r + x := by
  rw [evn_succ, evn_succ, show evn 0 (sh (sh (lin r))) x = 0 from rfl, mul_zero, add_zero]
  show r + x * one = r + x
  rw [mul_one]
/-- What is left of a polynomial when a root is taken out. -/
def deflate (f : Co) (n : Nat) (r : G) : Co := fun k => evn (n - k) (fun i => f (k + 1 + i)) r
theorem deflate_van (f : Co) (n : Nat) (r : G) : Van (deflate f n r) n := fun k hk => by
  show evn (n - k) _ r = 0
  rw [show n - k = 0 by omega]; rfl
theorem deflate_eq (f : Co) (n : Nat) (r : G) (hf : Van f (n + 1)) (hr : evn (n + 1) f r = 0) (k : Nat) : f k = conv (lin r) (deflate f n r) k := by
  rw [conv_lin]
  have step : ∀ j, evn (n - j) (fun i => f (j + 1 + i)) r = f (j + 1) + r * evn (n - (j + 1)) (fun i => f (j + 1 + 1 + i)) r := by
    intro j
    rcases Nat.lt_or_ge j n with h | h
    · have e := evn_drop r f (j + 1) (n - (j + 1))
      rw [show n - (j + 1) + 1 = n - j by omega] at e
      exact e
    · rw [show n - j = 0 by omega, show n - (j + 1) = 0 by omega, hf _ (by omega)]
      show (0 : G) = 0 + r * 0
      rw [mul_zero, add_zero]
  cases k with
  | zero =>
    have h0 : evn (n + 1) f r = f 0 + r * evn n (sh f) r := evn_succ _ _ _
    rw [hr] at h0
    show f 0 = r * evn (n - 0) (fun i => f (0 + 1 + i)) r + 0
    rw [add_zero, Nat.sub_zero, show (fun i => f (0 + 1 + i)) = sh f by funext i; show f (0 + 1 + i) = f (i + 1); congr 1; omega]
    exact add_eq_zero.1 h0.symm
  | succ k =>
    show f (k + 1) = r * evn (n - (k + 1)) (fun i => f (k + 1 + 1 + i)) r + evn (n - k) (fun i => f (k + 1 + i)) r
    rw [step k, add_left_comm, add_self, add_zero]
theorem deflate_top (f : Co) (n : Nat) (r : G) : deflate f (n + 1) r n = f (n + 1) := by
  show evn (n + 1 - n) (fun i => f (n + 1 + i)) r = _
  rw [show n + 1 - n = 0 + 1 by omega, evn_drop]
  show f (n + 1) + r * 0 = _
  rw [mul_zero, add_zero]
/-- A polynomial of degree n has at most n roots. -/
theorem roots_le : ∀ (n : Nat) (f : Co), Van f (n + 1) → f n ≠ 0 → ∀ xs : List G, xs.Nodup → (∀ x ∈ xs, evn (n + 1) f x = 0) → xs.length ≤ n
  | 0, f, hf, hn, xs, _, hx => by
    cases xs with
    | nil => exact Nat.le_refl _
    | cons x xs =>
      have h := hx x (by simp)
      rw [evn_succ, show evn 0 (sh f) x = 0 from rfl, mul_zero, add_zero] at h
      exact absurd h hn
  | n + 1, f, hf, hn, xs, hd, hx => by
    cases xs with
    | nil => exact Nat.zero_le _
    | cons r xs =>
      obtain ⟨hr, hd'⟩ := List.nodup_cons.1 hd
      have hroot := hx r (by simp)
      have hdv := deflate_van f (n + 1) r
      have hc := deflate_eq f (n + 1) r hf hroot
      have := roots_le n (deflate f (n + 1) r) hdv (by rw [deflate_top f n r]; exact hn) xs hd' (fun x hxs => by
        have h1 := hx x (by simp [hxs])
        have h2 := evn_conv x (deflate f (n + 1) r) (n + 1) hdv 2 (lin r) (lin_van r)
        rw [show f = conv (lin r) (deflate f (n + 1) r) from funext hc] at h1
        rw [evn_van x (n + 1 + 1) (2 + (n + 1)) _ (by rw [← show f = conv (lin r) (deflate f (n + 1) r) from funext hc]; exact hf) (by omega), h1, evn_lin] at h2
        rcases mul_eq_zero.1 h2.symm with h | h
        · exact absurd (add_eq_zero.1 h) (fun e => hr (by rw [e]; exact hxs))
        · exact h)
      simp only [List.length_cons]
      omega
end Go.Proofs.YtmejneobfkbgeaaGreatDoor.PM

namespace Go.Proofs.YtmejneobfkbgeaaGreatDoor.SM
open PM (G)

def pw (x : G) : Nat → G
  | 0 => G.one
  | n + 1 => pw x n * x
theorem pw_0 (x : G) : pw x 0 = G.one := rfl
theorem pw_succ (x : G) (n : Nat) : pw x (n + 1) = pw x n * x := rfl
theorem pw_add (x : G) (m : Nat) : ∀ n, pw x (m + n) = pw x m * pw x n
  | 0 => by rw [pw_0, G.mul_one]; rfl
  | n + 1 => by rw [show m + (n + 1) = (m + n) + 1 from rfl, pw_succ, pw_succ, pw_add x m n, G.mul_assoc]
theorem pw_ne {x : G} (h : x ≠ 0) : ∀ n, pw x n ≠ 0
  | 0 => G.one_ne
  | n + 1 => G.mul_ne (pw_ne h n) h

/-- The sum over a list of places. -/
def lsum {α : Type} : List α → (α → G) → G
  | [], _ => 0
  | i :: S, f => f i + lsum S f
section
variable {α : Type}
theorem lsum_nil (f : α → G) : lsum [] f = 0 := rfl
theorem lsum_cons (i : α) (S : List α) (f : α → G) : lsum (i :: S) f = f i + lsum S f := rfl
theorem lsum_ext {f g : α → G} : ∀ {S : List α}, (∀ i ∈ S, f i = g i) → lsum S f = lsum S g
  | [], _ => rfl
  | i :: S, h => by rw [lsum_cons, lsum_cons, h i List.mem_cons_self, lsum_ext (fun k hk => h k (List.mem_cons_of_mem _ hk))]
theorem lsum_add (f g : α → G) : ∀ S : List α, lsum S (fun i => f i + g i) = lsum S f + lsum S g
  | [] => by rw [lsum_nil, lsum_nil, lsum_nil, G.add_zero]
  | i :: S => by rw [lsum_cons, lsum_cons, lsum_cons, lsum_add f g S, G.add4]
theorem lsum_smul (c : G) (f : α → G) : ∀ S : List α, lsum S (fun i => c * f i) = c * lsum S f
  | [] => by rw [lsum_nil, lsum_nil, G.mul_zero]
  | i :: S => by rw [lsum_cons, lsum_cons, lsum_smul c f S, G.mul_add]
theorem lsum_zero {f : α → G} : ∀ {S : List α}, (∀ i ∈ S, f i = 0) → lsum S f = 0
  | [], _ => rfl
  | i :: S, h => by rw [lsum_cons, h i List.mem_cons_self, lsum_zero (fun k hk => h k (List.mem_cons_of_mem _ hk)), G.add_zero]
theorem lsum_append (f : α → G) : ∀ S T : List α, lsum (S ++ T) f = lsum S f + lsum T f
  | [], T => by rw [lsum_nil, G.zero_add]; rfl
  | i :: S, T => by rw [List.cons_append, lsum_cons, lsum_cons, lsum_append f S T, G.add_assoc]
theorem lsum_filter (f : α → G) (p : α → Bool) (h : ∀ i, p i = false → f i = 0) : ∀ S : List α, lsum (S.filter p) f = lsum S f
  | [] => rfl
  | i :: S => by
    cases hp : p i with
    | true => rw [List.filter_cons_of_pos hp, lsum_cons, lsum_cons, lsum_filter f p h S]
    | false => rw [List.filter_cons_of_neg (by rw [hp]; decide), lsum_cons, h i hp, G.zero_add, lsum_filter f p h S]

/-- **Vandermonde**: amounts at different places whose first power sums vanish, as many as there are places, are all 0. -/
theorem van (X : α → G) : ∀ (S : List α) (e : α → G), S.Pairwise (fun i k => X i ≠ X k) → (∀ j, j < S.length → lsum S (fun i => e i * pw (X i) j) = 0) → ∀ i ∈ S, e i = 0
  | [], _, _, _ => fun i hi => absurd hi (List.not_mem_nil)
  | i0 :: S, e, hX, hs => by
    rw [List.pairwise_cons] at hX
    have step : ∀ j, j < S.length → lsum S (fun i => (e i * (X i + X i0)) * pw (X i) j) = 0 := fun j hj => by
      have h1 := hs (j + 1) (by rw [List.length_cons]; omega)
      have h0 := hs j (by rw [List.length_cons]; omega)
      have hc : lsum (i0 :: S) (fun i => (e i * (X i + X i0)) * pw (X i) j) = 0 := by
        rw [lsum_ext (g := fun i => e i * pw (X i) (j + 1) + X i0 * (e i * pw (X i) j)) (fun i _ => by
          rw [pw_succ, G.mul_add, G.add_mul, G.mul_assoc, G.mul_assoc, G.mul_comm (X i) (pw (X i) j), G.mul_left_comm (X i0), G.mul_comm (X i0) (pw (X i) j)])]
        rw [lsum_add, lsum_smul, h1, h0, G.mul_zero, G.add_zero]
      rw [lsum_cons, G.add_self, G.mul_zero, G.zero_mul, G.zero_add] at hc
      exact hc
    have hrest : ∀ i ∈ S, e i = 0 := fun i hi => by
      have := van X S (fun i => e i * (X i + X i0)) hX.2 step i hi
      rcases G.mul_eq_zero.1 this with h | h
      · exact h
      · exact absurd (G.add_eq_zero.1 h).symm (hX.1 i hi)
    intro i hi
    rcases List.mem_cons.1 hi with rfl | h
    · have h0 := hs 0 (by rw [List.length_cons]; omega)
      rw [lsum_cons, pw_0, G.mul_one, lsum_zero (fun k hk => by rw [hrest k hk, G.zero_mul]), G.add_zero] at h0
      exact h0
    · exact hrest i h
end

/-- The syndrome j of the amounts d at the places 0 .. n - 1, whose elements are X. -/
def syn (n : Nat) (X : Nat → G) (d : Nat → G) (j : Nat) : G := lsum (List.range n) (fun i => d i * pw (X i) j)
theorem syn_add (n : Nat) (X d d' : Nat → G) (j : Nat) : syn n X (fun i => d i + d' i) j = syn n X d j + syn n X d' j := by
  unfold syn
  rw [← lsum_add]
  exact lsum_ext (fun i _ => G.add_mul _ _ _)
theorem syn_smul (n : Nat) (X d : Nat → G) (c : G) (j : Nat) : syn n X (fun i => c * d i) j = c * syn n X d j := by
  unfold syn
  rw [← lsum_smul]
  exact lsum_ext (fun i _ => G.mul_assoc _ _ _)
/-- The places below n where d is not 0. -/
def supp (n : Nat) (d : Nat → G) : List Nat := (List.range n).filter (fun i => decide (d i ≠ 0))
theorem mem_supp {n : Nat} {d : Nat → G} {i : Nat} : i ∈ supp n d ↔ i < n ∧ d i ≠ 0 := by
  unfold supp
  rw [List.mem_filter, List.mem_range, decide_eq_true_iff]
theorem supp_nodup (n : Nat) (d : Nat → G) : (supp n d).Nodup := List.Pairwise.filter _ List.nodup_range
theorem syn_supp (n : Nat) (X d : Nat → G) (j : Nat) : syn n X d j = lsum (supp n d) (fun i => d i * pw (X i) j) := by
  unfold syn supp
  rw [lsum_filter]
  intro i hi
  have : d i = 0 := by
    by_cases h : d i = 0
    · exact h
    · rw [decide_eq_true h] at hi; cases hi
  rw [this, G.zero_mul]
/-- Different places have different elements. -/
def Inj (n : Nat) (X : Nat → G) : Prop := ∀ i, i < n → ∀ k, k < n → X i = X k → i = k
theorem pair_of {n : Nat} {X : Nat → G} (hX : Inj n X) {S : List Nat} (hS : S.Nodup) (hn : ∀ i ∈ S, i < n) : S.Pairwise (fun i k => X i ≠ X k) := by
  refine List.Pairwise.imp_of_mem ?_ hS
  intro i k hi hk hne e
  exact hne (hX i (hn i hi) k (hn k hk) e)
/-- A code word that is not 0 has more than m places that are not. -/
theorem mds {n m : Nat} {X d : Nat → G} (hX : Inj n X) (h : ∀ j, j < m → syn n X d j = 0) (hs : (supp n d).length ≤ m) : ∀ i, i < n → d i = 0 := by
  have hv := van X (supp n d) d (pair_of hX (supp_nodup n d) (fun i hi => (mem_supp.1 hi).1)) (fun j hj => by rw [← syn_supp]; exact h j (by omega))
  intro i hi
  by_cases h0 : d i = 0
  · exact h0
  · exact hv i (mem_supp.2 ⟨hi, h0⟩)
/-- What lies within a list has at most as many places. -/
theorem supp_le {n : Nat} {d : Nat → G} {S : List Nat} (h : ∀ i, i < n → d i ≠ 0 → i ∈ S) : (supp n d).length ≤ S.length := by
  have : ∀ (A B : List Nat), A.Nodup → (∀ i ∈ A, i ∈ B) → A.length ≤ B.length := by
    intro A
    induction A with
    | nil => intro B _ _; exact Nat.zero_le _
    | cons a A ih =>
      intro B hA hB
      rw [List.nodup_cons] at hA
      have ha := hB a List.mem_cons_self
      have h2 := ih (B.erase a) hA.2 (fun i hi => (List.mem_erase_of_ne (by rintro rfl; exact hA.1 hi)).2 (hB i (List.mem_cons_of_mem _ hi)))
      rw [List.length_erase_of_mem ha] at h2
      have := List.length_pos_of_mem ha
      rw [List.length_cons]
      omega
  exact this _ _ (supp_nodup n d) (fun i hi => h i (mem_supp.1 hi).1 (mem_supp.1 hi).2)
/-- **There is at most one code word so near**: two that differ from w at places of E and at few others are equal. -/
theorem near_one {n m : Nat} {X c c' w : Nat → G} {E O O' : List Nat} (hX : Inj n X) (h : ∀ j, j < m → syn n X c j = 0) (h' : ∀ j, j < m → syn n X c' j = 0)
    (hO : ∀ i, i < n → c i ≠ w i → i ∈ E ∨ i ∈ O) (hO' : ∀ i, i < n → c' i ≠ w i → i ∈ E ∨ i ∈ O') (hm : E.length + O.length + O'.length ≤ m) : ∀ i, i < n → c i = c' i := by
  have hd := mds (d := fun i => c i + c' i) hX (fun j hj => by rw [syn_add, h j hj, h' j hj, G.add_zero]) (Nat.le_trans (supp_le (S := E ++ (O ++ O')) (fun i hi hne => by
    by_cases e1 : c i = w i
    · have e2 : c' i ≠ w i := fun e2 => hne (by show c i + c' i = 0; rw [e1, e2, G.add_self])
      rcases hO' i hi e2 with h1 | h1
      · exact List.mem_append_left _ h1
      · exact List.mem_append_right _ (List.mem_append_right _ h1)
    · rcases hO i hi e1 with h1 | h1
      · exact List.mem_append_left _ h1
      · exact List.mem_append_right _ (List.mem_append_left _ h1))) (by rw [List.length_append, List.length_append]; omega))
  intro i hi
  exact G.add_eq_zero.1 (hd i hi)

/-- The erased place with the element y is taken out of the sequence. -/
def out (y : G) (u : Nat → G) (j : Nat) : G := u (j + 1) + y * u j
theorem out_lsum {α : Type} (X a : α → G) (y : G) (S : List α) (j : Nat) : out y (fun j => lsum S (fun i => a i * pw (X i) j)) j = lsum S (fun i => (a i * (X i + y)) * pw (X i) j) := by
  unfold out
  rw [← lsum_smul, ← lsum_add]
  exact lsum_ext (fun i _ => by
    rw [pw_succ, G.mul_add, G.add_mul, G.mul_assoc, G.mul_assoc, G.mul_comm (X i) (pw (X i) j), G.mul_left_comm y, G.mul_comm y (pw (X i) j)])
/-- The monic polynomial x^v + l_(v-1) x^(v-1) + .. + l_0 at x. -/
def loc (l : Nat → G) (v : Nat) (x : G) : G := pw x v + lsum (List.range v) (fun k => l k * pw x k)
/-- The equations of the sequence u for the locator l. -/
def Eqs (L v : Nat) (u l : Nat → G) : Prop := ∀ i, i + v < L → lsum (List.range v) (fun k => l k * u (i + k)) = u (i + v)
theorem lsum_swap {α β : Type} (f : α → β → G) : ∀ (S : List α) (T : List β), lsum S (fun i => lsum T (fun k => f i k)) = lsum T (fun k => lsum S (fun i => f i k))
  | [], T => by rw [lsum_nil]; exact (lsum_zero (fun k _ => lsum_nil _)).symm
  | i :: S, T => by
    rw [lsum_cons, lsum_swap f S T, ← lsum_add]
    exact lsum_ext (fun k _ => (lsum_cons i S (fun i => f i k)).symm)
/-- What the equations say of a sum of powers. -/
theorem eqs_pow {α : Type} (X a : α → G) (S : List α) (l : Nat → G) (v i : Nat) :
    lsum (List.range v) (fun k => l k * lsum S (fun o => a o * pw (X o) (i + k))) + lsum S (fun o => a o * pw (X o) (i + v)) = lsum S (fun o => (a o * loc l v (X o)) * pw (X o) i) := by
  have h1 : lsum (List.range v) (fun k => l k * lsum S (fun o => a o * pw (X o) (i + k))) = lsum S (fun o => lsum (List.range v) (fun k => l k * (a o * pw (X o) (i + k)))) := by
    rw [← lsum_swap]
    exact lsum_ext (fun k _ => (lsum_smul _ _ _).symm)
  rw [h1, ← lsum_add]
  refine lsum_ext (fun o _ => ?_)
  unfold loc
  rw [G.mul_add, G.add_mul, G.add_comm, pw_add, G.mul_assoc, G.mul_comm (pw (X o) v)]
  congr 1
  rw [G.mul_assoc, G.mul_comm _ (pw (X o) i), ← lsum_smul, ← lsum_smul]
  exact lsum_ext (fun k _ => by
    rw [pw_add, G.mul_left_comm (l k), G.mul_left_comm (l k)])
/-- **The locator vanishes at the wrong places**: u is the sum of powers of the places S, none of whose amounts is 0, and has at least twice as many elements. -/
theorem loc_zero {α : Type} {X a : α → G} {S : List α} {l u : Nat → G} {L : Nat} (hX : S.Pairwise (fun i k => X i ≠ X k)) (ha : ∀ o ∈ S, a o ≠ 0) (hu : ∀ j, j < L → u j = lsum S (fun o => a o * pw (X o) j))
    {v : Nat} (hL : S.length + v ≤ L) (he : Eqs L v u l) : ∀ o ∈ S, loc l v (X o) = 0 := by
  have hz := van X S (fun o => a o * loc l v (X o)) hX (fun i hi => by
    rw [← eqs_pow]
    have h1 := he i (by omega)
    rw [hu (i + v) (by omega)] at h1
    rw [lsum_ext (g := fun k => l k * u (i + k)) (fun k hk => by rw [hu (i + k) (by rw [List.mem_range] at hk; omega)]), h1, G.add_self])
  intro o ho
  rcases G.mul_eq_zero.1 (hz o ho) with h | h
  · exact absurd h (ha o ho)
  · exact h
/-- .. and if it vanishes there, it obeys the equations. -/
theorem eqs_of_zero {α : Type} {X a : α → G} {S : List α} {l u : Nat → G} {L v : Nat} (hu : ∀ j, j < L → u j = lsum S (fun o => a o * pw (X o) j)) (hz : ∀ o ∈ S, loc l v (X o) = 0) : Eqs L v u l := by
  intro i hi
  have h := eqs_pow X a S l v i
  rw [lsum_zero (f := fun o => (a o * loc l v (X o)) * pw (X o) i) (fun o ho => by rw [hz o ho, G.mul_zero, G.zero_mul])] at h
  rw [lsum_ext (g := fun k => l k * lsum S (fun o => a o * pw (X o) (i + k))) (fun k hk => by rw [hu (i + k) (by rw [List.mem_range] at hk; omega)]), hu (i + v) hi]
  exact G.add_eq_zero.1 h

theorem range_succ_sum (f : Nat → G) (n : Nat) : lsum (List.range (n + 1)) f = lsum (List.range n) f + f n := by
  rw [List.range_succ, lsum_append, lsum_cons, lsum_nil, G.add_zero]
theorem range_shift (f : Nat → G) : ∀ n, lsum (List.range (n + 1)) f = f 0 + lsum (List.range n) (fun k => f (k + 1))
  | 0 => by rw [range_succ_sum]; rw [show List.range 0 = [] from rfl, lsum_nil, lsum_nil, G.zero_add, G.add_zero]
  | n + 1 => by rw [range_succ_sum, range_shift f n, range_succ_sum (fun k => f (k + 1)) n, G.add_assoc]
/-- The values of coefficients, by poly's evn. -/
theorem evn_sum (x : G) : ∀ (n : Nat) (f : PM.Co), PM.evn n f x = lsum (List.range n) (fun k => f k * pw x k)
  | 0, f => by rw [PM.evn]; rfl
  | n + 1, f => by
    rw [PM.evn_succ, evn_sum x n, range_shift, pw_0, G.mul_one, ← lsum_smul]
    congr 1
    exact lsum_ext (fun k _ => by
      show x * (f (k + 1) * pw x k) = f (k + 1) * (pw x k * x)
      rw [G.mul_left_comm, G.mul_comm x])
/-- Coefficients below n that vanish at n different elements are 0. -/
theorem few_roots {n : Nat} {d : Nat → G} {xs : List G} (hx : xs.Nodup) (hn : n ≤ xs.length) (hz : ∀ x ∈ xs, lsum (List.range n) (fun k => d k * pw x k) = 0) : ∀ k, k < n → d k = 0 := by
  have hv : PM.Van (fun k => if k < n then d k else 0) n := fun k hk => if_neg (by omega)
  rcases PM.top_or _ n hv with h | ⟨m, hm, hmv⟩
  · intro k hk
    have := congrFun h k
    rw [if_pos hk] at this
    exact this
  · exfalso
    have hmn : m < n := by
      by_cases h : m < n
      · exact h
      · exact absurd (hv m (by omega)) hm
    have := PM.roots_le m _ hmv hm xs hx (fun x hxm => by
      rw [← PM.evn_van x (m + 1) n _ hmv (by omega), evn_sum, lsum_ext (g := fun k => d k * pw x k) (fun k hk => by rw [List.mem_range] at hk; rw [if_pos hk])]
      exact hz x hxm)
    omega
/-- The locator of degree v has at most v roots. -/
theorem loc_few {l : Nat → G} {v : Nat} {xs : List G} (hx : xs.Nodup) (hz : ∀ x ∈ xs, loc l v x = 0) : xs.length ≤ v := by
  rcases Nat.lt_or_ge v xs.length with h | h
  · exfalso
    have := few_roots (n := v + 1) (d := fun k => if k < v then l k else G.one) hx h (fun x hxm => by
      rw [range_succ_sum, lsum_ext (g := fun k => l k * pw x k) (fun k hk => by rw [List.mem_range] at hk; rw [if_pos hk])]
      rw [show (if v < v then l v else G.one) = G.one from if_neg (Nat.lt_irrefl v), G.one_mul, G.add_comm]
      exact hz x hxm) v (Nat.lt_succ_self v)
    rw [show (if v < v then l v else G.one) = G.one from if_neg (Nat.lt_irrefl v)] at this
    exact G.one_ne this
  · exact h
/-- There is one locator of degree v for v elements. -/
theorem loc_one {l l' : Nat → G} {v : Nat} {xs : List G} (hx : xs.Nodup) (hv : v ≤ xs.length) (hz : ∀ x ∈ xs, loc l v x = 0) (hz' : ∀ x ∈ xs, loc l' v x = 0) : ∀ k, k < v → l k = l' k := by
  have := few_roots (n := v) (d := fun k => l k + l' k) hx hv (fun x hxm => by
    have h1 := hz x hxm
    have h2 := hz' x hxm
    unfold loc at h1 h2
    rw [lsum_ext (g := fun k => l k * pw x k + l' k * pw x k) (fun k _ => G.add_mul _ _ _), lsum_add]
    rw [← G.add_eq_zero.1 h1, ← G.add_eq_zero.1 h2, G.add_self])
  intro k hk
  exact G.add_eq_zero.1 (this k hk)
/-- The locator of some elements: the product of x + y. -/
def locOf : List G → Nat → G
  | [], _ => 0
  | y :: ys, k => (if k = 0 then 0 else if k - 1 < ys.length then locOf ys (k - 1) else if k - 1 = ys.length then G.one else 0) + y * (if k < ys.length then locOf ys k else if k = ys.length then G.one else 0)
/-- All coefficients, the highest one too. -/
def full (l : Nat → G) (v k : Nat) : G := if k < v then l k else if k = v then G.one else 0
theorem loc_full (l : Nat → G) (v : Nat) (x : G) : loc l v x = lsum (List.range (v + 1)) (fun k => full l v k * pw x k) := by
  rw [range_succ_sum, lsum_ext (g := fun k => l k * pw x k) (fun k hk => by rw [List.mem_range] at hk; unfold full; rw [if_pos hk])]
  unfold loc full
  rw [if_neg (Nat.lt_irrefl v), if_pos rfl, G.one_mul, G.add_comm]
theorem locOf_step (y : G) (ys : List G) (x : G) : loc (locOf (y :: ys)) (ys.length + 1) x = (x + y) * loc (locOf ys) ys.length x := by
  have e : ∀ k, k < ys.length + 2 → full (locOf (y :: ys)) (ys.length + 1) k = (if k = 0 then 0 else full (locOf ys) ys.length (k - 1)) + y * full (locOf ys) ys.length k := by
    intro k hk
    unfold full
    by_cases h : k < ys.length + 1
    · rw [if_pos h]; rfl
    · have hk2 : k = ys.length + 1 := by omega
      subst hk2
      rw [if_neg (by omega), if_pos rfl, if_neg (by omega), if_neg (by omega), if_pos (by omega), if_neg (by omega), if_neg (by omega), G.mul_zero, G.add_zero]
  rw [loc_full, loc_full, lsum_ext (g := fun k => (if k = 0 then 0 else full (locOf ys) ys.length (k - 1)) * pw x k + y * (full (locOf ys) ys.length k * pw x k)) (fun k hk => by
    rw [List.mem_range] at hk
    rw [e k (by omega), G.add_mul, G.mul_assoc])]
  rw [lsum_add, lsum_smul, G.add_mul]
  congr 1
  · rw [range_shift, if_pos rfl, G.zero_mul, G.zero_add, ← lsum_smul]
    exact lsum_ext (fun k _ => by
      rw [if_neg (by omega), Nat.add_sub_cancel, pw_succ, ← G.mul_assoc, G.mul_comm _ x])
  · congr 1
    rw [range_succ_sum, show full (locOf ys) ys.length (ys.length + 1) = 0 by unfold full; rw [if_neg (by omega), if_neg (by omega)], G.zero_mul, G.add_zero]
theorem locOf_zero : ∀ (ys : List G), ∀ x ∈ ys, loc (locOf ys) ys.length x = 0
  | [], _, h => absurd h List.not_mem_nil
  | y :: ys, x, h => by
    rw [List.length_cons, locOf_step]
    rcases List.mem_cons.1 h with rfl | h
    · rw [G.add_self, G.zero_mul]
    · rw [locOf_zero ys x h, G.mul_zero]
end Go.Proofs.YtmejneobfkbgeaaGreatDoor.SM

namespace Go.Proofs.YtmejneobfkbgeaaGreatDoor.SM
open PM (G)

/-- x solves the first R rows with U unknowns; the right sides stand in column U. -/
def Sol (R U : Nat) (M : Nat → Nat → G) (x : Nat → G) : Prop := ∀ r, r < R → lsum (List.range U) (fun c => M r c * x c) = M r U
/-- There is just one solution. -/
def One (R U : Nat) (M : Nat → Nat → G) (x : Nat → G) : Prop := Sol R U M x ∧ ∀ y, Sol R U M y → ∀ c, c < U → y c = x c
/-- Rows k and p change places. -/
def swapR (M : Nat → Nat → G) (k p : Nat) : Nat → Nat → G := fun r => if r = k then M p else if r = p then M k else M r
/-- Row k times f. -/
def scaleR (M : Nat → Nat → G) (k : Nat) (f : G) : Nat → Nat → G := fun r c => if r = k then M k c * f else M r c
/-- f times row k is added to row r0. -/
def addR (M : Nat → Nat → G) (k r0 : Nat) (f : G) : Nat → Nat → G := fun r c => if r = r0 then M r0 c + f * M k c else M r c

theorem rowsum_scale (U : Nat) (m x : Nat → G) (f : G) : lsum (List.range U) (fun c => (m c * f) * x c) = f * lsum (List.range U) (fun c => m c * x c) := by
  rw [← lsum_smul]
  exact lsum_ext (fun c _ => by rw [G.mul_comm (m c) f, G.mul_assoc])
theorem rowsum_add (U : Nat) (m m' x : Nat → G) (f : G) : lsum (List.range U) (fun c => (m c + f * m' c) * x c) = lsum (List.range U) (fun c => m c * x c) + f * lsum (List.range U) (fun c => m' c * x c) := by
  rw [← lsum_smul, ← lsum_add]
  exact lsum_ext (fun c _ => by rw [G.add_mul, G.mul_assoc])
theorem sol_swap {R U k p : Nat} {M : Nat → Nat → G} {x : Nat → G} (hk : k < R) (hp : p < R) : Sol R U (swapR M k p) x ↔ Sol R U M x := by
  have one : ∀ M : Nat → Nat → G, Sol R U M x → Sol R U (swapR M k p) x := fun M h r hr => by
    unfold swapR
    by_cases e : r = k
    · simp only [if_pos e]; exact h p hp
    · by_cases e2 : r = p
      · simp only [if_neg e, if_pos e2]; exact h k hk
      · simp only [if_neg e, if_neg e2]; exact h r hr
  refine ⟨fun h => ?_, one M⟩
  have h2 := one _ h
  have e : swapR (swapR M k p) k p = M := by
    funext r
    unfold swapR
    by_cases e : r = k
    · subst e
      rw [if_pos rfl]
      by_cases e2 : p = r
      · subst e2; rw [if_pos rfl]
      · rw [if_neg e2, if_pos rfl]
    · rw [if_neg e]
      by_cases e2 : r = p
      · subst e2; rw [if_pos rfl, if_pos rfl]
      · rw [if_neg e2, if_neg e, if_neg e2]
  rwa [e] at h2
theorem sol_scale {R U k : Nat} {M : Nat → Nat → G} {x : Nat → G} {f : G} (hk : k < R) (hf : f ≠ 0) : Sol R U (scaleR M k f) x ↔ Sol R U M x := by
  constructor
  · intro h r hr
    have := h r hr
    unfold scaleR at this
    by_cases e : r = k
    · subst e
      simp only [if_pos] at this
      rw [rowsum_scale, G.mul_comm (M r U)] at this
      have h2 : f.inv * (f * lsum (List.range U) (fun c => M r c * x c)) = f.inv * (f * M r U) := by rw [this]
      rwa [← G.mul_assoc, ← G.mul_assoc, G.mul_comm f.inv f, G.mul_inv hf, G.one_mul, G.one_mul] at h2
    · simp only [if_neg e] at this; exact this
  · intro h r hr
    unfold scaleR
    by_cases e : r = k
    · subst e
      simp only [if_pos]
      rw [rowsum_scale, h r hr, G.mul_comm]
    · simp only [if_neg e]; exact h r hr
theorem sol_add {R U k r0 : Nat} {M : Nat → Nat → G} {x : Nat → G} {f : G} (hk : k < R) (hne : r0 ≠ k) : Sol R U (addR M k r0 f) x ↔ Sol R U M x := by
  constructor
  · intro h r hr
    have := h r hr
    unfold addR at this
    by_cases e : r = r0
    · subst e
      simp only [if_pos] at this
      have h2 := h k hk
      unfold addR at h2
      simp only [if_neg (show ¬ k = r from fun e => hne e.symm)] at h2
      rw [rowsum_add, h2] at this
      have h3 : (lsum (List.range U) (fun c => M r c * x c) + f * M k U) + f * M k U = (M r U + f * M k U) + f * M k U := by rw [this]
      rwa [G.add_assoc, G.add_assoc, G.add_self, G.add_zero, G.add_zero] at h3
    · simp only [if_neg e] at this; exact this
  · intro h r hr
    unfold addR
    by_cases e : r = r0
    · subst e
      simp only [if_pos]
      rw [rowsum_add, h r hr, h k hk]
    · simp only [if_neg e]; exact h r hr
/-- The first k columns are those of the unit matrix. -/
def Unit (R k : Nat) (M : Nat → Nat → G) : Prop := ∀ r, r < R → ∀ c, c < k → M r c = if r = c then G.one else 0
/-- A column without a pivot: there is not just one solution. -/
theorem no_pivot {R U k : Nat} {M : Nat → Nat → G} (hU : Unit R k M) (hk : k < U) (h0 : ∀ r, k ≤ r → r < R → M r k = 0) (x : Nat → G) : ¬ One R U M x := by
  rintro ⟨hs, hone⟩
  have hz := hone (fun c => x c + (if c < k then M c k else if c = k then G.one else 0)) (fun r hr => by
    rw [lsum_ext (g := fun c => M r c * x c + M r c * (if c < k then M c k else if c = k then G.one else 0)) (fun c _ => G.mul_add _ _ _), lsum_add, hs r hr]
    suffices h : lsum (List.range U) (fun c => M r c * (if c < k then M c k else if c = k then G.one else 0)) = 0 by rw [h, G.add_zero]
    -- only the columns up to k count
    have hcut : ∀ n, k + 1 ≤ n → lsum (List.range n) (fun c => M r c * (if c < k then M c k else if c = k then G.one else 0)) = lsum (List.range (k + 1)) (fun c => M r c * (if c < k then M c k else if c = k then G.one else 0)) := by
      intro n
      induction n with
      | zero => intro h; omega
      | succ n ih =>
        intro h
        by_cases e : n + 1 = k + 1
        · rw [e]
        · rw [range_succ_sum, ih (by omega), if_neg (by omega), if_neg (by omega), G.mul_zero, G.add_zero]
    rw [hcut U hk, range_succ_sum, if_neg (Nat.lt_irrefl k), if_pos rfl, G.mul_one]
    have hlow : ∀ n, n ≤ k → lsum (List.range n) (fun c => M r c * (if c < k then M c k else if c = k then G.one else 0)) = if r < n then M r k else 0 := by
      intro n
      induction n with
      | zero => intro _; rw [if_neg (Nat.not_lt_zero r)]; rfl
      | succ n ih =>
        intro h
        rw [range_succ_sum, ih (by omega), if_pos (show n < k by omega), hU r hr n (by omega)]
        by_cases e : r = n
        · subst e; rw [if_neg (Nat.lt_irrefl r), if_pos rfl, if_pos (Nat.lt_succ_self r), G.one_mul, G.zero_add]
        · rw [if_neg e, G.zero_mul, G.add_zero]
          by_cases h2 : r < n
          · rw [if_pos h2, if_pos (by omega)]
          · rw [if_neg h2, if_neg (by omega)]
    rw [hlow k (Nat.le_refl k)]
    by_cases e : r < k
    · rw [if_pos e, G.add_self]
    · rw [if_neg e, G.zero_add]; exact h0 r (by omega) hr) k hk
  simp only [if_neg (Nat.lt_irrefl k), if_pos] at hz
  have h2 : x k + (x k + G.one) = 0 := by
    have : x k + G.one = x k := hz
    rw [this, G.add_self]
  rw [G.add_cancel] at h2
  exact G.one_ne h2
/-- All columns are cleared: the solution is the last column, if the other rows say 0 = 0. -/
theorem end_sum {R U : Nat} {M : Nat → Nat → G} (hU : Unit R U M) (x : Nat → G) (r : Nat) (hr : r < R) : lsum (List.range U) (fun c => M r c * x c) = if r < U then x r else 0 := by
  have : ∀ n, n ≤ U → lsum (List.range n) (fun c => M r c * x c) = if r < n then x r else 0 := by
    intro n
    induction n with
    | zero => intro _; rw [if_neg (Nat.not_lt_zero r)]; rfl
    | succ n ih =>
      intro h
      rw [range_succ_sum, ih (by omega), hU r hr n (by omega)]
      by_cases e : r = n
      · subst e; rw [if_neg (Nat.lt_irrefl r), if_pos rfl, if_pos (Nat.lt_succ_self r), G.one_mul, G.zero_add]
      · rw [if_neg e, G.zero_mul, G.add_zero]
        by_cases h2 : r < n
        · rw [if_pos h2, if_pos (by omega)]
        · rw [if_neg h2, if_neg (by omega)]
  exact this U (Nat.le_refl U)
theorem end_yes {R U : Nat} {M : Nat → Nat → G} (hU : Unit R U M) (hR : U ≤ R) (h0 : ∀ r, U ≤ r → r < R → M r U = 0) : One R U M (fun c => M c U) := by
  refine ⟨fun r hr => ?_, fun y hy c hc => ?_⟩
  · rw [end_sum hU _ r hr]
    by_cases h : r < U
    · rw [if_pos h]
    · rw [if_neg h]; exact (h0 r (by omega) hr).symm
  · have := hy c (by omega)
    rw [end_sum hU y c (by omega), if_pos hc] at this
    exact this
theorem end_no {R U r : Nat} {M : Nat → Nat → G} (hU : Unit R U M) (hr : U ≤ r) (hr2 : r < R) (h0 : M r U ≠ 0) (x : Nat → G) : ¬ Sol R U M x := by
  intro hs
  have := hs r hr2
  rw [end_sum hU x r hr2, if_neg (by omega)] at this
  exact h0 this.symm
theorem one_congr {R U : Nat} {M M' : Nat → Nat → G} (h : ∀ x, Sol R U M' x ↔ Sol R U M x) (x : Nat → G) : One R U M' x ↔ One R U M x :=
  ⟨fun ⟨h1, h2⟩ => ⟨(h x).1 h1, fun y hy => h2 y ((h y).2 hy)⟩, fun ⟨h1, h2⟩ => ⟨(h x).2 h1, fun y hy => h2 y ((h y).1 hy)⟩⟩
/-- Column k is cleared by the pivot row p. -/
def pivoted (M : Nat → Nat → G) (k p : Nat) : Nat → Nat → G := fun r c =>
  let S := swapR M k p
  let f := (S k k).inv
  if r = k then S k c * f else S r c + S r k * (S k c * f)
theorem pivot_unit {R k p : Nat} {M : Nat → Nat → G} (hU : Unit R k M) (hk : k ≤ p) (hp : p < R) (hne : M p k ≠ 0) : Unit R (k + 1) (pivoted M k p) := by
  have hkk : swapR M k p k = M p := by unfold swapR; rw [if_pos rfl]
  intro r hr c hc
  unfold pivoted
  simp only [hkk]
  by_cases e : r = k
  · subst e
    rw [if_pos rfl]
    by_cases hc2 : c = r
    · subst hc2; rw [if_pos rfl, G.mul_inv hne]
    · rw [if_neg (fun h => hc2 h.symm), hU p hp c (by omega), if_neg (by omega), G.zero_mul]
  · rw [if_neg e]
    by_cases hc2 : c = k
    · subst hc2
      rw [G.mul_inv hne, G.mul_one, G.add_self, if_neg e]
    · have hc3 : c < k := by omega
      rw [hU p hp c hc3, if_neg (show ¬ p = c by omega), G.zero_mul, G.mul_zero, G.add_zero]
      unfold swapR
      rw [if_neg e]
      by_cases e2 : r = p
      · subst e2
        rw [if_pos rfl, hU k (by omega) c hc3, if_neg (by omega), if_neg (by omega)]
      · rw [if_neg e2, hU r hr c hc3]
theorem pivot_sol {R U k p : Nat} {M : Nat → Nat → G} {x : Nat → G} (hk : k < R) (hp : p < R) (hne : M p k ≠ 0) : Sol R U (pivoted M k p) x ↔ Sol R U M x := by
  have hkk : swapR M k p k = M p := by unfold swapR; rw [if_pos rfl]
  rw [← sol_swap (M := M) hk hp, ← sol_scale (M := swapR M k p) (f := (M p k).inv) hk (G.inv_ne hne)]
  obtain ⟨S, hS⟩ : ∃ S, scaleR (swapR M k p) k (M p k).inv = S := ⟨_, rfl⟩
  have hSk : ∀ c, S k c = M p c * (M p k).inv := fun c => by rw [← hS]; unfold scaleR; rw [if_pos rfl, hkk]
  have hSr : ∀ r c, r ≠ k → S r c = swapR M k p r c := fun r c h => by rw [← hS]; unfold scaleR; rw [if_neg h]
  have hP : ∀ r c, pivoted M k p r c = if r = k then S k c else S r c + S r k * S k c := fun r c => by
    unfold pivoted
    simp only [hkk]
    by_cases e : r = k
    · rw [if_pos e, if_pos e, hSk]
    · rw [if_neg e, if_neg e, hSk, hSr r c e, hSr r k e]
  rw [hS]
  constructor
  · intro h r hr
    have hk2 := h k hk
    simp only [hP, if_pos] at hk2
    by_cases e : r = k
    · subst e; exact hk2
    · have h1 := h r hr
      simp only [hP, if_neg e] at h1
      rw [rowsum_add, hk2] at h1
      have h3 : (lsum (List.range U) (fun c => S r c * x c) + S r k * S k U) + S r k * S k U = (S r U + S r k * S k U) + S r k * S k U := by rw [h1]
      rwa [G.add_assoc, G.add_assoc, G.add_self, G.add_zero, G.add_zero] at h3
  · intro h r hr
    simp only [hP]
    by_cases e : r = k
    · simp only [if_pos e]; exact h k hk
    · simp only [if_neg e]
      rw [rowsum_add, h r hr, h k hk]
end Go.Proofs.YtmejneobfkbgeaaGreatDoor.SM

namespace Go.Proofs.YtmejneobfkbgeaaGreatDoor.SM
open PM (G)

/-- The element of place i of n. -/
def XE (n i : Nat) : G := ⟨FM.E (n - 1 - i), FM.E_lt _⟩
theorem xe_inj {n : Nat} (hn : n ≤ 255) : Inj n (XE n) := fun i hi k hk h => by
  have h1 := FM.E_inj (congrArg G.v h)
  rw [Nat.mod_eq_of_lt (by omega), Nat.mod_eq_of_lt (by omega)] at h1
  omega
theorem xe_ne (n i : Nat) : XE n i ≠ 0 := fun h => FM.E_ne _ (congrArg G.v h)
/-- **Data determine the code word.** -/
theorem enc_one {n m : Nat} {X c c' : Nat → G} (hX : Inj n X) (h : ∀ j, j < m → syn n X c j = 0) (h' : ∀ j, j < m → syn n X c' j = 0) (hd : ∀ i, i + m < n → c i = c' i) : ∀ i, i < n → c i = c' i :=
  near_one (w := c') (E := (List.range m).map (fun k => k + (n - m))) (O := []) (O' := []) hX h h' (fun i hi hne => .inl (by
    rw [List.mem_map]
    exact ⟨i - (n - m), by rw [List.mem_range]; have : ¬ i + m < n := fun h => hne (hd i h); omega, by have : ¬ i + m < n := fun h => hne (hd i h); omega⟩)) (fun i hi hne => absurd rfl hne) (by simp)

/-- c is a code word that differs from w at places of E and at most t others. -/
def Near (n m t : Nat) (X : Nat → G) (E : List Nat) (w c : Nat → G) : Prop :=
  (∀ j, j < m → syn n X c j = 0) ∧ ∃ O : List Nat, O.length ≤ t ∧ ∀ i, i < n → c i ≠ w i → i ∈ E ∨ i ∈ O
theorem Near.one {n m t : Nat} {X w c c' : Nat → G} {E : List Nat} (hX : Inj n X) (ht : E.length + 2 * t ≤ m) (h : Near n m t X E w c) (h' : Near n m t X E w c') : ∀ i, i < n → c i = c' i := by
  obtain ⟨h1, O, hO, h2⟩ := h
  obtain ⟨h1', O', hO', h2'⟩ := h'
  exact near_one hX h1 h1' h2 h2' (by omega)

/-- The erased places are taken out of the sequence, one after the other. -/
def outs : List G → (Nat → G) → Nat → G
  | [], u => u
  | y :: ys, u => outs ys (out y u)
def prodY : List G → G → G
  | [], _ => G.one
  | y :: ys, x => (x + y) * prodY ys x
theorem prodY_zero : ∀ {ys : List G} {x : G}, x ∈ ys → prodY ys x = 0
  | [], _, h => absurd h List.not_mem_nil
  | y :: ys, x, h => by
    show (x + y) * prodY ys x = 0
    rcases List.mem_cons.1 h with rfl | h
    · rw [G.add_self, G.zero_mul]
    · rw [prodY_zero h, G.mul_zero]
theorem prodY_ne : ∀ {ys : List G} {x : G}, x ∉ ys → prodY ys x ≠ 0
  | [], _, _ => G.one_ne
  | y :: ys, x, h => by
    rw [List.mem_cons] at h
    exact G.mul_ne (fun e => h (.inl (G.add_eq_zero.1 e))) (prodY_ne (fun e => h (.inr e)))
theorem outs_lsum {α : Type} (X : α → G) (S : List α) : ∀ (ys : List G) (a : α → G), outs ys (fun j => lsum S (fun i => a i * pw (X i) j)) = fun j => lsum S (fun i => (a i * prodY ys (X i)) * pw (X i) j)
  | [], a => by
    funext j
    exact lsum_ext (fun i _ => by rw [show prodY [] (X i) = G.one from rfl, G.mul_one])
  | y :: ys, a => by
    show outs ys (out y _) = _
    rw [show out y (fun j => lsum S (fun i => a i * pw (X i) j)) = fun j => lsum S (fun i => (a i * (X i + y)) * pw (X i) j) from funext (out_lsum X a y S), outs_lsum X S ys]
    funext j
    exact lsum_ext (fun i _ => by rw [show prodY (y :: ys) (X i) = (X i + y) * prodY ys (X i) from rfl, G.mul_assoc (a i)])
/-- out looks at one element more. -/
theorem out_ext {u u' : Nat → G} {y : G} {L : Nat} (h : ∀ j, j < L + 1 → u j = u' j) : ∀ j, j < L → out y u j = out y u' j := fun j hj => by
  unfold out
  rw [h (j + 1) (by omega), h j (by omega)]
theorem outs_ext : ∀ {ys : List G} {u u' : Nat → G} {L : Nat}, (∀ j, j < L + ys.length → u j = u' j) → ∀ j, j < L → outs ys u j = outs ys u' j
  | [], _, _, _, h => fun j hj => h j hj
  | y :: ys, u, u', L, h => outs_ext (ys := ys) (fun j hj => out_ext (L := L + ys.length) (fun j hj => h j (by rw [List.length_cons]; omega)) j hj)

/-- The places that are not erased and differ. -/
def wrong (n : Nat) (E : List Nat) (w c : Nat → G) : List Nat := (List.range n).filter (fun i => decide (c i ≠ w i) && !E.contains i)
theorem mem_wrong {n : Nat} {E : List Nat} {w c : Nat → G} {i : Nat} : i ∈ wrong n E w c ↔ i < n ∧ c i ≠ w i ∧ i ∉ E := by
  unfold wrong
  rw [List.mem_filter, List.mem_range, Bool.and_eq_true, decide_eq_true_iff, Bool.not_eq_true', List.contains_eq_mem, decide_eq_false_iff_not]
theorem wrong_nodup (n : Nat) (E : List Nat) (w c : Nat → G) : (wrong n E w c).Nodup := List.Pairwise.filter _ List.nodup_range
/-- The sequence without the erased places is the sum of powers of the wrong ones. -/
theorem seq_wrong {n m : Nat} {X w c : Nat → G} {E : List Nat} (hX : Inj n X) (hE : ∀ i ∈ E, i < n) (hc : ∀ j, j < m → syn n X c j = 0) {L : Nat} (hL : L + E.length ≤ m) :
    ∃ a : Nat → G, (∀ o ∈ wrong n E w c, a o ≠ 0) ∧ ∀ j, j < L → outs (E.map X) (syn n X w) j = lsum (wrong n E w c) (fun o => a o * pw (X o) j) := by
  refine ⟨fun i => (w i + c i) * prodY (E.map X) (X i), fun o ho => ?_, fun j hj => ?_⟩
  · obtain ⟨h1, h2, h3⟩ := mem_wrong.1 ho
    refine G.mul_ne (fun e => h2 (G.add_eq_zero.1 e).symm) (prodY_ne (fun h => ?_))
    obtain ⟨k, hk, e⟩ := List.mem_map.1 h
    exact h3 ((hX k (hE k hk) o h1 e) ▸ hk)
  · have h1 := outs_ext (ys := E.map X) (u := syn n X w) (u' := syn n X (fun i => w i + c i)) (L := L) (fun j hj => by
      rw [List.length_map] at hj
      rw [syn_add, hc j (by omega), G.add_zero]) j hj
    rw [h1]
    show outs (E.map X) (fun j => lsum (List.range n) (fun i => (w i + c i) * pw (X i) j)) j = _
    rw [outs_lsum]
    unfold wrong
    refine (lsum_filter (fun i => ((w i + c i) * prodY (E.map X) (X i)) * pw (X i) j) (fun i => decide (c i ≠ w i) && !E.contains i) (fun i hi => by
      by_cases h : c i = w i
      · rw [h, G.add_self, G.zero_mul, G.zero_mul]
      · rw [show decide (c i ≠ w i) = true from decide_eq_true h, Bool.true_and, Bool.not_eq_false', List.contains_eq_mem, decide_eq_true_iff] at hi
        rw [prodY_zero (List.mem_map.2 ⟨i, hi, rfl⟩), G.mul_zero, G.zero_mul]) (List.range n)).symm
/-- **The wrong places are found**: there is just one locator of their number, and its roots among the places are they. -/
theorem found {n m t : Nat} {X w c : Nat → G} {E : List Nat} (hX : Inj n X) (hE : ∀ i ∈ E, i < n) (hc : ∀ j, j < m → syn n X c j = 0) (hw : (wrong n E w c).length ≤ t) {L : Nat} (hL : L + E.length = m) (ht : 2 * t ≤ L) :
    ∃ l : Nat → G, Eqs L (wrong n E w c).length (outs (E.map X) (syn n X w)) l ∧ (∀ l', Eqs L (wrong n E w c).length (outs (E.map X) (syn n X w)) l' → ∀ k, k < (wrong n E w c).length → l' k = l k) ∧
      ∀ i, i < n → (loc l (wrong n E w c).length (X i) = 0 ↔ i ∈ wrong n E w c) := by
  obtain ⟨a, ha, hu⟩ := seq_wrong (w := w) hX hE hc (L := L) (by omega)
  obtain ⟨S, hS⟩ : ∃ S, wrong n E w c = S := ⟨_, rfl⟩
  have hnd : S.Nodup := by rw [← hS]; exact wrong_nodup n E w c
  have hlt : ∀ i ∈ S, i < n := fun i hi => by rw [← hS] at hi; exact (mem_wrong.1 hi).1
  rw [hS] at ha hu hw ⊢
  have hp := pair_of hX hnd hlt
  have hxn : (S.map X).Nodup := by
    rw [List.nodup_iff_pairwise_ne, List.pairwise_map]
    exact hp
  have hxl : (S.map X).length = S.length := List.length_map ..
  have hz0 : ∀ o ∈ S, loc (locOf (S.map X)) S.length (X o) = 0 := fun o ho => by
    have := locOf_zero (S.map X) (X o) (List.mem_map.2 ⟨o, ho, rfl⟩)
    rwa [hxl] at this
  refine ⟨locOf (S.map X), eqs_of_zero hu hz0, fun l' hl' => ?_, fun i hi => ⟨fun h => ?_, fun h => hz0 i h⟩⟩
  · have hz1 := loc_zero hp ha hu (v := S.length) (by omega) hl'
    exact loc_one hxn (by omega) (fun x hx => by
      obtain ⟨o, ho, rfl⟩ := List.mem_map.1 hx
      exact hz1 o ho) (fun x hx => by
      obtain ⟨o, ho, rfl⟩ := List.mem_map.1 hx
      exact hz0 o ho)
  · by_cases hin : i ∈ S
    · exact hin
    · exfalso
      have := loc_few (l := locOf (S.map X)) (v := S.length) (xs := X i :: S.map X) (by
        rw [List.nodup_cons]
        refine ⟨fun h2 => ?_, hxn⟩
        obtain ⟨k, hk, e⟩ := List.mem_map.1 h2
        exact hin ((hX k (hlt k hk) i hi e) ▸ hk)) (fun x hx => by
        rcases List.mem_cons.1 hx with rfl | hx
        · exact h
        · obtain ⟨o, ho, rfl⟩ := List.mem_map.1 hx
          exact hz0 o ho)
      rw [List.length_cons, hxl] at this
      omega
end Go.Proofs.YtmejneobfkbgeaaGreatDoor.SM

namespace Go.Proofs.YtmejneobfkbgeaaGreatDoor.SM
open PM (G el)

/-- A code word of three whose places outside of S are 0 is 0, if S has two places. -/
theorem sm_two {c : Nat → G} (h : ∀ j, j < 2 → syn 3 (XE 3) c j = 0) {p q : Nat} (hs : ∀ i, i < 3 → c i ≠ 0 → i = p ∨ i = q) : ∀ i, i < 3 → c i = 0 :=
  mds (xe_inj (by decide)) h (Nat.le_trans (supp_le (S := [p, q]) (fun i hi hne => by
    rcases hs i hi hne with rfl | rfl
    · exact List.mem_cons_self
    · exact List.mem_cons_of_mem _ List.mem_cons_self)) (by simp))
theorem sm_last {c : Nat → G} (h : ∀ j, j < 2 → syn 3 (XE 3) c j = 0) (h2 : c 2 = 0) : c 0 = 0 ∧ c 1 = 0 := by
  have := sm_two h (p := 0) (q := 1) (fun i hi hne => by
    obtain rfl | rfl | rfl : i = 0 ∨ i = 1 ∨ i = 2 := by omega
    · exact .inl rfl
    · exact .inr rfl
    · exact absurd h2 hne)
  exact ⟨this 0 (by decide), this 1 (by decide)⟩
/-- There is a code word that begins with a. -/
theorem sm_enc (a : G) : ∃ c : Nat → G, (∀ j, j < 2 → syn 3 (XE 3) c j = 0) ∧ c 0 = a := by
  have h12 : XE 3 1 + XE 3 2 ≠ 0 := fun h => by
    have := xe_inj (n := 3) (by decide) 1 (by decide) 2 (by decide) (PM.G.add_eq_zero.1 h)
    omega
  obtain ⟨x0, h0⟩ : ∃ x, XE 3 0 = x := ⟨_, rfl⟩
  obtain ⟨x1, h1⟩ : ∃ x, XE 3 1 = x := ⟨_, rfl⟩
  obtain ⟨x2, h2⟩ : ∃ x, XE 3 2 = x := ⟨_, rfl⟩
  rw [h1, h2] at h12
  obtain ⟨b, hb⟩ : ∃ b, b = a * (x0 + x2) * (x1 + x2).inv := ⟨_, rfl⟩
  have hb2 : b * (x1 + x2) = a * (x0 + x2) := by
    rw [hb, G.mul_assoc, G.mul_comm (x1 + x2).inv, G.mul_inv h12, G.mul_one]
  refine ⟨fun | 0 => a | 1 => b | _ => a + b, fun j hj => ?_, rfl⟩
  have hs : ∀ j, syn 3 (XE 3) (fun | 0 => a | 1 => b | _ => a + b) j = a * pw x0 j + (b * pw x1 j + ((a + b) * pw x2 j + 0)) := fun j => by
    rw [← h0, ← h1, ← h2]; rfl
  rw [hs, G.add_zero]
  obtain rfl | rfl : j = 0 ∨ j = 1 := by omega
  · show a * G.one + (b * G.one + (a + b) * G.one) = 0
    rw [G.mul_one, G.mul_one, G.mul_one, ← G.add_assoc, G.add_self]
  · show a * (G.one * x0) + (b * (G.one * x1) + (a + b) * (G.one * x2)) = 0
    rw [G.one_mul, G.one_mul, G.one_mul, G.add_mul]
    have e : a * x0 + (b * x1 + (a * x2 + b * x2)) = a * (x0 + x2) + b * (x1 + x2) := by
      rw [G.mul_add, G.mul_add, G.add_assoc, G.add_left_comm (b * x1)]
    rw [e, hb2, G.add_self]
/-- Without corrections none. -/
theorem small_0 {a v : G} (ha : a ≠ 0) (c : Nat → G) : ¬ Near 3 2 0 (XE 3) [] (el [a, v, 0]) c := by
  rintro ⟨h, O, hO, hd⟩
  have hO' : O = [] := List.length_eq_zero_iff.1 (Nat.le_zero.1 hO)
  subst hO'
  have he : ∀ i, i < 3 → c i = el [a, v, 0] i := fun i hi => by
    by_cases e : c i = el [a, v, 0] i
    · exact e
    · rcases hd i hi e with h | h <;> cases h
  exact ha (((he 0 (by decide)).symm.trans (sm_last h (he 2 (by decide))).1))
/-- With one correction: just one second byte. -/
theorem small_1 {a : G} (ha : a ≠ 0) : ∃ e : G, e ≠ 0 ∧ ∀ v : G, v ≠ 0 → ((∃ c, Near 3 2 1 (XE 3) [] (el [a, v, 0]) c) ↔ v = e) := by
  obtain ⟨c, hc, h0⟩ := sm_enc a
  refine ⟨c 1, fun h1 => ha ?_, fun v hv => ⟨?_, ?_⟩⟩
  · rw [← h0]
    exact sm_two hc (p := 0) (q := 2) (fun i hi hne => by
      obtain rfl | rfl | rfl : i = 0 ∨ i = 1 ∨ i = 2 := by omega
      · exact .inl rfl
      · exact absurd h1 hne
      · exact .inr rfl) 0 (by decide)
  · rintro ⟨d, hd, O, hO, hdiff⟩
    have hin : ∀ i, i < 3 → d i ≠ el [a, v, 0] i → i ∈ O := fun i hi hne => (hdiff i hi hne).resolve_left List.not_mem_nil
    have hone : ∀ i j, i ∈ O → j ∈ O → i = j := fun i j hi hj => by
      match O, hO with
      | [x], _ => rw [List.mem_singleton] at hi hj; rw [hi, hj]
      | [], _ => cases hi
    have h2 : d 2 ≠ 0 := fun h2 => by
      obtain ⟨g0, g1⟩ := sm_last hd h2
      have := hone 0 1 (hin 0 (by decide) (by rw [g0]; exact fun e => ha e.symm)) (hin 1 (by decide) (by rw [g1]; exact fun e => hv e.symm))
      omega
    have h2O := hin 2 (by decide) h2
    have e0 : d 0 = a := Classical.byContradiction fun h => by have := hone 0 2 (hin 0 (by decide) h) h2O; omega
    have e1 : d 1 = v := Classical.byContradiction fun h => by have := hone 1 2 (hin 1 (by decide) h) h2O; omega
    have := enc_one (n := 3) (m := 2) (xe_inj (by decide)) hd hc (fun i hi => by
      obtain rfl : i = 0 := by omega
      rw [e0, h0]) 1 (by decide)
    rw [← e1, this]
  · rintro rfl
    refine ⟨c, hc, [2], by simp, fun i hi hne => .inr ?_⟩
    obtain rfl | rfl | rfl : i = 0 ∨ i = 1 ∨ i = 2 := by omega
    · exact absurd h0 hne
    · exact absurd rfl hne
    · exact List.mem_cons_self
end Go.Proofs.YtmejneobfkbgeaaGreatDoor.SM

namespace Go.Proofs.YtmejneobfkbgeaaGreatDoor.P
open Go Go.RowKit Go.Shelf
attribute [local go_sem] Oper.semAt_some

set_option maxRecDepth 100000 in
set_option maxHeartbeats 2000000 in
/-- The closure of slices.Backward: J k: k elements are still to come. -/
theorem back1_in (n : Nat) (hn : 1 ≤ n) (l Bs : Nat) (s : Option Addr) (len cap : Nat) (hlen : len ≤ 9223372036854775807) (J Jx : Nat → World → Prop)
    (hbox : ∀ k W, J k W → W.cell? ⟨Bs, 0, none⟩ = some (.slice s len cap))
    (hY : ∀ k W, J (k + 1) W → k < len → ∃ b off v, s = some ⟨b, off, none⟩ ∧ W.cell? ⟨b, off + k, none⟩ = some (.int .u8 v) ∧
      YieldAt Fence.wide (n - 1) Tryz.prog l #[.int .i64 (k : Int), .int .u8 v] W fun e W' => (e = .returned (.bool true) ∧ J k W') ∨ (e = .returned (.bool false) ∧ Jx k W'))
    (W : World) (h0 : J len W) :
    CallsIn Fence.wide n Tryz.prog 146 #[.func (.yield l) #[] #[], .pointer (some ⟨Bs, 0, none⟩)] W fun e W' => (∃ v, e = .returned v) ∧ (J 0 W' ∨ ∃ k, k < len ∧ Jx k W') := by
  refine callsIn_of_wp Tryz.func146 rfl trivial ?_ rfl
  simp only [Tryz.ntmps146, List.size_toArray, List.length_cons, List.length_nil, Nat.reduceAdd, Nat.reduceSub, Array.replicate_succ, Array.replicate_zero, List.push_toArray, List.append_toArray, List.nil_append, List.cons_append]
  have hB0 := hbox _ _ h0
  gi_wp2
  gi_loopw [3] (fun i wr => ∃ k : Nat, k ≤ len ∧ i = .int .i64 ((k : Int) - 1) ∧ J k wr) (fun i _ => (intOf i + 1).toNat)
  case atStart => exact ⟨len, Nat.le_refl _, by first | rfl | go_num, h0⟩
  case round =>
    obtain ⟨k, hk, rfl, hJ⟩ := hrel
    cases k with
    | zero =>
      gi_wp2
      go_end0
      exact ⟨⟨_, rfl⟩, .inl hJ⟩
    | succ k =>
      obtain ⟨b, off, v, rfl, hc, fn, tmps, assign, body, hy, hR⟩ := hY k wr hJ (by omega)
      have hbx := hbox _ _ hJ
      have e1 : ((k + 1 : Nat) : Int) - 1 = (k : Int) := by omega
      rw [e1]
      have hk0 : k < len := by omega
      gi_wp2
      refine hR.mono ?_
      rintro e W3 (⟨rfl, hJ3⟩ | ⟨rfl, hJx3⟩)
      · have hbx3 := hbox _ _ hJ3
        gi_wp2
        go_roundw
        case rel => exact ⟨k, by omega, by go_num, hJ3⟩
        case measure => simp [intOf]
      · gi_wp2
        refine bodyPost_ret (results_none rfl _ _ _) rfl ?_
        exact ⟨⟨_, rfl⟩, .inr ⟨k, hk0, hJx3⟩⟩

/-- How the body of a round may be left: k elements are still to come. -/
def backPost (B : Nat) (I : Nat → World → Prop) (Ix : Code → Nat → World → Prop) (k : Nat) (W : World) : Exit → Act → World → Prop
  | .normal, _, W' => KeepsFrom B W W' ∧ I k W'
  | .ret, _, W' => KeepsFrom B W W' ∧ Ix .ret k W'
  | .exit id, _, W' => KeepsFrom B W W' ∧ Ix (.exit id) k W'
  | .goto t, _, W' => KeepsFrom B W W' ∧ Ix (.goto t) k W'
  | .panic _, _, _ => False
  | .outgrown, _, _ => False

/-- **'for i, x := range slices.Backward(s) { body }'.** I k: k elements are still to come; element k is then vs k. -/
theorem wpIn_back {g : Operand} {ps : Array Tmp} {assign body : Code} {Q : Exit → Act → World → Prop} {a : Act} {w : World} {n : Nat} (h3 : 3 ≤ n) {Bs : Nat}
    (hg : a.eval g = .func (.func 146) #[] #[.pointer (some ⟨Bs, 0, none⟩)]) (hps : ps.size = 2) (s : Option Addr) (len cap : Nat) (hlen : len ≤ 9223372036854775807) (vs : Nat → Int)
    (I : Nat → World → Prop) (Ix : Code → Nat → World → Prop) (hI : OwnFrom w.heap.size I) (hIx : ∀ c, OwnFrom w.heap.size (Ix c)) (h0 : I len w)
    (hbox : ∀ k W, I k W → W.cell? ⟨Bs, 0, none⟩ = some (.slice s len cap))
    (hread : ∀ k W, I (k + 1) W → k < len → ∃ b off, s = some ⟨b, off, none⟩ ∧ W.cell? ⟨b, off + k, none⟩ = some (.int .u8 (vs k)))
    (a₁ : Nat → Act)
    (hassign : ∀ (l k : Nat) (W : World) (K : Act → World → Prop), k < len → K (a₁ k) W →
      assign.wpIn (Fence.wide.inRound l) (n - 1 - 1) Tryz.prog (Exit.then K (fun _ _ _ => False)) { tmps := (ps.zip #[.int .i64 (k : Int), .int .u8 (vs k)]).foldl (fun t (p, v) => t.setIfInBounds p v) a.tmps, defers := [] } W)
    (hbody : ∀ (l k : Nat) (W : World), w.heap.size ≤ l → (∃ r, W.heap[l]? = some (.loop r)) → I (k + 1) W → k < len → body.wpIn (Fence.wide.inRound l) (n - 1 - 1) Tryz.prog (backPost w.heap.size I Ix k W) (a₁ k) W)
    (hdone : ∀ (D : Nat) (W : World), w.heap.size ≤ D → I 0 W → W.heap[D]? = some (.deferred (some [])) → Q .normal { a with defers := { target := .collected D, args := #[] } :: a.defers } W)
    (hstop : ∀ (D : Nat) (c : Code) (k : Nat) (W : World), w.heap.size ≤ D → k < len → Ix c k W → W.heap[D]? = some (.deferred (some [])) → c.wpIn Fence.wide n Tryz.prog Q { a with defers := { target := .collected D, args := #[] } :: a.defers } W) :
    (Code.rangeFunc g ps assign body).wpIn Fence.wide n Tryz.prog Q a w := by
  refine wpIn_rangeFunc ?_
  intro fn hfn
  rw [show Fence.wide.round = none from rfl]
  obtain ⟨rec, hrec⟩ : ∃ rec : LoopState → Option Code → Loop, rec = fun st pe => { state := st, pending := pe, fn, tmps := a.tmps, params := ps, assign, body, defers := w.heap.size } := ⟨_, rfl⟩
  obtain ⟨W1, hW1⟩ : ∃ W1, (w.alloc (.deferred (some []))).alloc (.loop (rec .ready none)) = W1 := ⟨_, rfl⟩
  have hL1 : W1.heap[w.heap.size + 1]? = some (.loop (rec .ready none)) := by
    rw [← hW1]; have := World.alloc_heap_new (w.alloc (.deferred (some []))) (.loop (rec .ready none)); rwa [World.size_alloc] at this
  have hK1 : W1.heap[w.heap.size]? = some (.deferred (some [])) := by
    rw [← hW1]; exact (Below.heap_alloc _ _ _ (by simp)).trans (World.alloc_heap_new w _)
  have hI1 : I len W1 := by rw [← hW1]; exact hI.alloc _ (hI.alloc _ h0)
  refine ⟨w.heap.size + 1, [{ target := .collected w.heap.size, args := #[] }], W1, { target := .fn (.func 146) #[.pointer (some ⟨Bs, 0, none⟩)], args := #[.func (.yield (w.heap.size + 1)) #[] #[]] }, W1, 146,
    #[.func (.yield (w.heap.size + 1)) #[] #[]] ++ #[.pointer (some ⟨Bs, 0, none⟩)], W1, ?_, ?_, ?_, ?_, fun _ => (by omega), ?_⟩
  · rw [← hW1, hrec]; exact run_enterLoop_outer _ _ _ _ _
  · simp only [resolve, hg]
    simp [go_sem]
  · intro f' hf'; trivial
  · simp [invoke, go_sem]
  · refine (back1_in (n - 1) (by omega) (w.heap.size + 1) Bs s len cap hlen
      (fun k W => I k W ∧ W.heap[w.heap.size + 1]? = some (.loop (rec .ready none)) ∧ W.heap[w.heap.size]? = some (.deferred (some [])))
      (fun k W => ∃ c, Ix c k W ∧ W.heap[w.heap.size + 1]? = some (.loop (rec .done (some c))) ∧ W.heap[w.heap.size]? = some (.deferred (some [])))
      (fun k W h => hbox k W h.1) ?_ W1 ⟨hI1, hL1, hK1⟩).mono ?_
    · rintro k W ⟨hi, hl, hk⟩ hlt
      obtain ⟨b, off, hs, hc⟩ := hread k W hi hlt
      refine ⟨b, off, vs k, hs, hc, ?_⟩
      have hy := run_yield (P := Tryz.prog) (args := #[.int .i64 (k : Int), .int .u8 (vs k)]) hl (by rw [hrec]; exact hps.symm)
      rw [hrec] at hy
      refine ⟨fn, _, assign, body, hy, roundIn_of_wpIn hfn (hassign _ k W _ hlt ?_)⟩
      clear hy
      have hlt2 : w.heap.size + 1 < W.heap.size := (Array.getElem?_eq_some_iff.1 hl).1
      refine ⟨_, run_beginRound hl (by rw [hrec]), ?_⟩
      have hl2 : (W.putObj (w.heap.size + 1) (.loop { rec .ready none with state := .busy })).heap[w.heap.size + 1]? = some (.loop { rec .ready none with state := .busy }) := World.putObj_heap_same hlt2
      have hk2 : (W.putObj (w.heap.size + 1) (.loop { rec .ready none with state := .busy })).heap[w.heap.size]? = some (.deferred (some [])) := (World.putObj_heap_other (by omega)).trans hk
      refine wpIn_mono (hbody _ k _ (by omega) ⟨_, hl2⟩ (hI.putObj _ hi (by omega) hl rfl) hlt) ?_
      have fin : ∀ (jump : Option Code) (W3 : World), KeepsFrom w.heap.size (W.putObj (w.heap.size + 1) (.loop { rec .ready none with state := .busy })) W3 →
          (Instr.endRound (w.heap.size + 1) jump).run Tryz.prog W3 = .ok (.bool jump.isNone) (W3.putObj (w.heap.size + 1) (.loop (rec (if jump.isNone then .ready else .done) jump))) ∧
          W3.heap[w.heap.size + 1]? = some (.loop { rec .ready none with state := .busy }) ∧
          (W3.putObj (w.heap.size + 1) (.loop (rec (if jump.isNone then .ready else .done) jump))).heap[w.heap.size + 1]? = some (.loop (rec (if jump.isNone then .ready else .done) jump)) ∧
          (W3.putObj (w.heap.size + 1) (.loop (rec (if jump.isNone then .ready else .done) jump))).heap[w.heap.size]? = some (.deferred (some [])) := fun jump W3 hk3 => by
        have hl3 := hk3.same _ _ (by omega) hl2 rfl
        have := run_endRound (P := Tryz.prog) jump hl3
        rw [hrec] at this ⊢
        exact ⟨this, by rw [hrec] at hl3; exact hl3, World.putObj_heap_same (Array.getElem?_eq_some_iff.1 hl3).1, (World.putObj_heap_other (by omega)).trans (hk3.same _ _ (Nat.le_refl _) hk2 rfl)⟩
      rintro e a3 W3 hp
      cases e with
      | normal =>
        obtain ⟨hk3, hi3⟩ := hp
        obtain ⟨hr, hl3, hl4, hk4⟩ := fin none W3 hk3
        exact ⟨_, _, hr, .inl ⟨rfl, hI.putObj _ hi3 (by omega) hl3 rfl, hl4, hk4⟩⟩
      | ret =>
        obtain ⟨hk3, hi3⟩ := hp
        obtain ⟨hr, hl3, hl4, hk4⟩ := fin (some .ret) W3 hk3
        exact ⟨_, _, hr, .inr ⟨rfl, .ret, (hIx _).putObj _ hi3 (by omega) hl3 rfl, hl4, hk4⟩⟩
      | exit id =>
        obtain ⟨hk3, hi3⟩ := hp
        obtain ⟨hr, hl3, hl4, hk4⟩ := fin (some (.exit id)) W3 hk3
        exact ⟨_, _, hr, .inr ⟨rfl, .exit id, (hIx _).putObj _ hi3 (by omega) hl3 rfl, hl4, hk4⟩⟩
      | goto t =>
        obtain ⟨hk3, hi3⟩ := hp
        obtain ⟨hr, hl3, hl4, hk4⟩ := fin (some (.goto t)) W3 hk3
        exact ⟨_, _, hr, .inr ⟨rfl, .goto t, (hIx _).putObj _ hi3 (by omega) hl3 rfl, hl4, hk4⟩⟩
      | panic ch => exact hp.elim
      | outgrown => exact hp.elim
    · rintro e W2 ⟨⟨v, rfl⟩, (⟨hi, hl, hk⟩ | ⟨k, hlt, c, hi, hl, hk⟩)⟩
      · exact ⟨none, _, by have := run_endLoop (P := Tryz.prog) hl (by rw [hrec]; simp); rw [hrec] at this; exact this, hdone _ _ (Nat.le_refl _) (hI.putObj _ hi (by omega) hl rfl) ((World.putObj_heap_other (by omega)).trans hk)⟩
      · exact ⟨some c, _, by have := run_endLoop (P := Tryz.prog) hl (by rw [hrec]; simp); rw [hrec] at this; exact this, hstop _ c k _ (Nat.le_refl _) hlt ((hIx c).putObj _ hi (by omega) hl rfl) ((World.putObj_heap_other (by omega)).trans hk)⟩

/-- **slices.Backward(s)**: the slice value is boxed; the function value captures the box. -/
theorem backward_any (s : Option Addr) (len cap : Nat) (w : World) :
    Calls Tryz.prog 123 #[.slice s len cap] w fun e w' => e = .returned (.func (.func 146) #[] #[.pointer (some ⟨w.heap.size, 0, none⟩)]) ∧ w' = w.alloc (.cells #[.slice s len cap] 34) := by
  go_enter Tryz.func123, Tryz.ntmps123
  go_wp2
  go_ret
  exact ⟨rfl, rfl⟩
end Go.Proofs.YtmejneobfkbgeaaGreatDoor.P

namespace Go.Proofs.YtmejneobfkbgeaaGreatDoor.P
open Go Go.RowKit Go.Shelf

theorem cell_new (w : World) (v : Value) (t : TypeId) : (w.alloc (.cells #[v] t)).cell? ⟨w.heap.size, 0, none⟩ = some v := by
  simp
theorem frozen_new (w : World) (v : Value) (t : TypeId) : (w.alloc (.cells #[v] t)).frozen? ⟨w.heap.size, 0, none⟩ = false := by
  simp
theorem cell_later {w : World} {a : Addr} {v : Value} (o : Obj) (h : w.cell? a = some v) : (w.alloc o).cell? a = some v :=
  cell_kept h (World.grownBy_alloc w o none) (fun r e => by cases e)
theorem frozen_later {w : World} {a : Addr} {v : Value} (o : Obj) (h : w.cell? a = some v) (hf : w.frozen? a = false) : (w.alloc o).frozen? a = false :=
  (frozen_kept h (World.grownBy_alloc w o none) (fun r e => by cases e)).trans hf
theorem lt_of_cell {w : World} {a : Addr} {v : Value} (h : w.cell? a = some v) : a.block < w.heap.size := by
  obtain ⟨o, ho, _⟩ := cells_of_cell h
  exact (Array.getElem?_eq_some_iff.1 ho).1
/-- What lies behind a call that only makes memory. -/
theorem bcell {W w1 : World} (hb : Below W.heap.size W w1) : (∀ b o, b < W.heap.size → w1.cell? ⟨b, o, none⟩ = W.cell? ⟨b, o, none⟩) ∧ (∀ b o, b < W.heap.size → w1.frozen? ⟨b, o, none⟩ = W.frozen? ⟨b, o, none⟩) :=
  ⟨fun b o h => hb.cell (p := ⟨b, o, none⟩) h, fun b o h => hb.frozen (p := ⟨b, o, none⟩) h⟩
theorem belowN {B : Nat} {w W : World} (h : Below B w W) (n : Nat) : Below B w (W.drewN n) := ⟨h.os, h.tape, h.output, h.size, h.block⟩
theorem cell_other {W : World} {p a : Addr} (u : Value) (h : a.block ≠ p.block) : (W.setCell p u).cell? a = W.cell? a :=
  World.cell?_of_block (Below.heap_setCell W p u a.block h)
theorem grown_of_below {W W' : World} (h : Below W.heap.size W W') : W.grownBy W' none := ⟨h.os, h.tape, h.output, h.size, fun k hk _ => h.block k hk⟩
theorem grown_trans {a b c : World} {row : Option Nat} (h : a.grownBy b row) (k : b.grownBy c row) : a.grownBy c row :=
  ⟨k.os.trans h.os, k.tape.trans h.tape, k.output.trans h.output, Nat.le_trans h.size k.size, fun i hi hne => (k.block i (Nat.lt_of_lt_of_le hi h.size) hne).trans (h.block i hi hne)⟩
theorem grown_set {w W : World} {g : Nat} (h : w.grownBy W (some g)) (j : Nat) (u : Value) : w.grownBy (W.setCell ⟨g, j, none⟩ u) (some g) :=
  ⟨h.os, h.tape, h.output, by simpa [World.setCell] using h.size, fun k hk hne => (Below.heap_setCell W ⟨g, j, none⟩ u k (fun e => hne (by rw [e]))).trans (h.block k hk hne)⟩
theorem grown_drewN {w W : World} {row : Option Nat} (h : w.grownBy W row) (n : Nat) : w.grownBy (W.drewN n) row := ⟨h.os, h.tape, h.output, h.size, h.block⟩
theorem grown_alloc {w W : World} {row : Option Nat} (h : w.grownBy W row) (o : Obj) : w.grownBy (W.alloc o) row :=
  ⟨h.os, h.tape, h.output, by rw [World.size_alloc]; exact Nat.le_succ_of_le h.size, fun k hk hne => (Below.heap_alloc W o k (Nat.lt_of_lt_of_le hk h.size)).trans (h.block k hk hne)⟩
theorem grown_below {w W : World} {g B : Nat} (h : w.grownBy W (some g)) (hg : B ≤ g) (hB : B ≤ w.heap.size) : Below B w W :=
  (Below.refl B w).grown h hB (fun k e => by cases e; exact hg)
theorem below_grown {B : Nat} {w W W' : World} {row : Option Nat} (hb : Below B w W) (h : W.grownBy W' row) (hB : B ≤ W.heap.size) (hr : ∀ k, row = some k → B ≤ k) : Below B w W' := hb.grown h hB hr

/-- The cell of an element. -/
def gv (c : PM.G) : Value := .int .u8 (c.v : Int)

theorem gv_zero {c : PM.G} (h : c = 0) : ((c.v : Int) != 0) = false := by rw [h]; rfl
theorem gv_ne {c : PM.G} (h : c ≠ 0) : ((c.v : Int) != 0) = true := by
  have : c.v ≠ 0 := fun e => h (PM.G.ext' e)
  simp [this]
theorem gv_eq0 {c : PM.G} (h : c = 0) : ((c.v : Int) == 0) = true := by rw [h]; rfl
theorem gv_neq {c : PM.G} (h : c ≠ 0) : ((c.v : Int) == 0) = false := by
  have : c.v ≠ 0 := fun e => h (PM.G.ext' e)
  simp [this]

/-- The slice at a, of capacity cap, holds the bytes zs. -/
structure Row (w : World) (a : Option Addr) (zs : List PM.G) (cap : Nat) : Prop where
  room : zs.length ≤ cap
  most : cap ≤ 9223372036854775807
  el : ∀ j, j < zs.length → ∃ b off, a = some ⟨b, off, none⟩ ∧ w.cell? ⟨b, off + j, none⟩ = some (.int .u8 ((PM.el zs j).v : Int))

theorem Row.below {w w' : World} {a : Option Addr} {zs : List PM.G} {cap : Nat} (h : Row w a zs cap) (hb : Below w.heap.size w w') : Row w' a zs cap :=
  ⟨h.room, h.most, fun j hj => by
    obtain ⟨b, off, e, hc⟩ := h.el j hj
    exact ⟨b, off, e, (hb.cell (p := ⟨b, off + j, none⟩) (lt_of_cell hc)).trans hc⟩⟩
theorem Row.grown {w W : World} {a : Option Addr} {zs : List PM.G} {cap : Nat} {row : Option Nat} (h : Row w a zs cap) (hg : w.grownBy W row) (hne : ∀ b off, a = some ⟨b, off, none⟩ → some b ≠ row) : Row W a zs cap :=
  ⟨h.room, h.most, fun j hj => by
    obtain ⟨b, off, e, hc⟩ := h.el j hj
    exact ⟨b, off, e, (World.cell?_of_block (hg.block b (lt_of_cell hc) (hne b off e))).trans hc⟩⟩
theorem Row.cell {w : World} {b off : Nat} {zs : List PM.G} {cap : Nat} (h : Row w (some ⟨b, off, none⟩) zs cap) (j : Nat) (hj : j < zs.length) : w.cell? ⟨b, off + j, none⟩ = some (.int .u8 ((PM.el zs j).v : Int)) := by
  obtain ⟨b', off', e, hc⟩ := h.el j hj
  cases e
  exact hc
theorem Row.alloc {w : World} {a : Option Addr} {zs : List PM.G} {cap : Nat} (h : Row w a zs cap) (o : Obj) : Row (w.alloc o) a zs cap :=
  h.below ((Below.refl _ w).alloc (Nat.le_refl _) _)
theorem Row.drewN {w : World} {a : Option Addr} {zs : List PM.G} {cap : Nat} (h : Row w a zs cap) (n : Nat) : Row (w.drewN n) a zs cap := ⟨h.room, h.most, h.el⟩
theorem Row.nil (w : World) (a : Option Addr) (cap : Nat) (h : cap ≤ 9223372036854775807) : Row w a [] cap := ⟨Nat.zero_le _, h, fun j hj => by simp at hj⟩
/-- The blocks of a row that holds something lie in memory. -/
theorem Row.lt {w : World} {b off : Nat} {zs : List PM.G} {cap : Nat} (h : Row w (some ⟨b, off, none⟩) zs cap) (h0 : 0 < zs.length) : b < w.heap.size := lt_of_cell (h.cell 0 h0)

/-- The first elements of a slice. -/
def cut (a : Option Addr) (cap : Nat) (ts : List PM.G) : Value := if ts = [] then .slice none 0 0 else .slice a ts.length cap
theorem Row.take {w : World} {a : Option Addr} {zs : List PM.G} {cap : Nat} (h : Row w a zs cap) (n : Nat) : Row w a (zs.take n) cap :=
  ⟨by have := h.room; simp; omega, h.most, fun j hj => by
    rw [List.length_take] at hj
    obtain ⟨b, off, e, hc⟩ := h.el j (by omega)
    exact ⟨b, off, e, by rw [PM.el_take, if_pos (by omega)]; exact hc⟩⟩
theorem Row.cut {w : World} {a : Option Addr} {zs : List PM.G} {cap : Nat} (h : Row w a zs cap) : ∃ a' cap', cut a cap (PM.trimL zs) = .slice a' (PM.trimL zs).length cap' ∧ Row w a' (PM.trimL zs) cap' ∧ (∀ b off, a' = some ⟨b, off, none⟩ → a = some ⟨b, off, none⟩) := by
  unfold P.cut
  split
  · rename_i e; rw [e]; exact ⟨none, 0, rfl, Row.nil _ _ _ (by omega), fun _ _ h => by cases h⟩
  · refine ⟨a, cap, rfl, ?_, fun _ _ h => h⟩
    have := h.take (PM.trimL zs).length
    rwa [PM.trimL_take] at this

/-- The slice v, made from block B on, holds the bytes zs. -/
def Own (W : World) (B : Nat) (v : Value) (zs : List PM.G) : Prop := W.ownsRow B 5 1 v zs.length (zs.map gv)

theorem Own.nil (W : World) (B : Nat) : Own W B (.slice none 0 0) [] := World.ownsRow_nil _ _ _ _
theorem Own.below {W W' : World} {B : Nat} {v : Value} {zs : List PM.G} (h : Own W B v zs) (hb : Below W.heap.size W W') : Own W' B v zs :=
  World.ownsRow.kept h (grown_of_below hb) (by cases v.ownBlock with | none => exact .inl rfl | some k => exact .inr (by intro e; cases e))
theorem Own.alloc {W : World} {B : Nat} {v : Value} {zs : List PM.G} (h : Own W B v zs) (o : Obj) : Own (W.alloc o) B v zs :=
  h.below ((Below.refl _ W).alloc (Nat.le_refl _) _)
theorem Own.drewN {W : World} {B : Nat} {v : Value} {zs : List PM.G} (h : Own W B v zs) (n : Nat) : Own (W.drewN n) B v zs := h
theorem Own.grown {W W' : World} {B : Nat} {v : Value} {zs : List PM.G} {row : Option Nat} (h : Own W B v zs) (hg : W.grownBy W' row) (hne : v.ownBlock = none ∨ v.ownBlock ≠ row) : Own W' B v zs :=
  World.ownsRow.kept h hg hne

theorem Own.mono {W : World} {B B' : Nat} {v : Value} {zs : List PM.G} (h : Own W B v zs) (hB : B' ≤ B) : Own W B' v zs := by
  obtain ⟨h1, h2 | ⟨g, cap, cur, hv, hg, r⟩⟩ := h
  · exact ⟨h1, .inl h2⟩
  · exact ⟨h1, .inr ⟨g, cap, cur, hv, Nat.le_trans hB hg, r⟩⟩
/-- What is known of the slice value: its address, its capacity, the cells. -/
theorem Own.parts {W : World} {B : Nat} {v : Value} {zs : List PM.G} (h : Own W B v zs) :
    (v = .slice none 0 0 ∧ zs = []) ∨ ∃ g cap, v = .slice (some ⟨g, 0, none⟩) zs.length cap ∧ B ≤ g ∧ g < W.heap.size ∧ zs.length ≤ cap ∧ cap ≤ 9223372036854775807 ∧
      ∀ j, j < zs.length → W.cell? ⟨g, j, none⟩ = some (.int .u8 ((PM.el zs j).v : Int)) ∧ W.frozen? ⟨g, j, none⟩ = false := by
  have h' := h
  obtain ⟨h1, h2 | ⟨g, cap, cur, hv, hg, hh, r1, r2, r3⟩⟩ := h
  · exact .inl ⟨h2.1, List.length_eq_zero_iff.1 h2.2⟩
  · refine .inr ⟨g, cap, hv, hg, (Array.getElem?_eq_some_iff.1 hh).1, r1, r2, fun j hj => ?_⟩
    subst hv
    refine ⟨?_, World.ownsRow.frozenAt h' j⟩
    rw [World.ownsRow.cellAt h' j (by simpa using hj), List.getElem?_map, List.getElem?_eq_getElem hj, PM.el_lt hj]
    rfl
theorem Own.row {W : World} {B : Nat} {v : Value} {zs : List PM.G} (h : Own W B v zs) : ∃ a cap, v = .slice a zs.length cap ∧ Row W a zs cap := by
  rcases h.parts with ⟨rfl, rfl⟩ | ⟨g, cap, rfl, _, _, r1, r2, hc⟩
  · exact ⟨none, 0, rfl, Nat.le_refl _, by omega, fun j hj => by simp at hj⟩
  · exact ⟨_, cap, rfl, r1, r2, fun j hj => ⟨g, 0, rfl, by simpa using (hc j hj).1⟩⟩
theorem Own.rowAt {W : World} {B : Nat} {a : Option Addr} {cap : Nat} {zs : List PM.G} (h : Own W B (.slice a zs.length cap) zs) : Row W a zs cap := by
  obtain ⟨a', cap', e, r⟩ := h.row
  cases e
  exact r
/-- A store into an owned slice. -/
theorem Own.set {W : World} {B : Nat} {g cap : Nat} {zs : List PM.G} (h : Own W B (.slice (some ⟨g, 0, none⟩) zs.length cap) zs) (j : Nat) (c : PM.G) : Own (W.setCell ⟨g, j, none⟩ (.int .u8 (c.v : Int))) B (.slice (some ⟨g, 0, none⟩) zs.length cap) (zs.set j c) := by
  unfold Own
  rw [List.length_set, List.map_set]
  exact (World.ownsRow.stored h j (.int .u8 (c.v : Int))).1
theorem Own.setBelow {W : World} {B : Nat} {v : Value} {zs : List PM.G} (h : Own W B v zs) {p : Addr} (hp : p.block < B) (u : Value) : Own (W.setCell p u) B v zs :=
  ownsRow_setCell_below h hp u
theorem Own.other {W : World} {B : Nat} {v : Value} {zs : List PM.G} (h : Own W B v zs) {p : Addr} (u : Value) (hp : v.ownBlock ≠ some p.block) : Own (W.setCell p u) B v zs :=
  World.ownsRow.kept h (row := some p.block) ⟨rfl, rfl, rfl, by simp [World.setCell], fun k _ hk => Below.heap_setCell W p u k (fun e => hk (by rw [e]))⟩ (.inr hp)
/-- Element k of a slice that is owned. -/
theorem Own.at {W : World} {B g cap n : Nat} {zs : List PM.G} (h : Own W B (.slice (some ⟨g, 0, none⟩) n cap) zs) (k : Nat) (hk : k < zs.length) : B ≤ g ∧ g < W.heap.size ∧ cap ≤ 9223372036854775807 ∧ zs.length ≤ cap ∧ W.cell? ⟨g, k, none⟩ = some (.int .u8 ((PM.el zs k).v : Int)) ∧ W.frozen? ⟨g, k, none⟩ = false := by
  rcases h.parts with ⟨e, rfl⟩ | ⟨g', cap', e, hb, h2, h3, h4, hc⟩
  · simp at hk
  · cases e
    exact ⟨hb, h2, h4, h3, hc k hk⟩
theorem Own.len {W : World} {B n cap : Nat} {a : Option Addr} {zs : List PM.G} (h : Own W B (.slice a n cap) zs) : n = zs.length := by
  rcases h.parts with ⟨e, rfl⟩ | ⟨g', cap', e, _⟩
  · cases e; rfl
  · cases e; rfl

theorem info_byte : (Tryz.prog.info? 5).map (fun i => (i.zero, i.size, i.bytes)) = some (some (.int .u8 0), 1, 1) := by kernel_rfl
theorem map_zero (n : Nat) : (List.replicate n (0 : PM.G)).map gv = List.replicate n (.int .u8 0) := by
  rw [List.map_replicate]; rfl
/-- **make([]byte, n)** -/
theorem wpList_make1 {W : World} {ops : Array Oper} {rest : List Oper} {o : Oper} {a : Act} {Q : Exit → Act → World → Prop} (hgd : o.guard = none) (l c : Operand) (hop : o.op = Op.makeSlice 34 l c)
    {B : Nat} (n : Nat) {L : Int} (hl : a.eval l = .int .i64 L) (hc : a.eval c = .int .i64 L) (hL : L = (n : Int)) (hn : n < 1000000) (hbase : B ≤ W.heap.size)
    (h : ∀ W', Own W' B (.slice (some ⟨W.heap.size, 0, none⟩) (List.replicate n (0 : PM.G)).length n) (List.replicate n 0) → Below B W W' → wpList Tryz.prog ops Q rest (a.put o.dst (.slice (some ⟨W.heap.size, 0, none⟩) n n)) W') : wpList Tryz.prog ops Q (o :: rest) a W := by
  obtain ⟨i0, hi, hz0, hz1, hz2⟩ := info_parts info_byte
  refine wpList_make_full W hgd l c 34 hop B 5 i0 (.int .u8 0) 1 Tryz.underlying34 hi hz0 hz1 .i64 .i64 L L n hl hc hL hL (by rw [hz2]; omega) (by unfold maxLen; omega) hbase ?_
  intro W' hown hgrow
  refine h W' ?_ ((Below.refl B W).grown hgrow hbase (fun k e => by cases e))
  unfold Own
  rw [List.length_replicate, map_zero]
  have e : (madeCells (Value.int .u8 0).cells (n * 1)).toList = List.replicate n (Value.int .u8 0) := by
    refine List.eq_replicate_iff.2 ⟨by simp [madeCells, Value.cells], fun b hb => ?_⟩
    simp [madeCells, Value.cells, Nat.mod_one] at hb
    exact hb.2.symm
  rw [e] at hown
  exact hown

/-- **append(s, x)**, s owned. -/
theorem wpList_app1 {W : World} {ops : Array Oper} {rest : List Oper} {o : Oper} {a : Act} {Q : Exit → Act → World → Prop} (hgd : o.guard = none) (s x : Operand)
    (ho : o.op = .call { callee := .builtin .append, args := #[s, x], argTypes := #[34, 34] }) {B : Nat} {v : Value} {zs : List PM.G} {X : Int} (c : PM.G) (hs : a.eval s = v) (hown : Own W B v zs)
    {b : Nat} (hx : a.eval x = .slice (some ⟨b, 0, none⟩) 1 1) (hc : W.cell? ⟨b, 0, none⟩ = some (.int .u8 X)) (hX : X = (c.v : Int)) (hl : zs.length < 1000000) (hbase : B ≤ W.heap.size)
    (h : ∀ a' cap' W', Own W' B (.slice a' (zs ++ [c]).length cap') (zs ++ [c]) → W.grownBy W' v.ownBlock → Below B W W' → wpList Tryz.prog ops Q rest (a.put o.dst (.slice a' (zs.length + 1) cap')) W') : wpList Tryz.prog ops Q (o :: rest) a W := by
  subst hX
  obtain ⟨i0, hi, hz0, hz1, hz2⟩ := info_parts info_byte
  refine wpList_append_own W hgd s x 34 ho B 5 i0 (.int .u8 0) 1 1 Tryz.underlying34 hi hz0 hz1 hz2 rfl (by decide) v zs.length (zs.map gv) hs hown ⟨b, 0, none⟩ 1 1 [.int .u8 (c.v : Int)] hx rfl ?_ ?_ (by unfold maxLen; omega) (by omega) hbase ?_
  · intro j u hj
    match j, hj with
    | 0, hj => simp at hj; subst hj; simpa [Addr.add] using hc
  · intro u hu; simp at hu; subst hu; rfl
  · intro v' W' hown' hgrow _
    have ho2 : Own W' B v' (zs ++ [c]) := by unfold Own; simpa [gv] using hown'
    have hB2 : Below B W W' := (Below.refl B W).grown hgrow hbase (fun k e => (World.ownsRow.lt hown k e).1)
    obtain ⟨a', cap', rfl, _⟩ := ho2.row
    have := h a' cap' W' ho2 hgrow hB2
    simpa using this
theorem own_empty (w : World) (B : Nat) (h : B ≤ w.heap.size) : Own (w.alloc (.cells #[] 5)) B (.slice (some ⟨w.heap.size, 0, none⟩) 0 0) [] :=
  World.ownsRow_made (base := B) (e := 5) (size := 1) w #[] 0 h (by unfold maxLen; omega) rfl

/-- **append(s, t...)**, s owned, t any. -/
theorem wpList_appAll {W : World} {ops : Array Oper} {rest : List Oper} {o : Oper} {a : Act} {Q : Exit → Act → World → Prop} (hgd : o.guard = none) (s x : Operand)
    (ho : o.op = .call { callee := .builtin .append, args := #[s, x], argTypes := #[34, 34] }) {B : Nat} {v : Value} {zs ys : List PM.G} (hs : a.eval s = v) (hown : Own W B v zs)
    {b off cap : Nat} (hx : a.eval x = .slice (some ⟨b, off, none⟩) ys.length cap) (hr : Row W (some ⟨b, off, none⟩) ys cap) (hl : zs.length + ys.length < 1000000) (hbase : B ≤ W.heap.size)
    (h : ∀ a' cap' W', Own W' B (.slice a' (zs ++ ys).length cap') (zs ++ ys) → Below B W W' → wpList Tryz.prog ops Q rest (a.put o.dst (.slice a' (zs.length + ys.length) cap')) W') : wpList Tryz.prog ops Q (o :: rest) a W := by
  obtain ⟨i0, hi, hz0, hz1, hz2⟩ := info_parts info_byte
  refine wpList_append_own W hgd s x 34 ho B 5 i0 (.int .u8 0) 1 1 Tryz.underlying34 hi hz0 hz1 hz2 rfl (by decide) v zs.length (zs.map gv) hs hown ⟨b, off, none⟩ ys.length cap (ys.map gv) hx (by simp) ?_ ?_ (by unfold maxLen; omega) (by omega) hbase ?_
  · intro j u hj
    rw [List.getElem?_map] at hj
    by_cases hlt : j < ys.length
    · have hc := hr.cell j hlt
      rw [List.getElem?_eq_getElem hlt] at hj
      simp only [Option.map_some, Option.some.injEq] at hj
      subst hj
      rw [PM.el_lt hlt] at hc
      by_cases hj0 : j = 0
      · subst hj0; simpa [Addr.add, gv] using hc
      · simpa [Addr.add, hj0, gv] using hc
    · rw [List.getElem?_eq_none (by omega)] at hj; simp at hj
  · intro u hu
    obtain ⟨z, _, rfl⟩ := List.mem_map.1 hu
    rfl
  · intro v' W' hown' hgrow _
    have ho2 : Own W' B v' (zs ++ ys) := by unfold Own; rw [List.length_append, List.map_append]; exact hown'
    have hB2 : Below B W W' := (Below.refl B W).grown hgrow hbase (fun k e => (World.ownsRow.lt hown k e).1)
    obtain ⟨a', cap', rfl, _⟩ := ho2.row
    have := h a' cap' W' ho2 hB2
    simpa using this

/-- The result is the polynomial r, in memory of the call's own, from B on. -/
theorem Own.trimmed {W : World} {B : Nat} {a : Option Addr} {cap : Nat} {zs : List PM.G} (h : Own W B (.slice a zs.length cap) zs) : Own W B (P.cut a cap (PM.trimL zs)) (PM.trimL zs) := by
  unfold P.cut
  split
  · rename_i e; rw [e]; exact Own.nil _ _
  · obtain ⟨h1, h2 | ⟨g, cap', cur, hv, hg, hh, r1, r2, r3, r4⟩⟩ := h
    · rename_i e
      have hz : zs = [] := List.length_eq_zero_iff.1 h2.2
      subst hz; exact absurd rfl e
    · cases hv
      have hl := PM.trimL_len zs
      refine ⟨by simp, .inr ⟨g, cap, cur, rfl, hg, hh, by omega, r2, r3, ?_⟩⟩
      rw [← PM.trimL_take zs, List.map_take, ← r4, List.take_take, List.length_take]
      congr 1; omega
end Go.Proofs.YtmejneobfkbgeaaGreatDoor.P
