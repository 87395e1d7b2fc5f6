/- chance's numbers, in a form that is reckoned fast. nat.Gcd. append of any slice of ints, with no word on a nil one's room. The reference's Gcd. The reference's Make of two numbers. ratio.Make of two numbers. The reference's Same at any two lists of limbs. ref02.Same. ratio.Valid of a fraction in lowest terms. ratio.product and ratio.Mul of valid fractions whose products are short. ratio.crosswise of valid fractions whose products are short. ratio.Add of valid fractions whose products and sum are short. ratio.Add and ratio.Sub of valid fractions whose products are short. ratio.Cmp and ratio.Floor of valid fractions whose products are short. ref02.Of and ratio.Of of numbers. ratio.Print of eleven sixths. What nat.Print writes is read by nat.Parse. ratio.Print of 1 / 255. chance.Chance, for the code of law08.awake; awake. The dice of the statements: made.Mod, Light, Roll, Dice.Next, One. Dice.One. Dice.Symbols, for the laws of chance; a code that is stored in a variable. law08.awake. A block of N cells whose values a function tells (long arrays, slices of arrays). make([][256][2]int, n): one block of 512 n zeros. ChanceBits: how many sets of k bits have the syndrome s, bit by bit; all of them packed in one number for each syndrome, which the kernel reckons. ChanceBits: the counts while a bit is being added, and their two halves: plain mathematics. The reference's Add. ref08.mul, ref08.add. ref08.WrongBits: how many sets of bits have each syndrome, bit by bit. What ChanceFewer says, as mathematics. What ChanceBalls says, as mathematics. WrongBits' numbers, reckoned fast. ChanceBits: what the reference counts is what chance reckons: by the kernel. ChanceBits: refusals, and that both packages answer the same. -/
import Derived.Test.YtmejneobfkbgeaaDoorB9
import Derived.Deep.RegionHeld3
import Derived.Deep.RegionLaw
import Derived.Deep.DeepCutAuto
import Derived.Deep.DeepMust
namespace Go.Proofs.YtmejneobfkbgeaaDoor
open Go Go.RowKit Go.Shelf

namespace C
open G (el)
/-- The number of sets of k out of n things, factor by factor. -/
def chF (n : Nat) : Nat → Nat
  | 0 => 1
  | k + 1 => chF n k * (n - k) / (k + 1)
theorem chF_eq (n : Nat) : ∀ k, chF n k = M.ch n k
  | 0 => (M.ch_zero n).symm
  | k + 1 => by
    rw [chF, chF_eq n k]
    by_cases h : k < n
    · rw [Nat.mul_comm, M.ch_next n k h, Nat.mul_div_cancel_left _ (Nat.succ_pos k)]
    · rw [show n - k = 0 by omega, Nat.mul_zero, Nat.zero_div]
      exact (M.ch_gt n (k + 1) (by omega)).symm
theorem chI_F (n k : Nat) : chI n (k : Int) = chF n k := by unfold chI; rw [if_neg (by omega), Int.toNat_natCast, chF_eq]
def setTF (odd even c : Nat) : Nat := el CL c * chF c odd * chF (72 - c) even
def setsF (odd even : Nat) : Nat := sm (setTF odd even) 73
def btF (w k : Nat) : Nat := setsF k (w - k)
def altF (w : Nat) : Nat := ev (btF w) (w + 1) - od (btF w) (w + 1)
theorem bt_F (w : Nat) : bt w = btF w := by
  funext k
  show sm (setT k (w - k)) 73 = sm (setTF k (w - k)) 73
  rw [show setT k (w - k) = setTF k (w - k) from by funext c; unfold setT setTF; rw [chI_F, chI_F]]
theorem altB_F (w : Nat) : altB w = altF w := by unfold altB altF; rw [bt_F]
def bwF (w : Nat) : Nat := if w = 0 then 0 else altF w / 256
theorem bwN_F (w : Nat) : bwN (w : Int) = bwF w := by
  unfold bwN bwF
  by_cases h : w = 0
  · subst h; rfl
  · rw [if_neg (by omega), if_neg h, Int.toNat_natCast, altB_F]
def termF (C w z : Nat) : Nat := chF w z * 256 ^ (w - z - C)
theorem term_F (C w : Nat) : term C w = termF C w := by funext z; unfold term termF; rw [chI_F]
def eachF (C w : Nat) : Nat := ev (termF C w) (w + 1) - od (termF C w) (w + 1)
theorem each_F (C w : Nat) : each C w = eachF C w := by unfold each eachF; rw [term_F]
def wordsF (n C w : Nat) : Nat := chF n w * eachF C w
theorem words_F (n C w : Nat) : wordsN n C w = wordsF n C w := by unfold wordsN wordsF; rw [chI_F, each_F]
def errF (n w : Nat) : Nat := chF n w * 255 ^ w
theorem err_F (n w : Nat) : errN n w = errF n w := by unfold errN errF; rw [chI_F]
theorem bw1 : bwF 1 = 0 := by decide +kernel
theorem bw2 : bwF 2 = 0 := by decide +kernel
theorem bw3 : bwF 3 = 0 := by decide +kernel
theorem wb2 : wbN 2 = 0 := by
  unfold wbN
  rw [show ((2 : Nat) : Int) + 1 = ((3 : Nat) : Int) from rfl, show ((2 : Nat) : Int) - 1 = ((1 : Nat) : Int) from rfl, bwN_F, bwN_F, bwN_F, bw1, bw2, bw3]
theorem words112 : wordsN 2 1 2 = 255 := by rw [words_F]; decide +kernel
theorem near_zero (n C w : Nat) (h1 : 1 ≤ w) (h2 : w ≤ n) : nearN n C w 0 0 0 = wordsN n C w := by
  unfold nearN
  rw [if_neg (by omega), show w + 0 - 0 = w by omega]
  have c0 : ∀ m : Nat, chI m ((0 : Nat) : Int) = 1 := fun m => by unfold chI; rw [if_neg (by omega)]; exact M.ch_zero m
  have e : nearL n C w 0 0 0 = [wordsN n C w, 1, 1, 1, 1, 1] := by
    unfold nearL
    rw [c0, c0, if_neg (by omega), c0]
  rw [e]
  simp [prd, nth]
theorem wrong0 (n C w : Nat) (h1 : 1 ≤ w) (h2 : w ≤ n) : wrongN n C w 0 = wordsN n C w := by
  show 0 + (0 + (0 + nearN n C w 0 0 0)) = _
  rw [near_zero n C w h1 h2]
  omega
end C
end Go.Proofs.YtmejneobfkbgeaaDoor

namespace Go.Proofs.YtmejneobfkbgeaaDoor
open Go Go.RowKit Go.Shelf

/-- The int in cell j of a slice. -/
def cellInt (W : World) (a : Option Addr) (j : Nat) : Int :=
  match a with
  | some p => match W.cell? ⟨p.block, p.off + j, none⟩ with | some (.int _ z) => z | _ => 0
  | none => 0
/-- The number that a slice holds. -/
def numAt (W : World) : Value → Nat
  | .slice a n _ => (M.val ((List.range n).map (cellInt W a))).toNat
  | _ => 0
theorem numAt_row {W : World} {a : Option Addr} {c v : Nat} (h : Row W a (M.dig v) c) : numAt W (.slice a (M.dig v).length c) = v := by
  have e : (List.range (M.dig v).length).map (cellInt W a) = M.dig v := by
    refine M.ext_el (by simp) fun j hj => ?_
    have hj' : j < (M.dig v).length := by simpa using hj
    obtain ⟨b, off, rfl, hc⟩ := h.el j hj'
    rw [M.el_lt hj, List.getElem_map, List.getElem_range]
    simp [cellInt, hc]
  unfold numAt
  simp only
  rw [e, M.val_dig, Int.toNat_natCast]

def GcdRel (w : World) (x y : Nat) (s t : Value) (W : World) : Prop :=
  ∃ (u v : Nat) (a b : Option Addr) (ca cb : Nat), s = .slice a (M.dig u).length ca ∧ t = .slice b (M.dig v).length cb ∧ Row W a (M.dig u) ca ∧ Row W b (M.dig v) cb ∧ Fresh (w.heap.size + 3) a (M.dig u) ∧ Fresh (w.heap.size + 3) b (M.dig v) ∧
    (M.dig u).length ≤ 200 ∧ (M.dig v).length ≤ 200 ∧ Nat.gcd u v = Nat.gcd x y ∧ W.cell? ⟨w.heap.size + 1 + 1, 0, none⟩ = some (.slice none 0 0) ∧ W.frozen? ⟨w.heap.size + 1 + 1, 0, none⟩ = false ∧ w.heap.size + 3 ≤ W.heap.size ∧ Below w.heap.size w W

set_option maxRecDepth 100000 in
set_option maxHeartbeats 1000000 in
theorem gcd_any (a b : Option Addr) (ca cb x y : Nat) (w : World) (hx200 : (M.dig x).length ≤ 200) (hy200 : (M.dig y).length ≤ 200) (hA : Row w a (M.dig x) ca) (hB : Row w b (M.dig y) cb) :
    Calls Tryd.prog 61 #[.agg #[.slice a (M.dig x).length ca], .agg #[.slice b (M.dig y).length cb]] w fun e W' => (∃ v, e = .returned (.tuple #[v, .int .i64 0]) ∧ Num W' v (Nat.gcd x y)) ∧ Below w.heap.size w W' := by
  have Hvx := Lib.hid (vld_dig hx200)
  have Hvy := Lib.hid (vld_dig hy200)
  have hb3 := boxes_below w (.slice a (M.dig x).length ca) (.slice b (M.dig y).length cb)
  have hs3 := boxes_size w (.slice a (M.dig x).length ca) (.slice b (M.dig y).length cb)
  obtain ⟨c0, c1, c2, f2⟩ := boxes_cells w (.slice a (M.dig x).length ca) (.slice b (M.dig y).length cb)
  have HA := Lib.hid hA
  have HB := Lib.hid hB
  have HB3 := Lib.hid hb3
  clear hA hB hb3
  go_enter Tryd.func61, Tryd.ntmps61
  go_wp2_with fail
  generalize hw3 : (((w.alloc (.cells #[.slice a (M.dig x).length ca] 24)).alloc (.cells #[.slice b (M.dig y).length cb] 24)).alloc (.cells #[.slice none 0 0] 24)) = w3
  obtain rfl : boxes w (.slice a (M.dig x).length ca) (.slice b (M.dig y).length cb) = w3 := hw3
  generalize boxes w (.slice a (M.dig x).length ca) (.slice b (M.dig y).length cb) = w3 at *
  refine (valid_yes a _ ca _ (HA.out.below HB3.out) Hvx.out).mono ?_
  rintro e w5 ⟨rfl, hb5⟩
  have d0 := cell_below hb5 c0
  have d1 := cell_below hb5 c1
  have d2 := cell_below hb5 c2
  have g2 := frozen_below hb5 c2 f2
  have HB5 := Lib.hid (HB3.out.trans (hb5.mono HB3.out.size))
  have hs5 := hb5.size
  clear c0 c1 c2 f2 hb5
  go_wp2_with fail
  refine (valid_yes b _ cb _ (HB.out.below HB5.out) Hvy.out).mono ?_
  rintro e w6 ⟨rfl, hb6⟩
  have c0 := cell_below hb6 d0
  have c1 := cell_below hb6 d1
  have c2 := cell_below hb6 d2
  have f2 := frozen_below hb6 d2 g2
  have HB6 := Lib.hid (HB5.out.trans (hb6.mono HB5.out.size))
  have hs6 := hb6.size
  clear d0 d1 d2 g2 hb6
  have HCA := Lib.hid (fun (W : World) (hb : Below w6.heap.size w6 W) => clone_row a (M.dig x) ca W ((HA.out.below HB6.out).below hb) (by omega))
  have HCB := Lib.hid (fun (W : World) (hb : Below w6.heap.size w6 W) => clone_row b (M.dig y) cb W ((HB.out.below HB6.out).below hb) (by omega))
  have hw6 : w.heap.size + 3 ≤ w6.heap.size := by omega
  go_wp2_with fail
  have hbd : Below w6.heap.size w6 w6.drew := belowN (Below.refl _ _) 1
  have hsd : w6.drew.heap.size = w6.heap.size := rfl
  go_region_held3 (fun w' => w'.cell? ⟨w.heap.size, 0, none⟩ = some (.slice a (M.dig x).length ca) ∧ w'.cell? ⟨w.heap.size + 1, 0, none⟩ = some (.slice b (M.dig y).length cb))
    (first | exact ⟨c0, c1⟩ | exact ⟨cell_below hb1 c0, cell_below hb1 c1⟩ | exact ⟨cell_below (hb1.trans (hb2.mono hb1.size)) c0, cell_below (hb1.trans (hb2.mono hb1.size)) c1⟩)
    (first
      | (go_at_call 40; (with_reducible refine (HCA.out _ hbd).mono ?_); rintro e wa ⟨a1, p1, rfl, ho1, hb1⟩)
      | (go_at_call 40; (with_reducible refine (HCB.out _ (hbd.trans (hb1.mono (Nat.le_refl _)))).mono ?_); rintro e wb ⟨b1, q1, rfl, ho2, hb2⟩))
  have hs1 := hb1.size
  have hs2 := hb2.size
  have hab := hbd.trans (hb1.mono (Nat.le_refl _))
  have hab2 := hab.trans (hb2.mono hab.size)
  have hr0 : GcdRel w x y (.slice a1 (M.dig x).length p1) (.slice b1 (M.dig y).length q1) wb :=
    ⟨x, y, a1, b1, p1, q1, rfl, rfl, ho1.rowAt.below hb2, ho2.rowAt, (ho1.mono (by omega)).fresh, (ho2.mono (by omega)).fresh, hx200, hy200, rfl, cell_below hab2 c2, frozen_below hab2 c2 f2, by omega, HB6.out.trans (hab2.mono (by omega))⟩
  have HR0 := Lib.hid hr0
  clear hr0 hab hab2 hs1 hs2 hsd hbd hb1 hb2 ho1 ho2 HCA HCB c0 c1 c2 f2 HB6 HB5 HB3 HA HB Hvx Hvy hs3 hs5 hs6 hw6
  try clear hHeld
  go_wp2_with fail
  go_loopw [6, 7] (fun s t wr => GcdRel w x y s t wr) (fun _ t wr => numAt wr t)
  case atStart => exact HR0.out
  case round =>
    clear HR0
    obtain ⟨u, v, a, b, ca, cb, rfl, rfl, hra, hrb, hfa, hfb, hu200, hv200, hg, c2, f2, hsz, hbw⟩ := hrel
    have HRA := Lib.hid hra
    have HRB := Lib.hid hrb
    have HFA := Lib.hid hfa
    have HFB := Lib.hid hfb
    have HG := Lib.hid hg
    have HBW := Lib.hid hbw
    clear hra hrb hfa hfb hg hbw
    by_cases hv0 : v = 0
    · subst hv0
      have hg0 := HG.out
      rw [Nat.gcd_zero_right] at hg0
      have HG0 := Lib.hid hg0
      clear hg0
      have hlt : w.heap.size + 1 + 1 < wr.heap.size := by omega
      rw [M.dig_zero]
      go_wp2_with fail
      refine bodyPost_ret (v := .tuple #[.agg #[.slice a (M.dig u).length ca], .int .i64 0]) (by simp [results, Tryd.results61, go_sem, c2]) rfl ⟨⟨_, rfl, a, ca, by rw [HG0.out], ?_⟩, ?_⟩
      · rw [← HG0.out]
        exact HRA.out.setFresh HFA.out (p := ⟨w.heap.size + 1 + 1, 0, none⟩) (by show w.heap.size + 1 + 1 < w.heap.size + 3; omega) _
      · exact HBW.out.setCell (p := ⟨w.heap.size + 1 + 1, 0, none⟩) (by simp; omega) _
    · have hvp : 0 < v := by omega
      have hvl : 0 < (M.dig v).length := by
        rcases Nat.eq_zero_or_pos (M.dig v).length with h | h
        · exact absurd (M.dig_nil.1 (List.length_eq_zero_iff.1 h)) hv0
        · exact h
      go_wp2_with fail
      refine (divideLimbs_any a b ca cb u v wr hvp hu200 hv200 HRA.out HRB.out).mono ?_
      rintro e w2 ⟨a1, c1, a2, p2, rfl, _, hr2, _, hf2, hb2⟩
      have HR2 := Lib.hid hr2
      have HF2 := Lib.hid hf2
      have HB2 := Lib.hid hb2
      clear hr2 hf2 hb2
      go_wp2_with fail
      go_roundw
      case rel =>
        exact ⟨v, u % v, b, a2, cb, p2, rfl, rfl, HRB.out.below HB2.out, HR2.out, HFB.out, fun b off e hl => Nat.le_trans hsz (HF2.out b off e hl), hv200, Nat.le_trans (dig_len_mod u v) hu200, by rw [← HG.out, Nat.gcd_comm v, ← Nat.gcd_rec, Nat.gcd_comm],
          cell_below HB2.out c2, frozen_below HB2.out c2 f2, Nat.le_trans hsz HB2.out.size, HBW.out.trans (HB2.out.mono HBW.out.size)⟩
      case measure =>
        rw [numAt_row HR2.out, numAt_row HRB.out]
        exact Nat.mod_lt u hvp
end Go.Proofs.YtmejneobfkbgeaaDoor

namespace Go.Proofs.YtmejneobfkbgeaaDoor
open Go Go.RowKit Go.Shelf

theorem run_append_nil {P : Program} {w : World} (base : Nat) (t ty e : TypeId) (i : TypeInfo) (size : Nat) (ht : P.underlying t = some (.slice e)) (hi : P.info? e = some i)
    (v : Value) (n : Nat) (xs : List Value) (c : Nat) (hown : w.ownsRow base e size v n xs) :
    (Builtin.append_ #[t, t] ty #[v, .slice none 0 c]).run P w = .ok v w := by
  rcases hown.2 with ⟨rfl, rfl⟩ | ⟨g, cap, cur, rfl, _, _, hnc, _⟩
  · simp [Builtin.append_, run_underlying ht, sizeOf, typeInfo, hi, Builtin.lenOf, Builtin.firstCells]
  · simp [Builtin.append_, run_underlying ht, sizeOf, typeInfo, hi, Builtin.lenOf, Builtin.firstCells, hnc, storeCells]

theorem wp_appAny {W : World} {o : Oper} {a : Act} {K : Act → World → Prop} {Q : Exit → Act → World → Prop} (s x : Operand) (ho : o.op = .call { callee := .builtin .append, args := #[s, x], argTypes := #[22, 22] })
    {B : Nat} {v : Value} {zs ys : List Int} (hs : a.eval s = v) (hown : Own W B v zs) {ad : Option Addr} {cap : Nat} (hx : a.eval x = .slice ad ys.length cap) (hr : Row W ad ys cap)
    (hl : zs.length + ys.length < 1000000) (hbase : B ≤ W.heap.size)
    (h : ∀ a' cap' W', Own W' B (.slice a' (zs ++ ys).length cap') (zs ++ ys) → Below B W W' → K (a.put o.dst (.slice a' (zs.length + ys.length) cap')) W') : Oper.wp Tryd.prog o a W K Q := by
  cases ad with
  | none =>
    obtain ⟨i0, hi, hz0, hz1, hz2⟩ := info_parts info_int
    have hy : ys = [] := by
      cases ys with
      | nil => rfl
      | cons y ys =>
        obtain ⟨b, off, e, _⟩ := hr.el 0 (by simp)
        cases e
    subst hy
    have hrun := run_append_nil (P := Tryd.prog) B 22 o.type 3 i0 1 Tryd.underlying22 hi v zs.length (zs.map (Value.int .i64)) cap hown
    obtain ⟨a', cap', rfl, _⟩ := hown.row
    unfold Oper.wp execOp
    simp only [ho, resolve, invoke, builtin, Sem.run_bind, Sem.run_pure, Result.andThen_ok, List.map_toArray, List.map_cons, List.map_nil, hs, hx, List.length_nil, hrun]
    have := h a' cap' W (by simpa using hown) (Below.refl _ _)
    exact (show K (a.put o.dst (.slice a' zs.length cap')) W by simpa using this)
  | some p => exact wp_appRow s x ho hs hown hx hr (fun e => nomatch e) hl hbase h

theorem wpList_appAny {W : World} {ops : Array Oper} {rest : List Oper} {o : Oper} {a : Act} {Q : Exit → Act → World → Prop} (hgd : o.guard = none) (s x : Operand)
    (ho : o.op = .call { callee := .builtin .append, args := #[s, x], argTypes := #[22, 22] }) {B : Nat} {v : Value} {zs ys : List Int} (hs : a.eval s = v) (hown : Own W B v zs)
    {ad : Option Addr} {cap : Nat} (hx : a.eval x = .slice ad ys.length cap) (hr : Row W ad ys cap) (hl : zs.length + ys.length < 1000000) (hbase : B ≤ W.heap.size)
    (h : ∀ a' cap' W', Own W' B (.slice a' (zs ++ ys).length cap') (zs ++ ys) → Below B W W' → wpList Tryd.prog ops Q rest (a.put o.dst (.slice a' (zs.length + ys.length) cap')) W') : wpList Tryd.prog ops Q (o :: rest) a W :=
  wpList_plain hgd fun _ hK => wp_appAny s x ho hs hown hx hr hl hbase fun a' c' W' h1 h2 => hK _ _ (h a' c' W' h1 h2)
end Go.Proofs.YtmejneobfkbgeaaDoor

namespace Go.Proofs.YtmejneobfkbgeaaDoor
open Go Go.RowKit Go.Shelf

/-- The number in a variable. -/
def cellNum (W : World) (p : Addr) : Nat := match W.cell? p with | some v => numAt W v | none => 0
theorem cellNum_row {W : World} {p : Addr} {a : Option Addr} {c v : Nat} (hc : W.cell? p = some (.slice a (M.dig v).length c)) (h : Row W a (M.dig v) c) : cellNum W p = v := by
  unfold cellNum; rw [hc]; exact numAt_row h

structure RgSt (w : World) (x y u v : Nat) (a b : Option Addr) (ca cb : Nat) (W : World) : Prop where
  ca0 : W.cell? ⟨w.heap.size, 0, none⟩ = some (.slice a (M.dig u).length ca)
  fa0 : W.frozen? ⟨w.heap.size, 0, none⟩ = false
  cb0 : W.cell? ⟨w.heap.size + 1, 0, none⟩ = some (.slice b (M.dig v).length cb)
  fb0 : W.frozen? ⟨w.heap.size + 1, 0, none⟩ = false
  cr0 : W.cell? ⟨w.heap.size + 1 + 1, 0, none⟩ = some (.slice none 0 0)
  fr0 : W.frozen? ⟨w.heap.size + 1 + 1, 0, none⟩ = false
  ra : Row W a (M.dig u) ca
  rb : Row W b (M.dig v) cb
  la : (M.dig u).length ≤ 200
  lb : (M.dig v).length ≤ 200
  same : Nat.gcd u v = Nat.gcd x y
  below : Below w.heap.size w W

theorem RgSt.keep {w : World} {x y u v : Nat} {a b : Option Addr} {ca cb : Nat} {W W' : World} (h : RgSt w x y u v a b ca cb W) (hb : Below W.heap.size W W') : RgSt w x y u v a b ca cb W' :=
  ⟨cell_below hb h.ca0, frozen_below hb h.ca0 h.fa0, cell_below hb h.cb0, frozen_below hb h.cb0 h.fb0, cell_below hb h.cr0, frozen_below hb h.cr0 h.fr0, h.ra.below hb, h.rb.below hb, h.la, h.lb, h.same, h.below.trans (hb.mono h.below.size)⟩

/-- a, b = b, r -/
theorem RgSt.turn {w : World} {x y u v : Nat} {a b r : Option Addr} {ca cb cr : Nat} {W : World} (h : RgSt w x y u v a b ca cb W) (hr : Row W r (M.dig (u % v)) cr) :
    RgSt w x y v (u % v) b r cb cr ((W.setCell ⟨w.heap.size, 0, none⟩ (.slice b (M.dig v).length cb)).setCell ⟨w.heap.size + 1, 0, none⟩ (.slice r (M.dig (u % v)).length cr)) := by
  have h1 := (cell_other (W := W) (p := ⟨w.heap.size, 0, none⟩) (a := ⟨w.heap.size + 1, 0, none⟩) (.slice b (M.dig v).length cb) (show w.heap.size + 1 ≠ w.heap.size by omega)).trans h.cb0
  have h2 := (cell_other (W := W) (p := ⟨w.heap.size, 0, none⟩) (a := ⟨w.heap.size + 1 + 1, 0, none⟩) (.slice b (M.dig v).length cb) (show w.heap.size + 1 + 1 ≠ w.heap.size by omega)).trans h.cr0
  have h3 := World.cell?_setCell_same W ⟨w.heap.size, 0, none⟩ (.slice b (M.dig v).length cb) h.ca0
  refine ⟨(cell_other _ (show w.heap.size ≠ w.heap.size + 1 by omega)).trans h3, ?_, World.cell?_setCell_same _ _ _ h1, ?_, (cell_other _ (show w.heap.size + 1 + 1 ≠ w.heap.size + 1 by omega)).trans h2, ?_, (h.rb.storedAt h.ca0 _).storedAt h1 _, (hr.storedAt h.ca0 _).storedAt h1 _, h.lb, Nat.le_trans (dig_len_mod u v) h.la, ?_,
    (h.below.setCell (p := ⟨w.heap.size, 0, none⟩) (Nat.le_refl _) _).setCell (p := ⟨w.heap.size + 1, 0, none⟩) (by show _ ≤ w.heap.size + 1; omega) _⟩
  · rw [World.frozen?_setCell, World.frozen?_setCell]; exact h.fa0
  · rw [World.frozen?_setCell, World.frozen?_setCell]; exact h.fb0
  · rw [World.frozen?_setCell, World.frozen?_setCell]; exact h.fr0
  · rw [← h.same, Nat.gcd_comm v, ← Nat.gcd_rec, Nat.gcd_comm]

def RgRel (w : World) (x y : Nat) (W : World) : Prop := ∃ (u v : Nat) (a b : Option Addr) (ca cb : Nat), RgSt w x y u v a b ca cb W

end Go.Proofs.YtmejneobfkbgeaaDoor

namespace Go.Proofs.YtmejneobfkbgeaaDoor
open Go Go.RowKit Go.Shelf

/-- The value is the fraction x / y, as its two numbers stand. -/
def RatV (W : World) (v : Value) (x y : Nat) : Prop := ∃ a c b d, v = .agg #[.slice a (M.dig x).length c, .slice b (M.dig y).length d] ∧ Row W a (M.dig x) c ∧ Row W b (M.dig y) d

/-- .. in blocks from B on. -/
def RatF (B : Nat) (W : World) (v : Value) (x y : Nat) : Prop := ∃ a c b d, v = .agg #[.slice a (M.dig x).length c, .slice b (M.dig y).length d] ∧ Row W a (M.dig x) c ∧ Row W b (M.dig y) d ∧ Fresh B a (M.dig x) ∧ Fresh B b (M.dig y)
theorem RatF.val {B : Nat} {W : World} {v : Value} {x y : Nat} (h : RatF B W v x y) : RatV W v x y := by
  obtain ⟨a, c, b, d, e, h1, h2, _, _⟩ := h
  exact ⟨a, c, b, d, e, h1, h2⟩

structure MkSt (w : World) (a b : Option Addr) (ca cb x y : Nat) (W : World) : Prop where
  c0 : W.cell? ⟨w.heap.size, 0, none⟩ = some (.slice a (M.dig x).length ca)
  c1 : W.cell? ⟨w.heap.size + 1, 0, none⟩ = some (.slice b (M.dig y).length cb)
  r0 : W.cell? ⟨w.heap.size + 1 + 1, 0, none⟩ = some (.slice none 0 0)
  f0 : W.frozen? ⟨w.heap.size + 1 + 1, 0, none⟩ = false
  r1 : W.cell? ⟨w.heap.size + 1 + 1, 1, none⟩ = some (.slice none 0 0)
  f1 : W.frozen? ⟨w.heap.size + 1 + 1, 1, none⟩ = false
  ra : Row W a (M.dig x) ca
  rb : Row W b (M.dig y) cb
  below : Below w.heap.size w W
theorem MkSt.keep {w : World} {a b : Option Addr} {ca cb x y : Nat} {W W' : World} (h : MkSt w a b ca cb x y W) (hb : Below W.heap.size W W') : MkSt w a b ca cb x y W' :=
  ⟨cell_below hb h.c0, cell_below hb h.c1, cell_below hb h.r0, frozen_below hb h.r0 h.f0, cell_below hb h.r1, frozen_below hb h.r1 h.f1, h.ra.below hb, h.rb.below hb, h.below.trans (hb.mono h.below.size)⟩
theorem MkSt.alloc {w : World} {a b : Option Addr} {ca cb x y : Nat} {W : World} (h : MkSt w a b ca cb x y W) (o : Obj) : MkSt w a b ca cb x y (W.alloc o) := h.keep ((Below.refl _ W).alloc (Nat.le_refl _) o)
/-- A variable of type Ratio has just been laid. -/
theorem two_cells (w : World) (u v : Value) (t : TypeId) : ((w.alloc (.cells #[u, v] t)).cell? ⟨w.heap.size, 0, none⟩ = some u ∧ (w.alloc (.cells #[u, v] t)).frozen? ⟨w.heap.size, 0, none⟩ = false) ∧ (w.alloc (.cells #[u, v] t)).cell? ⟨w.heap.size, 1, none⟩ = some v ∧ (w.alloc (.cells #[u, v] t)).frozen? ⟨w.heap.size, 1, none⟩ = false := by
  have hb : (w.alloc (.cells #[u, v] t)).heap[w.heap.size]? = some (.cells #[u, v] t) := Array.getElem?_push_size
  refine ⟨⟨?_, ?_⟩, ?_, ?_⟩
  · rw [cell_of_row _ _ 0 _ _ _ hb]; rfl
  · simp only [World.frozen?, hb]; rfl
  · rw [cell_of_row _ _ 1 _ _ _ hb]; rfl
  · simp only [World.frozen?, hb]; rfl
theorem mk_start (w : World) (a b : Option Addr) (ca cb x y : Nat) (t : TypeId) (hA : Row w a (M.dig x) ca) (hB : Row w b (M.dig y) cb) :
    MkSt w a b ca cb x y (((w.alloc (.cells #[.slice a (M.dig x).length ca] 24)).alloc (.cells #[.slice b (M.dig y).length cb] 24)).alloc (.cells #[.slice none 0 0, .slice none 0 0] t)) := by
  obtain ⟨⟨h0, h1⟩, h2, h3⟩ := two_cells ((w.alloc (.cells #[.slice a (M.dig x).length ca] 24)).alloc (.cells #[.slice b (M.dig y).length cb] 24)) (.slice none 0 0) (.slice none 0 0) t
  have k1 := cell_new (w.alloc (.cells #[.slice a (M.dig x).length ca] 24)) (.slice b (M.dig y).length cb) 24
  simp only [World.size_alloc] at h0 h1 h2 h3 k1
  exact ⟨cell_later _ (cell_later _ (cell_new _ _ _)), cell_later _ k1, h0, h1, h2, h3, ((hA.alloc _).alloc _).alloc _, ((hB.alloc _).alloc _).alloc _, (((Below.refl _ w).alloc (Nat.le_refl _) _).alloc (by simp) _).alloc (by simp; omega) _⟩

end Go.Proofs.YtmejneobfkbgeaaDoor

namespace Go.Proofs.YtmejneobfkbgeaaDoor
open Go Go.RowKit Go.Shelf

/-- Two parameters of type Nat in boxes, a result of type Ratio. -/
structure RmSt (w : World) (a b : Option Addr) (ca cb x y : Nat) (W : World) : Prop where
  c0 : W.cell? ⟨w.heap.size, 0, none⟩ = some (.slice a (M.dig x).length ca)
  e0 : W.frozen? ⟨w.heap.size, 0, none⟩ = false
  c1 : W.cell? ⟨w.heap.size + 1, 0, none⟩ = some (.slice b (M.dig y).length cb)
  e1 : W.frozen? ⟨w.heap.size + 1, 0, none⟩ = false
  r0 : W.cell? ⟨w.heap.size + 1 + 1, 0, none⟩ = some (.slice none 0 0)
  f0 : W.frozen? ⟨w.heap.size + 1 + 1, 0, none⟩ = false
  r1 : W.cell? ⟨w.heap.size + 1 + 1, 1, none⟩ = some (.slice none 0 0)
  f1 : W.frozen? ⟨w.heap.size + 1 + 1, 1, none⟩ = false
  ra : Row W a (M.dig x) ca
  rb : Row W b (M.dig y) cb
  below : Below w.heap.size w W
section
variable {w W : World} {a b : Option Addr} {ca cb x y : Nat}
theorem RmSt.keep {W' : World} (h : RmSt w a b ca cb x y W) (hb : Below W.heap.size W W') : RmSt w a b ca cb x y W' :=
  ⟨cell_below hb h.c0, frozen_below hb h.c0 h.e0, cell_below hb h.c1, frozen_below hb h.c1 h.e1, cell_below hb h.r0, frozen_below hb h.r0 h.f0, cell_below hb h.r1, frozen_below hb h.r1 h.f1, h.ra.below hb, h.rb.below hb, h.below.trans (hb.mono h.below.size)⟩
theorem RmSt.alloc (h : RmSt w a b ca cb x y W) (o : Obj) : RmSt w a b ca cb x y (W.alloc o) := h.keep ((Below.refl _ W).alloc (Nat.le_refl _) o)
theorem RmSt.set0 {a' : Option Addr} {c' x' : Nat} (h : RmSt w a b ca cb x y W) (hr : Row W a' (M.dig x') c') : RmSt w a' b c' cb x' y (W.setCell ⟨w.heap.size, 0, none⟩ (.slice a' (M.dig x').length c')) :=
  ⟨World.cell?_setCell_same _ _ _ h.c0, (World.frozen?_setCell _ _ _ _).trans h.e0, (cell_other _ (show w.heap.size + 1 ≠ w.heap.size by omega)).trans h.c1, (World.frozen?_setCell _ _ _ _).trans h.e1, (cell_other _ (show w.heap.size + 1 + 1 ≠ w.heap.size by omega)).trans h.r0, (World.frozen?_setCell _ _ _ _).trans h.f0,
    (cell_other _ (show w.heap.size + 1 + 1 ≠ w.heap.size by omega)).trans h.r1, (World.frozen?_setCell _ _ _ _).trans h.f1, hr.storedAt h.c0 _, h.rb.storedAt h.c0 _, h.below.setCell (p := ⟨w.heap.size, 0, none⟩) (Nat.le_refl _) _⟩
theorem RmSt.set1 {b' : Option Addr} {d' y' : Nat} (h : RmSt w a b ca cb x y W) (hr : Row W b' (M.dig y') d') : RmSt w a b' ca d' x y' (W.setCell ⟨w.heap.size + 1, 0, none⟩ (.slice b' (M.dig y').length d')) :=
  ⟨(cell_other _ (show w.heap.size ≠ w.heap.size + 1 by omega)).trans h.c0, (World.frozen?_setCell _ _ _ _).trans h.e0, World.cell?_setCell_same _ _ _ h.c1, (World.frozen?_setCell _ _ _ _).trans h.e1, (cell_other _ (show w.heap.size + 1 + 1 ≠ w.heap.size + 1 by omega)).trans h.r0, (World.frozen?_setCell _ _ _ _).trans h.f0,
    (cell_other _ (show w.heap.size + 1 + 1 ≠ w.heap.size + 1 by omega)).trans h.r1, (World.frozen?_setCell _ _ _ _).trans h.f1, h.ra.storedAt h.c1 _, hr.storedAt h.c1 _, h.below.setCell (p := ⟨w.heap.size + 1, 0, none⟩) (by show _ ≤ w.heap.size + 1; omega) _⟩
theorem RmSt.start (hA : Row w a (M.dig x) ca) (hB : Row w b (M.dig y) cb) (t : TypeId) :
    RmSt w a b ca cb x y (((w.alloc (.cells #[.slice a (M.dig x).length ca] 24)).alloc (.cells #[.slice b (M.dig y).length cb] 24)).alloc (.cells #[.slice none 0 0, .slice none 0 0] t)) := by
  have h := mk_start w a b ca cb x y t hA hB
  have k1 := cell_new (w.alloc (.cells #[.slice a (M.dig x).length ca] 24)) (.slice b (M.dig y).length cb) 24
  have k2 := frozen_new (w.alloc (.cells #[.slice a (M.dig x).length ca] 24)) (.slice b (M.dig y).length cb) 24
  rw [World.size_alloc] at k1 k2
  exact ⟨h.c0, frozen_later _ (cell_later _ (cell_new _ _ _)) (frozen_later _ (cell_new _ _ _) (frozen_new _ _ _)), h.c1, frozen_later _ k1 k2, h.r0, h.f0, h.r1, h.f1, h.ra, h.rb, h.below⟩
end

theorem Var.beside {W : World} {p q n c : Nat} {a s : Option Addr} {ca x : Nat} (h : Var W p a ca x) (hq : W.cell? ⟨q, 0, none⟩ = some (.slice s n c)) (hne : p ≠ q) (u : Value) : Var (W.setCell ⟨q, 0, none⟩ u) p a ca x :=
  ⟨(cell_other u (show p ≠ q from hne)).trans h.cell, h.row.storedAt hq u⟩

set_option maxRecDepth 100000 in
set_option maxHeartbeats 1000000 in
theorem isZero_any (a : Option Addr) (ca x : Nat) (w : World) :
    Calls Tryd.prog 62 #[.agg #[.slice a (M.dig x).length ca]] w fun e W' => e = .returned (.bool ((((M.dig x).length : Int) == 0))) ∧ Below w.heap.size w W' := by
  go_enter Tryd.func62, Tryd.ntmps62
  go_wp2_with fail
  go_ret
  exact ⟨rfl, (Below.refl _ w).alloc (Nat.le_refl _) _⟩

set_option maxRecDepth 100000 in
set_option maxHeartbeats 2000000 in
/-- **ratio.Make** -/
theorem make_pos (a b : Option Addr) (ca cb x y : Nat) (w : World) (hy0 : 0 < y) (hx : (M.dig x).length ≤ 200) (hy : (M.dig y).length ≤ 200) (hA : Row w a (M.dig x) ca) (hB : Row w b (M.dig y) cb) :
    Calls Tryd.prog 38 #[.agg #[.slice a (M.dig x).length ca], .agg #[.slice b (M.dig y).length cb]] w fun e W' => (∃ v, e = .returned (.tuple #[v, .int .i64 0]) ∧ RatV W' v (x / Nat.gcd x y) (y / Nat.gcd x y)) ∧ Below w.heap.size w W' := by
  have hyl : ¬ (M.dig y).length = 0 := by intro h; have := M.dig_nil.1 (List.length_eq_zero_iff.1 h); omega
  have hyn : (((M.dig y).length : Int) == 0) = false := beq_eq_false_iff_ne.2 (by omega)
  have HYN := Lib.hid hyn
  have hgp : 0 < Nat.gcd x y := Nat.gcd_pos_of_pos_right x hy0
  have hgl : (M.dig (Nat.gcd x y)).length ≤ 200 := Nat.le_trans (M.dig_len_mono (Nat.gcd_le_right x hy0)) hy
  have HS0 := Lib.hid (RmSt.start hA hB 47)
  clear hA hB hyn
  go_enter Tryd.func38, Tryd.ntmps38
  go_wp2_with fail
  generalize (((w.alloc (.cells #[.slice a (M.dig x).length ca] 24)).alloc (.cells #[.slice b (M.dig y).length cb] 24)).alloc (.cells #[.slice none 0 0, .slice none 0 0] 47)) = w3 at *
  refine (gcd_any a b ca cb x y w3 hx hy HS0.out.ra HS0.out.rb).mono ?_
  rintro e w7 ⟨⟨v, rfl, ag, cg, rfl, hrg⟩, hb7⟩
  obtain ⟨k, hk⟩ : ∃ k, Nat.gcd x y = k := ⟨_, rfl⟩
  rw [hk] at hgp hgl hrg ⊢
  have HK := Lib.hid hk
  have hw7 : w.heap.size + 1 < w7.heap.size := lt_of_cell (HS0.out.keep hb7).c1
  have HS7 := Lib.hid ((HS0.out.keep hb7).alloc (.cells #[.slice ag (M.dig k).length cg] 24))
  have VG := Lib.hid (Var.new hrg)
  have d1 := HS7.out.c1
  clear hk hrg hb7 HS0
  go_wp2_with fail
  refine (isZero_any b cb y _).mono ?_
  rintro e w8 ⟨rfl, hb8⟩
  rw [HYN.out]
  have HS8 := Lib.hid (HS7.out.keep hb8)
  have VG8 := Lib.hid (VG.out.below hb8)
  clear hb8 HS7 VG d1
  have d0 := HS8.out.c0
  have e6 := VG8.out.cell
  go_wp2_with fail
  refine (divide_any a ag ca cg x k _ hgp hx hgl HS8.out.ra VG8.out.row).mono ?_
  rintro e w9 ⟨⟨a1, c1, a2, c2, rfl, hr1, _⟩, hb9⟩
  have h9 := HS8.out.keep hb9
  have HS9 := Lib.hid (h9.set0 hr1)
  have VG9 := Lib.hid ((VG8.out.below hb9).beside h9.c0 (Nat.ne_of_gt (by omega)) (.slice a1 (M.dig (x / k)).length c1))
  have q0 := h9.c0
  have g0 := h9.e0
  clear h9 hr1 hb9 d0 e6 HS8 VG8
  go_upto_region 7 with fail
  clear q0 g0
  generalize (w9.setCell ⟨w.heap.size, 0, none⟩ (.slice a1 (M.dig (x / k)).length c1)) = wa at *
  have d1 := HS9.out.c1
  have e6 := VG9.out.cell
  go_wp2_with fail
  refine (divide_any b ag cb cg y k _ hgp hy hgl HS9.out.rb VG9.out.row).mono ?_
  rintro e w10 ⟨⟨b1, p1, b2, p2, rfl, hr2, _⟩, hb10⟩
  have h10 := HS9.out.keep hb10
  have HS10 := Lib.hid (h10.set1 hr2)
  have q1 := h10.c1
  have g1 := h10.e1
  clear h10 hr2 hb10 d1 e6 HS9 VG9
  go_upto_region 8 with fail
  clear q1 g1
  generalize (w10.setCell ⟨w.heap.size + 1, 0, none⟩ (.slice b1 (M.dig (y / k)).length p1)) = wb at *
  have d0 := HS10.out.c0
  have d1 := HS10.out.c1
  have r0 := HS10.out.r0
  have r1 := HS10.out.r1
  have f0 := HS10.out.f0
  have f1 := HS10.out.f1
  have R0 := Lib.hid r0
  have R2 := Lib.hid (show (wb.setCell ⟨w.heap.size + 1 + 1, 0, none⟩ (.slice a1 (M.dig (x / k)).length c1)).cell? ⟨w.heap.size + 1 + 1, 1, none⟩ = some (.slice none 0 0) from (World.cell?_setCell_other _ _ _ _ (by intro e; cases e)).trans r1)
  go_wp2_with fail
  refine bodyPost_ret (v := .tuple #[.agg #[.slice a1 (M.dig (x / k)).length c1, .slice b1 (M.dig (y / k)).length p1], .int .i64 0]) (by simp [results, Tryd.results38, go_sem, r0, r1]) rfl ⟨⟨_, rfl, a1, c1, b1, p1, by rw [HK.out], ?_, ?_⟩, ?_⟩
  · rw [HK.out]; exact (HS10.out.ra.storedAt R0.out _).storedAt R2.out _
  · rw [HK.out]; exact (HS10.out.rb.storedAt R0.out _).storedAt R2.out _
  · exact (HS10.out.below.setCell (p := ⟨w.heap.size + 1 + 1, 0, none⟩) (by show _ ≤ w.heap.size + 1 + 1; omega) _).setCell (p := ⟨w.heap.size + 1 + 1, 1, none⟩) (by show _ ≤ w.heap.size + 1 + 1; omega) _
end Go.Proofs.YtmejneobfkbgeaaDoor

namespace Go.Proofs.YtmejneobfkbgeaaDoor
open Go Go.RowKit Go.Shelf

set_option maxRecDepth 100000 in
set_option maxHeartbeats 1000000 in
/-- **ref01.Same** at limbs of two lengths. -/
theorem same_len (a b : Option Addr) (zs ys : List Int) (ca cb : Nat) (w : World) (hl : zs.length ≠ ys.length) :
    Calls Tryd.prog 8 #[.agg #[.slice a zs.length ca], .agg #[.slice b ys.length cb]] w fun e W' => e = .returned (.bool false) ∧ Below w.heap.size w W' := by
  have hB := boxes2_below w (.slice a zs.length ca) (.slice b ys.length cb)
  have HBB := Lib.hid hB
  have hb : ((zs.length : Int) != (ys.length : Int)) = true := by rw [bne_iff_ne]; omega
  clear hB hl
  go_enter Tryd.func8, Tryd.ntmps8
  go_wp2_with fail
  go_ret
  exact ⟨rfl, HBB.out⟩

set_option maxRecDepth 100000 in
set_option maxHeartbeats 1000000 in
/-- **ref01.Same** at other limbs, as many. -/
theorem same_not (a b : Option Addr) (zs ys : List Int) (ca cb : Nat) (w : World) (ha : Row w a zs ca) (hb : Row w b ys cb) (hl : zs.length = ys.length) (hne : zs ≠ ys) :
    Calls Tryd.prog 8 #[.agg #[.slice a zs.length ca], .agg #[.slice b ys.length cb]] w fun e W' => e = .returned (.bool false) ∧ Below w.heap.size w W' := by
  have hB := boxes2_below w (.slice a zs.length ca) (.slice b ys.length cb)
  have HC := Lib.hid (boxes2_cells w (.slice a zs.length ca) (.slice b ys.length cb))
  have HA := Lib.hid (ha.below hB)
  have HB := Lib.hid (hb.below hB)
  have HBB := Lib.hid hB
  have HNE := Lib.hid hne
  have HL := Lib.hid hl
  have hra := ha.room
  have hrb := hb.room
  have hma := ha.most
  have hmb := hb.most
  have hlb : ((zs.length : Int) != (ys.length : Int)) = false := by rw [bne_eq_false_iff_eq, hl]
  clear ha hb hB hne hl
  go_enter Tryd.func8, Tryd.ntmps8
  go_wp2_with fail
  generalize hw2 : ((w.alloc (.cells #[.slice a zs.length ca] 24)).alloc (.cells #[.slice b ys.length cb] 24)) = w2
  obtain rfl : boxes2 w (.slice a zs.length ca) (.slice b ys.length cb) = w2 := hw2
  generalize boxes2 w (.slice a zs.length ca) (.slice b ys.length cb) = w2 at *
  go_loopw [5] (fun i wr => ∃ k : Nat, i = .int .i64 (k : Int) ∧ k ≤ zs.length ∧ (∀ j : Nat, j < k → M.el zs j = M.el ys j) ∧ Below w2.heap.size w2 wr) (fun i _ => zs.length - (intOf i).toNat)
  case atStart => exact ⟨0, rfl, Nat.zero_le _, fun j hj => by omega, Below.refl _ _⟩
  case round =>
    obtain ⟨k, rfl, hk, he, hbw⟩ := hrel
    have c0 : wr.cell? ⟨w.heap.size, 0, none⟩ = some (.slice a zs.length ca) := (hbw.cell (p := ⟨w.heap.size, 0, none⟩) (lt_of_cell HC.out.1)).trans HC.out.1
    have c1 : wr.cell? ⟨w.heap.size + 1, 0, none⟩ = some (.slice b ys.length cb) := (hbw.cell (p := ⟨w.heap.size + 1, 0, none⟩) (lt_of_cell HC.out.2)).trans HC.out.2
    have HBW := Lib.hid hbw
    have HE := Lib.hid he
    clear hbw he
    by_cases hlt : k < zs.length
    · obtain ⟨b1, o1, rfl, h1⟩ := (HA.out.below HBW.out).el k hlt
      have hlty : k < ys.length := by rw [← HL.out]; exact hlt
      obtain ⟨b2, o2, rfl, h2⟩ := (HB.out.below HBW.out).el k hlty
      by_cases hk2 : M.el zs k = M.el ys k
      · have HK := Lib.hid hk2
        rw [hk2] at h1
        clear hk2
        go_wp2_with fail
        go_quiet (fail)
        go_wp2
        go_roundw
        case rel =>
          refine ⟨k + 1, by go_num, by omega, fun j hj => ?_, belowN HBW.out _⟩
          by_cases e : j = k
          · rw [e]; exact HK.out
          · exact HE.out j (by omega)
        case measure => simp [intOf]; omega
      · have hkb : (M.el zs k != M.el ys k) = true := by rw [bne_iff_ne]; exact hk2
        clear hk2
        go_wp2_with fail
        go_quiet (fail)
        go_wp2_with fail
        go_ret
        exact ⟨rfl, HBB.out.trans ((belowN HBW.out _).mono HBB.out.size)⟩
    · exact absurd (M.ext_el HL.out fun j hj => HE.out j (by omega)) HNE.out

/-- **ref01.Same** of two numbers. -/
theorem same_is {u v : Value} {x y : Nat} {w : World} (hu : Num w u x) (hv : Num w v y) :
    Calls Tryd.prog 8 #[u, v] w fun e W' => e = .returned (.bool (decide (x = y))) ∧ Below w.heap.size w W' := by
  by_cases h : x = y
  · subst h
    rw [show decide (x = x) = true from decide_eq_true rfl]
    exact same_num hu hv
  · rw [show decide (x = y) = false from decide_eq_false h]
    obtain ⟨a, ca, rfl, ha⟩ := hu
    obtain ⟨b, cb, rfl, hb⟩ := hv
    by_cases hl : (M.dig x).length = (M.dig y).length
    · exact same_not a b _ _ ca cb w ha hb hl fun e => h (M.dig_inj e)
    · exact same_len a b _ _ ca cb w hl
end Go.Proofs.YtmejneobfkbgeaaDoor

namespace Go.Proofs.YtmejneobfkbgeaaDoor
open Go Go.RowKit Go.Shelf

theorem RatV.below {W W' : World} {v : Value} {x y : Nat} (h : RatV W v x y) (hb : Below W.heap.size W W') : RatV W' v x y := by
  obtain ⟨a, c, b, d, rfl, h1, h2⟩ := h
  exact ⟨a, c, b, d, rfl, h1.below hb, h2.below hb⟩

end Go.Proofs.YtmejneobfkbgeaaDoor

namespace Go.Proofs.YtmejneobfkbgeaaDoor
open Go Go.RowKit Go.Shelf

set_option maxRecDepth 100000 in
set_option maxHeartbeats 1000000 in
theorem isOne_yes (a : Option Addr) (ca : Nat) (w : World) (hR : Row w a (M.dig 1) ca) :
    Calls Tryd.prog 68 #[.agg #[.slice a (M.dig 1).length ca]] w fun e W' => e = .returned (.bool true) ∧ Below w.heap.size w W' := by
  have h1 : M.dig 1 = [1] := by rw [M.dig_pos (by omega), show 1 / 16777216 = 0 from rfl, M.dig_zero]; rfl
  rw [h1] at hR ⊢
  obtain ⟨b, off, rfl, hc⟩ := hR.el 0 (by simp)
  have hro := hR.room
  have hmo := hR.most
  have hc2 := cell_later (.cells #[.slice (some ⟨b, off, none⟩) [(1 : Int)].length ca] 24) hc
  simp only [M.el_zero, Nat.add_zero] at hc2
  simp only [List.length_singleton] at hro hc2 ⊢
  clear hR hc h1
  go_enter Tryd.func68, Tryd.ntmps68
  go_wp2_with fail
  go_ret
  exact ⟨rfl, (Below.refl _ w).alloc (Nat.le_refl _) _⟩

set_option maxRecDepth 100000 in
set_option maxHeartbeats 1000000 in
/-- **ratio.Valid** -/
theorem ratValid_yes {v : Value} {x y : Nat} {w : World} (hV : RatV w v x y) (hy0 : 0 < y) (hg : Nat.gcd x y = 1) (hx : (M.dig x).length ≤ 200) (hy : (M.dig y).length ≤ 200) :
    Calls Tryd.prog 45 #[v] w fun e W' => e = .returned (.bool true) ∧ Below w.heap.size w W' := by
  obtain ⟨a, c, b, d, rfl, hA, hB⟩ := hV
  have hyl : ¬ (M.dig y).length = 0 := by intro h; have := M.dig_nil.1 (List.length_eq_zero_iff.1 h); omega
  have hyn : (((M.dig y).length : Int) == 0) = false := beq_eq_false_iff_ne.2 (by omega)
  have HYN := Lib.hid hyn
  have HG := Lib.hid hg
  obtain ⟨⟨c0, _⟩, c1, _⟩ := two_cells w (.slice a (M.dig x).length c) (.slice b (M.dig y).length d) 47
  have hb := (Below.refl _ w).alloc (Nat.le_refl _) (.cells #[.slice a (M.dig x).length c, .slice b (M.dig y).length d] 47)
  have HA := Lib.hid (hA.below hb)
  have HB := Lib.hid (hB.below hb)
  have HBB := Lib.hid hb
  clear hA hB hb hg hyn
  go_enter Tryd.func45, Tryd.ntmps45
  go_wp2_with fail
  generalize (w.alloc (.cells #[.slice a (M.dig x).length c, .slice b (M.dig y).length d] 47)) = w1 at *
  refine (gcd_any a b c d x y w1 hx hy HA.out HB.out).mono ?_
  rintro e w2 ⟨⟨v, rfl, ag, cg, rfl, hrg⟩, hb2⟩
  rw [HG.out] at hrg ⊢
  have VG := Lib.hid (Var.new hrg)
  have d1 := cell_later (.cells #[.slice ag (M.dig 1).length cg] 24) (cell_below hb2 c1)
  have HB2 := Lib.hid ((HBB.out.trans (hb2.mono HBB.out.size)).alloc (Nat.le_trans HBB.out.size hb2.size) (.cells #[.slice ag (M.dig 1).length cg] 24))
  clear hrg hb2 c0 c1
  go_wp2_with fail
  refine (isZero_any b d y _).mono ?_
  rintro e w3 ⟨rfl, hb3⟩
  rw [HYN.out]
  have V3 := Lib.hid (VG.out.below hb3)
  have e3 := V3.out.cell
  have HB3 := Lib.hid (HB2.out.trans (hb3.mono HB2.out.size))
  clear hb3 d1
  go_wp2_with fail
  refine (isOne_yes ag cg _ V3.out.row).mono ?_
  rintro e w4 ⟨rfl, hb4⟩
  go_wp2_with fail
  go_ret
  exact ⟨rfl, HB3.out.trans (hb4.mono HB3.out.size)⟩
end Go.Proofs.YtmejneobfkbgeaaDoor

namespace Go.Proofs.YtmejneobfkbgeaaDoor
open Go Go.RowKit Go.Shelf

/-- Two parameters of type Ratio in boxes, a result of type Ratio. -/
structure R2St (w : World) (a b c d : Option Addr) (ca cb cc cd x y z t : Nat) (W : World) : Prop where
  p0 : W.cell? ⟨w.heap.size, 0, none⟩ = some (.slice a (M.dig x).length ca)
  p1 : W.cell? ⟨w.heap.size, 1, none⟩ = some (.slice b (M.dig y).length cb)
  q0 : W.cell? ⟨w.heap.size + 1, 0, none⟩ = some (.slice c (M.dig z).length cc)
  q1 : W.cell? ⟨w.heap.size + 1, 1, none⟩ = some (.slice d (M.dig t).length cd)
  r0 : W.cell? ⟨w.heap.size + 1 + 1, 0, none⟩ = some (.slice none 0 0)
  f0 : W.frozen? ⟨w.heap.size + 1 + 1, 0, none⟩ = false
  r1 : W.cell? ⟨w.heap.size + 1 + 1, 1, none⟩ = some (.slice none 0 0)
  f1 : W.frozen? ⟨w.heap.size + 1 + 1, 1, none⟩ = false
  ra : Row W a (M.dig x) ca
  rb : Row W b (M.dig y) cb
  rc : Row W c (M.dig z) cc
  rd : Row W d (M.dig t) cd
  below : Below w.heap.size w W
section
variable {w W : World} {a b c d : Option Addr} {ca cb cc cd x y z t : Nat}
theorem R2St.keep {W' : World} (h : R2St w a b c d ca cb cc cd x y z t W) (hb : Below W.heap.size W W') : R2St w a b c d ca cb cc cd x y z t W' :=
  ⟨cell_below hb h.p0, cell_below hb h.p1, cell_below hb h.q0, cell_below hb h.q1, cell_below hb h.r0, frozen_below hb h.r0 h.f0, cell_below hb h.r1, frozen_below hb h.r1 h.f1, h.ra.below hb, h.rb.below hb, h.rc.below hb, h.rd.below hb, h.below.trans (hb.mono h.below.size)⟩
theorem R2St.alloc (h : R2St w a b c d ca cb cc cd x y z t W) (o : Obj) : R2St w a b c d ca cb cc cd x y z t (W.alloc o) := h.keep ((Below.refl _ W).alloc (Nat.le_refl _) o)
theorem R2St.start (hA : Row w a (M.dig x) ca) (hB : Row w b (M.dig y) cb) (hC : Row w c (M.dig z) cc) (hD : Row w d (M.dig t) cd) :
    R2St w a b c d ca cb cc cd x y z t (((w.alloc (.cells #[.slice a (M.dig x).length ca, .slice b (M.dig y).length cb] 47)).alloc (.cells #[.slice c (M.dig z).length cc, .slice d (M.dig t).length cd] 47)).alloc (.cells #[.slice none 0 0, .slice none 0 0] 47)) := by
  obtain ⟨⟨h0, _⟩, h1, _⟩ := two_cells w (.slice a (M.dig x).length ca) (.slice b (M.dig y).length cb) 47
  obtain ⟨⟨h2, _⟩, h3, _⟩ := two_cells (w.alloc (.cells #[.slice a (M.dig x).length ca, .slice b (M.dig y).length cb] 47)) (.slice c (M.dig z).length cc) (.slice d (M.dig t).length cd) 47
  obtain ⟨⟨h4, h5⟩, h6, h7⟩ := two_cells ((w.alloc (.cells #[.slice a (M.dig x).length ca, .slice b (M.dig y).length cb] 47)).alloc (.cells #[.slice c (M.dig z).length cc, .slice d (M.dig t).length cd] 47)) (.slice none 0 0) (.slice none 0 0) 47
  simp only [World.size_alloc] at h2 h3 h4 h5 h6 h7
  exact ⟨cell_later _ (cell_later _ h0), cell_later _ (cell_later _ h1), cell_later _ h2, cell_later _ h3, h4, h5, h6, h7, ((hA.alloc _).alloc _).alloc _, ((hB.alloc _).alloc _).alloc _, ((hC.alloc _).alloc _).alloc _, ((hD.alloc _).alloc _).alloc _, (((Below.refl _ w).alloc (Nat.le_refl _) _).alloc (by simp) _).alloc (by simp; omega) _⟩
/-- The result has been stored. -/
theorem R2St.done {e f : Option Addr} {ce cf k l : Nat} (h : R2St w a b c d ca cb cc cd x y z t W) (hE : Row W e (M.dig k) ce) (hF : Row W f (M.dig l) cf) :
    RatV ((W.setCell ⟨w.heap.size + 1 + 1, 0, none⟩ (.slice e (M.dig k).length ce)).setCell ⟨w.heap.size + 1 + 1, 1, none⟩ (.slice f (M.dig l).length cf)) (.agg #[.slice e (M.dig k).length ce, .slice f (M.dig l).length cf]) k l ∧
    Below w.heap.size w ((W.setCell ⟨w.heap.size + 1 + 1, 0, none⟩ (.slice e (M.dig k).length ce)).setCell ⟨w.heap.size + 1 + 1, 1, none⟩ (.slice f (M.dig l).length cf)) := by
  have r2 : (W.setCell ⟨w.heap.size + 1 + 1, 0, none⟩ (.slice e (M.dig k).length ce)).cell? ⟨w.heap.size + 1 + 1, 1, none⟩ = some (.slice none 0 0) := (World.cell?_setCell_other _ _ _ _ (by intro e; cases e)).trans h.r1
  exact ⟨⟨e, ce, f, cf, rfl, (hE.storedAt h.r0 _).storedAt r2 _, (hF.storedAt h.r0 _).storedAt r2 _⟩, (h.below.setCell (p := ⟨w.heap.size + 1 + 1, 0, none⟩) (by show _ ≤ w.heap.size + 1 + 1; omega) _).setCell (p := ⟨w.heap.size + 1 + 1, 1, none⟩) (by show _ ≤ w.heap.size + 1 + 1; omega) _⟩
end

end Go.Proofs.YtmejneobfkbgeaaDoor

namespace Go.Proofs.YtmejneobfkbgeaaDoor
open Go Go.RowKit Go.Shelf

/-- Two parameters of type Ratio in boxes, two results of type Nat. -/
structure CwSt (w : World) (a b c d : Option Addr) (ca cb cc cd x y z t : Nat) (e : Option Addr) (ne ce : Nat) (f : Option Addr) (nf cf : Nat) (W : World) : Prop where
  p0 : W.cell? ⟨w.heap.size, 0, none⟩ = some (.slice a (M.dig x).length ca)
  p1 : W.cell? ⟨w.heap.size, 1, none⟩ = some (.slice b (M.dig y).length cb)
  q0 : W.cell? ⟨w.heap.size + 1, 0, none⟩ = some (.slice c (M.dig z).length cc)
  q1 : W.cell? ⟨w.heap.size + 1, 1, none⟩ = some (.slice d (M.dig t).length cd)
  l0 : W.cell? ⟨w.heap.size + 1 + 1, 0, none⟩ = some (.slice e ne ce)
  lf : W.frozen? ⟨w.heap.size + 1 + 1, 0, none⟩ = false
  r0 : W.cell? ⟨w.heap.size + 1 + 1 + 1, 0, none⟩ = some (.slice f nf cf)
  rf : W.frozen? ⟨w.heap.size + 1 + 1 + 1, 0, none⟩ = false
  ra : Row W a (M.dig x) ca
  rb : Row W b (M.dig y) cb
  rc : Row W c (M.dig z) cc
  rd : Row W d (M.dig t) cd
  below : Below w.heap.size w W
section
variable {w W : World} {a b c d e f : Option Addr} {ca cb cc cd x y z t ne ce nf cf : Nat}
theorem CwSt.keep {W' : World} (h : CwSt w a b c d ca cb cc cd x y z t e ne ce f nf cf W) (hb : Below W.heap.size W W') : CwSt w a b c d ca cb cc cd x y z t e ne ce f nf cf W' :=
  ⟨cell_below hb h.p0, cell_below hb h.p1, cell_below hb h.q0, cell_below hb h.q1, cell_below hb h.l0, frozen_below hb h.l0 h.lf, cell_below hb h.r0, frozen_below hb h.r0 h.rf, h.ra.below hb, h.rb.below hb, h.rc.below hb, h.rd.below hb, h.below.trans (hb.mono h.below.size)⟩
theorem CwSt.setL (h : CwSt w a b c d ca cb cc cd x y z t e ne ce f nf cf W) (e' : Option Addr) (n' c' : Nat) : CwSt w a b c d ca cb cc cd x y z t e' n' c' f nf cf (W.setCell ⟨w.heap.size + 1 + 1, 0, none⟩ (.slice e' n' c')) :=
  ⟨(cell_other _ (show w.heap.size ≠ w.heap.size + 1 + 1 by omega)).trans h.p0, (cell_other _ (show w.heap.size ≠ w.heap.size + 1 + 1 by omega)).trans h.p1, (cell_other _ (show w.heap.size + 1 ≠ w.heap.size + 1 + 1 by omega)).trans h.q0, (cell_other _ (show w.heap.size + 1 ≠ w.heap.size + 1 + 1 by omega)).trans h.q1,
    World.cell?_setCell_same _ _ _ h.l0, (World.frozen?_setCell _ _ _ _).trans h.lf, (cell_other _ (show w.heap.size + 1 + 1 + 1 ≠ w.heap.size + 1 + 1 by omega)).trans h.r0, (World.frozen?_setCell _ _ _ _).trans h.rf,
    h.ra.storedAt h.l0 _, h.rb.storedAt h.l0 _, h.rc.storedAt h.l0 _, h.rd.storedAt h.l0 _, h.below.setCell (p := ⟨w.heap.size + 1 + 1, 0, none⟩) (by show _ ≤ w.heap.size + 1 + 1; omega) _⟩
theorem CwSt.setR (h : CwSt w a b c d ca cb cc cd x y z t e ne ce f nf cf W) (e' : Option Addr) (n' c' : Nat) : CwSt w a b c d ca cb cc cd x y z t e ne ce e' n' c' (W.setCell ⟨w.heap.size + 1 + 1 + 1, 0, none⟩ (.slice e' n' c')) :=
  ⟨(cell_other _ (show w.heap.size ≠ w.heap.size + 1 + 1 + 1 by omega)).trans h.p0, (cell_other _ (show w.heap.size ≠ w.heap.size + 1 + 1 + 1 by omega)).trans h.p1, (cell_other _ (show w.heap.size + 1 ≠ w.heap.size + 1 + 1 + 1 by omega)).trans h.q0, (cell_other _ (show w.heap.size + 1 ≠ w.heap.size + 1 + 1 + 1 by omega)).trans h.q1,
    (cell_other _ (show w.heap.size + 1 + 1 ≠ w.heap.size + 1 + 1 + 1 by omega)).trans h.l0, (World.frozen?_setCell _ _ _ _).trans h.lf, World.cell?_setCell_same _ _ _ h.r0, (World.frozen?_setCell _ _ _ _).trans h.rf,
    h.ra.storedAt h.r0 _, h.rb.storedAt h.r0 _, h.rc.storedAt h.r0 _, h.rd.storedAt h.r0 _, h.below.setCell (p := ⟨w.heap.size + 1 + 1 + 1, 0, none⟩) (by show _ ≤ w.heap.size + 1 + 1 + 1; omega) _⟩
theorem CwSt.start (hA : Row w a (M.dig x) ca) (hB : Row w b (M.dig y) cb) (hC : Row w c (M.dig z) cc) (hD : Row w d (M.dig t) cd) :
    CwSt w a b c d ca cb cc cd x y z t none 0 0 none 0 0 ((((w.alloc (.cells #[.slice a (M.dig x).length ca, .slice b (M.dig y).length cb] 47)).alloc (.cells #[.slice c (M.dig z).length cc, .slice d (M.dig t).length cd] 47)).alloc (.cells #[.slice none 0 0] 24)).alloc (.cells #[.slice none 0 0] 24)) := by
  obtain ⟨⟨h0, _⟩, h1, _⟩ := two_cells w (.slice a (M.dig x).length ca) (.slice b (M.dig y).length cb) 47
  obtain ⟨⟨h2, _⟩, h3, _⟩ := two_cells (w.alloc (.cells #[.slice a (M.dig x).length ca, .slice b (M.dig y).length cb] 47)) (.slice c (M.dig z).length cc) (.slice d (M.dig t).length cd) 47
  have h4 := cell_new ((w.alloc (.cells #[.slice a (M.dig x).length ca, .slice b (M.dig y).length cb] 47)).alloc (.cells #[.slice c (M.dig z).length cc, .slice d (M.dig t).length cd] 47)) (.slice none 0 0) 24
  have h5 := frozen_new ((w.alloc (.cells #[.slice a (M.dig x).length ca, .slice b (M.dig y).length cb] 47)).alloc (.cells #[.slice c (M.dig z).length cc, .slice d (M.dig t).length cd] 47)) (.slice none 0 0) 24
  have h6 := cell_new (((w.alloc (.cells #[.slice a (M.dig x).length ca, .slice b (M.dig y).length cb] 47)).alloc (.cells #[.slice c (M.dig z).length cc, .slice d (M.dig t).length cd] 47)).alloc (.cells #[.slice none 0 0] 24)) (.slice none 0 0) 24
  have h7 := frozen_new (((w.alloc (.cells #[.slice a (M.dig x).length ca, .slice b (M.dig y).length cb] 47)).alloc (.cells #[.slice c (M.dig z).length cc, .slice d (M.dig t).length cd] 47)).alloc (.cells #[.slice none 0 0] 24)) (.slice none 0 0) 24
  simp only [World.size_alloc] at h2 h3 h4 h5 h6 h7
  exact ⟨cell_later _ (cell_later _ (cell_later _ h0)), cell_later _ (cell_later _ (cell_later _ h1)), cell_later _ (cell_later _ h2), cell_later _ (cell_later _ h3), cell_later _ h4, frozen_later _ h4 h5, h6, h7, (((hA.alloc _).alloc _).alloc _).alloc _, (((hB.alloc _).alloc _).alloc _).alloc _, (((hC.alloc _).alloc _).alloc _).alloc _, (((hD.alloc _).alloc _).alloc _).alloc _,
    ((((Below.refl _ w).alloc (Nat.le_refl _) _).alloc (by simp) _).alloc (by simp; omega) _).alloc (by simp; omega) _⟩
end

end Go.Proofs.YtmejneobfkbgeaaDoor

namespace Go.Proofs.YtmejneobfkbgeaaDoor
open Go Go.RowKit Go.Shelf

end Go.Proofs.YtmejneobfkbgeaaDoor

namespace Go.Proofs.YtmejneobfkbgeaaDoor
open Go Go.RowKit Go.Shelf

theorem sub_num_ge {u v : Value} {x y : Nat} {w : World} (hx : (M.dig x).length ≤ 200) (hy : (M.dig y).length ≤ 200) (hle : y ≤ x) (hu : Num w u x) (hv : Num w v y) :
    Calls Tryd.prog 48 #[u, v] w fun e W' => NatRes (x - y) e W' ∧ Below w.heap.size w W' := by
  obtain ⟨a, ca, rfl, ha⟩ := hu
  obtain ⟨b, cb, rfl, hb⟩ := hv
  exact sub_ge a b ca cb x y w hx hy ha hb hle
theorem sub_num_lt {u v : Value} {x y : Nat} {w : World} (hx : (M.dig x).length ≤ 200) (hy : (M.dig y).length ≤ 200) (hlt : x < y) (hu : Num w u x) (hv : Num w v y) :
    Calls Tryd.prog 48 #[u, v] w fun e W' => e = .returned (.tuple #[.agg #[.slice none 0 0], .int .i64 5]) ∧ Below w.heap.size w W' := by
  obtain ⟨a, ca, rfl, ha⟩ := hu
  obtain ⟨b, cb, rfl, hb⟩ := hv
  exact sub_lt a b ca cb x y w hx hy ha hb hlt
theorem R2St.none {w : World} {a b c d : Option Addr} {ca cb cc cd x y z t : Nat} {W : World} (h : R2St w a b c d ca cb cc cd x y z t W) :
    Below w.heap.size w ((W.setCell ⟨w.heap.size + 1 + 1, 0, none⟩ (.slice none 0 0)).setCell ⟨w.heap.size + 1 + 1, 1, none⟩ (.slice none 0 0)) := by
  have := h.below
  exact (h.below.setCell (by simp; omega) _).setCell (by simp; omega) _
end Go.Proofs.YtmejneobfkbgeaaDoor

namespace Go.Proofs.YtmejneobfkbgeaaDoor
open Go Go.RowKit Go.Shelf

/-- A variable of type Ratio in a block of its own. -/
structure RVar (W : World) (p : Nat) (a : Option Addr) (ca : Nat) (b : Option Addr) (cb x y : Nat) : Prop where
  c0 : W.cell? ⟨p, 0, none⟩ = some (.slice a (M.dig x).length ca)
  c1 : W.cell? ⟨p, 1, none⟩ = some (.slice b (M.dig y).length cb)
  ra : Row W a (M.dig x) ca
  rb : Row W b (M.dig y) cb
section
variable {W W' : World} {p : Nat} {a b : Option Addr} {ca cb x y : Nat}
theorem RVar.new (hA : Row W a (M.dig x) ca) (hB : Row W b (M.dig y) cb) : RVar (W.alloc (.cells #[.slice a (M.dig x).length ca, .slice b (M.dig y).length cb] 47)) W.heap.size a ca b cb x y := by
  obtain ⟨⟨h0, _⟩, h1, _⟩ := two_cells W (.slice a (M.dig x).length ca) (.slice b (M.dig y).length cb) 47
  exact ⟨h0, h1, hA.alloc _, hB.alloc _⟩
theorem RVar.below (h : RVar W p a ca b cb x y) (hb : Below W.heap.size W W') : RVar W' p a ca b cb x y :=
  ⟨cell_below hb h.c0, cell_below hb h.c1, h.ra.below hb, h.rb.below hb⟩
theorem RVar.alloc (h : RVar W p a ca b cb x y) (o : Obj) : RVar (W.alloc o) p a ca b cb x y := h.below ((Below.refl _ W).alloc (Nat.le_refl _) o)
theorem RVar.val (h : RVar W p a ca b cb x y) : RatV W (.agg #[.slice a (M.dig x).length ca, .slice b (M.dig y).length cb]) x y := ⟨a, ca, b, cb, rfl, h.ra, h.rb⟩
theorem RVar.lt (h : RVar W p a ca b cb x y) : p < W.heap.size := lt_of_cell h.c0
end

end Go.Proofs.YtmejneobfkbgeaaDoor

namespace Go.Proofs.YtmejneobfkbgeaaDoor
open Go Go.RowKit Go.Shelf

/-- A result of type Ratio alone in its cell. -/
structure ResSt (w : World) (W : World) : Prop where
  r0 : W.cell? ⟨w.heap.size, 0, none⟩ = some (.slice none 0 0)
  f0 : W.frozen? ⟨w.heap.size, 0, none⟩ = false
  r1 : W.cell? ⟨w.heap.size, 1, none⟩ = some (.slice none 0 0)
  f1 : W.frozen? ⟨w.heap.size, 1, none⟩ = false
  below : Below w.heap.size w W
section
variable {w W W' : World}
theorem ResSt.keep (h : ResSt w W) (hb : Below W.heap.size W W') : ResSt w W' :=
  ⟨cell_below hb h.r0, frozen_below hb h.r0 h.f0, cell_below hb h.r1, frozen_below hb h.r1 h.f1, h.below.trans (hb.mono h.below.size)⟩
theorem ResSt.alloc (h : ResSt w W) (o : Obj) : ResSt w (W.alloc o) := h.keep ((Below.refl _ W).alloc (Nat.le_refl _) o)
theorem ResSt.done {e f : Option Addr} {ce cf k l : Nat} (h : ResSt w W) (hE : Row W e (M.dig k) ce) (hF : Row W f (M.dig l) cf) :
    RatV ((W.setCell ⟨w.heap.size, 0, none⟩ (.slice e (M.dig k).length ce)).setCell ⟨w.heap.size, 1, none⟩ (.slice f (M.dig l).length cf)) (.agg #[.slice e (M.dig k).length ce, .slice f (M.dig l).length cf]) k l ∧
    Below w.heap.size w ((W.setCell ⟨w.heap.size, 0, none⟩ (.slice e (M.dig k).length ce)).setCell ⟨w.heap.size, 1, none⟩ (.slice f (M.dig l).length cf)) := by
  have r2 : (W.setCell ⟨w.heap.size, 0, none⟩ (.slice e (M.dig k).length ce)).cell? ⟨w.heap.size, 1, none⟩ = some (.slice none 0 0) := (World.cell?_setCell_other _ _ _ _ (by intro e; cases e)).trans h.r1
  exact ⟨⟨e, ce, f, cf, rfl, (hE.storedAt h.r0 _).storedAt r2 _, (hF.storedAt h.r0 _).storedAt r2 _⟩, (h.below.setCell (p := ⟨w.heap.size, 0, none⟩) (Nat.le_refl _) _).setCell (p := ⟨w.heap.size, 1, none⟩) (Nat.le_refl _) _⟩
end

end Go.Proofs.YtmejneobfkbgeaaDoor

namespace Go.Proofs.YtmejneobfkbgeaaDoor
open Go Go.RowKit Go.Shelf

theorem decs_eleven : (M.decs 2 11).map UInt8.ofNat = [49, 49] := by decide
theorem decs_six : (M.decs 1 6).map UInt8.ofNat = [54] := by decide
set_option maxRecDepth 100000 in
theorem print_eleven {a : Option Addr} {cap : Nat} {w : World} (hR : Row w a (M.dig 11) cap) :
    Calls Tryd.prog 20 #[.agg #[.slice a (M.dig 11).length cap]] w fun e W' => e = .returned (.string ⟨#[49, 49]⟩) ∧ Below w.heap.size w W' :=
  (print_pos a cap 11 w (by omega) (small_len (by decide)) hR).mono fun _ _ h => ⟨(prPost_at (K := 2) h.1 (by decide)).trans (by rw [decs_eleven]), h.2⟩
set_option maxRecDepth 100000 in
theorem print_six {a : Option Addr} {cap : Nat} {w : World} (hR : Row w a (M.dig 6) cap) :
    Calls Tryd.prog 20 #[.agg #[.slice a (M.dig 6).length cap]] w fun e W' => e = .returned (.string ⟨#[54]⟩) ∧ Below w.heap.size w W' :=
  (print_pos a cap 6 w (by omega) (small_len (by decide)) hR).mono fun _ _ h => ⟨(prPost_at (K := 1) h.1 (by decide)).trans (by rw [decs_six]), h.2⟩

set_option maxRecDepth 100000 in
set_option maxHeartbeats 2000000 in
theorem ratPrint_116 {u : Value} {w : World} (hu : RatV w u 11 6) :
    Calls Tryd.prog 21 #[u] w fun e W' => e = .returned (.string ⟨#[49, 49, 47, 54]⟩) ∧ Below w.heap.size w W' := by
  obtain ⟨a, ca, b, cb, rfl, hA, hB⟩ := hu
  have A := Lib.hid (RVar.new hA hB)
  have HB := Lib.hid (show Below w.heap.size w (w.alloc (.cells #[.slice a (M.dig 11).length ca, .slice b (M.dig 6).length cb] 47)) from ((Below.refl _ w).alloc (Nat.le_refl _) _))
  have hv := ratValid_yes (x := 11) (y := 6) A.out.val (by decide) (by decide) (small_len (by decide)) (small_len (by decide))
  have HV := Lib.hid hv
  have P11 := Lib.hid (fun (W : World) (h : Row W a (M.dig 11) ca) => print_eleven h)
  have P6 := Lib.hid (fun (W : World) (h : Row W b (M.dig 6) cb) => print_six h)
  clear hA hB hv
  have HA := Lib.hid A.out.ra
  have HBr := Lib.hid A.out.rb
  clear A
  generalize M.dig 11 = d11 at *
  generalize M.dig 6 = d6 at *
  have p0 : (w.alloc (.cells #[.slice a d11.length ca, .slice b d6.length cb] 47)).cell? ⟨w.heap.size, 0, none⟩ = some (.slice a d11.length ca) := (two_cells w _ _ _).1.1
  have p1 : (w.alloc (.cells #[.slice a d11.length ca, .slice b d6.length cb] 47)).cell? ⟨w.heap.size, 1, none⟩ = some (.slice b d6.length cb) := (two_cells w _ _ _).2.1
  go_enter Tryd.func21, Tryd.ntmps21
  go_wp2_with fail
  generalize (w.alloc (.cells #[.slice a d11.length ca, .slice b d6.length cb] 47)) = w1 at *
  refine HV.out.mono ?_
  rintro e w2 ⟨rfl, hb2⟩
  have HB2 := Lib.hid (HB.out.trans (hb2.mono HB.out.size))
  have q0 := cell_below hb2 p0
  have q1 := cell_below hb2 p1
  have HRA := Lib.hid (HA.out.below hb2)
  have HRB := Lib.hid (HBr.out.below hb2)
  clear hb2 HB HA HBr p0 p1 HV
  go_wp2_with fail
  have hra : Row w2.drew a d11 ca := HRA.out.drewN 1
  have hrb : Row w2.drew b d6 cb := HRB.out.drewN 1
  have hB2 : Below w.heap.size w w2.drew := belowN HB2.out 1
  have q1d : w2.drew.cell? ⟨w.heap.size, 1, none⟩ = some (.slice b d6.length cb) := q1
  go_region_law (first
    | (go_simp; go_at_call 20; (with_reducible refine (P11.out _ hra).mono ?_); rintro e w5 ⟨rfl, hb5⟩; have q1' : w5.cell? ⟨w.heap.size, 1, none⟩ = some (.slice b d6.length cb) := cell_below hb5 q1d; have HRB5 := Lib.hid (hrb.below hb5); have HB5 := Lib.hid (hB2.trans (hb5.mono hB2.size)); clear hb5; go_simp)
    | (go_simp; go_at_call 20; (with_reducible refine (P6.out _ HRB5.out).mono ?_); rintro e w6 ⟨rfl, hb6⟩; have HB6 := Lib.hid (HB5.out.trans (hb6.mono HB5.out.size)); clear hb6; go_simp))
  all_goals
    go_wp2_with fail
    go_ret
    exact ⟨by rfl, HB6.out⟩
end Go.Proofs.YtmejneobfkbgeaaDoor

namespace Go.Proofs.YtmejneobfkbgeaaDoor
open Go Go.RowKit Go.Shelf

def dvalN (l : List Nat) : Nat := l.foldl (fun v c => v * 10 + (c - 48)) 0
theorem dvalN_snoc (l : List Nat) (c : Nat) : dvalN (l ++ [c]) = dvalN l * 10 + (c - 48) := by unfold dvalN; rw [List.foldl_append]; rfl
theorem dvalN_dg (k g : Nat) : dvalN (M.dg k g).reverse = g % 10 ^ k := by
  induction k generalizing g with
  | zero => rw [Nat.pow_zero, Nat.mod_one]; rfl
  | succ k ih =>
    rw [M.dg, List.reverse_cons, dvalN_snoc, ih, Nat.pow_succ, Nat.mul_comm (10 ^ k) 10, Nat.mod_mul]
    omega
theorem dvalN_drop (l : List Nat) : dvalN (l.dropWhile (· == 48)) = dvalN l := by
  induction l with
  | nil => rfl
  | cons c l ih =>
    by_cases h : c = 48
    · subst h; rw [List.dropWhile_cons_of_pos rfl, ih]; rfl
    · rw [List.dropWhile_cons_of_neg (by simpa using h)]
theorem dval_map (l : List Nat) (h : ∀ b ∈ l, b < 256) : dval (l.map UInt8.ofNat) = dvalN l := by
  unfold dval dvalN
  generalize 0 = v
  induction l generalizing v with
  | nil => rfl
  | cons c l ih =>
    have hc := h c (List.mem_cons_self ..)
    simp only [List.map_cons, List.foldl_cons]
    rw [ih (fun b hb => h b (List.mem_cons_of_mem _ hb))]
    congr 2
    rw [UInt8.toNat_ofNat']; omega
theorem mem_dropWhile {p : Nat → Bool} {l : List Nat} {b : Nat} (h : b ∈ l.dropWhile p) : b ∈ l := (List.dropWhile_sublist p).mem h
theorem decs_byte (k n : Nat) : ∀ b ∈ M.decs k n, 48 ≤ b ∧ b ≤ 57 := fun b hb => M.dg_byte k n b (by have := mem_dropWhile hb; simpa using this)
theorem dvalN_decs {k n : Nat} (h : n < 10 ^ k) : dvalN (M.decs k n) = n := by
  unfold M.decs; rw [dvalN_drop, dvalN_dg, Nat.mod_eq_of_lt h]
theorem decs_len (k n : Nat) : (M.decs k n).length ≤ k := by
  unfold M.decs
  have := (List.dropWhile_sublist (l := (M.dg k n).reverse) (· == 48)).length_le
  rw [List.length_reverse, M.dg_len] at this
  exact this
theorem decs_head {k n : Nat} : (M.decs k n).head? ≠ some 48 := by
  unfold M.decs
  intro h
  have := List.head?_dropWhile_not (· == 48) (M.dg k n).reverse
  rw [h] at this
  simp at this

/-- The text of n. -/
def TextOf (n : Nat) (s : ByteArray) : Prop := decB s = true ∧ dval s.data.toList = n

theorem text_decs {k n : Nat} (h0 : 0 < n) (h : n < 10 ^ k) : TextOf n ⟨((M.decs k n).map UInt8.ofNat).toArray⟩ := by
  have hb := decs_byte k n
  refine ⟨?_, by rw [List.toList_toArray, dval_map _ (fun b hm => by have := hb b hm; omega), dvalN_decs h]⟩
  unfold decB
  simp only
  have hall : ((M.decs k n).map UInt8.ofNat).all digB = true := by
    rw [List.all_eq_true]
    intro c hc
    obtain ⟨b, hm, rfl⟩ := List.mem_map.1 hc
    have := hb b hm
    unfold digB
    rw [UInt8.toNat_ofNat', Bool.and_eq_true, decide_eq_true_eq, decide_eq_true_eq]; omega
  have hne : (M.decs k n).map UInt8.ofNat ≠ [] := by
    intro e
    have : M.decs k n = [] := List.map_eq_nil_iff.1 e
    have h1 := dvalN_decs h
    rw [this] at h1
    have : dvalN [] = 0 := rfl
    omega
  have hh : ((M.decs k n).map UInt8.ofNat).head? ≠ some 48 := by
    rw [List.head?_map]
    cases hd : (M.decs k n).head? with
    | none => simp
    | some b =>
      have hm : b ∈ M.decs k n := List.mem_of_head? hd
      have h1 := hb b hm
      have h2 := decs_head (k := k) (n := n)
      rw [hd] at h2
      intro e
      apply h2
      have := congrArg UInt8.toNat (Option.some.inj e)
      rw [UInt8.toNat_ofNat'] at this
      have h48 : (48 : UInt8).toNat = 48 := rfl
      rw [h48] at this
      congr 1; omega
  rw [hall, decide_eq_true hne, decide_eq_true hh]
  simp

theorem text_zero : TextOf 0 ⟨#[48]⟩ := ⟨rfl, rfl⟩

set_option maxRecDepth 100000 in
set_option maxHeartbeats 1000000 in
theorem print_zero (a : Option Addr) (cap : Nat) (w : World) (hR : Row w a [] cap) :
    Calls Tryd.prog 20 #[.agg #[.slice a 0 cap]] w fun e W' => e = .returned (.string ⟨#[48]⟩) ∧ Below w.heap.size w W' := by
  have hb1 := (Below.refl _ w).alloc (Nat.le_refl _) (.cells #[.slice a 0 cap] 24)
  have c0 := cell_new w (.slice a 0 cap) 24
  have HV := Lib.hid (valid_yes a [] cap _ (hR.below hb1) (by have := vld_dig (n := 0) (by rw [M.dig_zero]; simp); rwa [M.dig_zero] at this))
  have HB1 := Lib.hid hb1
  clear hb1 hR
  go_enter Tryd.func20, Tryd.ntmps20
  go_wp2_with fail
  refine HV.out.mono ?_
  rintro e w2 ⟨rfl, hb2⟩
  have c2 := (hb2.cell (p := ⟨w.heap.size, 0, none⟩) (by simp)).trans c0
  have HB2 := Lib.hid (HB1.out.trans (hb2.mono (by simp)))
  clear hb2 c0
  go_wp2_with fail
  go_ret
  exact ⟨rfl, HB2.out⟩

/-- **nat.Print**, of numbers below 10^j. -/
theorem print_text (a : Option Addr) (cap n j : Nat) (w : World) (hj : n < 10 ^ j) (hj1 : 1 ≤ j) (hlen : (M.dig n).length ≤ 200) (hR : Row w a (M.dig n) cap) :
    Calls Tryd.prog 20 #[.agg #[.slice a (M.dig n).length cap]] w fun e W' => (∃ s, e = .returned (.string s) ∧ TextOf n s ∧ s.size ≤ j) ∧ Below w.heap.size w W' := by
  rcases Nat.eq_zero_or_pos n with rfl | h0
  · rw [M.dig_zero] at hR ⊢
    exact (print_zero a cap w hR).mono fun e W' ⟨he, hb⟩ => ⟨⟨_, he, text_zero, hj1⟩, hb⟩
  · refine (print_pos a cap n w h0 hlen hR).mono ?_
    rintro e W' ⟨⟨k, hk, rfl⟩, hb⟩
    refine ⟨⟨_, rfl, text_decs h0 hk, ?_⟩, hb⟩
    rw [M.decs_any hk hj]
    have := decs_len j n
    simpa [ByteArray.size] using this
end Go.Proofs.YtmejneobfkbgeaaDoor

namespace Go.Proofs.YtmejneobfkbgeaaDoor
open Go Go.RowKit Go.Shelf

theorem decs_one : (M.decs 1 1).map UInt8.ofNat = [49] := by decide
theorem decs_255 : (M.decs 3 255).map UInt8.ofNat = [50, 53, 53] := by decide
set_option maxRecDepth 100000 in
theorem print_one {a : Option Addr} {cap : Nat} {w : World} (hR : Row w a (M.dig 1) cap) :
    Calls Tryd.prog 20 #[.agg #[.slice a (M.dig 1).length cap]] w fun e W' => e = .returned (.string ⟨#[49]⟩) ∧ Below w.heap.size w W' :=
  (print_pos a cap 1 w (by omega) (small_len (by decide)) hR).mono fun _ _ h => ⟨(prPost_at (K := 1) h.1 (by decide)).trans (by rw [decs_one]), h.2⟩
set_option maxRecDepth 100000 in
theorem print_255 {a : Option Addr} {cap : Nat} {w : World} (hR : Row w a (M.dig 255) cap) :
    Calls Tryd.prog 20 #[.agg #[.slice a (M.dig 255).length cap]] w fun e W' => e = .returned (.string ⟨#[50, 53, 53]⟩) ∧ Below w.heap.size w W' :=
  (print_pos a cap 255 w (by omega) (small_len (by decide)) hR).mono fun _ _ h => ⟨(prPost_at (K := 3) h.1 (by decide)).trans (by rw [decs_255]), h.2⟩

set_option maxRecDepth 100000 in
set_option maxHeartbeats 2000000 in
theorem ratPrint_1255 {u : Value} {w : World} (hu : RatV w u 1 255) :
    Calls Tryd.prog 21 #[u] w fun e W' => e = .returned (.string ⟨#[49, 47, 50, 53, 53]⟩) ∧ Below w.heap.size w W' := by
  obtain ⟨a, ca, b, cb, rfl, hA, hB⟩ := hu
  have A := Lib.hid (RVar.new hA hB)
  have HB := Lib.hid (show Below w.heap.size w (w.alloc (.cells #[.slice a (M.dig 1).length ca, .slice b (M.dig 255).length cb] 47)) from ((Below.refl _ w).alloc (Nat.le_refl _) _))
  have hv := ratValid_yes (x := 1) (y := 255) A.out.val (by decide) (by decide) (small_len (by decide)) (small_len (by decide))
  have HV := Lib.hid hv
  have P11 := Lib.hid (fun (W : World) (h : Row W a (M.dig 1) ca) => print_one h)
  have P6 := Lib.hid (fun (W : World) (h : Row W b (M.dig 255) cb) => print_255 h)
  clear hA hB hv
  have HA := Lib.hid A.out.ra
  have HBr := Lib.hid A.out.rb
  clear A
  generalize M.dig 1 = d11 at *
  generalize M.dig 255 = d6 at *
  have p0 : (w.alloc (.cells #[.slice a d11.length ca, .slice b d6.length cb] 47)).cell? ⟨w.heap.size, 0, none⟩ = some (.slice a d11.length ca) := (two_cells w _ _ _).1.1
  have p1 : (w.alloc (.cells #[.slice a d11.length ca, .slice b d6.length cb] 47)).cell? ⟨w.heap.size, 1, none⟩ = some (.slice b d6.length cb) := (two_cells w _ _ _).2.1
  go_enter Tryd.func21, Tryd.ntmps21
  go_wp2_with fail
  generalize (w.alloc (.cells #[.slice a d11.length ca, .slice b d6.length cb] 47)) = w1 at *
  refine HV.out.mono ?_
  rintro e w2 ⟨rfl, hb2⟩
  have HB2 := Lib.hid (HB.out.trans (hb2.mono HB.out.size))
  have q0 := cell_below hb2 p0
  have q1 := cell_below hb2 p1
  have HRA := Lib.hid (HA.out.below hb2)
  have HRB := Lib.hid (HBr.out.below hb2)
  clear hb2 HB HA HBr p0 p1 HV
  go_wp2_with fail
  have hra : Row w2.drew a d11 ca := HRA.out.drewN 1
  have hrb : Row w2.drew b d6 cb := HRB.out.drewN 1
  have hB2 : Below w.heap.size w w2.drew := belowN HB2.out 1
  have q1d : w2.drew.cell? ⟨w.heap.size, 1, none⟩ = some (.slice b d6.length cb) := q1
  go_region_law (first
    | (go_simp; go_at_call 20; (with_reducible refine (P11.out _ hra).mono ?_); rintro e w5 ⟨rfl, hb5⟩; have q1' : w5.cell? ⟨w.heap.size, 1, none⟩ = some (.slice b d6.length cb) := cell_below hb5 q1d; have HRB5 := Lib.hid (hrb.below hb5); have HB5 := Lib.hid (hB2.trans (hb5.mono hB2.size)); clear hb5; go_simp)
    | (go_simp; go_at_call 20; (with_reducible refine (P6.out _ HRB5.out).mono ?_); rintro e w6 ⟨rfl, hb6⟩; have HB6 := Lib.hid (HB5.out.trans (hb6.mono HB5.out.size)); clear hb6; go_simp))
  all_goals
    go_wp2_with fail
    go_ret
    exact ⟨by rfl, HB6.out⟩
end Go.Proofs.YtmejneobfkbgeaaDoor

namespace Go.Proofs.YtmejneobfkbgeaaDoor
open Go Go.RowKit Go.Shelf

namespace C
theorem ok11 : Ok 1 1 0 := ⟨by omega, by omega, by omega, by omega, by omega⟩
theorem wrong112 : wrongN 2 1 2 0 = 255 := by rw [wrong0 2 1 2 (by omega) (by omega), words112]
theorem err22 : errN 2 2 = 65025 := by decide
set_option maxRecDepth 100000 in
set_option maxHeartbeats 2000000 in
/-- **chance.Chance** of one data byte and one check byte, for two wrong bytes -/
theorem chance_112 (u : World) :
    Calls Tryd.prog 19 #[.agg #[.int .i64 2, .int .i64 1, .int .i64 1, .int .i64 0], .int .i64 2] u fun e W => (∃ r, e = .returned (.tuple #[r, .int .i64 0]) ∧ RatV W r 1 255) ∧ Below u.heap.size u W := by
  have HW := Lib.hid (fun W => (show Calls Tryd.prog 36 #[.agg #[.int .i64 2, .int .i64 1, .int .i64 1, .int .i64 0], .int .i64 2] W fun e W' => NumE 255 e W' ∧ Below W.heap.size W W' from by
    have h := wrong_any ok11 2 (by omega) W
    rw [wrong112] at h
    exact h))
  have HE := Lib.hid (fun W => (show Calls Tryd.prog 37 #[.agg #[.int .i64 2, .int .i64 1, .int .i64 1, .int .i64 0], .int .i64 2] W fun e W' => NumE 65025 e W' ∧ Below W.heap.size W W' from by
    have h := errors_any ok11 2 (by omega) W
    rw [err22] at h
    exact h))
  obtain ⟨u1, hu1, hbx1, hB1, hs1⟩ := CBox.new u 1 1 0
  have hu1' : u.alloc (.cells #[.int .i64 2, .int .i64 1, .int .i64 1, .int .i64 0] 44) = u1 := hu1
  obtain ⟨u2, hu2⟩ : ∃ u2, u1.alloc (.cells #[.slice none 0 0, .slice none 0 0] 47) = u2 := ⟨_, rfl⟩
  have hb2 := G.Box.new u1 47 [.slice none 0 0, .slice none 0 0]
  have hB2 : Below u1.heap.size u1 u2 := by rw [← hu2]; exact (Below.refl _ u1).alloc (Nat.le_refl _) _
  obtain ⟨pr, hpr⟩ : ∃ pr, u1.heap.size = pr := ⟨_, rfl⟩
  have hb2' : G.Box u2 pr 47 [.slice none 0 0, .slice none 0 0] := by rw [← hu2, ← hpr]; exact hb2
  have HC := Lib.hid (hbx1.below hB2)
  have HR := Lib.hid hb2'
  have hs := hB1.size
  have hpr0 : u.heap.size ≤ pr := by omega
  have HB := Lib.hid (hB1.trans (hB2.mono (by omega)))
  obtain ⟨k0, k1, k2, k3⟩ := HC.out.at
  have k1' : u2.cell? ⟨u.heap.size, 1, none⟩ = some (.int .i64 1) := k1
  have k2' : u2.cell? ⟨u.heap.size, 2, none⟩ = some (.int .i64 1) := k2
  have k3' : u2.cell? ⟨u.heap.size, 3, none⟩ = some (.int .i64 0) := k3
  clear hu1 hb2 hb2' hB1 hB2 hbx1 hs hs1 k1 k2 k3
  go_enter Tryd.func19, Tryd.ntmps19
  go_wp2_with fail
  (with_reducible refine (HW.out _).mono ?_)
  rintro e w1 ⟨⟨a, ca, rfl, hr⟩, hb1⟩
  have hv := Bx.new hr
  obtain ⟨pa, hpa⟩ : ∃ p, w1.heap.size = p := ⟨_, rfl⟩
  obtain ⟨w2, hw2⟩ : ∃ w2, w1.alloc (.cells #[.slice a (M.dig 255).length ca] 24) = w2 := ⟨_, rfl⟩
  have hbw : Below w1.heap.size w1 w2 := by rw [← hw2]; exact (Below.refl _ w1).alloc (Nat.le_refl _) _
  have hb12 := hb1.trans (hbw.mono hb1.size)
  have ha2 : w2.cell? ⟨pa, 0, none⟩ = some (.slice a (M.dig 255).length ca) := by rw [← hw2, ← hpa]; exact cell_new _ _ _
  have HRA := Lib.hid (hr.below hbw)
  have HC2 := Lib.hid (HC.out.below hb12)
  have HR2 := Lib.hid (HR.out.below hb12)
  have HB2 := Lib.hid (HB.out.trans (hb12.mono HB.out.size))
  obtain ⟨q0, q1, q2, q3⟩ := HC2.out.at
  have q1' : w2.cell? ⟨u.heap.size, 1, none⟩ = some (.int .i64 1) := q1
  have q2' : w2.cell? ⟨u.heap.size, 2, none⟩ = some (.int .i64 1) := q2
  have q3' : w2.cell? ⟨u.heap.size, 3, none⟩ = some (.int .i64 0) := q3
  clear hr hv hb1 hbw hb12 HC HR HB k0 k1' k2' k3' q1 q2 q3 HW
  go_wp2_with fail
  (with_reducible refine (HE.out _).mono ?_)
  rintro e w3 ⟨⟨b, cb, rfl, hr⟩, hb3⟩
  obtain ⟨pb, hpb⟩ : ∃ p, w3.heap.size = p := ⟨_, rfl⟩
  obtain ⟨w4, hw4⟩ : ∃ w4, w3.alloc (.cells #[.slice b (M.dig 65025).length cb] 24) = w4 := ⟨_, rfl⟩
  have hbw : Below w3.heap.size w3 w4 := by rw [← hw4]; exact (Below.refl _ w3).alloc (Nat.le_refl _) _
  have hb34 := hb3.trans (hbw.mono hb3.size)
  have hb4 : w4.cell? ⟨pb, 0, none⟩ = some (.slice b (M.dig 65025).length cb) := by rw [← hw4, ← hpb]; exact cell_new _ _ _
  have ha4 : w4.cell? ⟨pa, 0, none⟩ = some (.slice a (M.dig 255).length ca) := (hb34.cell (lt_of_cell ha2)).trans ha2
  have HMK := Lib.hid (make_pos a b ca cb 255 65025 w4 (by omega) (small_len (by decide)) (small_len (by decide)) (HRA.out.below hb34) (hr.below hbw))
  have HR4 := Lib.hid (HR2.out.below hb34)
  have HB4 := Lib.hid (HB2.out.trans (hb34.mono HB2.out.size))
  clear hr hb3 hbw hb34 HC2 HR2 HB2 q0 q1' q2' q3' HE HRA ha2
  go_wp2_with fail
  (with_reducible refine HMK.out.mono ?_)
  rintro e w5 ⟨⟨v, rfl, a5, c5, b5, d5, rfl, h5a, h5b⟩, hb5⟩
  rw [show (255 : Nat) / Nat.gcd 255 65025 = 1 by decide] at h5a ⊢
  rw [show (65025 : Nat) / Nat.gcd 255 65025 = 255 by decide] at h5b ⊢
  have hr5 := HR4.out.below hb5
  have d0 := hr5.cell 0 rfl
  have d1 := hr5.cell 1 rfl
  have f0 := hr5.free 0
  have f1 := hr5.free 1
  have hr6 := hr5.set 0 (.slice a5 (M.dig 1).length c5)
  have e1 := hr6.cell 1 rfl
  have g1 := hr6.free 1
  have hr7 := hr6.set 1 (.slice b5 (M.dig 255).length d5)
  obtain ⟨w6, hw6⟩ : ∃ w6, w5.setCell ⟨pr, 0, none⟩ (.slice a5 (M.dig 1).length c5) = w6 := ⟨_, rfl⟩
  obtain ⟨w7, hw7⟩ : ∃ w7, w6.setCell ⟨pr, 1, none⟩ (.slice b5 (M.dig 255).length d5) = w7 := ⟨_, rfl⟩
  have i0 := hr7.cell 0 rfl
  have i1 := hr7.cell 1 rfl
  have ra6 := h5a.store d0 (.slice a5 (M.dig 1).length c5)
  have rb6 := h5b.store d0 (.slice a5 (M.dig 1).length c5)
  have RA := Lib.hid (ra6.store e1 (.slice b5 (M.dig 255).length d5))
  have RB := Lib.hid (rb6.store e1 (.slice b5 (M.dig 255).length d5))
  have HB7 := Lib.hid (((HB4.out.trans (hb5.mono HB4.out.size)).setCell (p := ⟨pr, 0, none⟩) hpr0 (.slice a5 (M.dig 1).length c5)).setCell (p := ⟨pr, 1, none⟩) hpr0 (.slice b5 (M.dig 255).length d5))
  rw [hw6] at e1 g1 i0 i1 RA RB HB7
  rw [hw7] at i0 i1 RA RB HB7
  clear hr5 hr6 hr7 ra6 rb6 h5a h5b hb5 HR4 HB4 HMK
  go_wp2_with fail
  exact bodyPost_ret (v := .tuple #[.agg #[.slice a5 (M.dig 1).length c5, .slice b5 (M.dig 255).length d5], .int .i64 0]) (by simp [results, Tryd.results19, go_sem, i0, i1]) rfl ⟨⟨_, rfl, a5, c5, b5, d5, rfl, RA.out, RB.out⟩, HB7.out⟩
end C
end Go.Proofs.YtmejneobfkbgeaaDoor

namespace Go.Proofs.YtmejneobfkbgeaaDoor.IN
def el (zs : List Int) (k : Nat) : Int := zs[k]?.getD 0
end Go.Proofs.YtmejneobfkbgeaaDoor.IN
namespace Go.Proofs.YtmejneobfkbgeaaDoor.G
open Go Go.RowKit Go.Shelf

theorem mod_any (n m : Int) (hm : 1 ≤ m) (hm2 : m ≤ 1000000) (w : World) :
    Calls Tryd.prog 6 #[.int .i64 n, .int .i64 m] w fun e w' => e = .returned (.int .i64 (n % m)) ∧ w = w' := by
  have hs : n.tmod m < 0 → n.tmod m + m = n % m ∧ -1000000 < n.tmod m := by
    intro h
    rcases Int.le_total 0 n with hn | hn
    · rw [Int.tmod_eq_emod_of_nonneg hn] at h
      have := Int.emod_nonneg n (by omega : m ≠ 0)
      omega
    · have e := Int.neg_tmod (a := -n) (b := m)
      rw [Int.neg_neg, Int.tmod_eq_emod_of_nonneg (by omega : 0 ≤ -n)] at e
      have h1 := Int.emod_lt_of_pos (-n) (by omega : 0 < m)
      have h2 := Int.emod_nonneg (-n) (by omega : m ≠ 0)
      refine ⟨?_, by omega⟩
      have h3 : n % m = (n.tmod m + m) % m := by
        rw [e, Int.add_emod_right]
        have h4 : (-((-n) % m)) % m = (-(-n)) % m := by
          have := Int.emod_add_mul_ediv (-n) m
          have h5 : -((-n) % m) = -(-n) + m * ((-n) / m) := by omega
          rw [h5, Int.add_mul_emod_self_left]
        rw [h4, Int.neg_neg]
      rw [h3, Int.emod_eq_of_lt (by omega) (by omega)]
  have hp : ¬ n.tmod m < 0 → n.tmod m = n % m := by
    intro h
    rcases Int.le_total 0 n with hn | hn
    · exact Int.tmod_eq_emod_of_nonneg hn
    · have e := Int.neg_tmod (a := -n) (b := m)
      rw [Int.neg_neg, Int.tmod_eq_emod_of_nonneg (by omega : 0 ≤ -n)] at e
      have h2 := Int.emod_nonneg (-n) (by omega : m ≠ 0)
      have h0 : (-n) % m = 0 := by omega
      have h6 : m ∣ -n := Int.dvd_of_emod_eq_zero h0
      rw [e, h0, Int.emod_eq_zero_of_dvd (Int.dvd_neg.1 h6)]; rfl
  have hm0 : ¬ m < 1 := by omega
  have hz : m ≠ 0 := by omega
  by_cases h : n.tmod m < 0
  · have hb := (hs h).2
    have HR := Lib.hid (hs h).1
    clear hs hp
    go_enter Tryd.func6, Tryd.ntmps6
    go_wp2_with fail
    go_ret
    exact ⟨ret_int HR.out, rfl⟩
  · have HR := Lib.hid (hp h)
    have h' : 0 ≤ n.tmod m := by omega
    clear hs hp
    go_enter Tryd.func6, Tryd.ntmps6
    go_wp2_with fail
    go_ret
    exact ⟨ret_int HR.out, rfl⟩

/-- The slice at a, of capacity cap, holds the ints zs. -/
structure IRow (w : World) (a : Option Addr) (zs : List Int) (cap : Nat) : Prop where
  room : zs.length ≤ cap
  most : cap ≤ 9223372036854775807
  el : ∀ j, j < zs.length → ∃ b off, a = some ⟨b, off, none⟩ ∧ w.cell? ⟨b, off + j, none⟩ = some (.int .i64 (IN.el zs j))
theorem IRow.below {w w' : World} {a : Option Addr} {zs : List Int} {cap : Nat} (h : IRow w a zs cap) (hb : Below w.heap.size w w') : IRow w' a zs cap :=
  ⟨h.room, h.most, fun j hj => by
    obtain ⟨b, off, e, hc⟩ := h.el j hj
    exact ⟨b, off, e, (hb.cell (p := ⟨b, off + j, none⟩) (lt_of_cell hc)).trans hc⟩⟩
theorem IRow.drewN {w : World} {a : Option Addr} {zs : List Int} {cap : Nat} (h : IRow w a zs cap) (n : Nat) : IRow (w.drewN n) a zs cap := ⟨h.room, h.most, h.el⟩
theorem IRow.alloc {w : World} {a : Option Addr} {zs : List Int} {cap : Nat} (h : IRow w a zs cap) (o : Obj) : IRow (w.alloc o) a zs cap :=
  h.below ((Below.refl _ w).alloc (Nat.le_refl _) _)
theorem mod_nat (x : Int) (n : Nat) (hn : 0 < n) : ∃ r : Nat, x % (n : Int) = (r : Int) ∧ r < n := by
  have h1 := Int.emod_nonneg x (b := (n : Int)) (by omega)
  have h2 := Int.emod_lt_of_pos x (b := (n : Int)) (by omega)
  exact ⟨(x % (n : Int)).toNat, by omega, by omega⟩

/-- The dice in block dp: the numbers ts, k of which have been given out. -/
structure Dice (W : World) (dp : Nat) (a : Option Addr) (cap : Nat) (ts : List Int) (k : Nat) : Prop where
  list : W.cell? ⟨dp, 0, none⟩ = some (.slice a ts.length cap)
  at' : W.cell? ⟨dp, 1, none⟩ = some (.int .i64 (k : Int))
  free : W.frozen? ⟨dp, 1, none⟩ = false
  row : IRow W a ts cap
  least : k ≤ ts.length
  few : ts.length ≤ 400
  other : ∀ b off, a = some ⟨b, off, none⟩ → 0 < ts.length → b ≠ dp

theorem Dice.below {W W' : World} {dp : Nat} {a : Option Addr} {cap : Nat} {ts : List Int} {k : Nat} (h : Dice W dp a cap ts k) (hb : Below W.heap.size W W') : Dice W' dp a cap ts k :=
  ⟨(hb.cell (p := ⟨dp, 0, none⟩) (lt_of_cell h.list)).trans h.list, (hb.cell (p := ⟨dp, 1, none⟩) (lt_of_cell h.at')).trans h.at', (hb.frozen (p := ⟨dp, 1, none⟩) (lt_of_cell h.at')).trans h.free, h.row.below hb, h.least, h.few, h.other⟩
theorem Dice.lt {W : World} {dp : Nat} {a : Option Addr} {cap : Nat} {ts : List Int} {k : Nat} (h : Dice W dp a cap ts k) : dp < W.heap.size := lt_of_cell h.list
theorem Dice.alloc {W : World} {dp : Nat} {a : Option Addr} {cap : Nat} {ts : List Int} {k : Nat} (h : Dice W dp a cap ts k) (o : Obj) : Dice (W.alloc o) dp a cap ts k :=
  h.below ((Below.refl _ W).alloc (Nat.le_refl _) _)
theorem Dice.drewN {W : World} {dp : Nat} {a : Option Addr} {cap : Nat} {ts : List Int} {k : Nat} (h : Dice W dp a cap ts k) (n : Nat) : Dice (W.drewN n) dp a cap ts k :=
  ⟨h.list, h.at', h.free, h.row.drewN n, h.least, h.few, h.other⟩
/-- One number more has been given out. -/
theorem Dice.next {W : World} {dp : Nat} {a : Option Addr} {cap : Nat} {ts : List Int} {k : Nat} (h : Dice W dp a cap ts k) (hk : k < ts.length) : Dice (W.setCell ⟨dp, 1, none⟩ (.int .i64 ((k : Int) + 1))) dp a cap ts (k + 1) :=
  ⟨(World.cell?_setCell_other _ _ _ _ (by intro e; cases e)).trans h.list, World.cell?_setCell_same' _ _ _ (by rw [h.at']; rfl), (World.frozen?_setCell _ _ _ _).trans h.free,
    ⟨h.row.room, h.row.most, fun j hj => by
      obtain ⟨b, off, e, hc⟩ := h.row.el j hj
      exact ⟨b, off, e, (cell_other _ (by intro e2; exact h.other b off e (by omega) e2)).trans hc⟩⟩, by omega, h.few, h.other⟩


/-- What Next gives: a number below n; only the dice have turned. -/
def NextPost (w : World) (dp : Nat) (a : Option Addr) (cap : Nat) (ts : List Int) (n : Nat) (e : Ending) (W : World) : Prop :=
  ∃ (r k' : Nat), r < n ∧ e = .returned (.int .i64 (r : Int)) ∧ Dice W dp a cap ts k' ∧ w.grownBy W (some dp)

theorem roll_dice {a : Option Addr} {cap : Nat} {ts : List Int} {w : World} (hr : IRow w a ts cap) (hf : ts.length ≤ 400) (t : TypeId) : Dice (w.alloc (.cells #[.slice a ts.length cap, .int .i64 0] t)) w.heap.size a cap ts 0 := by
  have hb : (w.alloc (.cells #[.slice a ts.length cap, .int .i64 0] t)).heap[w.heap.size]? = some (.cells #[.slice a ts.length cap, .int .i64 0] t) := Array.getElem?_push_size
  refine ⟨?_, ?_, ?_, hr.alloc _, Nat.zero_le _, hf, fun b off e hl => ?_⟩
  · rw [cell_of_row _ _ 0 _ _ _ hb]; rfl
  · rw [cell_of_row _ _ 1 _ _ _ hb]; rfl
  · unfold World.frozen?; rw [hb]; rfl
  · obtain ⟨b', off', e', hc⟩ := hr.el 0 hl
    rw [e] at e'; cases e'
    have h := lt_of_cell hc
    exact Nat.ne_of_lt h
theorem Dice.belowAt {W W' : World} {B dp : Nat} {a : Option Addr} {cap : Nat} {ts : List Int} {k : Nat} (h : Dice W dp a cap ts k) (hb : Below B W W') (hdp : dp < B) (hf : ∀ b off, a = some ⟨b, off, none⟩ → 0 < ts.length → b < B) : Dice W' dp a cap ts k :=
  ⟨(hb.cell (p := ⟨dp, 0, none⟩) hdp).trans h.list, (hb.cell (p := ⟨dp, 1, none⟩) hdp).trans h.at', (hb.frozen (p := ⟨dp, 1, none⟩) hdp).trans h.free,
    ⟨h.row.room, h.row.most, fun j hj => by
      obtain ⟨b, off, e, hc⟩ := h.row.el j hj
      exact ⟨b, off, e, (hb.cell (p := ⟨b, off + j, none⟩) (hf b off e (by omega))).trans hc⟩⟩, h.least, h.few, h.other⟩
theorem Dice.far {W : World} {dp : Nat} {a : Option Addr} {cap : Nat} {ts : List Int} {k : Nat} (h : Dice W dp a cap ts k) : ∀ b off, a = some ⟨b, off, none⟩ → 0 < ts.length → b < W.heap.size := fun b off e h0 => by
  obtain ⟨b', off', e', hc⟩ := h.row.el 0 h0
  rw [e] at e'; cases e'
  exact lt_of_cell hc
theorem grown_then {w W W' : World} {row : Option Nat} (h : w.grownBy W row) (hb : Below w.heap.size W W') : w.grownBy W' row :=
  ⟨hb.os.trans h.os, hb.tape.trans h.tape, hb.output.trans h.output, Nat.le_trans h.size hb.size, fun k hk hne => (hb.block k hk).trans (h.block k hk hne)⟩

end Go.Proofs.YtmejneobfkbgeaaDoor.G

namespace Go.Proofs.YtmejneobfkbgeaaDoor.G
open Go Go.RowKit Go.Shelf

end Go.Proofs.YtmejneobfkbgeaaDoor.G

namespace Go.Proofs.YtmejneobfkbgeaaDoor.CS
open Go Go.RowKit Go.Shelf
open C (codeV Ok)
open G (Box IRow Dice)

theorem box4_at {W : World} {p : Nat} {t : TypeId} {v0 v1 v2 v3 : Value} (h : Box W p t [v0, v1, v2, v3]) : W.cell? ⟨p, 0, none⟩ = some v0 ∧ W.cell? ⟨p, 1, none⟩ = some v1 ∧ W.cell? ⟨p, 2, none⟩ = some v2 ∧ W.cell? ⟨p, 3, none⟩ = some v3 :=
  ⟨h.cell 0 rfl, h.cell 1 rfl, h.cell 2 rfl, h.cell 3 rfl⟩
theorem grown_setCell4 {w W : World} {r : Option Nat} {p : Nat} {u0 u1 u2 u3 : Value} (hg : w.grownBy W r) (hr : w.heap.size ≤ p ∨ r = some p) : w.grownBy ((((W.setCell ⟨p, 0, none⟩ u0).setCell ⟨p, 1, none⟩ u1).setCell ⟨p, 2, none⟩ u2).setCell ⟨p, 3, none⟩ u3) r :=
  G.grown_setCell (G.grown_setCell (G.grown_setCell (G.grown_setCell hg (a := ⟨p, 0, none⟩) u0 hr) (a := ⟨p, 1, none⟩) u1 hr) (a := ⟨p, 2, none⟩) u2 hr) (a := ⟨p, 3, none⟩) u3 hr
/-- A struct of four is stored in a box. -/
theorem name4 {W : World} {p : Nat} {t : TypeId} {v0 v1 v2 v3 : Value} (h : Box W p t [v0, v1, v2, v3]) (u0 u1 u2 u3 : Value) : ∃ Wa Wb Wc Wd : World, W.setCell ⟨p, 0, none⟩ u0 = Wa ∧ Wa.setCell ⟨p, 1, none⟩ u1 = Wb ∧ Wb.setCell ⟨p, 2, none⟩ u2 = Wc ∧ Wc.setCell ⟨p, 3, none⟩ u3 = Wd ∧
    (W.cell? ⟨p, 0, none⟩ = some v0 ∧ W.frozen? ⟨p, 0, none⟩ = false ∧ Wa.cell? ⟨p, 1, none⟩ = some v1 ∧ Wa.frozen? ⟨p, 1, none⟩ = false ∧ Wb.cell? ⟨p, 2, none⟩ = some v2 ∧ Wb.frozen? ⟨p, 2, none⟩ = false ∧ Wc.cell? ⟨p, 3, none⟩ = some v3 ∧ Wc.frozen? ⟨p, 3, none⟩ = false) ∧
    Box Wd p t [u0, u1, u2, u3] ∧ (∀ (w : World) (r : Option Nat), w.grownBy W r → (w.heap.size ≤ p ∨ r = some p) → w.grownBy Wd r) ∧ (∀ (B : Nat) (w : World), Below B w W → B ≤ p → Below B w Wd) ∧ Below p W Wd ∧ Wd.heap.size = W.heap.size := by
  have h1 := h.set 0 u0
  have h2 := h1.set 1 u1
  have h3 := h2.set 2 u2
  have h4 := h3.set 3 u3
  refine ⟨_, _, _, _, rfl, rfl, rfl, rfl, ⟨h.cell 0 rfl, h.free 0, h1.cell 1 rfl, h1.free 1, h2.cell 2 rfl, h2.free 2, h3.cell 3 rfl, h3.free 3⟩, h4, fun w r hg hr => ?_, fun B w hb hp => ?_, ?_, by simp [World.setCell]⟩
  · exact grown_setCell4 hg hr
  · exact (((hb.setCell (p := ⟨p, 0, none⟩) hp _).setCell (p := ⟨p, 1, none⟩) hp _).setCell (p := ⟨p, 2, none⟩) hp _).setCell (p := ⟨p, 3, none⟩) hp _
  · exact ((((Below.refl p W).setCell (p := ⟨p, 0, none⟩) (Nat.le_refl p) _).setCell (p := ⟨p, 1, none⟩) (Nat.le_refl p) _).setCell (p := ⟨p, 2, none⟩) (Nat.le_refl p) _).setCell (p := ⟨p, 3, none⟩) (Nat.le_refl p) _
theorem new_code (W : World) (D C F : Nat) : ∃ (p : Nat) (W1 W2 : World), W.heap.size = p ∧ W.alloc (.cells #[.int .i64 0, .int .i64 0, .int .i64 0, .int .i64 0] 44) = W1 ∧
    (∃ Wa Wb Wc : World, W1.setCell ⟨p, 0, none⟩ (.int .i64 2) = Wa ∧ Wa.setCell ⟨p, 1, none⟩ (.int .i64 (D : Int)) = Wb ∧ Wb.setCell ⟨p, 2, none⟩ (.int .i64 (C : Int)) = Wc ∧ Wc.setCell ⟨p, 3, none⟩ (.int .i64 (F : Int)) = W2 ∧
      W1.cell? ⟨p, 0, none⟩ = some (.int .i64 0) ∧ W1.frozen? ⟨p, 0, none⟩ = false ∧ Wa.cell? ⟨p, 1, none⟩ = some (.int .i64 0) ∧ Wa.frozen? ⟨p, 1, none⟩ = false ∧ Wb.cell? ⟨p, 2, none⟩ = some (.int .i64 0) ∧ Wb.frozen? ⟨p, 2, none⟩ = false ∧ Wc.cell? ⟨p, 3, none⟩ = some (.int .i64 0) ∧ Wc.frozen? ⟨p, 3, none⟩ = false) ∧
    Box W2 p 44 [.int .i64 2, .int .i64 (D : Int), .int .i64 (C : Int), .int .i64 (F : Int)] ∧ Below W.heap.size W W2 ∧ p < W2.heap.size := by
  have hb0 := Box.new W 44 [.int .i64 0, .int .i64 0, .int .i64 0, .int .i64 0]
  have hb1 : Below W.heap.size W (W.alloc (.cells #[.int .i64 0, .int .i64 0, .int .i64 0, .int .i64 0] 44)) := (Below.refl _ W).alloc (Nat.le_refl _) _
  obtain ⟨Wa, Wb, Wc, W2, e1, e2, e3, e4, ⟨f1, f2, f3, f4, f5, f6, f7, f8⟩, hbx, _, hbe, _, _⟩ := name4 hb0 (.int .i64 2) (.int .i64 (D : Int)) (.int .i64 (C : Int)) (.int .i64 (F : Int))
  exact ⟨_, _, W2, rfl, rfl, ⟨Wa, Wb, Wc, e1, e2, e3, e4, f1, f2, f3, f4, f5, f6, f7, f8⟩, hbx, hbe _ _ hb1 (Nat.le_refl _), hbx.lt⟩

/-- What Symbols gives: a valid code. -/
def SymPost (w : World) (dp : Nat) (a : Option Addr) (cap : Nat) (ts : List Int) (e : Ending) (W : World) : Prop :=
  ∃ (D C F k' : Nat), Ok D C F ∧ e = .returned (codeV D C F) ∧ Dice W dp a cap ts k' ∧ w.grownBy W (some dp)
theorem box_grown {w W W' : World} {p dp : Nat} {t : TypeId} {vs : List Value} (h : Box W p t vs) (hg : W.grownBy W' (some dp)) (hd : dp < w.heap.size) (hp : w.heap.size ≤ p) : Box W' p t vs :=
  h.grown hg (by intro e; cases e; omega)

end Go.Proofs.YtmejneobfkbgeaaDoor.CS

namespace Go.Proofs.YtmejneobfkbgeaaDoor
open Go Go.RowKit Go.Shelf

namespace C
set_option maxRecDepth 100000 in
set_option maxHeartbeats 2000000 in
/-- **awake** -/
theorem awake_yes (u : World) : Calls Tryd.prog 7 #[] u fun e W => e = .returned (.bool true) ∧ Below u.heap.size u W := by
  have HW := Lib.hid (fun W => (show Calls Tryd.prog 18 #[.agg #[.int .i64 2, .int .i64 1, .int .i64 1, .int .i64 0], .int .i64 2] W fun e W' => NumE 255 e W' ∧ Below W.heap.size W W' from by
    have h := Words_any ok11 2 (by omega) W
    rw [words112] at h
    exact h))
  have HC := Lib.hid chance_112
  have HB' := Lib.hid (fun W => (show Calls Tryd.prog 4 #[.int .i64 2] W fun e W' => (∃ a c, e = .returned (.tuple #[.agg #[.slice a 0 c], .int .i64 0]) ∧ Row W' a [] c) ∧ Below W.heap.size W W' from by
    have h := wrongBits_any 2 (by omega) W
    rw [wb2] at h
    refine h.mono ?_
    rintro e W' ⟨⟨a, c, h1, h2⟩, h3⟩
    rw [M.dig_zero] at h1 h2
    exact ⟨⟨a, c, h1, h2⟩, h3⟩))
  obtain ⟨pc, u0, u1, hpc, hu0, hst, hbx1, hB1, _⟩ := CS.new_code u 1 1 0
  obtain ⟨Wa, Wb, Wc, e1, e2, e3, e4, f1, f2, f3, f4, f5, f6, f7, f8⟩ := hst
  obtain ⟨k0, k1, k2, k3⟩ := CBox.at (show CBox u1 pc 1 1 0 from hbx1)
  have k1' : u1.cell? ⟨pc, 1, none⟩ = some (.int .i64 1) := k1
  have k2' : u1.cell? ⟨pc, 2, none⟩ = some (.int .i64 1) := k2
  have k3' : u1.cell? ⟨pc, 3, none⟩ = some (.int .i64 0) := k3
  have e2' : Wa.setCell ⟨pc, 1, none⟩ (.int .i64 1) = Wb := e2
  have e3' : Wb.setCell ⟨pc, 2, none⟩ (.int .i64 1) = Wc := e3
  have e4' : Wc.setCell ⟨pc, 3, none⟩ (.int .i64 0) = u1 := e4
  have HX := Lib.hid (show CBox u1 pc 1 1 0 from hbx1)
  have HB := Lib.hid hB1
  clear hbx1 hB1 k1 k2 k3 e2 e3 e4
  go_enter Tryd.func7, Tryd.ntmps7
  go_wp2_with fail
  (with_reducible refine (HW.out _).mono ?_)
  rintro e w1 ⟨⟨a, ca, rfl, hr⟩, hb1⟩
  obtain ⟨pa, hpa⟩ : ∃ p, w1.heap.size = p := ⟨_, rfl⟩
  obtain ⟨w2, hw2⟩ : ∃ w2, w1.alloc (.cells #[.slice a (M.dig 255).length ca] 24) = w2 := ⟨_, rfl⟩
  have hbw : Below w1.heap.size w1 w2 := by rw [← hw2]; exact (Below.refl _ w1).alloc (Nat.le_refl _) _
  have hb12 := hb1.trans (hbw.mono hb1.size)
  have ha2 : w2.cell? ⟨pa, 0, none⟩ = some (.slice a (M.dig 255).length ca) := by rw [← hw2, ← hpa]; exact cell_new _ _ _
  have HA2 := Lib.hid ha2
  have HRA := Lib.hid (hr.below hbw)
  have HX2 := Lib.hid (HX.out.below hb12)
  have HB2 := Lib.hid (HB.out.trans (hb12.mono HB.out.size))
  obtain ⟨q0, q1, q2, q3⟩ := HX2.out.at
  have q1' : w2.cell? ⟨pc, 1, none⟩ = some (.int .i64 1) := q1
  have q2' : w2.cell? ⟨pc, 2, none⟩ = some (.int .i64 1) := q2
  have q3' : w2.cell? ⟨pc, 3, none⟩ = some (.int .i64 0) := q3
  clear hr hb1 hbw hb12 ha2 HX HB k0 k1' k2' k3' q1 q2 q3 HW
  go_wp2_with fail
  (with_reducible refine (HC.out _).mono ?_)
  rintro e w3 ⟨⟨v, rfl, b, cb, d, cd, rfl, hrb, hrd⟩, hb3⟩
  have hrv := RVar.new hrb hrd
  obtain ⟨pb, hpb⟩ : ∃ p, w3.heap.size = p := ⟨_, rfl⟩
  obtain ⟨w4, hw4⟩ : ∃ w4, w3.alloc (.cells #[.slice b (M.dig 1).length cb, .slice d (M.dig 255).length cd] 47) = w4 := ⟨_, rfl⟩
  have hbw : Below w3.heap.size w3 w4 := by rw [← hw4]; exact (Below.refl _ w3).alloc (Nat.le_refl _) _
  rw [hw4, hpb] at hrv
  have hb34 := hb3.trans (hbw.mono hb3.size)
  have HRV := Lib.hid hrv
  have HA4 := Lib.hid ((hb34.cell (lt_of_cell HA2.out)).trans HA2.out)
  have HRA4 := Lib.hid (HRA.out.below hb34)
  have HB4 := Lib.hid (HB2.out.trans (hb34.mono HB2.out.size))
  clear hrb hrd hrv hb3 hbw hb34 HX2 HB2 HC q0 q1' q2' q3' HRA HA2
  go_wp2_with fail
  (with_reducible refine (HB'.out _).mono ?_)
  rintro e w5 ⟨⟨f, cf, rfl, hrf⟩, hb5⟩
  obtain ⟨pf, hpf⟩ : ∃ p, w5.heap.size = p := ⟨_, rfl⟩
  obtain ⟨w6, hw6⟩ : ∃ w6, w5.alloc (.cells #[.slice f 0 cf] 24) = w6 := ⟨_, rfl⟩
  have hbw : Below w5.heap.size w5 w6 := by rw [← hw6]; exact (Below.refl _ w5).alloc (Nat.le_refl _) _
  have hb56 := hb5.trans (hbw.mono hb5.size)
  have hf6 : w6.cell? ⟨pf, 0, none⟩ = some (.slice f 0 cf) := by rw [← hw6, ← hpf]; exact cell_new _ _ _
  have HF6 := Lib.hid hf6
  have HRF := Lib.hid (hrf.below hbw)
  have HV6 := Lib.hid (HRV.out.below hb56)
  have ha6 := (hb56.cell (lt_of_cell HA4.out)).trans HA4.out
  have HP1 := Lib.hid (print_255 (HRA4.out.below hb56))
  have HB6 := Lib.hid (HB4.out.trans (hb56.mono HB4.out.size))
  clear hrf hb5 hbw hb56 hf6 HRV HA4 HRA4 HB4 HB'
  go_wp2_with fail
  (with_reducible refine HP1.out.mono ?_)
  rintro e w7 ⟨rfl, hb7⟩
  have HV7 := Lib.hid (HV6.out.below hb7)
  have p0 := HV7.out.c0
  have p1 := HV7.out.c1
  have HP2 := Lib.hid (ratPrint_1255 HV7.out.val)
  have HF7 := Lib.hid ((hb7.cell (lt_of_cell HF6.out)).trans HF6.out)
  have HRF7 := Lib.hid (HRF.out.below hb7)
  have HB7 := Lib.hid (HB6.out.trans (hb7.mono HB6.out.size))
  clear hb7 HV6 HV7 HF6 HRF HB6 HP1 ha6
  go_wp2_with fail
  (with_reducible refine HP2.out.mono ?_)
  rintro e w8 ⟨rfl, hb8⟩
  have f8 := (hb8.cell (lt_of_cell HF7.out)).trans HF7.out
  have HP3 := Lib.hid (print_zero f cf w8 (HRF7.out.below hb8))
  have HB8 := Lib.hid (HB7.out.trans (hb8.mono HB7.out.size))
  clear hb8 HP2 HF7 HRF7 HB7 p0 p1
  go_wp2_with fail
  (with_reducible refine HP3.out.mono ?_)
  rintro e w9 ⟨rfl, hb9⟩
  have HB9 := Lib.hid (HB8.out.trans (hb9.mono HB8.out.size))
  clear hb9
  go_wp2_with fail
  go_ret
  exact ⟨rfl, HB9.out⟩
end C
end Go.Proofs.YtmejneobfkbgeaaDoor

namespace Go.Proofs.YtmejneobfkbgeaaDoor.G
open Go Go.RowKit Go.Shelf

def FB (W : World) (g : Nat) (t : TypeId) (N : Nat) (f : Nat → Value) : Prop := Box W g t ((List.range N).map f)
section
variable {W W' : World} {g N : Nat} {t : TypeId} {f : Nat → Value}
theorem fb_at (N : Nat) (f : Nat → Value) {k : Nat} (hk : k < N) : ((List.range N).map f)[k]? = some (f k) := by
  rw [List.getElem?_map, List.getElem?_range hk]; rfl
theorem FB.cell (h : FB W g t N f) {k : Nat} (hk : k < N) : W.cell? ⟨g, k, none⟩ = some (f k) := Box.cell h k (fb_at N f hk)
theorem FB.free (h : FB W g t N f) (k : Nat) : W.frozen? ⟨g, k, none⟩ = false := Box.free h k
theorem FB.lt (h : FB W g t N f) : g < W.heap.size := Box.lt h
theorem FB.below (h : FB W g t N f) (hb : Below W.heap.size W W') : FB W' g t N f := Box.below h hb
theorem FB.belowAt {B : Nat} (h : FB W g t N f) (hb : Below B W W') (hg : g < B) : FB W' g t N f := Box.belowAt h hb hg
theorem FB.alloc (h : FB W g t N f) (o : Obj) : FB (W.alloc o) g t N f := Box.alloc h o
theorem FB.other (h : FB W g t N f) {q : Addr} (hq : q.block ≠ g) (u : Value) : FB (W.setCell q u) g t N f := Box.other h hq u
theorem FB.grown {row : Option Nat} (h : FB W g t N f) (hg : W.grownBy W' row) (hne : some g ≠ row) : FB W' g t N f := Box.grown h hg hne
theorem FB.congr {f' : Nat → Value} (h : FB W g t N f) (he : ∀ k, k < N → f k = f' k) : FB W g t N f' := by
  unfold FB at h ⊢
  rwa [show (List.range N).map f' = (List.range N).map f from List.map_congr_left (fun k hk => (he k (List.mem_range.1 hk)).symm)]
theorem FB.set (h : FB W g t N f) (k : Nat) (v : Value) : FB (W.setCell ⟨g, k, none⟩ v) g t N (fun j => if j = k then v else f j) := by
  have h1 := Box.set h k v
  have e : ((List.range N).map f).set k v = (List.range N).map (fun j => if j = k then v else f j) := by
    refine List.ext_getElem (by simp) (fun j h1 h2 => ?_)
    rw [List.getElem_set, List.getElem_map, List.getElem_map, List.getElem_range]
    by_cases hj : k = j
    · rw [if_pos hj, if_pos hj.symm]
    · rw [if_neg hj, if_neg (fun e => hj e.symm)]
  rw [e] at h1
  exact h1
/-- Two cells, one behind the other. -/
theorem FB.set2 (h : FB W g t N f) (k : Nat) (v u : Value) : FB ((W.setCell ⟨g, k, none⟩ v).setCell ⟨g, k + 1, none⟩ u) g t N (fun j => if j = k + 1 then u else if j = k then v else f j) := (h.set k v).set (k + 1) u
theorem FB.new (W : World) (t : TypeId) (N : Nat) (f : Nat → Value) : FB (W.alloc (.cells ((List.range N).map f).toArray t)) W.heap.size t N f := Box.new W t _
end
attribute [irreducible] FB
end Go.Proofs.YtmejneobfkbgeaaDoor.G

namespace Go.Proofs.YtmejneobfkbgeaaDoor
open Go Go.RowKit Go.Shelf
namespace C
theorem grid_info : ∃ i : TypeInfo, Tryd.prog.info? 42 = some i ∧ (∃ z : Value, i.zero = some z ∧ z.cells = Array.replicate 512 (.int .i64 0)) ∧ i.size = 512 ∧ i.bytes ≤ 4096 := by
  obtain ⟨i, hi⟩ : ∃ i, Tryd.prog.info? 42 = some i := Option.isSome_iff_exists.1 (by kernel_rfl)
  refine ⟨i, hi, ?_, ?_, ?_⟩
  · have h : (Tryd.prog.info? 42).bind (fun i => i.zero.map Value.cells) = some (Array.replicate 512 (.int .i64 0)) := by kernel_rfl
    rw [hi] at h
    simp only [Option.bind_some] at h
    cases hz : i.zero with
    | none => rw [hz] at h; cases h
    | some z => rw [hz] at h; exact ⟨z, rfl, Option.some.inj h⟩
  · have h : (Tryd.prog.info? 42).map (fun i => i.size) = some 512 := by kernel_rfl
    rw [hi] at h
    exact Option.some.inj h
  · have h : (Tryd.prog.info? 42).map (fun i => decide (i.bytes ≤ 4096)) = some true := by kernel_rfl
    rw [hi] at h
    exact of_decide_eq_true (Option.some.inj h)
set_option maxRecDepth 100000 in
theorem make_grid (W : World) (n : Nat) (hn : n ≤ 100) : ∃ W', (Instr.makeSlice 40 (.int .i64 (n : Int)) (.int .i64 (n : Int))).run Tryd.prog W = .ok (.slice (some ⟨W.heap.size, 0, none⟩) n n) W' ∧ (0 < n → G.FB W' W.heap.size 42 (n * 512) (fun _ => .int .i64 0)) ∧ Below W.heap.size W W' := by
  obtain ⟨i, hi, ⟨z, hz, hzc⟩, hs, hby⟩ := grid_info
  obtain ⟨W', hrun, hown, hgrow⟩ := run_make_full (P := Tryd.prog) (w := W) W.heap.size 40 42 i z 512 Tryd.underlying40 hi hz hs .i64 .i64 n (by have := Nat.mul_le_mul hby hn; omega) (by unfold maxLen; omega) (Nat.le_refl _)
  refine ⟨W', hrun, fun h0 => ?_, (Below.refl _ W).grown hgrow (Nat.le_refl _) (fun k e => by cases e)⟩
  obtain ⟨h1, h2 | ⟨g, cap, cur, hv, hg, hh, r1, r2, r3, r4⟩⟩ := hown
  · cases h2.1
  · have hinj := Value.slice.inj hv
    obtain ⟨ea, _, ec⟩ := hinj
    have hgg : W.heap.size = g := by have := Option.some.inj ea; exact congrArg Addr.block this
    subst hgg
    unfold G.FB G.Box
    rw [hh]
    refine congrArg (fun c => some (Obj.cells c 42 (0, 0))) ?_
    have hl : cur.toList.length = n * 512 := by rw [Array.length_toList, r3, ← ec]
    rw [List.take_of_length_le (by rw [hl]; exact Nat.le_refl _)] at r4
    have he : (madeCells z.cells (n * 512)).toList = (List.range (n * 512)).map (fun _ => .int .i64 0) := by
      unfold madeCells
      rw [hzc]
      simp only [Array.toList_map, Array.toList_range]
      refine List.map_congr_left (fun k _ => ?_)
      have : k % 512 < 512 := Nat.mod_lt _ (by decide)
      simp [this]
    rw [he] at r4
    exact Array.ext' (by rw [r4])
/-- The make, as the walk meets it. -/
theorem wpList_makeGrid {W : World} {ops : Array Oper} {rest : List Oper} {o : Oper} {a : Act} {Q : Exit → Act → World → Prop} (hgd : o.guard = none) (l c : Operand) (hop : o.op = Op.makeSlice 40 l c)
    (n : Nat) {L : Int} (hl : a.eval l = .int .i64 L) (hc : a.eval c = .int .i64 L) (hL : L = (n : Int)) (hn : n ≤ 100) (h0 : 0 < n)
    (h : ∀ W', G.FB W' W.heap.size 42 (n * 512) (fun _ => .int .i64 0) → Below W.heap.size W W' → wpList Tryd.prog ops Q rest (a.put o.dst (.slice (some ⟨W.heap.size, 0, none⟩) n n)) W') : wpList Tryd.prog ops Q (o :: rest) a W :=
  wpList_plain hgd fun _ hK => by
    obtain ⟨W', hrun, hfb, hb⟩ := make_grid W n hn
    subst hL
    unfold Oper.wp
    simp [execOp, hop, hl, hc, hrun, Result.andThen]
    exact hK _ _ (h W' (hfb h0) hb)
end C
end Go.Proofs.YtmejneobfkbgeaaDoor

namespace Go.Proofs.YtmejneobfkbgeaaDoor.CB

def colN : List Nat := [7, 11, 13, 14, 19, 21, 22, 25, 26, 28, 35, 37, 38, 41, 42, 44, 49, 50, 52, 56, 67, 69, 70, 73, 74, 76, 81, 82, 84, 88, 97, 98, 100, 104, 112, 131, 133, 134, 137, 138, 140, 145, 146, 148, 152, 161, 162, 164, 168, 176, 193, 194, 196, 200, 208, 224, 31, 47, 55, 59, 61, 62, 79, 87, 1, 2, 4, 8, 16, 32, 64, 128]
def cl (b : Nat) : Nat := colN.getD b 0
/-- How many sets of k of the first b bits have the syndrome s. -/
def nn : Nat → Nat → Nat → Nat
  | 0, k, s => if k = 0 ∧ s = 0 then 1 else 0
  | b + 1, 0, s => nn b 0 s
  | b + 1, k + 1, s => nn b (k + 1) s + nn b k (s ^^^ cl b)
theorem nn_le : ∀ b k s, nn b k s ≤ 2 ^ b
  | 0, k, s => by unfold nn; split <;> decide
  | b + 1, 0, s => by
    have := nn_le b 0 s
    rw [nn, Nat.pow_succ]; omega
  | b + 1, k + 1, s => by
    have h1 := nn_le b (k + 1) s
    have h2 := nn_le b k (s ^^^ cl b)
    rw [nn, Nat.pow_succ]; omega
theorem nn_gt : ∀ b k s, b < k → nn b k s = 0
  | 0, k, s, h => by unfold nn; rw [if_neg (by omega)]
  | b + 1, 0, s, h => by omega
  | b + 1, k + 1, s, h => by rw [nn, nn_gt b (k + 1) s (by omega), nn_gt b k _ (by omega)]
/-- Packed: the coefficient of BB ^ k is for k. -/
def BB : Nat := 2 ^ 80
def pks (f : Nat → Nat) : Nat → Nat
  | 0 => 0
  | n + 1 => pks f n + f n * BB ^ n
theorem pks_congr {f g : Nat → Nat} {n : Nat} (h : ∀ k, k < n → f k = g k) : pks f n = pks g n := by
  induction n with
  | zero => rfl
  | succ n ih => rw [pks, pks, ih (fun k hk => h k (by omega)), h n (by omega)]
theorem pks_add (f g : Nat → Nat) (n : Nat) : pks (fun k => f k + g k) n = pks f n + pks g n := by
  induction n with
  | zero => rfl
  | succ n ih => rw [pks, pks, pks, ih, Nat.add_mul]; omega
def dn (f : Nat → Nat) : Nat → Nat
  | 0 => 0
  | k + 1 => f k
theorem pks_dn (f : Nat → Nat) (n : Nat) : pks (dn f) (n + 1) = BB * pks f n := by
  induction n with
  | zero => simp [pks, dn]
  | succ n ih =>
    rw [pks, ih, pks, Nat.mul_add]
    congr 1
    show f n * BB ^ (n + 1) = _
    rw [Nat.pow_succ, ← Nat.mul_assoc, Nat.mul_comm]
def pk (b s : Nat) : Nat := pks (fun k => nn b k s) 73
theorem pk_succ {b : Nat} (hb : b < 72) (s : Nat) : pk (b + 1) s = pk b s + BB * pk b (s ^^^ cl b) := by
  have e : pk (b + 1) s = pks (fun k => nn b k s + dn (fun k => nn b k (s ^^^ cl b)) k) 73 := pks_congr (fun k _ => by
    cases k with
    | zero => rw [nn]; rfl
    | succ k => rw [nn]; rfl)
  rw [e, pks_add, pks_dn]
  have e2 : pk b (s ^^^ cl b) = pks (fun k => nn b k (s ^^^ cl b)) 72 := by
    unfold pk
    rw [pks, nn_gt b 72 _ hb, Nat.zero_mul, Nat.add_zero]
  rw [← e2]; rfl
/-- A tree of all syndromes, the lowest bit first. -/
inductive T where
  | leaf (n : Nat)
  | node (l r : T)
def bld : Nat → (Nat → Nat) → T
  | 0, f => .leaf (f 0)
  | d + 1, f => .node (bld d (fun s => f (2 * s))) (bld d (fun s => f (2 * s + 1)))
def xr : Nat → Nat → T → T
  | 0, _, t => t
  | d + 1, c, .node l r => if c % 2 = 0 then .node (xr d (c / 2) l) (xr d (c / 2) r) else .node (xr d (c / 2) r) (xr d (c / 2) l)
  | _ + 1, _, t => t
def zp : T → T → T
  | .leaf a, .leaf b => .leaf (a + BB * b)
  | .node a b, .node c d => .node (zp a c) (zp b d)
  | t, _ => t
def lk : Nat → Nat → T → Nat
  | 0, _, .leaf n => n
  | d + 1, s, .node l r => if s % 2 = 0 then lk d (s / 2) l else lk d (s / 2) r
  | _, _, _ => 0
theorem bld_congr {d : Nat} : ∀ {f g : Nat → Nat}, (∀ s, f s = g s) → bld d f = bld d g := fun {f g} h => by
  rw [show f = g from funext h]
theorem zp_bld (d : Nat) : ∀ f g : Nat → Nat, zp (bld d f) (bld d g) = bld d (fun s => f s + BB * g s) := by
  induction d with
  | zero => intro f g; rfl
  | succ d ih =>
    intro f g
    show T.node _ _ = T.node _ _
    rw [ih, ih]
theorem lk_bld (d : Nat) : ∀ (f : Nat → Nat) (s : Nat), s < 2 ^ d → lk d s (bld d f) = f s := by
  induction d with
  | zero =>
    intro f s hs
    rw [show s = 0 by omega]; rfl
  | succ d ih =>
    intro f s hs
    rw [Nat.pow_succ] at hs
    rw [bld, lk]
    by_cases h : s % 2 = 0
    · rw [if_pos h, ih _ _ (by omega)]
      show f (2 * (s / 2)) = f s
      rw [show 2 * (s / 2) = s by omega]
    · rw [if_neg h, ih _ _ (by omega)]
      show f (2 * (s / 2) + 1) = f s
      rw [show 2 * (s / 2) + 1 = s by omega]
theorem xor_two (s c e : Nat) (he : e < 2) : (2 * s + e) ^^^ c = 2 * (s ^^^ (c / 2)) + (e ^^^ (c % 2)) := by
  have h1 : ((2 * s + e) ^^^ c) / 2 = s ^^^ (c / 2) := by rw [Nat.xor_div_two]; congr 1; omega
  have h2 : ((2 * s + e) ^^^ c) % 2 = (e ^^^ (c % 2)) := by
    have := Nat.xor_mod_two_pow (a := 2 * s + e) (b := c) (n := 1)
    rw [Nat.pow_one] at this
    rw [this, show (2 * s + e) % 2 = e by omega]
  rw [← h1, ← h2]; omega
theorem xr_bld (d : Nat) : ∀ (f : Nat → Nat) (c : Nat), xr d c (bld d f) = bld d (fun s => f (s ^^^ (c % 2 ^ d))) := by
  induction d with
  | zero =>
    intro f c
    show T.leaf (f 0) = T.leaf (f (0 ^^^ (c % 2 ^ 0)))
    rw [Nat.pow_zero, Nat.mod_one]; rfl
  | succ d ih =>
    intro f c
    have hc : c % 2 ^ (d + 1) / 2 = c / 2 % 2 ^ d := by
      rw [Nat.pow_succ, Nat.mul_comm, Nat.mod_mul_right_div_self]
    have hm : c % 2 ^ (d + 1) % 2 = c % 2 := by
      rw [Nat.pow_succ, Nat.mul_comm]; exact Nat.mod_mul_right_mod c 2 _
    rw [bld, xr]
    by_cases h : c % 2 = 0
    · rw [if_pos h, ih, ih, bld]
      congr 1
      · refine bld_congr (fun s => ?_)
        have := xor_two s (c % 2 ^ (d + 1)) 0 (by decide)
        rw [hc, hm, h] at this
        show f (2 * (s ^^^ (c / 2 % 2 ^ d))) = f (2 * s ^^^ (c % 2 ^ (d + 1)))
        rw [show 2 * s = 2 * s + 0 from rfl, this]; rfl
      · refine bld_congr (fun s => ?_)
        have := xor_two s (c % 2 ^ (d + 1)) 1 (by decide)
        rw [hc, hm, h] at this
        show f (2 * (s ^^^ (c / 2 % 2 ^ d)) + 1) = f ((2 * s + 1) ^^^ (c % 2 ^ (d + 1)))
        rw [this]; rfl
    · have h1 : c % 2 = 1 := by omega
      rw [if_neg h, ih, ih, bld]
      congr 1
      · refine bld_congr (fun s => ?_)
        have := xor_two s (c % 2 ^ (d + 1)) 0 (by decide)
        rw [hc, hm, h1] at this
        show f (2 * (s ^^^ (c / 2 % 2 ^ d)) + 1) = f (2 * s ^^^ (c % 2 ^ (d + 1)))
        rw [show 2 * s = 2 * s + 0 from rfl, this]; rfl
      · refine bld_congr (fun s => ?_)
        have := xor_two s (c % 2 ^ (d + 1)) 1 (by decide)
        rw [hc, hm, h1] at this
        show f (2 * (s ^^^ (c / 2 % 2 ^ d))) = f ((2 * s + 1) ^^^ (c % 2 ^ (d + 1)))
        rw [this]; rfl
theorem cl_lt : ∀ b, b < 72 → cl b < 256 := by decide +kernel
/-- The trees, bit by bit. -/
def tb : Nat → T
  | 0 => bld 8 (fun s => if s = 0 then 1 else 0)
  | b + 1 => zp (tb b) (xr 8 (cl b) (tb b))
theorem pk_zero (s : Nat) : pk 0 s = if s = 0 then 1 else 0 := by
  have h : ∀ n, 1 ≤ n → pks (fun k => nn 0 k s) n = if s = 0 then 1 else 0 := by
    intro n
    induction n with
    | zero => intro h; omega
    | succ n ih =>
      intro _
      cases n with
      | zero =>
        rw [pks, pks, nn]
        by_cases hs : s = 0
        · rw [if_pos ⟨rfl, hs⟩, if_pos hs]; rfl
        · rw [if_neg (fun h => hs h.2), if_neg hs]; rfl
      | succ n =>
        have h0 : nn 0 (n + 1) s = 0 := by rw [nn, if_neg (fun h => absurd h.1 (Nat.succ_ne_zero n))]
        rw [pks, ih (by omega), h0, Nat.zero_mul, Nat.add_zero]
  exact h 73 (by decide)
theorem tb_eq : ∀ b, b ≤ 72 → tb b = bld 8 (pk b)
  | 0, _ => by
    rw [tb]
    exact bld_congr (fun s => (pk_zero s).symm)
  | b + 1, h => by
    rw [tb, tb_eq b (by omega), xr_bld, zp_bld]
    refine bld_congr (fun s => ?_)
    rw [Nat.mod_eq_of_lt (show cl b < 2 ^ 8 from cl_lt b (by omega)), pk_succ (by omega)]
/-- The sets of k bits whose syndrome is 0 or a column. -/
def colsum (f : Nat → Nat) : Nat → Nat
  | 0 => f 0
  | b + 1 => colsum f b + f (cl b)
def tot (k : Nat) : Nat := colsum (fun s => nn 72 k s) 72
theorem pks_colsum (b : Nat) : pks (fun k => colsum (fun s => nn 72 k s) b) 73 = colsum (pk 72) b := by
  induction b with
  | zero => rfl
  | succ b ih => rw [colsum, ← ih]; exact pks_add _ _ _
theorem colsum_congr {f g : Nat → Nat} (h : ∀ s, s < 256 → f s = g s) : ∀ b, b ≤ 72 → colsum f b = colsum g b
  | 0, _ => h 0 (by decide)
  | b + 1, hb => by rw [colsum, colsum, colsum_congr h b (by omega), h _ (cl_lt b (by omega))]
theorem tot_pack : pks tot 73 = colsum (fun s => lk 8 s (tb 72)) 72 := by
  rw [tb_eq 72 (Nat.le_refl _)]
  rw [colsum_congr (g := pk 72) (fun s hs => lk_bld 8 (pk 72) s hs) 72 (Nat.le_refl _)]
  exact pks_colsum 72
/-- The digits are determined. -/
theorem pks_lt {f : Nat → Nat} {n : Nat} (h : ∀ k, k < n → f k < BB) : pks f n < BB ^ n := by
  induction n with
  | zero => exact Nat.one_pos
  | succ n ih =>
    rw [pks, Nat.pow_succ]
    have h1 := ih (fun k hk => h k (by omega))
    have h2 : (f n + 1) * BB ^ n ≤ BB * BB ^ n := Nat.mul_le_mul_right _ (h n (by omega))
    rw [Nat.add_mul, Nat.one_mul] at h2
    rw [Nat.mul_comm (BB ^ n) BB]
    omega
theorem pks_inj {f g : Nat → Nat} {n : Nat} (hf : ∀ k, k < n → f k < BB) (hg : ∀ k, k < n → g k < BB) (h : pks f n = pks g n) : ∀ k, k < n → f k = g k := by
  induction n with
  | zero => intro k hk; omega
  | succ n ih =>
    rw [pks, pks] at h
    have h1 := pks_lt (f := f) (n := n) (fun k hk => hf k (by omega))
    have h2 := pks_lt (f := g) (n := n) (fun k hk => hg k (by omega))
    have e1 : (pks f n + f n * BB ^ n) / BB ^ n = f n := by
      rw [Nat.add_mul_div_right _ _ (Nat.lt_of_le_of_lt (Nat.zero_le _) h1), Nat.div_eq_of_lt h1, Nat.zero_add]
    have e2 : (pks g n + g n * BB ^ n) / BB ^ n = g n := by
      rw [Nat.add_mul_div_right _ _ (Nat.lt_of_le_of_lt (Nat.zero_le _) h2), Nat.div_eq_of_lt h2, Nat.zero_add]
    have e : f n = g n := by rw [← e1, ← e2, h]
    intro k hk
    by_cases hkn : k = n
    · rw [hkn, e]
    · rw [e] at h
      exact ih (fun k hk => hf k (by omega)) (fun k hk => hg k (by omega)) (by omega) k (by omega)
theorem colsum_le {f : Nat → Nat} {m : Nat} (h : ∀ s, f s ≤ m) : ∀ b, colsum f b ≤ (b + 1) * m
  | 0 => by rw [colsum]; have := h 0; omega
  | b + 1 => by
    have h1 := colsum_le h b
    have h2 := h (cl b)
    rw [colsum, Nat.add_mul (b + 1) 1 m, Nat.one_mul]; omega
theorem tot_lt (k : Nat) : tot k < BB := Nat.lt_of_le_of_lt (colsum_le (fun s => nn_le 72 k s) 72) (by unfold BB; decide)
/-- **If g's numbers pack to what the kernel reckons, they are the numbers of sets.** -/
theorem tot_eq {g : Nat → Nat} (hg : ∀ k, k < 73 → g k < BB) (h : pks g 73 = colsum (fun s => lk 8 s (tb 72)) 72) : ∀ k, k < 73 → tot k = g k :=
  pks_inj (fun k _ => tot_lt k) hg (tot_pack.trans h.symm)
end Go.Proofs.YtmejneobfkbgeaaDoor.CB

namespace Go.Proofs.YtmejneobfkbgeaaDoor.CB

/-- The counts when bit b has been added to all sizes above k and to the syndromes below s of size k. -/
def ST (b k s k' s' : Nat) : Nat := if k < k' ∨ (k' = k ∧ s' < s) then nn (b + 1) k' s' else nn b k' s'
theorem st_start {b w k' s' : Nat} (hk : k' ≤ w) : ST b (min w (b + 1)) 0 k' s' = nn b k' s' := by
  unfold ST
  by_cases h : min w (b + 1) < k' ∨ (k' = min w (b + 1) ∧ s' < 0)
  · rw [if_pos h]
    have hb : b + 1 < k' := by omega
    rw [nn_gt _ _ _ hb, nn_gt _ _ _ (by omega)]
  · rw [if_neg h]
theorem st_next {b k k' s' : Nat} (hs : s' < 256) : ST b (k + 1) 256 k' s' = ST b k 0 k' s' := by
  unfold ST
  by_cases h : k + 1 < k' ∨ (k' = k + 1 ∧ s' < 256)
  · rw [if_pos h, if_pos (by omega)]
  · rw [if_neg h, if_neg (by omega)]
theorem st_end (b k' s' : Nat) : ST b 0 0 k' s' = nn (b + 1) k' s' := by
  unfold ST
  by_cases h : 0 < k' ∨ (k' = 0 ∧ s' < 0)
  · rw [if_pos h]
  · rw [if_neg h]
    obtain rfl : k' = 0 := by omega
    rw [nn]
/-- What is read. -/
theorem st_here (b k s : Nat) : ST b k s k s = nn b k s := by
  unfold ST; rw [if_neg (by omega)]
theorem st_below (b k s s' : Nat) : ST b (k + 1) s k s' = nn b k s' := by
  unfold ST; rw [if_neg (by omega)]
/-- One number is written. -/
theorem st_step (b k s k' s' : Nat) : (if k' = k + 1 ∧ s' = s then nn b (k + 1) s + nn b k (s ^^^ cl b) else ST b (k + 1) s k' s') = ST b (k + 1) (s + 1) k' s' := by
  by_cases h : k' = k + 1 ∧ s' = s
  · obtain ⟨rfl, rfl⟩ := h
    rw [if_pos ⟨rfl, rfl⟩]
    unfold ST
    rw [if_pos (by omega), nn]
  · rw [if_neg h]
    unfold ST
    by_cases g : k + 1 < k' ∨ (k' = k + 1 ∧ s' < s)
    · rw [if_pos g, if_pos (by omega)]
    · rw [if_neg g, if_neg (by omega)]
/-- Two halves. -/
def half : Nat := 1000000000000000000
theorem half_low (a c : Nat) : (a % half + c % half) % half = (a + c) % half := (Nat.add_mod a c half).symm
theorem half_high (a c : Nat) : a / half + c / half + (a % half + c % half) / half = (a + c) / half := by
  have h0 : 0 < half := by unfold half; decide
  have e : a + c = half * (a / half + c / half) + (a % half + c % half) := by
    have h1 := Nat.div_add_mod a half
    have h2 := Nat.div_add_mod c half
    rw [Nat.mul_add]; omega
  rw [e, Nat.mul_add_div h0]
theorem half_lt (a : Nat) : a % half < half := Nat.mod_lt _ (by unfold half; decide)
theorem half_top {a : Nat} (h : a < 2 ^ 80) : a / half < 2000000 := by
  unfold half
  exact Nat.div_lt_of_lt_mul (Nat.lt_of_lt_of_le h (by decide))
/-- The value of cell p. -/
def hv (N : Nat → Nat → Nat) (p : Nat) : Nat := if p % 2 = 0 then N (p / 512) (p % 512 / 2) % half else N (p / 512) (p % 512 / 2) / half
theorem hv_low (N : Nat → Nat → Nat) {k s : Nat} (hs : s < 256) : hv N (k * 512 + s * 2) = N k s % half := by
  unfold hv
  rw [if_pos (by omega), show (k * 512 + s * 2) / 512 = k by omega, show (k * 512 + s * 2) % 512 / 2 = s by omega]
theorem hv_high (N : Nat → Nat → Nat) {k s : Nat} (hs : s < 256) : hv N (k * 512 + s * 2 + 1) = N k s / half := by
  unfold hv
  rw [if_neg (by omega), show (k * 512 + s * 2 + 1) / 512 = k by omega, show (k * 512 + s * 2 + 1) % 512 / 2 = s by omega]
theorem hv_set {N N' : Nat → Nat → Nat} {k s : Nat} (hs : s < 256) (h : ∀ k' s', s' < 256 → (if k' = k ∧ s' = s then N' k s else N k' s') = N' k' s') (p : Nat) :
    (if p = k * 512 + s * 2 + 1 then N' k s / half else if p = k * 512 + s * 2 then N' k s % half else hv N p) = hv N' p := by
  by_cases h1 : p = k * 512 + s * 2 + 1
  · subst h1; rw [if_pos rfl, hv_high N' hs]
  · rw [if_neg h1]
    by_cases h2 : p = k * 512 + s * 2
    · subst h2; rw [if_pos rfl, hv_low N' hs]
    · rw [if_neg h2]
      have := h (p / 512) (p % 512 / 2) (by omega)
      rw [if_neg (by omega)] at this
      unfold hv
      rw [this]
theorem hv_congr {N N' : Nat → Nat → Nat} {w p : Nat} (hp : p < (w + 1) * 512) (h : ∀ k s, k ≤ w → s < 256 → N k s = N' k s) : hv N p = hv N' p := by
  unfold hv
  rw [h (p / 512) (p % 512 / 2) (by omega) (by omega)]
/-- The beginning: a 1 in the first cell. -/
theorem hv_zero (p : Nat) : (if p = 0 then 1 else 0) = hv (nn 0) p := by
  unfold hv nn half
  by_cases h : p = 0
  · subst h; rfl
  · rw [if_neg h]
    by_cases g : p % 2 = 0
    · rw [if_pos g, if_neg (by omega)]
    · rw [if_neg g]
      split
      · decide
      · rfl
end Go.Proofs.YtmejneobfkbgeaaDoor.CB

namespace Go.Proofs.YtmejneobfkbgeaaDoor
open Go Go.RowKit Go.Shelf

theorem M.radd_step {V P q s t A B : Int} (h : V + P * q = A + B) : (V + P * ((s + t + q) % 16777216)) + P * 16777216 * ((s + t + q) / 16777216) = (A + P * s) + (B + P * t) := by
  have := M.add_step (s := s) (t := t) h
  rw [show q + (s + t) = s + t + q by omega] at this
  exact this

def RAddRel (w w3 : World) (N x y : Nat) (l c i : Value) (W : World) : Prop :=
  ∃ (k : Nat) (zs : List Int) (q : Int) (a : Option Addr) (cap : Nat), l = .slice a zs.length cap ∧ c = .int .i64 q ∧ i = .int .i64 (k : Int) ∧ k ≤ N + 1 ∧ zs.length = k ∧ M.Lim zs ∧ 0 ≤ q ∧ q ≤ 1 ∧
    M.val zs + 16777216 ^ k * q = M.val ((M.dig x).take k) + M.val ((M.dig y).take k) ∧ Own W (w.heap.size + 3) (.slice a zs.length cap) zs ∧ Below w3.heap.size w3 W

set_option maxRecDepth 100000 in
set_option maxHeartbeats 2000000 in
theorem radd_lt (a b : Option Addr) (ca cb x y : Nat) (w : World) (hx200 : (M.dig x).length ≤ 200) (hy200 : (M.dig y).length ≤ 200) (hA : Row w a (M.dig x) ca) (hB : Row w b (M.dig y) cb) (hle : (M.dig x).length < (M.dig y).length) :
    Calls Tryd.prog 32 #[.agg #[.slice a (M.dig x).length ca], .agg #[.slice b (M.dig y).length cb]] w fun e W' => NatRes (x + y) e W' ∧ Below w.heap.size w W' := by
  have Hvx := Lib.hid (vld_dig hx200)
  have Hvy := Lib.hid (vld_dig hy200)
  have hb3 := boxes_below w (.slice a (M.dig x).length ca) (.slice b (M.dig y).length cb)
  have hs3 := boxes_size w (.slice a (M.dig x).length ca) (.slice b (M.dig y).length cb)
  obtain ⟨c0, c1, c2, f2⟩ := boxes_cells w (.slice a (M.dig x).length ca) (.slice b (M.dig y).length cb)
  have HA := Lib.hid (hA.below hb3)
  have HB := Lib.hid (hB.below hb3)
  have HB3 := Lib.hid hb3
  have hd : decide ((M.dig x).length < (M.dig y).length) = true := decide_eq_true hle
  clear hA hB hb3
  go_enter Tryd.func32, Tryd.ntmps32
  go_wp2_with fail
  generalize hw3 : (((w.alloc (.cells #[.slice a (M.dig x).length ca] 24)).alloc (.cells #[.slice b (M.dig y).length cb] 24)).alloc (.cells #[.slice none 0 0] 24)) = w3
  obtain rfl : boxes w (.slice a (M.dig x).length ca) (.slice b (M.dig y).length cb) = w3 := hw3
  generalize boxes w (.slice a (M.dig x).length ca) (.slice b (M.dig y).length cb) = w3 at *
  refine (rvalid_yes a _ ca _ HA.out Hvx.out).mono ?_
  rintro e w5 ⟨rfl, hb5⟩
  have HC := Lib.hid (And.intro c0 (And.intro c1 (And.intro c2 f2)))
  have d1 := cell_below hb5 c1
  have HB5 := Lib.hid hb5
  have hs5 := hb5.size
  clear c0 c1 c2 f2 hb5
  go_wp2_with fail
  refine (rvalid_yes b _ cb _ (HB.out.below HB5.out) Hvy.out).mono ?_
  rintro e w6 ⟨rfl, hb6⟩
  have hb36 := HB5.out.trans (hb6.mono HB5.out.size)
  have c0 := cell_below hb36 HC.out.1
  have c1 := cell_below hb36 HC.out.2.1
  have HB6 := Lib.hid hb36
  clear d1 hb6 hb36 HB5 hs5
  go_wp2_with fail
  clear c0 c1 hd
  go_loopw [7, 8, 9] (fun l c i wr => RAddRel w w3 (M.dig y).length x y l c i wr) (fun _ _ i _ => (M.dig y).length + 1 - (intOf i).toNat)
  case atStart => exact ⟨0, [], 0, none, 0, rfl, rfl, rfl, by omega, rfl, M.Lim.nil, by omega, by omega, by simp [M.val], Own.nil _ _, HB6.out⟩
  case round =>
    clear HB6
    obtain ⟨k, zs, q, al, cl, rfl, rfl, rfl, hk, hlen, hlim, hq0, hq1, hval, hown, hbW⟩ := hrel
    have c0 := cell_below hbW HC.out.1
    have c1 := cell_below hbW HC.out.2.1
    have c2 := cell_below hbW HC.out.2.2.1
    have f2 := frozen_below hbW HC.out.2.2.1 HC.out.2.2.2
    have HRA := Lib.hid (HA.out.below hbW)
    have HRB := Lib.hid (HB.out.below hbW)
    have HBW := Lib.hid hbW
    have HVAL := Lib.hid hval
    have HLN := Lib.hid hlen
    have HLIM := Lib.hid hlim
    have HOWN := Lib.hid hown
    have hsW := hbW.size
    clear hval hlen hlim hown hbW
    by_cases hlt : k < (M.dig y).length + 1
    · have h1 := (M.lim_dig x).get k
      have h2 := (M.lim_dig y).get k
      have HLA := Lib.hid (fun (W : World) (hb : Below wr.heap.size wr W) => rlimb_any a (M.dig x) ca k W (HRA.out.below hb))
      have HLB := Lib.hid (fun (W : World) (hb : Below wr.heap.size wr W) => rlimb_any b (M.dig y) cb k W (HRB.out.below hb))
      obtain ⟨sx, hsx⟩ : ∃ sx, M.el (M.dig x) k = sx := ⟨_, rfl⟩
      obtain ⟨sy, hsy⟩ : ∃ sy, M.el (M.dig y) k = sy := ⟨_, rfl⟩
      rw [hsx] at h1 HLA
      rw [hsy] at h2 HLB
      obtain ⟨t, ht⟩ : ∃ t, t = sx + sy := ⟨_, rfl⟩
      obtain ⟨v, hv⟩ : ∃ v, v = t + q := ⟨_, rfl⟩
      have hw1 : IntKind.i64.wrap (sx + sy) = t := by rw [IntKind.wrap_i64]; omega
      have hw2 : IntKind.i64.wrap (t + q) = v := by rw [IntKind.wrap_i64]; omega
      have hv0 : 0 ≤ v := by omega
      have hv1 : v ≤ 33554431 := by omega
      have hvv : v = sx + sy + q := by omega
      have HSX := Lib.hid hsx
      have HSY := Lib.hid hsy
      have HVV := Lib.hid hvv
      have hbd : Below wr.heap.size wr wr.drew := belowN (Below.refl _ _) 1
      clear hsx hsy ht hv hvv h1 h2
      go_wp2_with fail
      go_region_held3 (fun w' => w'.cell? ⟨w.heap.size, 0, none⟩ = some (.slice a (M.dig x).length ca) ∧ w'.cell? ⟨w.heap.size + 1, 0, none⟩ = some (.slice b (M.dig y).length cb))
        (first | exact ⟨c0, c1⟩ | exact ⟨cell_below hb1 c0, cell_below hb1 c1⟩ | exact ⟨cell_below (hb1.trans (hb2.mono hb1.size)) c0, cell_below (hb1.trans (hb2.mono hb1.size)) c1⟩)
        (first
          | (go_at_call 53; (with_reducible refine (HLA.out _ hbd).mono ?_); rintro e wa ⟨rfl, hb1⟩)
          | (go_at_call 53; (with_reducible refine (HLB.out _ (hbd.trans (hb1.mono (Nat.le_refl _)))).mono ?_); rintro e wb ⟨rfl, hb2⟩))
      have hb12 := (hbd.trans (hb1.mono (Nat.le_refl _))).trans (hb2.mono hb1.size)
      have HO2 := Lib.hid (HOWN.out.below hb12)
      have HB2 := Lib.hid (HBW.out.trans (hb12.mono hsW))
      have hwb : w.heap.size + 3 ≤ wb.heap.size := by have := hb12.size; omega
      have hln : zs.length < 1000 := by rw [HLN.out]; omega
      clear hw1 hw2 hb1 hb2 hb12 hbd HLA HLB HRA HRB c0 c1 c2 f2
      try clear hHeld
      go_wp2_with (at_builtin; refine wpList_app1 rfl _ _ rfl rfl (HO2.out.alloc _) rfl (cell_new _ _ _) (by omega) (by simp; omega) ?_; intro a' cap' W' hown' hb')
      go_roundw
      case rel =>
        refine ⟨k + 1, zs ++ [v % 16777216], v / 16777216, a', cap', by rw [List.length_append]; rfl, rfl, by go_num, by omega, by rw [List.length_append, HLN.out]; rfl, HLIM.out.append (M.Lim.cons (by omega) (by omega) M.Lim.nil), by omega, by omega, ?_, hown', ?_⟩
        · rw [M.val_append, HLN.out, M.val_take_succ', M.val_take_succ', Int.pow_succ, HSX.out, HSY.out, HVV.out]
          simp only [M.val, Int.mul_zero, Int.add_zero]
          exact M.radd_step HVAL.out
        · have := HB2.out.alloc HB2.out.size (.cells #[.int .i64 (v % 16777216)] 3)
          exact this.trans (hb'.mono (by omega))
      case measure => simp [intOf]; omega
    · have hk' : k = (M.dig y).length + 1 := by omega
      have hv0 := HVAL.out
      rw [List.take_of_length_le (by omega), List.take_of_length_le (by omega), M.val_dig, M.val_dig, hk'] at hv0
      have hend : M.trimL zs = M.dig (x + y) := M.add_end (n := (M.dig y).length) HLIM.out (by omega) (by omega) hq0 hv0
      have hlz : zs.length = (M.dig y).length + 1 := by rw [HLN.out]; exact hk'
      obtain ⟨g, rfl, hgB, hgW, _, _, _, _⟩ := HOWN.out.at2 0 (by omega)
      have hfit := rfit_trim g 0 zs cl (x + y) wr HOWN.out.rowAt hend
      have HF := Lib.hid hfit
      have hlt2 : w.heap.size + 1 + 1 < wr.heap.size := by omega
      clear hfit hv0 hend hk' hlz HRA HRB c0 c1
      go_wp2_with fail
      (with_reducible refine HF.out.mono ?_)
      rintro e w7 ⟨hres, hb7⟩
      have d2 := cell_below hb7 c2
      have g2 := frozen_below hb7 c2 f2
      have hB7 := (HB3.out.trans (HBW.out.mono (by omega))).trans (hb7.mono (by omega))
      have HB7 := Lib.hid hB7
      clear hB7 hb7 c2 f2
      by_cases h200 : (M.dig (x + y)).length ≤ 200
      · obtain ⟨v, rfl, a7, p7, rfl, hr7, hf7⟩ := hres.ok h200
        have HR7 := Lib.hid hr7
        have HF7 := Lib.hid hf7
        clear hr7 hres hf7
        go_wp2_with fail
        refine bodyPost_ret (v := .tuple #[.agg #[.slice a7 (M.dig (x + y)).length p7], .int .i64 0]) (by simp [results, Tryd.results32, go_sem, d2]) rfl ⟨natRes_ok h200 ⟨a7, p7, rfl, ?_⟩, ?_⟩
        · exact HR7.out.setFresh HF7.out (p := ⟨w.heap.size + 1 + 1, 0, none⟩) hlt2 _
        · exact HB7.out.setCell (p := ⟨w.heap.size + 1 + 1, 0, none⟩) (by simp; omega) _
      · obtain rfl := hres.limit h200
        clear hres
        go_wp2_with fail
        refine bodyPost_ret (v := .tuple #[.agg #[.slice none 0 0], .int .i64 3]) (by simp [results, Tryd.results32, go_sem, d2]) rfl ⟨natRes_limit h200, ?_⟩
        exact HB7.out.setCell (p := ⟨w.heap.size + 1 + 1, 0, none⟩) (by simp; omega) _

set_option maxRecDepth 100000 in
set_option maxHeartbeats 2000000 in
theorem radd_ge (a b : Option Addr) (ca cb x y : Nat) (w : World) (hx200 : (M.dig x).length ≤ 200) (hy200 : (M.dig y).length ≤ 200) (hA : Row w a (M.dig x) ca) (hB : Row w b (M.dig y) cb) (hle : (M.dig y).length ≤ (M.dig x).length) :
    Calls Tryd.prog 32 #[.agg #[.slice a (M.dig x).length ca], .agg #[.slice b (M.dig y).length cb]] w fun e W' => NatRes (x + y) e W' ∧ Below w.heap.size w W' := by
  have Hvx := Lib.hid (vld_dig hx200)
  have Hvy := Lib.hid (vld_dig hy200)
  have hb3 := boxes_below w (.slice a (M.dig x).length ca) (.slice b (M.dig y).length cb)
  have hs3 := boxes_size w (.slice a (M.dig x).length ca) (.slice b (M.dig y).length cb)
  obtain ⟨c0, c1, c2, f2⟩ := boxes_cells w (.slice a (M.dig x).length ca) (.slice b (M.dig y).length cb)
  have HA := Lib.hid (hA.below hb3)
  have HB := Lib.hid (hB.below hb3)
  have HB3 := Lib.hid hb3
  have hd : decide ((M.dig x).length < (M.dig y).length) = false := decide_eq_false (by omega)
  clear hA hB hb3
  go_enter Tryd.func32, Tryd.ntmps32
  go_wp2_with fail
  generalize hw3 : (((w.alloc (.cells #[.slice a (M.dig x).length ca] 24)).alloc (.cells #[.slice b (M.dig y).length cb] 24)).alloc (.cells #[.slice none 0 0] 24)) = w3
  obtain rfl : boxes w (.slice a (M.dig x).length ca) (.slice b (M.dig y).length cb) = w3 := hw3
  generalize boxes w (.slice a (M.dig x).length ca) (.slice b (M.dig y).length cb) = w3 at *
  refine (rvalid_yes a _ ca _ HA.out Hvx.out).mono ?_
  rintro e w5 ⟨rfl, hb5⟩
  have HC := Lib.hid (And.intro c0 (And.intro c1 (And.intro c2 f2)))
  have d1 := cell_below hb5 c1
  have HB5 := Lib.hid hb5
  have hs5 := hb5.size
  clear c0 c1 c2 f2 hb5
  go_wp2_with fail
  refine (rvalid_yes b _ cb _ (HB.out.below HB5.out) Hvy.out).mono ?_
  rintro e w6 ⟨rfl, hb6⟩
  have hb36 := HB5.out.trans (hb6.mono HB5.out.size)
  have c0 := cell_below hb36 HC.out.1
  have c1 := cell_below hb36 HC.out.2.1
  have HB6 := Lib.hid hb36
  clear d1 hb6 hb36 HB5 hs5
  go_wp2_with fail
  clear c0 c1 hd
  go_loopw [7, 8, 9] (fun l c i wr => RAddRel w w3 (M.dig x).length x y l c i wr) (fun _ _ i _ => (M.dig x).length + 1 - (intOf i).toNat)
  case atStart => exact ⟨0, [], 0, none, 0, rfl, rfl, rfl, by omega, rfl, M.Lim.nil, by omega, by omega, by simp [M.val], Own.nil _ _, HB6.out⟩
  case round =>
    clear HB6
    obtain ⟨k, zs, q, al, cl, rfl, rfl, rfl, hk, hlen, hlim, hq0, hq1, hval, hown, hbW⟩ := hrel
    have c0 := cell_below hbW HC.out.1
    have c1 := cell_below hbW HC.out.2.1
    have c2 := cell_below hbW HC.out.2.2.1
    have f2 := frozen_below hbW HC.out.2.2.1 HC.out.2.2.2
    have HRA := Lib.hid (HA.out.below hbW)
    have HRB := Lib.hid (HB.out.below hbW)
    have HBW := Lib.hid hbW
    have HVAL := Lib.hid hval
    have HLN := Lib.hid hlen
    have HLIM := Lib.hid hlim
    have HOWN := Lib.hid hown
    have hsW := hbW.size
    clear hval hlen hlim hown hbW
    by_cases hlt : k < (M.dig x).length + 1
    · have h1 := (M.lim_dig x).get k
      have h2 := (M.lim_dig y).get k
      have HLA := Lib.hid (fun (W : World) (hb : Below wr.heap.size wr W) => rlimb_any a (M.dig x) ca k W (HRA.out.below hb))
      have HLB := Lib.hid (fun (W : World) (hb : Below wr.heap.size wr W) => rlimb_any b (M.dig y) cb k W (HRB.out.below hb))
      obtain ⟨sx, hsx⟩ : ∃ sx, M.el (M.dig x) k = sx := ⟨_, rfl⟩
      obtain ⟨sy, hsy⟩ : ∃ sy, M.el (M.dig y) k = sy := ⟨_, rfl⟩
      rw [hsx] at h1 HLA
      rw [hsy] at h2 HLB
      obtain ⟨t, ht⟩ : ∃ t, t = sx + sy := ⟨_, rfl⟩
      obtain ⟨v, hv⟩ : ∃ v, v = t + q := ⟨_, rfl⟩
      have hw1 : IntKind.i64.wrap (sx + sy) = t := by rw [IntKind.wrap_i64]; omega
      have hw2 : IntKind.i64.wrap (t + q) = v := by rw [IntKind.wrap_i64]; omega
      have hv0 : 0 ≤ v := by omega
      have hv1 : v ≤ 33554431 := by omega
      have hvv : v = sx + sy + q := by omega
      have HSX := Lib.hid hsx
      have HSY := Lib.hid hsy
      have HVV := Lib.hid hvv
      have hbd : Below wr.heap.size wr wr.drew := belowN (Below.refl _ _) 1
      clear hsx hsy ht hv hvv h1 h2
      go_wp2_with fail
      go_region_held3 (fun w' => w'.cell? ⟨w.heap.size, 0, none⟩ = some (.slice a (M.dig x).length ca) ∧ w'.cell? ⟨w.heap.size + 1, 0, none⟩ = some (.slice b (M.dig y).length cb))
        (first | exact ⟨c0, c1⟩ | exact ⟨cell_below hb1 c0, cell_below hb1 c1⟩ | exact ⟨cell_below (hb1.trans (hb2.mono hb1.size)) c0, cell_below (hb1.trans (hb2.mono hb1.size)) c1⟩)
        (first
          | (go_at_call 53; (with_reducible refine (HLA.out _ hbd).mono ?_); rintro e wa ⟨rfl, hb1⟩)
          | (go_at_call 53; (with_reducible refine (HLB.out _ (hbd.trans (hb1.mono (Nat.le_refl _)))).mono ?_); rintro e wb ⟨rfl, hb2⟩))
      have hb12 := (hbd.trans (hb1.mono (Nat.le_refl _))).trans (hb2.mono hb1.size)
      have HO2 := Lib.hid (HOWN.out.below hb12)
      have HB2 := Lib.hid (HBW.out.trans (hb12.mono hsW))
      have hwb : w.heap.size + 3 ≤ wb.heap.size := by have := hb12.size; omega
      have hln : zs.length < 1000 := by rw [HLN.out]; omega
      clear hw1 hw2 hb1 hb2 hb12 hbd HLA HLB HRA HRB c0 c1 c2 f2
      try clear hHeld
      go_wp2_with (at_builtin; refine wpList_app1 rfl _ _ rfl rfl (HO2.out.alloc _) rfl (cell_new _ _ _) (by omega) (by simp; omega) ?_; intro a' cap' W' hown' hb')
      go_roundw
      case rel =>
        refine ⟨k + 1, zs ++ [v % 16777216], v / 16777216, a', cap', by rw [List.length_append]; rfl, rfl, by go_num, by omega, by rw [List.length_append, HLN.out]; rfl, HLIM.out.append (M.Lim.cons (by omega) (by omega) M.Lim.nil), by omega, by omega, ?_, hown', ?_⟩
        · rw [M.val_append, HLN.out, M.val_take_succ', M.val_take_succ', Int.pow_succ, HSX.out, HSY.out, HVV.out]
          simp only [M.val, Int.mul_zero, Int.add_zero]
          exact M.radd_step HVAL.out
        · have := HB2.out.alloc HB2.out.size (.cells #[.int .i64 (v % 16777216)] 3)
          exact this.trans (hb'.mono (by omega))
      case measure => simp [intOf]; omega
    · have hk' : k = (M.dig x).length + 1 := by omega
      have hv0 := HVAL.out
      rw [List.take_of_length_le (by omega), List.take_of_length_le (by omega), M.val_dig, M.val_dig, hk'] at hv0
      have hend : M.trimL zs = M.dig (x + y) := M.add_end (n := (M.dig x).length) HLIM.out (by omega) (by omega) hq0 hv0
      have hlz : zs.length = (M.dig x).length + 1 := by rw [HLN.out]; exact hk'
      obtain ⟨g, rfl, hgB, hgW, _, _, _, _⟩ := HOWN.out.at2 0 (by omega)
      have hfit := rfit_trim g 0 zs cl (x + y) wr HOWN.out.rowAt hend
      have HF := Lib.hid hfit
      have hlt2 : w.heap.size + 1 + 1 < wr.heap.size := by omega
      clear hfit hv0 hend hk' hlz HRA HRB c0 c1
      go_wp2_with fail
      (with_reducible refine HF.out.mono ?_)
      rintro e w7 ⟨hres, hb7⟩
      have d2 := cell_below hb7 c2
      have g2 := frozen_below hb7 c2 f2
      have hB7 := (HB3.out.trans (HBW.out.mono (by omega))).trans (hb7.mono (by omega))
      have HB7 := Lib.hid hB7
      clear hB7 hb7 c2 f2
      by_cases h200 : (M.dig (x + y)).length ≤ 200
      · obtain ⟨v, rfl, a7, p7, rfl, hr7, hf7⟩ := hres.ok h200
        have HR7 := Lib.hid hr7
        have HF7 := Lib.hid hf7
        clear hr7 hres hf7
        go_wp2_with fail
        refine bodyPost_ret (v := .tuple #[.agg #[.slice a7 (M.dig (x + y)).length p7], .int .i64 0]) (by simp [results, Tryd.results32, go_sem, d2]) rfl ⟨natRes_ok h200 ⟨a7, p7, rfl, ?_⟩, ?_⟩
        · exact HR7.out.setFresh HF7.out (p := ⟨w.heap.size + 1 + 1, 0, none⟩) hlt2 _
        · exact HB7.out.setCell (p := ⟨w.heap.size + 1 + 1, 0, none⟩) (by simp; omega) _
      · obtain rfl := hres.limit h200
        clear hres
        go_wp2_with fail
        refine bodyPost_ret (v := .tuple #[.agg #[.slice none 0 0], .int .i64 3]) (by simp [results, Tryd.results32, go_sem, d2]) rfl ⟨natRes_limit h200, ?_⟩
        exact HB7.out.setCell (p := ⟨w.heap.size + 1 + 1, 0, none⟩) (by simp; omega) _

/-- **ref01.Add** of two numbers. -/
theorem radd_num {u v : Value} {x y : Nat} {w : World} (hx : (M.dig x).length ≤ 200) (hy : (M.dig y).length ≤ 200) (hu : Num w u x) (hv : Num w v y) :
    Calls Tryd.prog 32 #[u, v] w fun e W' => NatRes (x + y) e W' ∧ Below w.heap.size w W' := by
  obtain ⟨a, ca, rfl, ha⟩ := hu
  obtain ⟨b, cb, rfl, hb⟩ := hv
  rcases Nat.lt_or_ge (M.dig x).length (M.dig y).length with h | h
  · exact radd_lt a b ca cb x y w hx hy ha hb h
  · exact radd_ge a b ca cb x y w hx hy ha hb h
end Go.Proofs.YtmejneobfkbgeaaDoor

namespace Go.Proofs.YtmejneobfkbgeaaDoor
open Go Go.RowKit Go.Shelf

namespace C
theorem fit_num' {x : Nat} {e : Ending} {W : World} (h : NatRes x e W) (hl : (M.dig x).length ≤ 200) : NumE x e W := by
  obtain ⟨v, e1, a, c, e2, hr⟩ := h.ok hl
  subst e2
  exact ⟨a, c, e1, hr⟩
theorem rof_num (N : Nat) (W : World) (hN : N ≤ 9223372036854775807) : Calls Tryd.prog 15 #[.int .i64 (N : Int)] W fun e W' => NumE N e W' ∧ Below W.heap.size W W' :=
  (rof_any N W hN).mono (fun e W' h => by
    obtain ⟨v, e1, ⟨a, c, e2, hr⟩, hb⟩ := h
    subst e2
    exact ⟨⟨a, c, e1, hr⟩, hb⟩)
/-- A number as the one result. -/
def NumV (n : Nat) (e : Ending) (W : World) : Prop := ∃ a c, e = .returned (.agg #[.slice a (M.dig n).length c]) ∧ Row W a (M.dig n) c
set_option maxRecDepth 100000 in
set_option maxHeartbeats 1000000 in
/-- **ref08.mul** -/
theorem rmul8_any (g cap : Nat) (xs : List Nat) (w : World) (hcap : xs.length ≤ cap) (hcap2 : cap ≤ 9223372036854775807) (hF : Facs w g xs) (hl : ∀ j, j < xs.length → (M.dig (nth xs j)).length ≤ 200) (hp : ∀ k, k ≤ xs.length → (M.dig (prd xs k)).length ≤ 200) :
    Calls Tryd.prog 17 #[.slice (some ⟨g, 0, none⟩) xs.length cap] w fun e W => NumV (prd xs xs.length) e W ∧ Below w.heap.size w W := by
  have HP := Lib.hid hp
  have HL := Lib.hid hl
  have HN := Lib.hid (fun W => (show Calls Tryd.prog 15 #[.int .i64 1] W (fun e W' => NumE 1 e W' ∧ Below W.heap.size W W') from rof_num 1 W (by omega)))
  have HF := Lib.hid hF
  have hr0 := Bx.zero w
  have hB0 := (Below.refl _ w).alloc (Nat.le_refl _) (.cells #[.slice none 0 0] 24)
  obtain ⟨w0, hw0⟩ : ∃ w0, w.alloc (.cells #[.slice none 0 0] 24) = w0 := ⟨_, rfl⟩
  rw [hw0] at hr0 hB0
  have HR0 := Lib.hid hr0
  obtain ⟨x, hx⟩ : ∃ x, prd xs xs.length = x := ⟨_, rfl⟩
  rw [hx]
  have HX := Lib.hid hx
  clear hr0 hF hl hp hx
  go_enter Tryd.func17, Tryd.ntmps17
  go_wp2_with fail
  (with_reducible refine (HN.out _).mono ?_)
  rintro e w1 ⟨⟨a, ca, rfl, hr⟩, hb1⟩
  obtain ⟨gb, hgb⟩ : ∃ gb, w1.heap.size = gb := ⟨_, rfl⟩
  obtain ⟨w2, hw2⟩ : ∃ w2, w1.alloc (.cells #[.slice a (M.dig 1).length ca] 24) = w2 := ⟨_, rfl⟩
  have hb2 : Below w1.heap.size w1 w2 := by rw [← hw2]; exact (Below.refl _ w1).alloc (Nat.le_refl _) _
  have hV := Bx.new hr
  rw [hw2, hgb] at hV
  have hlt := HR0.out.lt
  have hs1 := hb1.size
  have hne : ¬ w.heap.size = gb := by omega
  have HR2 := Lib.hid ((HR0.out.below hb1).below hb2)
  have HV2 := Lib.hid hV
  have HB2 := Lib.hid ((hB0.trans (hb1.mono hB0.size)).trans (hb2.mono (by have := hB0.size; omega)))
  clear hr hb1 hb2 hV hB0 HN HR0
  go_wp2_with fail
  go_loopw [5] (fun i wr => ∃ k : Nat, i = .int .i64 (k : Int) ∧ k ≤ xs.length ∧ Bx wr gb (prd xs k) ∧ Bx wr w.heap.size 0 ∧ Below w.heap.size w wr) (fun i _ => xs.length - (intOf i).toNat)
  case atStart => exact ⟨0, rfl, Nat.zero_le _, HV2.out, HR2.out, HB2.out⟩
  case round => as_aux_lemma =>
    clear HV2 HR2 HB2
    obtain ⟨k, rfl, hk, hV, hR, hB⟩ := hrel
    have HV := Lib.hid hV
    have HR := Lib.hid hR
    have HB := Lib.hid hB
    clear hV hR hB
    by_cases hlt : k < xs.length
    · obtain ⟨af, cf, c1, hrf⟩ := (HF.out.below HB.out) k hlt
      obtain ⟨x', hx⟩ : ∃ x', nth xs k = x' := ⟨_, rfl⟩
      obtain ⟨y, hy⟩ : ∃ y, prd xs k = y := ⟨_, rfl⟩
      have hlx := HL.out k hlt
      have hly := HP.out k hk
      have hlz := HP.out (k + 1) hlt
      have e1 : prd xs (k + 1) = y * x' := by rw [← hx, ← hy]; rfl
      rw [hx] at c1 hrf hlx
      rw [hy] at hly HV
      rw [e1] at hlz
      have HE := Lib.hid e1
      obtain ⟨ay, cy, c2, hry⟩ := HV.out.cell
      have c1d : wr.drew.cell? ⟨g, k, none⟩ = some (.slice af (M.dig x').length cf) := c1
      have c2d : wr.drew.cell? ⟨gb, 0, none⟩ = some (.slice ay (M.dig y).length cy) := c2
      have hbd : Below wr.heap.size wr wr.drew := (Below.refl _ wr).drew
      have HM := Lib.hid ((rmul_num (u := .agg #[.slice ay (M.dig y).length cy]) (v := .agg #[.slice af (M.dig x').length cf]) (w := wr.drew) (x := y) (y := x') hly hlx ⟨ay, cy, rfl, hry.drewN 1⟩ ⟨af, cf, rfl, hrf.drewN 1⟩).mono (fun e W' h => And.intro (fit_num' h.1 hlz) h.2))
      have HVd := Lib.hid (HV.out.below hbd)
      have HRd := Lib.hid (HR.out.below hbd)
      have HBd := Lib.hid (HB.out.trans (hbd.mono HB.out.size))
      clear hx hy hlx hly hlz e1 hry hrf HV HR HB hbd
      go_upto_region 5 with fail
      go_region_law ((try go_simp); go_at_call 33; (with_reducible refine HM.out.mono ?_); go_must (rintro e w4 ⟨⟨a4, c4, rfl, hr4⟩, hb4⟩; (have hv4 := HVd.out.below hb4); (have hr44 := HRd.out.below hb4); (obtain ⟨_, _, d1, _⟩ := hv4.cell); (have d2 := hv4.free); (have HV5 := Lib.hid (hv4.store hr4)); (have HR5 := Lib.hid (hr44.other hv4 hne (.slice a4 (M.dig (y * x')).length c4))); (have HB5 := Lib.hid (((HBd.out.trans (hb4.mono HBd.out.size)).setCell (p := ⟨gb, 0, none⟩) (by show w.heap.size ≤ gb; omega) (.slice a4 (M.dig (y * x')).length c4)))); clear hb4 hr4 hv4 hr44; (try go_simp)))
      all_goals (go_wp2_with fail)
      all_goals exact ⟨⟨k + 1, by go_num, hlt, by rw [HE.out]; exact HV5.out, HR5.out, HB5.out⟩, by simp [intOf]; omega⟩
    · obtain rfl : k = xs.length := by omega
      rw [HX.out] at HV
      obtain ⟨a2, c2, d1, hr⟩ := HV.out.cell
      obtain ⟨_, _, d2, _⟩ := HR.out.cell
      have d3 := HR.out.free
      have HR5 := Lib.hid (HR.out.store hr)
      have HB5 := Lib.hid (HB.out.setCell (p := ⟨w.heap.size, 0, none⟩) (Nat.le_refl _) (.slice a2 (M.dig x).length c2))
      have d4 : (wr.setCell ⟨w.heap.size, 0, none⟩ (.slice a2 (M.dig x).length c2)).cell? ⟨w.heap.size, 0, none⟩ = some (.slice a2 (M.dig x).length c2) := World.cell?_setCell_same' _ _ _ (by rw [d2]; rfl)
      have hr5 := hr.store d2 (.slice a2 (M.dig x).length c2)
      clear HV HR HB hr
      go_wp2_with fail
      exact bodyPost_ret (v := .agg #[.slice a2 (M.dig x).length c2]) (by simp [results, Tryd.results17, go_sem, d4]) rfl ⟨⟨a2, c2, rfl, hr5⟩, HB5.out⟩

/-- Two factors, written out. -/
theorem rmul8_2 {W : World} {a b : Option Addr} {c d x y : Nat} (ha : Row W a (M.dig x) c) (hb : Row W b (M.dig y) d) (hx : (M.dig x).length ≤ 200) (hy : (M.dig y).length ≤ 200) (hxy : (M.dig (x * y)).length ≤ 200) :
    Calls Tryd.prog 17 #[.slice (some ⟨W.heap.size, 0, none⟩) 2 2] (W.alloc (.cells #[.slice a (M.dig x).length c, .slice b (M.dig y).length d] 24)) fun e W' => NumV (x * y) e W' ∧ Below W.heap.size W W' := by
  have hf : Facs (W.alloc (.cells #[.slice a (M.dig x).length c, .slice b (M.dig y).length d] 24)) W.heap.size [x, y] := facs_new (vs := [.slice a (M.dig x).length c, .slice b (M.dig y).length d]) (fun j hj => by
    match j, hj with
    | 0, _ => exact ⟨a, c, rfl, ha⟩
    | 1, _ => exact ⟨b, d, rfl, hb⟩)
  have h := rmul8_any W.heap.size 2 [x, y] _ (by simp) (by omega) hf (fun j hj => by
    match j, hj with
    | 0, _ => exact hx
    | 1, _ => exact hy) (fun k hk => by
    match k, hk with
    | 0, _ => exact small_len (n := 1) (by decide)
    | 1, _ => rw [show prd [x, y] 1 = x by simp [prd, nth]]; exact hx
    | 2, _ => rw [prd2]; exact hxy)
  rw [show [x, y].length = 2 from rfl, prd2] at h
  exact h.mono fun e W' ⟨h1, h2⟩ => ⟨h1, ((Below.refl _ W).alloc (Nat.le_refl _) _).trans (h2.mono (by simp))⟩

theorem facs_pair8 {W : World} {x y : Nat} {a b : Option Addr} {c d : Nat} (ha : Row W a (M.dig x) c) (hb : Row W b (M.dig y) d) : Facs (W.alloc (.cells #[.slice a (M.dig x).length c, .slice b (M.dig y).length d] 24)) W.heap.size [x, y] :=
  facs_new (vs := [.slice a (M.dig x).length c, .slice b (M.dig y).length d]) (fun j hj => by
    match j, hj with
    | 0, _ => exact ⟨a, c, rfl, ha⟩
    | 1, _ => exact ⟨b, d, rfl, hb⟩)
theorem rmul8_2F {V : World} {g x y : Nat} (hf : Facs V g [x, y]) (hx : (M.dig x).length ≤ 200) (hy : (M.dig y).length ≤ 200) (hxy : (M.dig (x * y)).length ≤ 200) :
    Calls Tryd.prog 17 #[.slice (some ⟨g, 0, none⟩) 2 2] V fun e W' => NumV (x * y) e W' ∧ Below V.heap.size V W' := by
  have h := rmul8_any g 2 [x, y] V (by simp) (by omega) hf (fun j hj => by
    match j, hj with
    | 0, _ => exact hx
    | 1, _ => exact hy) (fun k hk => by
    match k, hk with
    | 0, _ => exact small_len (n := 1) (by decide)
    | 1, _ => rw [show prd [x, y] 1 = x by simp [prd, nth]]; exact hx
    | 2, _ => rw [prd2]; exact hxy)
  rw [show [x, y].length = 2 from rfl, prd2] at h
  exact h
theorem unal8 {W W' : World} {o : Obj} (h : Below (W.alloc o).heap.size (W.alloc o) W') : Below W.heap.size W W' := ((Below.refl _ W).alloc (Nat.le_refl _) _).trans (h.mono (by simp))

set_option maxRecDepth 100000 in
set_option maxHeartbeats 1000000 in
/-- **ref08.add** -/
theorem radd8_any (a b : Option Addr) (ca cb x y : Nat) (w : World) (ha : Row w a (M.dig x) ca) (hb : Row w b (M.dig y) cb) (hx : (M.dig x).length ≤ 200) (hy : (M.dig y).length ≤ 200) (hz : (M.dig (x + y)).length ≤ 200) :
    Calls Tryd.prog 16 #[.agg #[.slice a (M.dig x).length ca], .agg #[.slice b (M.dig y).length cb]] w fun e W => NumV (x + y) e W ∧ Below w.heap.size w W := by
  have hv1 := Bx.new ha
  obtain ⟨w1, hw1⟩ : ∃ w1, w.alloc (.cells #[.slice a (M.dig x).length ca] 24) = w1 := ⟨_, rfl⟩
  have hb1 : Below w.heap.size w w1 := by rw [← hw1]; exact (Below.refl _ w).alloc (Nat.le_refl _) _
  rw [hw1] at hv1
  have hv2 := Bx.new (hb.below hb1)
  obtain ⟨w2, hw2⟩ : ∃ w2, w1.alloc (.cells #[.slice b (M.dig y).length cb] 24) = w2 := ⟨_, rfl⟩
  have hb2 : Below w1.heap.size w1 w2 := by rw [← hw2]; exact (Below.refl _ w1).alloc (Nat.le_refl _) _
  rw [hw2] at hv2
  have hv3 := Bx.zero w2
  obtain ⟨w3, hw3⟩ : ∃ w3, w2.alloc (.cells #[.slice none 0 0] 24) = w3 := ⟨_, rfl⟩
  have hb3 : Below w2.heap.size w2 w3 := by rw [← hw3]; exact (Below.refl _ w2).alloc (Nat.le_refl _) _
  rw [hw3] at hv3
  have v1 := (hv1.below hb2).below hb3
  have v2 := hv2.below hb3
  have hb03 := (hb1.trans (hb2.mono hb1.size)).trans (hb3.mono (Nat.le_trans hb1.size hb2.size))
  obtain ⟨q, hq⟩ : ∃ q, w2.heap.size = q := ⟨_, rfl⟩
  rw [hq] at hv3
  have hwq : w.heap.size ≤ q := by rw [← hq]; exact Nat.le_trans hb1.size hb2.size
  obtain ⟨a1, d1, c1, r1⟩ := v1.cell
  obtain ⟨a2, d2, c2, r2⟩ := v2.cell
  have HAD := Lib.hid ((radd_num (u := .agg #[.slice a1 (M.dig x).length d1]) (v := .agg #[.slice a2 (M.dig y).length d2]) (w := w3) (x := x) (y := y) hx hy ⟨a1, d1, rfl, r1⟩ ⟨a2, d2, rfl, r2⟩).mono (fun e W' h => And.intro (fit_num' h.1 hz) h.2))
  have HV3 := Lib.hid hv3
  have HB3 := Lib.hid hb03
  clear v1 v2 hv1 hv2 hv3 hb1 hb2 hb3 hb03 ha hb r1 r2
  go_enter Tryd.func16, Tryd.ntmps16
  go_wp2_with fail
  (with_reducible refine HAD.out.mono ?_)
  rintro e w4 ⟨⟨a4, c4, rfl, hr4⟩, hb4⟩
  have hv5 := Bx.new hr4
  obtain ⟨w5, hw5⟩ : ∃ w5, w4.alloc (.cells #[.slice a4 (M.dig (x + y)).length c4] 24) = w5 := ⟨_, rfl⟩
  have hb5 : Below w4.heap.size w4 w5 := by rw [← hw5]; exact (Below.refl _ w4).alloc (Nat.le_refl _) _
  rw [hw5] at hv5
  obtain ⟨a5, c5, k1, r5⟩ := hv5.cell
  have hr3 := (HV3.out.below hb4).below hb5
  obtain ⟨_, _, k2, _⟩ := hr3.cell
  have k3 := hr3.free
  have k4 : (w5.setCell ⟨q, 0, none⟩ (.slice a5 (M.dig (x + y)).length c5)).cell? ⟨q, 0, none⟩ = some (.slice a5 (M.dig (x + y)).length c5) := World.cell?_setCell_same' _ _ _ (by rw [k2]; rfl)
  have HR6 := Lib.hid (r5.store k2 (.slice a5 (M.dig (x + y)).length c5))
  have HB6 := Lib.hid (((HB3.out.trans (hb4.mono HB3.out.size)).trans (hb5.mono (Nat.le_trans HB3.out.size hb4.size))).setCell (p := ⟨q, 0, none⟩) hwq (.slice a5 (M.dig (x + y)).length c5))
  clear hr4 hb4 hv5 hb5 r5 hr3 HAD HV3 HB3
  go_wp2_with fail
  exact bodyPost_ret (v := .agg #[.slice a5 (M.dig (x + y)).length c5]) (by simp [results, Tryd.results16, go_sem, k4]) rfl ⟨⟨a5, c5, rfl, HR6.out⟩, HB6.out⟩
theorem radd8_T {a b : Option Addr} {ca cb x y T : Nat} {w : World} (hT : x + y = T) (ha : Row w a (M.dig x) ca) (hb : Row w b (M.dig y) cb) (hx : (M.dig x).length ≤ 200) (hy : (M.dig y).length ≤ 200) (hz : (M.dig T).length ≤ 200) :
    Calls Tryd.prog 16 #[.agg #[.slice a (M.dig x).length ca], .agg #[.slice b (M.dig y).length cb]] w fun e W => NumV T e W ∧ Below w.heap.size w W := by
  subst hT
  exact radd8_any a b ca cb x y w ha hb hx hy hz
end C
end Go.Proofs.YtmejneobfkbgeaaDoor

namespace Go.Proofs.YtmejneobfkbgeaaDoor
open Go Go.RowKit Go.Shelf
namespace C
open G (FB Box el)
open G.H (cols)
/-- The grid's cells. -/
def gvF (N : Nat → Nat → Nat) (p : Nat) : Value := .int .i64 ((CB.hv N p : Nat) : Int)
/-- What the loops keep: the grid, the columns. -/
structure GR (u : World) (w g : Nat) (ac : Option Addr) (cc : Nat) (N : Nat → Nat → Nat) (W : World) : Prop where
  fb : FB W g 42 ((w + 1) * 512) (gvF N)
  own : ∃ B, G.Own W B (.slice ac 72 cc) cols
  bel : Below u.heap.size u W
  ne : (Value.slice ac 72 cc).ownBlock ≠ some g
  far : u.heap.size < g
  rc : W.cell? ⟨u.heap.size, 0, none⟩ = some (.slice none 0 0)
  rf : W.frozen? ⟨u.heap.size, 0, none⟩ = false
theorem GR.below {u W W' : World} {w g : Nat} {ac : Option Addr} {cc : Nat} {N : Nat → Nat → Nat} (h : GR u w g ac cc N W) (hb : Below W.heap.size W W') : GR u w g ac cc N W' :=
  ⟨h.fb.below hb, h.own.elim fun B ho => ⟨B, ho.below hb⟩, h.bel.trans (hb.mono h.bel.size), h.ne, h.far, G.cell_below hb h.rc, G.frozen_below hb h.rc h.rf⟩
theorem GR.congr {u W : World} {w g : Nat} {ac : Option Addr} {cc : Nat} {N N' : Nat → Nat → Nat} (h : GR u w g ac cc N W) (he : ∀ k s, k ≤ w → s < 256 → N k s = N' k s) : GR u w g ac cc N' W :=
  ⟨h.fb.congr (fun p hp => by unfold gvF; rw [CB.hv_congr hp he]), h.own, h.bel, h.ne, h.far, h.rc, h.rf⟩
theorem fb_start {W : World} {g n : Nat} {t : TypeId} (h : FB W g t n (fun j => if j = 0 then .int .i64 1 else .int .i64 0)) : FB W g t n (gvF (CB.nn 0)) :=
  h.congr (fun p _ => by
    unfold gvF
    rw [← CB.hv_zero]
    by_cases e : p = 0
    · rw [if_pos e, if_pos e]; rfl
    · rw [if_neg e, if_neg e]; rfl)
theorem xor_i64 (a c : Nat) (ha : a < 256) (hc : c < 256) : bits BinOp.xor IntKind.i64 (a : Int) (c : Int) = ((a ^^^ c : Nat) : Int) := by
  have hx : a ^^^ c < 256 := Nat.xor_lt_two_pow (n := 8) ha hc
  have h1 : (BitVec.ofInt 64 (a : Int)).toNat = a := by
    rw [BitVec.ofInt_natCast, BitVec.toNat_ofNat]; exact Nat.mod_eq_of_lt (by omega)
  have h2 : (BitVec.ofInt 64 (c : Int)).toNat = c := by
    rw [BitVec.ofInt_natCast, BitVec.toNat_ofNat]; exact Nat.mod_eq_of_lt (by omega)
  show IntKind.i64.wrap ((BitVec.ofInt 64 (a : Int) ^^^ BitVec.ofInt 64 (c : Int)).toNat : Int) = _
  rw [BitVec.toNat_xor, h1, h2, IntKind.wrap_i64]
  omega
theorem cols_cl : ∀ b, b < 72 → (G.el cols b).toNat = CB.cl b := by decide +kernel
theorem col_cell {u W : World} {w g : Nat} {ac : Option Addr} {cc : Nat} {N : Nat → Nat → Nat} (h : GR u w g ac cc N W) {b : Nat} (hb : b < 72) : ∃ (g1 c : Nat), ac = some ⟨g1, 0, none⟩ ∧ W.cell? ⟨g1, b, none⟩ = some (.int .u8 (c : Int)) ∧ c = CB.cl b ∧ c < 256 := by
  obtain ⟨B, ho⟩ := h.own
  rcases ho.parts with ⟨e, _⟩ | ⟨g1, cap, e, _, _, _, _, hc⟩
  · cases e
  · have hi := (Value.slice.inj e).1
    subst hi
    refine ⟨g1, (G.el cols b).toNat, rfl, (hc b (by rw [G.H.cols_len]; exact hb)).1, cols_cl b hb, (G.el cols b).isLt⟩
theorem own_other {W W' : World} {B o : Nat} {ac : Option Addr} {cc : Nat} (h : G.Own W B (.slice ac 72 cc) cols) (hb : Below W.heap.size W W') (v : Value) : G.Own (W'.setCell ⟨W.heap.size, o, none⟩ v) B (.slice ac 72 cc) cols := by
  refine (h.below hb).other (p := ⟨W.heap.size, o, none⟩) _ ?_
  rcases h.parts with ⟨e, _⟩ | ⟨g, cap, e, _, hg, _⟩
  · cases e
  · have hi := (Value.slice.inj e).1
    subst hi
    intro e2
    have : g = W.heap.size := Option.some.inj e2
    omega
theorem own_ne {W : World} {B : Nat} {ac : Option Addr} {cc : Nat} (h : G.Own W B (.slice ac 72 cc) cols) : (Value.slice ac 72 cc).ownBlock ≠ some W.heap.size := by
  rcases h.parts with ⟨e, _⟩ | ⟨g, cap, e, _, hg, _⟩
  · cases e
  · have hi := (Value.slice.inj e).1
    subst hi
    intro e2
    have : g = W.heap.size := Option.some.inj e2
    omega
theorem wrap_sum (u1 u2 q : Nat) (h1 : u1 < 2000000) (h2 : u2 < 2000000) (hq : q < 2) : wrap64 (wrap64 ((u1 : Int) + (u2 : Int)) + (q : Int)) = ((u1 + u2 + q : Nat) : Int) := by unfold wrap64; omega
theorem low_eq (l1 l2 : Nat) : ((l1 : Int) + (l2 : Int)) % 1000000000000000000 = (((l1 + l2) % CB.half : Nat) : Int) := by unfold CB.half; omega
theorem quo_eq (l1 l2 : Nat) : ((l1 : Int) + (l2 : Int)) / 1000000000000000000 = (((l1 + l2) / CB.half : Nat) : Int) := by unfold CB.half; omega
theorem quo_lt {l1 l2 : Nat} (h1 : l1 < 1000000000000000000) (h2 : l2 < 1000000000000000000) : (l1 + l2) / CB.half < 2 := by unfold CB.half; omega
theorem col_lt {w b : Nat} (hb : b ≤ 72) : CB.colsum (CB.nn 72 w) b < 2 ^ 80 := by
  refine Nat.lt_of_le_of_lt (CB.colsum_le (m := 2 ^ 72) (fun s => CB.nn_le 72 w s) b) ?_
  exact Nat.lt_of_le_of_lt (Nat.mul_le_mul_right (2 ^ 72) (show b + 1 ≤ 73 by omega)) (by decide)
theorem col_succ (w b : Nat) : CB.colsum (CB.nn 72 w) (b + 1) = CB.colsum (CB.nn 72 w) b + CB.nn 72 w (CB.cl b) := rfl
/-- What the last region meets. -/
structure WbQ (u W : World) (p1 p2 p3 : Nat) (a1 : Option Addr) (d1 x1 : Nat) (a2 : Option Addr) (d2 x2 : Nat) (a3 : Option Addr) (d3 x3 : Nat) : Prop where
  c1 : W.cell? ⟨p1, 0, none⟩ = some (.slice a1 (M.dig x1).length d1)
  c2 : W.cell? ⟨p2, 0, none⟩ = some (.slice a2 (M.dig x2).length d2)
  c3 : W.cell? ⟨p3, 0, none⟩ = some (.slice a3 (M.dig x3).length d3)
  r1 : Row W a1 (M.dig x1) d1
  r2 : Row W a2 (M.dig x2) d2
  r3 : Row W a3 (M.dig x3) d3
  rc : W.cell? ⟨u.heap.size, 0, none⟩ = some (.slice none 0 0)
  rf : W.frozen? ⟨u.heap.size, 0, none⟩ = false
  bel : Below u.heap.size u W
  n1 : p1 ≠ u.heap.size
  n2 : p2 ≠ u.heap.size
  n3 : p3 ≠ u.heap.size
theorem WbQ.below {u W W' : World} {p1 p2 p3 : Nat} {a1 a2 a3 : Option Addr} {d1 x1 d2 x2 d3 x3 : Nat} (h : WbQ u W p1 p2 p3 a1 d1 x1 a2 d2 x2 a3 d3 x3) (hb : Below W.heap.size W W') : WbQ u W' p1 p2 p3 a1 d1 x1 a2 d2 x2 a3 d3 x3 :=
  ⟨G.cell_below hb h.c1, G.cell_below hb h.c2, G.cell_below hb h.c3, h.r1.below hb, h.r2.below hb, h.r3.below hb, G.cell_below hb h.rc, G.frozen_below hb h.rc h.rf, h.bel.trans (hb.mono h.bel.size), h.n1, h.n2, h.n3⟩
theorem WbQ.stored {u W : World} {p1 p2 p3 : Nat} {a1 a2 a3 : Option Addr} {d1 x1 d2 x2 d3 x3 : Nat} (h : WbQ u W p1 p2 p3 a1 d1 x1 a2 d2 x2 a3 d3 x3) (v : Value) : (W.setCell ⟨u.heap.size, 0, none⟩ v).cell? ⟨p1, 0, none⟩ = some (.slice a1 (M.dig x1).length d1) ∧ (W.setCell ⟨u.heap.size, 0, none⟩ v).cell? ⟨p2, 0, none⟩ = some (.slice a2 (M.dig x2).length d2) ∧ (W.setCell ⟨u.heap.size, 0, none⟩ v).cell? ⟨p3, 0, none⟩ = some (.slice a3 (M.dig x3).length d3) :=
  ⟨(G.cell_other (p := ⟨u.heap.size, 0, none⟩) v h.n1).trans h.c1, (G.cell_other (p := ⟨u.heap.size, 0, none⟩) v h.n2).trans h.c2, (G.cell_other (p := ⟨u.heap.size, 0, none⟩) v h.n3).trans h.c3⟩
theorem WbQ.cells {u W : World} {p1 p2 p3 : Nat} {a1 a2 a3 : Option Addr} {d1 x1 d2 x2 d3 x3 : Nat} (h : WbQ u W p1 p2 p3 a1 d1 x1 a2 d2 x2 a3 d3 x3) : W.cell? ⟨p1, 0, none⟩ = some (.slice a1 (M.dig x1).length d1) ∧ W.cell? ⟨p2, 0, none⟩ = some (.slice a2 (M.dig x2).length d2) ∧ W.cell? ⟨p3, 0, none⟩ = some (.slice a3 (M.dig x3).length d3) := ⟨h.c1, h.c2, h.c3⟩
theorem len80 {x : Nat} (h : x < 2 ^ 80) : (M.dig x).length ≤ 200 := bits_len (Nat.le_of_lt h) (by decide)
/-- The halves of a sum. -/
theorem halves {a c l1 l2 u1 u2 : Nat} (e1 : a % CB.half = l1) (e2 : c % CB.half = l2) (e3 : a / CB.half = u1) (e4 : c / CB.half = u2) (ha : a < 2 ^ 80) (hc : c < 2 ^ 80) :
    ((l1 : Int) + (l2 : Int)) % 1000000000000000000 = (((a + c) % CB.half : Nat) : Int) ∧ wrap64 (wrap64 ((u1 : Int) + (u2 : Int)) + ((l1 : Int) + (l2 : Int)) / 1000000000000000000) = (((a + c) / CB.half : Nat) : Int) := by
  have g1 := CB.half_lt a
  have g2 := CB.half_lt c
  have g3 := CB.half_top ha
  have g4 := CB.half_top hc
  rw [e1] at g1
  rw [e2] at g2
  rw [e3] at g3
  rw [e4] at g4
  refine ⟨?_, ?_⟩
  · rw [low_eq, ← CB.half_low a c, e1, e2]
  · rw [quo_eq, wrap_sum _ _ _ g3 g4 (quo_lt g1 g2), ← CB.half_high a c, e1, e2, e3, e4]
theorem GR.step {u W : World} {w g : Nat} {ac : Option Addr} {cc b k s : Nat} (h : GR u w g ac cc (CB.ST b (k + 1) s) W) (hs : s < 256) {v0 h0 : Int}
    (hv : v0 = (((CB.nn b (k + 1) s + CB.nn b k (s ^^^ CB.cl b)) % CB.half : Nat) : Int)) (hh : h0 = (((CB.nn b (k + 1) s + CB.nn b k (s ^^^ CB.cl b)) / CB.half : Nat) : Int)) :
    GR u w g ac cc (CB.ST b (k + 1) (s + 1)) ((W.setCell ⟨g, (k + 1) * 512 + s * 2, none⟩ (.int .i64 v0)).setCell ⟨g, (k + 1) * 512 + s * 2 + 1, none⟩ (.int .i64 h0)) := by
  have hN : CB.ST b (k + 1) (s + 1) (k + 1) s = CB.nn b (k + 1) s + CB.nn b k (s ^^^ CB.cl b) := by rw [← CB.st_step, if_pos ⟨rfl, rfl⟩]
  refine ⟨(h.fb.set2 _ _ _).congr (fun p _ => ?_), h.own.elim fun B ho => ⟨B, (ho.other (p := ⟨g, (k + 1) * 512 + s * 2, none⟩) _ h.ne).other (p := ⟨g, (k + 1) * 512 + s * 2 + 1, none⟩) _ h.ne⟩, (h.bel.setCell (p := ⟨g, (k + 1) * 512 + s * 2, none⟩) (Nat.le_of_lt h.far) _).setCell (p := ⟨g, (k + 1) * 512 + s * 2 + 1, none⟩) (Nat.le_of_lt h.far) _, h.ne, h.far, (G.cell_other (p := ⟨g, (k + 1) * 512 + s * 2 + 1, none⟩) _ (Nat.ne_of_lt h.far)).trans ((G.cell_other (p := ⟨g, (k + 1) * 512 + s * 2, none⟩) _ (Nat.ne_of_lt h.far)).trans h.rc), (World.frozen?_setCell _ _ _ _).trans ((World.frozen?_setCell _ _ _ _).trans h.rf)⟩
  have := CB.hv_set (N := CB.ST b (k + 1) s) (N' := CB.ST b (k + 1) (s + 1)) (k := k + 1) hs (fun k' s' _ => by rw [hN]; exact CB.st_step b k s k' s') p
  unfold gvF
  rw [← this, hN]
  by_cases e1 : p = (k + 1) * 512 + s * 2 + 1
  · rw [if_pos e1, if_pos e1, hh]
  · rw [if_neg e1, if_neg e1]
    by_cases e2 : p = (k + 1) * 512 + s * 2
    · rw [if_pos e2, if_pos e2, hv]
    · rw [if_neg e2, if_neg e2]
set_option maxRecDepth 100000 in
set_option maxHeartbeats 4000000 in
theorem rwrongBits_yes (w : Nat) (h2 : 2 ≤ w) (h72 : w ≤ 72) (u : World) :
    Calls Tryd.prog 5 #[.int .i64 (w : Int)] u fun e W => NumE (CB.tot w) e W ∧ Below u.heap.size u W := by
  have HC := Lib.hid (fun W => G.H.rcolumns_any W)
  have HMK := Lib.hid (fun W => make_grid W (w + 1) (by omega))
  have hw1 : IntKind.i64.wrap ((w : Int) + 1) = ((w + 1 : Nat) : Int) := by rw [IntKind.wrap_i64]; omega
  have hl0 : ¬ (w : Int) < 0 := by omega
  have hl1 : ¬ (72 : Int) < (w : Int) := by omega
  have hl2 : ¬ (w : Int) < 2 := by omega
  go_enter Tryd.func5, Tryd.ntmps5
  go_wp2_with fail
  refine (HC.out _).mono ?_
  rintro e w1 ⟨ac, cc, rfl, hoc, hb1⟩
  have hb0 := (Below.refl u.heap.size u).alloc (Nat.le_refl _) (.cells #[.slice none 0 0] 24)
  have HB1 := Lib.hid (hb0.trans (hb1.mono (by simp)))
  have HOC := Lib.hid hoc
  have hsz1 : u.heap.size < w1.heap.size := by have := hb1.size; simp at this; omega
  have hrc1 : w1.cell? ⟨u.heap.size, 0, none⟩ = some (.slice none 0 0) := G.cell_below hb1 (G.cell_new _ _ _)
  have hrf1 : w1.frozen? ⟨u.heap.size, 0, none⟩ = false := G.frozen_below hb1 (G.cell_new _ _ _) (G.frozen_new _ _ _)
  clear hb0 hb1 hoc HC
  go_wp2_with (at_make; refine wpList_makeGrid rfl _ _ rfl (w + 1) rfl rfl rfl (by omega) (by omega) ?_; intro w2 hfb hb2; obtain ⟨g, hg⟩ : ∃ g, w1.heap.size = g := ⟨_, rfl⟩; rw [hg] at hfb ⊢; have hc0 := hfb.cell (k := 0) (by omega); have hf0 := hfb.free 0; have hfb3 := hfb.set 0 (.int .i64 1); have HFB := Lib.hid hfb3; have HB2 := Lib.hid ((HB1.out.trans (hb2.mono HB1.out.size)).setCell (p := ⟨g, 0, none⟩) (by have := HB1.out.size; show u.heap.size ≤ g; omega) (.int .i64 1)); have HOC2 := Lib.hid (own_other (o := 0) HOC.out hb2 (.int .i64 1)); rw [hg] at HOC2; have HNE := Lib.hid (own_ne HOC.out); rw [hg] at HNE; have HFAR := Lib.hid (show u.heap.size < g by omega); have HRC := Lib.hid (And.intro ((G.cell_other (p := ⟨g, 0, none⟩) (.int .i64 1) (show u.heap.size ≠ g by omega)).trans (G.cell_below hb2 hrc1)) ((World.frozen?_setCell w2 ⟨g, 0, none⟩ _ (.int .i64 1)).trans (G.frozen_below hb2 hrc1 hrf1))); clear hfb hfb3 hb2)
  have HG0 := Lib.hid (GR.mk (g := g) (w := w) (u := u) (ac := ac) (cc := cc) (N := CB.nn 0) (fb_start HFB.out) (by have := HOC2.out; exact ⟨_, this⟩) HB2.out HNE.out HFAR.out HRC.out.1 HRC.out.2)
  clear HFB HB2 HOC2 HB1 HOC HMK HNE HFAR HRC
  go_wp2_with fail
  go_loopw [6] (fun i wr => ∃ b : Nat, i = .int .i64 (b : Int) ∧ b ≤ 72 ∧ Hid (GR u w g ac cc (CB.nn b) wr)) (fun i _ => 72 - (intOf i).toNat)
  case atStart => exact ⟨0, rfl, Nat.zero_le _, HG0⟩
  case round =>
    clear HG0
    obtain ⟨b, rfl, hb, HG⟩ := hrel
    by_cases hlt : (b : Int) < 72
    · have hb72 : b < 72 := by omega
      have hwb : IntKind.i64.wrap ((b : Int) + 1) = (b : Int) + 1 := by rw [IntKind.wrap_i64]; omega
      obtain ⟨k0, hk0⟩ : ∃ k, min w (b + 1) = k := ⟨_, rfl⟩
      have hmin : min (w : Int) ((b : Int) + 1) = (k0 : Int) := by omega
      have hk0w : k0 ≤ w := by omega
      have HG1 := Lib.hid (HG.out.congr (N' := CB.ST b k0 0) (fun k s hk _ => by rw [← hk0]; exact (CB.st_start hk).symm))
      clear HG hk0
      go_wp2_with fail
      go_loopw [7] (fun j wr => ∃ k : Nat, j = .int .i64 (k : Int) ∧ k ≤ k0 ∧ Hid (GR u w g ac cc (CB.ST b k 0) wr)) (fun j _ => (intOf j).toNat)
      case atStart => exact ⟨k0, rfl, Nat.le_refl _, HG1⟩
      case round =>
        clear HG1
        obtain ⟨k, rfl, hk, HG⟩ := hrel
        by_cases hkz : (0 : Int) < (k : Int)
        · obtain ⟨k, rfl⟩ : ∃ j, k = j + 1 := ⟨k - 1, by omega⟩
          go_wp2_with fail
          go_loopw [8] (fun j wr => ∃ s : Nat, j = .int .i64 (s : Int) ∧ s ≤ 256 ∧ Hid (GR u w g ac cc (CB.ST b (k + 1) s) wr)) (fun j _ => 256 - (intOf j).toNat)
          case atStart => exact ⟨0, rfl, Nat.zero_le _, HG⟩
          case round =>
            clear HG
            obtain ⟨s, rfl, hs, HG⟩ := hrel
            by_cases hsl : (s : Int) < 256
            · go_wp2_with fail
              have hs256 : s < 256 := by omega
              have hsk : IntKind.i64.wrap (((k : Int) + 1) - 1) = (k : Int) := by rw [IntKind.wrap_i64]; omega
              obtain ⟨g1, c, hac, hcc, hcl, hclt⟩ := col_cell HG.out hb72
              have HCL := Lib.hid hcl
              clear hcl
              have hx := xor_i64 s c hs256 hclt
              have hxl : s ^^^ c < 256 := Nat.xor_lt_two_pow (n := 8) hs256 hclt
              obtain ⟨x, hxe⟩ : ∃ x, s ^^^ c = x := ⟨_, rfl⟩
              rw [hxe] at hx hxl
              have HXE := Lib.hid hxe
              clear hxe
              have hkw : k + 1 ≤ w := by omega
              have hg0 := HG.out.fb.cell (k := k * 512 + x * 2) (by omega)
              have hg1 := HG.out.fb.cell (k := k * 512 + x * 2 + 1) (by omega)
              have hg2 := HG.out.fb.cell (k := (k + 1) * 512 + s * 2) (by omega)
              have hg3 := HG.out.fb.cell (k := (k + 1) * 512 + s * 2 + 1) (by omega)
              subst hac
              have hkI : (0 : Int) ≤ (k : Int) := by omega
              have hgl := HG.out.fb.lt
              have hwc : IntKind.i64.wrap (c : Int) = (c : Int) := by rw [IntKind.wrap_i64]; omega
              have hwk : IntKind.i64.wrap (k : Int) = (k : Int) := by rw [IntKind.wrap_i64]; omega
              have hkw1 : (k : Int) < (w : Int) + 1 := by omega
              have hx0 : (0 : Int) ≤ (x : Int) := by omega
              have hx256 : (x : Int) < 256 := by omega
              unfold gvF at hg0 hg1 hg2 hg3
              go_cut [9] (fun s9 wx => ∃ p : Nat, s9 = .pointer (some ⟨p, 0, none⟩) ∧ Box wx p 41 [.int .i64 ((CB.hv (CB.ST b (k + 1) s) (k * 512 + x * 2) : Nat) : Int), .int .i64 ((CB.hv (CB.ST b (k + 1) s) (k * 512 + x * 2 + 1) : Nat) : Int)] ∧ GR u w g (some ⟨g1, 0, none⟩) cc (CB.ST b (k + 1) s) wx ∧ p ≠ g)
              case first =>
                go_region_held3 (fun W' => W'.cell? ⟨g1, b, none⟩ = some (.int .u8 (c : Int)) ∧ W'.cell? ⟨g, k * 512 + x * 2, none⟩ = some (.int .i64 ((CB.hv (CB.ST b (k + 1) s) (k * 512 + x * 2) : Nat) : Int)) ∧ W'.cell? ⟨g, k * 512 + x * 2 + 1, none⟩ = some (.int .i64 ((CB.hv (CB.ST b (k + 1) s) (k * 512 + x * 2 + 1) : Nat) : Int))) (go_keep) (fail)
                go_wp2_with fail
                go_meet
                exact ⟨wr.heap.size, rfl, (Box.new wr 41 _).drewN 1, HG.out.below (((Below.refl _ wr).alloc (Nat.le_refl _) _).drew), Nat.ne_of_gt hgl⟩
              case rest =>
                obtain ⟨p, rfl, hbx, hgr, hpg⟩ := hcut
                rw [show CB.hv (CB.ST b (k + 1) s) (k * 512 + x * 2) = CB.nn b k x % CB.half by rw [CB.hv_low _ hxl, CB.st_below]] at hbx
                rw [show CB.hv (CB.ST b (k + 1) s) (k * 512 + x * 2 + 1) = CB.nn b k x / CB.half by rw [CB.hv_high _ hxl, CB.st_below]] at hbx
                have HBX := Lib.hid hbx
                have HGR := Lib.hid hgr
                clear hbx hgr HG hg0 hg1 hg2 hg3
                have e0 : wc.cell? ⟨g, (k + 1) * 512 + s * 2, none⟩ = some (.int .i64 ((CB.nn b (k + 1) s % CB.half : Nat) : Int)) := by
                  have := HGR.out.fb.cell (k := (k + 1) * 512 + s * 2) (by omega)
                  unfold gvF at this
                  rwa [CB.hv_low _ hs256, CB.st_here] at this
                have e1 : wc.cell? ⟨g, (k + 1) * 512 + s * 2 + 1, none⟩ = some (.int .i64 ((CB.nn b (k + 1) s / CB.half : Nat) : Int)) := by
                  have := HGR.out.fb.cell (k := (k + 1) * 512 + s * 2 + 1) (by omega)
                  unfold gvF at this
                  rwa [CB.hv_high _ hs256, CB.st_here] at this
                have p0 := HBX.out.cell 0 rfl
                have p1 := HBX.out.cell 1 rfl
                obtain ⟨l1, hl1e⟩ : ∃ l, CB.nn b (k + 1) s % CB.half = l := ⟨_, rfl⟩
                obtain ⟨l2, hl2e⟩ : ∃ l, CB.nn b k x % CB.half = l := ⟨_, rfl⟩
                obtain ⟨u1, hu1e⟩ : ∃ l, CB.nn b (k + 1) s / CB.half = l := ⟨_, rfl⟩
                obtain ⟨u2, hu2e⟩ : ∃ l, CB.nn b k x / CB.half = l := ⟨_, rfl⟩
                have hh : CB.half = 1000000000000000000 := rfl
                have hl1b : l1 < 1000000000000000000 := by rw [← hl1e, ← hh]; exact CB.half_lt _
                have hl2b : l2 < 1000000000000000000 := by rw [← hl2e, ← hh]; exact CB.half_lt _
                rw [hl1e] at e0
                rw [hu1e] at e1
                rw [hl2e] at p0
                rw [hu2e] at p1
                have HE := Lib.hid (And.intro hl1e (And.intro hl2e (And.intro hu1e hu2e)))
                clear hl1e hl2e hu1e hu2e hh
                have e0d : wc.drew.cell? ⟨g, (k + 1) * 512 + s * 2, none⟩ = some (.int .i64 (l1 : Int)) := e0
                have p0d : wc.drew.cell? ⟨p, 0, none⟩ = some (.int .i64 (l2 : Int)) := p0
                have hwk1 : IntKind.i64.wrap ((k : Int) + 1) = (k : Int) + 1 := by rw [IntKind.wrap_i64]; omega
                have hwl : IntKind.i64.wrap ((l1 : Int) + (l2 : Int)) = (l1 : Int) + (l2 : Int) := by rw [IntKind.wrap_i64]; omega
                go_upto_region 18 with fail
                go_region
                clear e0d p0d hwl
                have e0d : wc.drew.drew.cell? ⟨g, (k + 1) * 512 + s * 2, none⟩ = some (.int .i64 (l1 : Int)) := e0
                have e1d : wc.drew.drew.cell? ⟨g, (k + 1) * 512 + s * 2 + 1, none⟩ = some (.int .i64 (u1 : Int)) := e1
                have p1d : wc.drew.drew.cell? ⟨p, 1, none⟩ = some (.int .i64 (u2 : Int)) := p1
                have f0d : wc.drew.drew.frozen? ⟨g, (k + 1) * 512 + s * 2, none⟩ = false := HGR.out.fb.free _
                have f1d : wc.drew.drew.frozen? ⟨g, (k + 1) * 512 + s * 2 + 1, none⟩ = false := HGR.out.fb.free _
                have HGD := Lib.hid (HGR.out.below (((Below.refl _ wc).drew).drew))
                have HBD := Lib.hid (show Box wc.drew.drew p _ _ from HBX.out.drewN 2)
                clear e0 e1 p0 p1 HGR HBX
                go_upto_region 19 with fail
                obtain ⟨v0, hv0⟩ : ∃ v : Int, ((l1 : Int) + (l2 : Int)) % 1000000000000000000 = v := ⟨_, rfl⟩
                obtain ⟨wA, hwA⟩ : ∃ u, wc.drew.drew.setCell ⟨g, (k + 1) * 512 + s * 2, none⟩ (.int .i64 v0) = u := ⟨_, rfl⟩
                have a1 : wA.cell? ⟨g, (k + 1) * 512 + s * 2 + 1, none⟩ = some (.int .i64 (u1 : Int)) := by
                  rw [← hwA]; exact (World.cell?_setCell_other _ _ _ _ (by intro e; have := congrArg Addr.off e; simp at this)).trans e1d
                have a2 : wA.frozen? ⟨g, (k + 1) * 512 + s * 2 + 1, none⟩ = false := by
                  rw [← hwA]; exact (World.frozen?_setCell _ _ _ _).trans f1d
                have HV0 := Lib.hid hv0
                go_region
                have hbc : CB.nn b (k + 1) s < 2 ^ 80 := Nat.lt_of_le_of_lt (CB.nn_le _ _ _) (Nat.pow_lt_pow_right (by decide) (by omega))
                have hbd : CB.nn b k x < 2 ^ 80 := Nat.lt_of_le_of_lt (CB.nn_le _ _ _) (Nat.pow_lt_pow_right (by decide) (by omega))
                obtain ⟨e1', e2', e3', e4'⟩ := HE.out
                have hxc : s ^^^ CB.cl b = x := by rw [← HCL.out]; exact HXE.out
                obtain ⟨hlo, hhi⟩ := halves e1' e2' e3' e4' hbc hbd
                rw [HV0.out] at hlo
                have hGS := HGD.out.step hs256 (hlo.trans (by rw [hxc])) (hhi.trans (by rw [hxc]))
                rw [hwA] at hGS
                have HGS := Lib.hid hGS
                clear hGS hbc hbd hlo hhi e1' e2' e3' e4' hxc
                go_wp2_with fail
                go_roundw
                case rel => exact ⟨s + 1, by go_num, by omega, HGS⟩
                case measure => simp [intOf]; omega
            · obtain rfl : s = 256 := by omega
              have HG2 := Lib.hid (HG.out.congr (N' := CB.ST b k 0) (fun k' s' _ hs' => CB.st_next hs'))
              clear HG
              have hkp : IntKind.i64.wrap ((k : Int) + 1 - 1) = (k : Int) := by rw [IntKind.wrap_i64]; omega
              go_wp2_with fail
              go_roundw
              case rel => exact ⟨k, rfl, by omega, HG2⟩
              case measure => simp [intOf]
        · obtain rfl : k = 0 := by omega
          have HG2 := Lib.hid (HG.out.congr (N' := CB.nn (b + 1)) (fun k' s' _ _ => CB.st_end b k' s'))
          clear HG
          go_wp2_with fail
          go_roundw
          case rel => exact ⟨b + 1, by go_num, by omega, HG2⟩
          case measure => simp [intOf]; omega
    · obtain rfl : b = 72 := by omega
      have hz0 := HG.out.fb.cell (k := w * 512) (by omega)
      have hz1 := HG.out.fb.cell (k := w * 512 + 1) (by omega)
      unfold gvF at hz0 hz1
      rw [show CB.hv (CB.nn 72) (w * 512) = CB.colsum (CB.nn 72 w) 0 % CB.half from CB.hv_low (CB.nn 72) (k := w) (s := 0) (by decide)] at hz0
      rw [show CB.hv (CB.nn 72) (w * 512 + 1) = CB.colsum (CB.nn 72 w) 0 / CB.half from CB.hv_high (CB.nn 72) (k := w) (s := 0) (by decide)] at hz1
      obtain ⟨z0, hz0e⟩ : ∃ z, CB.colsum (CB.nn 72 w) 0 % CB.half = z := ⟨_, rfl⟩
      obtain ⟨z1, hz1e⟩ : ∃ z, CB.colsum (CB.nn 72 w) 0 / CB.half = z := ⟨_, rfl⟩
      rw [hz0e] at hz0
      rw [hz1e] at hz1
      have HZE := Lib.hid (And.intro hz0e hz1e)
      have hbx := Box.new wr 41 [.int .i64 (z0 : Int), .int .i64 (z1 : Int)]
      have hga := HG.out.below ((Below.refl _ wr).alloc (Nat.le_refl _) (.cells #[.int .i64 (z0 : Int), .int .i64 (z1 : Int)] 41))
      have hwg := HG.out.fb.lt
      have hfar : u.heap.size < wr.heap.size := Nat.lt_trans HG.out.far HG.out.fb.lt
      have hqn2 : (Value.slice ac 72 cc).ownBlock ≠ some wr.heap.size := HG.out.own.elim fun B ho => own_ne ho
      obtain ⟨w3, hw3⟩ : ∃ w3, wr.alloc (.cells #[.int .i64 (z0 : Int), .int .i64 (z1 : Int)] 41) = w3 := ⟨_, rfl⟩
      have hbx' : Box w3 wr.heap.size 41 [.int .i64 (z0 : Int), .int .i64 (z1 : Int)] := by rw [← hw3]; exact hbx
      rw [hw3] at hga
      obtain ⟨q, hq⟩ : ∃ q, wr.heap.size = q := ⟨_, rfl⟩
      rw [hq] at hwg hfar hbx' hqn2
      have HQN2 := Lib.hid hqn2
      clear hqn2
      have HGA' := Lib.hid hga
      have HBX' := Lib.hid hbx'
      have HQG := Lib.hid (And.intro (show g ≠ q by omega) hfar)
      clear hbx hbx' hga HG hz0e hz1e
      go_wp2_with fail
      clear hz0 hz1 hw3
      go_loopw [12] (fun i wq => ∃ b : Nat, i = .int .i64 (b : Int) ∧ b ≤ 72 ∧ Hid (GR u w g ac cc (CB.nn 72) wq) ∧ Hid (Box wq q 41 [.int .i64 ((CB.colsum (CB.nn 72 w) b % CB.half : Nat) : Int), .int .i64 ((CB.colsum (CB.nn 72 w) b / CB.half : Nat) : Int)])) (fun i _ => 72 - (intOf i).toNat)
      case atStart => exact ⟨0, rfl, Nat.zero_le _, HGA', Lib.hid (by rw [HZE.out.1, HZE.out.2]; exact HBX'.out)⟩
      case round =>
        clear HGA' HBX'
        obtain ⟨b, rfl, hb, HG, HQ⟩ := hrel
        by_cases hlt : (b : Int) < 72
        · have hb72 : b < 72 := by omega
          obtain ⟨g1, c, hac, hcc, hcl, hclt⟩ := col_cell HG.out hb72
          have HCL := Lib.hid hcl
          clear hcl
          have hg0 := HG.out.fb.cell (k := w * 512 + c * 2) (by omega)
          have hg1 := HG.out.fb.cell (k := w * 512 + c * 2 + 1) (by omega)
          unfold gvF at hg0 hg1
          rw [CB.hv_low (CB.nn 72) hclt] at hg0
          rw [CB.hv_high (CB.nn 72) hclt] at hg1
          obtain ⟨l2, hl2e⟩ : ∃ l, CB.nn 72 w c % CB.half = l := ⟨_, rfl⟩
          obtain ⟨u2, hu2e⟩ : ∃ l, CB.nn 72 w c / CB.half = l := ⟨_, rfl⟩
          rw [hl2e] at hg0
          rw [hu2e] at hg1
          have HE2 := Lib.hid (And.intro hl2e hu2e)
          clear hl2e hu2e
          subst hac
          have hwI : (0 : Int) ≤ (w : Int) := by omega
          have hwlt : (w : Int) < (w : Int) + 1 := by omega
          have hwb : w < w + 1 := by omega
          have hc0 : (0 : Int) ≤ (c : Int) := by omega
          have hc256 : (c : Int) < 256 := by omega
          have hgl := HG.out.fb.lt
          have hql := HQ.out.lt
          go_wp2_with fail
          go_cut [13] (fun s13 wx => ∃ p : Nat, s13 = .pointer (some ⟨p, 0, none⟩) ∧ Box wx p 41 [.int .i64 (l2 : Int), .int .i64 (u2 : Int)] ∧ GR u w g (some ⟨g1, 0, none⟩) cc (CB.nn 72) wx ∧ Box wx q 41 [.int .i64 ((CB.colsum (CB.nn 72 w) b % CB.half : Nat) : Int), .int .i64 ((CB.colsum (CB.nn 72 w) b / CB.half : Nat) : Int)] ∧ p ≠ q)
          case first =>
            go_region_held3 (fun W' => W'.cell? ⟨g1, b, none⟩ = some (.int .u8 (c : Int)) ∧ W'.cell? ⟨g, w * 512 + c * 2, none⟩ = some (.int .i64 (l2 : Int)) ∧ W'.cell? ⟨g, w * 512 + c * 2 + 1, none⟩ = some (.int .i64 (u2 : Int))) (go_keep) (fail)
            all_goals (go_wp2_with fail)
            all_goals go_meet
            all_goals exact ⟨wr.heap.size, rfl, (Box.new wr 41 _).drewN 1, HG.out.below (((Below.refl _ wr).alloc (Nat.le_refl _) _).drew), HQ.out.below (((Below.refl _ wr).alloc (Nat.le_refl _) _).drew), Nat.ne_of_gt hql⟩
          case rest =>
            obtain ⟨p, rfl, hbx, hgr, hqr, hpq⟩ := hcut
            have p0 := hbx.cell 0 rfl
            have p1 := hbx.cell 1 rfl
            have q0 := hqr.cell 0 rfl
            have q1 := hqr.cell 1 rfl
            have q0f := hqr.free 0
            have q1f := hqr.free 1
            obtain ⟨l1, hl1e⟩ : ∃ l, CB.colsum (CB.nn 72 w) b % CB.half = l := ⟨_, rfl⟩
            obtain ⟨hl2e, hu2e⟩ := HE2.out
            obtain ⟨u1, hu1e⟩ : ∃ l, CB.colsum (CB.nn 72 w) b / CB.half = l := ⟨_, rfl⟩
            obtain ⟨hlo, hhi⟩ := halves hl1e hl2e hu1e hu2e (col_lt (w := w) (by omega)) (Nat.lt_of_le_of_lt (CB.nn_le 72 w c) (by decide))
            rw [HCL.out, ← col_succ] at hlo hhi
            have hl1b : l1 < 1000000000000000000 := by rw [← hl1e]; exact CB.half_lt _
            have hl2b : l2 < 1000000000000000000 := by rw [← hl2e]; exact CB.half_lt _
            rw [hl1e] at q0 hqr
            rw [hu1e] at q1 hqr
            have hwl : IntKind.i64.wrap ((l1 : Int) + (l2 : Int)) = (l1 : Int) + (l2 : Int) := by rw [IntKind.wrap_i64]; omega
            obtain ⟨v0, hv0⟩ : ∃ v : Int, ((l1 : Int) + (l2 : Int)) % 1000000000000000000 = v := ⟨_, rfl⟩
            obtain ⟨v1, hv1⟩ : ∃ v : Int, wrap64 (wrap64 ((u1 : Int) + (u2 : Int)) + ((l1 : Int) + (l2 : Int)) / 1000000000000000000) = v := ⟨_, rfl⟩
            obtain ⟨wA, hwA⟩ : ∃ x, wc.setCell ⟨q, 0, none⟩ (.int .i64 v0) = x := ⟨_, rfl⟩
            have a1 : wA.cell? ⟨q, 1, none⟩ = some (.int .i64 (u1 : Int)) := by
              rw [← hwA]; exact (World.cell?_setCell_other _ _ _ _ (by intro e; have := congrArg Addr.off e; simp at this)).trans q1
            have a2 : wA.frozen? ⟨q, 1, none⟩ = false := by
              rw [← hwA]; exact (World.frozen?_setCell _ _ _ _).trans q1f
            rw [hv0] at hlo
            rw [hv1] at hhi
            have HLO := Lib.hid (And.intro hlo hhi)
            have hqn := (hqr.set 0 (.int .i64 v0)).set 1 (.int .i64 v1)
            rw [hwA] at hqn
            have HQN := Lib.hid hqn
            have HGR := Lib.hid hgr
            clear hqn hgr hqr hbx hlo hhi hl1e hl2e hu1e hu2e HG HQ hg0 hg1 hpq
            go_wp2_with fail
            go_roundw
            case rel =>
              have hgn := HGR.out
              refine ⟨b + 1, by go_num, by omega, Lib.hid ?_, Lib.hid ?_⟩
              · rw [← hwA]
                refine ⟨(hgn.fb.other (q := ⟨q, 0, none⟩) (fun e => HQG.out.1 e.symm) _).other (q := ⟨q, 1, none⟩) (fun e => HQG.out.1 e.symm) _, hgn.own.elim fun B ho => ⟨B, (ho.other (p := ⟨q, 0, none⟩) _ HQN2.out).other (p := ⟨q, 1, none⟩) _ HQN2.out⟩, (hgn.bel.setCell (p := ⟨q, 0, none⟩) (Nat.le_of_lt HQG.out.2) _).setCell (p := ⟨q, 1, none⟩) (Nat.le_of_lt HQG.out.2) _, hgn.ne, hgn.far, (G.cell_other (p := ⟨q, 1, none⟩) _ (Nat.ne_of_lt HQG.out.2)).trans ((G.cell_other (p := ⟨q, 0, none⟩) _ (Nat.ne_of_lt HQG.out.2)).trans hgn.rc), (World.frozen?_setCell _ _ _ _).trans ((World.frozen?_setCell _ _ _ _).trans hgn.rf)⟩
              · rw [← HLO.out.1, ← HLO.out.2]
                exact HQN.out
            case measure => simp [intOf]; omega
        · obtain rfl : b = 72 := by omega
          have hq0 := HQ.out.cell 0 rfl
          have hq1 := HQ.out.cell 1 rfl
          obtain ⟨T, hT⟩ : ∃ T, CB.colsum (CB.nn 72 w) 72 = T := ⟨_, rfl⟩
          have hTl : T < 2 ^ 80 := by rw [← hT]; exact col_lt (by decide)
          have hTT : CB.tot w = T := hT
          rw [hT] at hq0 hq1
          have hhb := CB.half_top hTl
          have hlb := CB.half_lt T
          obtain ⟨l, hl⟩ : ∃ l, T % CB.half = l := ⟨_, rfl⟩
          obtain ⟨h, hh⟩ : ∃ h, T / CB.half = h := ⟨_, rfl⟩
          have hdm : h * CB.half + l = T := by rw [← hl, ← hh, Nat.mul_comm]; exact Nat.div_add_mod T CB.half
          have hml : h * CB.half ≤ T := by omega
          rw [hl] at hq0 hlb
          rw [hh] at hq1 hhb
          have hlb2 : l < 1000000000000000000 := hlb
          have hQ := HQ.out
          rw [hT, hl, hh] at hQ
          have HQ2 := Lib.hid hQ
          clear hQ HQ
          have HLEN := Lib.hid (And.intro (len80 (Nat.lt_of_le_of_lt hml hTl)) (And.intro (len80 hTl) (And.intro (len80 (x := h) (Nat.lt_trans hhb (by decide))) (And.intro (len80 (x := CB.half) (by unfold CB.half; decide)) (len80 (x := l) (Nat.lt_trans hlb2 (by decide)))))))
          have HDM := Lib.hid hdm
          have HO1 := Lib.hid (fun W => rof_num h W (by omega))
          have HO2 := Lib.hid (fun W => (show Calls Tryd.prog 15 #[.int .i64 1000000000000000000] W (fun e W' => NumE CB.half e W' ∧ Below W.heap.size W W') from rof_num CB.half W (by unfold CB.half; decide)))
          have HO3 := Lib.hid (fun W => rof_num l W (by omega))
          have HRES := Lib.hid (And.intro HG.out.rc HG.out.rf)
          have HBW := Lib.hid HG.out.bel
          have hsr : u.heap.size < wr.heap.size := Nat.lt_trans HG.out.far HG.out.fb.lt
          have HTT := Lib.hid hTT
          clear hTl hT hTT hhb hlb hl hh hdm hml HG
          go_wp2_with fail
          (with_reducible refine (HO1.out _).mono ?_)
          rintro e wA ⟨⟨sA, cA, rfl, hr⟩, hb⟩
          have hv := Bx.new hr
          obtain ⟨wB, hwB⟩ : ∃ wB, wA.alloc (.cells #[.slice sA (M.dig h).length cA] 24) = wB := ⟨_, rfl⟩
          have hbw : Below wA.heap.size wA wB := by rw [← hwB]; exact (Below.refl _ wA).alloc (Nat.le_refl _) _
          obtain ⟨pA, hpA⟩ : ∃ p, wA.heap.size = p := ⟨_, rfl⟩
          have hnA : pA ≠ u.heap.size := by have := hb.size; omega
          have hsB : u.heap.size < wB.heap.size := by have := hb.size; have := hbw.size; omega
          rw [hwB, hpA] at hv
          have hb2 := hb.trans (hbw.mono hb.size)
          have VA := Lib.hid hv
          have HQB := Lib.hid (HQ2.out.below hb2)
          have HRB := Lib.hid (And.intro (G.cell_below hb2 HRES.out.1) (G.frozen_below hb2 HRES.out.1 HRES.out.2))
          have HBB := Lib.hid (HBW.out.trans (hb2.mono HBW.out.size))
          clear hr hv hb hbw hb2 HO1 HQ2 HRES HBW hq0 hq1
          have hq0 := HQB.out.cell 0 rfl
          go_wp2_with fail
          (with_reducible refine (HO2.out _).mono ?_)
          rintro e wC ⟨⟨sC, cC, rfl, hr⟩, hb⟩
          have hv := Bx.new hr
          obtain ⟨wD, hwD⟩ : ∃ wD, wC.alloc (.cells #[.slice sC (M.dig CB.half).length cC] 24) = wD := ⟨_, rfl⟩
          have hbw : Below wC.heap.size wC wD := by rw [← hwD]; exact (Below.refl _ wC).alloc (Nat.le_refl _) _
          obtain ⟨pC, hpC⟩ : ∃ p, wC.heap.size = p := ⟨_, rfl⟩
          have hnC : pC ≠ u.heap.size := by have := hb.size; omega
          have hsD : u.heap.size < wD.heap.size := by have := hb.size; have := hbw.size; omega
          rw [hwD, hpC] at hv
          have hb2 := hb.trans (hbw.mono hb.size)
          have VC := Lib.hid hv
          have VAD := Lib.hid (VA.out.below hb2)
          have HQD := Lib.hid (HQB.out.below hb2)
          have HRD := Lib.hid (And.intro (G.cell_below hb2 HRB.out.1) (G.frozen_below hb2 HRB.out.1 HRB.out.2))
          have HBD := Lib.hid (HBB.out.trans (hb2.mono HBB.out.size))
          clear hr hv hb hbw hb2 HO2 HQB HRB HBB VA hq0
          have hq0 := HQD.out.cell 0 rfl
          go_wp2_with fail
          (with_reducible refine (HO3.out _).mono ?_)
          rintro e wE ⟨⟨sE, cE, rfl, hr⟩, hb⟩
          have hv := Bx.new hr
          obtain ⟨wF, hwF⟩ : ∃ wF, wE.alloc (.cells #[.slice sE (M.dig l).length cE] 24) = wF := ⟨_, rfl⟩
          have hbw : Below wE.heap.size wE wF := by rw [← hwF]; exact (Below.refl _ wE).alloc (Nat.le_refl _) _
          obtain ⟨pE, hpE⟩ : ∃ p, wE.heap.size = p := ⟨_, rfl⟩
          have hnE : pE ≠ u.heap.size := by have := hb.size; omega
          rw [hwF, hpE] at hv
          have hb2 := hb.trans (hbw.mono hb.size)
          have hbd := (Below.refl wF.heap.size wF).drew
          have hb3 := hb2.trans (hbd.mono hb2.size)
          obtain ⟨a1, d1, x1, r1⟩ := (VAD.out.below hb3).cell
          obtain ⟨a2, d2, x2, r2⟩ := (VC.out.below hb3).cell
          obtain ⟨a3, d3, x3, r3⟩ := (hv.below hbd).cell
          have HQ := Lib.hid (WbQ.mk x1 x2 x3 r1 r2 r3 (G.cell_below hb3 HRD.out.1) (G.frozen_below hb3 HRD.out.1 HRD.out.2) (HBD.out.trans (hb3.mono HBD.out.size)) hnA hnC hnE : WbQ u wF.drew pA pC pE a1 d1 h a2 d2 CB.half a3 d3 l)
          clear hr hv hb hbw hb2 hbd hb3 HO3 HQD HRD HBD VAD VC hq0 x1 x2 x3 r1 r2 r3
          have HMU := Lib.hid (show Calls Tryd.prog 17 #[.slice (some ⟨wF.heap.size, 0, none⟩) 2 2] (wF.alloc (.cells #[.slice a1 (M.dig h).length d1, .slice a2 (M.dig CB.half).length d2] 24)).drew (fun e W => NumV (h * CB.half) e W ∧ Below wF.drew.heap.size wF.drew W) from
            (rmul8_2F (V := (wF.alloc (.cells #[.slice a1 (M.dig h).length d1, .slice a2 (M.dig CB.half).length d2] 24)).drew) (x := h) (y := CB.half) (facs_pair8 HQ.out.r1 HQ.out.r2) HLEN.out.2.2.1 HLEN.out.2.2.2.1 HLEN.out.1).mono (fun e W hh => And.intro hh.1 (unal8 (W := wF.drew) hh.2)))
          go_upto_region 30 with fail
          go_region_held3 (fun W' => W'.cell? ⟨pA, 0, none⟩ = some (.slice a1 (M.dig h).length d1) ∧ W'.cell? ⟨pC, 0, none⟩ = some (.slice a2 (M.dig CB.half).length d2) ∧ W'.cell? ⟨pE, 0, none⟩ = some (.slice a3 (M.dig l).length d3)) (first | exact HQ.out.cells | exact HQ.out.stored _ | exact (HQ.out.below ((Below.refl _ wF.drew).alloc (Nat.le_refl _) _)).cells | (go_keep; done)) (first
            | ((try go_simp); go_at_call 17; (with_reducible refine HMU.out.mono ?_); go_must (rintro e v1 ⟨⟨aM, cM, rfl, rM⟩, hv⟩; (have HQ' := Lib.hid (HQ.out.below hv)); (clear HQ); (have HQ := HQ'); (clear HQ'); (have HAD := Lib.hid (radd8_T HDM.out rM HQ.out.r3 HLEN.out.1 HLEN.out.2.2.2.2 HLEN.out.2.1)); clear hv rM))
            | ((try go_simp); go_at_call 16; (with_reducible refine HAD.out.mono ?_); go_must (rintro e v2 ⟨⟨aT, cT, rfl, rT⟩, hb⟩; (have HQ' := Lib.hid (HQ.out.below hb)); (clear HQ); (have HQ := HQ'); (clear HQ'); (have RT := Lib.hid rT); (have k2 := HQ.out.rc); (have k3 := HQ.out.rf); clear hb rT HAD)))
          have k4 : (v2.setCell ⟨u.heap.size, 0, none⟩ (.slice aT (M.dig T).length cT)).cell? ⟨u.heap.size, 0, none⟩ = some (.slice aT (M.dig T).length cT) := World.cell?_setCell_same' _ _ _ (by rw [k2]; rfl)
          have HR9 := Lib.hid (RT.out.store k2 (.slice aT (M.dig T).length cT))
          have HB9 := Lib.hid (HQ.out.bel.setCell (p := ⟨u.heap.size, 0, none⟩) (Nat.le_refl _) (.slice aT (M.dig T).length cT))
          clear HQ RT
          go_wp2_with fail
          exact bodyPost_ret (v := .tuple #[.agg #[.slice aT (M.dig T).length cT], .int .i64 0]) (by simp [results, Tryd.results5, go_sem, k4]) rfl ⟨by rw [HTT.out]; exact ⟨aT, cT, rfl, HR9.out⟩, HB9.out⟩
end C
end Go.Proofs.YtmejneobfkbgeaaDoor

namespace Go.Proofs.YtmejneobfkbgeaaDoor
open Go Go.RowKit Go.Shelf

namespace C
theorem each_small : ∀ C, C < 9 → ∀ v, v < 9 → 1 ≤ v → v ≤ C → eachF C v = 0 := by decide +kernel
theorem words_few {n C v : Nat} (hC : C ≤ 8) (h1 : 1 ≤ v) (h2 : v ≤ C) : wordsN n C v = 0 := by
  unfold wordsN
  rw [each_F, each_small C (by omega) v (by omega) h1 h2, Nat.mul_zero]
theorem prd_zero {x : Nat} (xs : List Nat) (h : nth xs 0 = 0) : ∀ k, prd xs (k + 1) = 0
  | 0 => by rw [prd, h, Nat.mul_zero]
  | k + 1 => by rw [prd, prd_zero (x := x) xs h k, Nat.zero_mul]
theorem near_few {n C w g o m F : Nat} (hC : C ≤ 8) (hg : g ≤ F) (h : w + F ≤ C) : nearN n C w g o m = 0 := by
  unfold nearN
  split
  · rfl
  · exact prd_zero (x := 0) (nearL n C (w + g - m) g o m) (show wordsN n C (w + g - m) = 0 from words_few hC (by omega) (by omega)) 5
theorem sm_zero {f : Nat → Nat} : ∀ k, (∀ z, z < k → f z = 0) → sm f k = 0
  | 0, _ => rfl
  | k + 1, h => by rw [sm_succ, sm_zero k (fun z hz => h z (by omega)), h k (Nat.lt_succ_self k)]
/-- Errors of few bytes never pass. -/
theorem wrong_few {n C w F : Nat} (hC : C ≤ 8) (h : w + F ≤ C) : wrongN n C w F = 0 :=
  sm_zero _ (fun g hg => sm_zero _ (fun o _ => sm_zero _ (fun m _ => near_few (F := F) hC (by omega) h)))
theorem le_sm {f : Nat → Nat} {k : Nat} (h : 0 < k) : f 0 ≤ sm f k := by
  induction k with
  | zero => omega
  | succ k ih =>
    rw [sm_succ]
    by_cases e : k = 0
    · subst e; omega
    · have := ih (by omega); omega
/-- With more corrections no fewer errors pass. -/
theorem words_le_wrong {n C w F : Nat} (h1 : 1 ≤ w) (h2 : w ≤ n) : wordsN n C w ≤ wrongN n C w F := by
  rw [← near_zero n C w h1 h2]
  exact Nat.le_trans (le_sm (f := f3 n C w 0 0) (k := F - 0 - 0 + 1) (Nat.succ_pos _)) (Nat.le_trans (le_sm (f := f2 n C w F 0) (k := F - 0 + 1) (Nat.succ_pos _)) (le_sm (f := f1 n C w F) (k := F + 1) (Nat.succ_pos _)))
theorem b4096 {x B : Nat} (h : x ≤ 16 * (16 * (16 * 2 ^ B))) : x ≤ 2 ^ (B + 12) := by
  rw [Nat.pow_add, show (2 : Nat) ^ 12 = 4096 from rfl]
  generalize (2 : Nat) ^ B = X at *
  omega
theorem wrong_len {n C w F : Nat} (hn : n ≤ 40) (hF : F ≤ 4) : (M.dig (wrongN n C w F)).length ≤ 200 :=
  bits_len (b4096 (s1_le (C := C) (w := w) hn hF (Nat.le_refl (F + 1)))) (by have := EB_eq; omega)
end C
end Go.Proofs.YtmejneobfkbgeaaDoor

namespace Go.Proofs.YtmejneobfkbgeaaDoor
open Go Go.RowKit Go.Shelf

namespace C
def nearLF (n C v g o m : Nat) : List Nat := [wordsF n C v, chF v g, (if v < g then 0 else chF (v - g) o), 254 ^ o, chF (n - v) m, 255 ^ m]
def nearF (n C w g o m : Nat) : Nat := if w + g < m + 1 ∨ n + m < w + g then 0 else prd (nearLF n C (w + g - m) g o m) 6
theorem nearL_F (n C v g o m : Nat) : nearL n C v g o m = nearLF n C v g o m := by
  unfold nearL nearLF
  rw [words_F, chI_F, chI_F]
  by_cases h : v < g
  · rw [if_pos (show (v : Int) - (g : Int) < 0 by omega), if_pos h, chI_F]
  · rw [if_neg (show ¬ (v : Int) - (g : Int) < 0 by omega), if_neg h, show ((v : Int) - (g : Int)).toNat = v - g by omega, chI_F]
theorem near_F (n C w g o m : Nat) : nearN n C w g o m = nearF n C w g o m := by unfold nearN nearF; rw [nearL_F]
def wrongF (n C w F : Nat) : Nat := sm (fun g => sm (fun o => sm (fun m => nearF n C w g o m) (F - g - o + 1)) (F - g + 1)) (F + 1)
theorem wrong_F (n C w F : Nat) : wrongN n C w F = wrongF n C w F := by
  unfold wrongN wrongF
  congr 1
  funext g
  unfold f1
  congr 1
  funext o
  unfold f2
  congr 1
  funext m
  exact near_F n C w g o m
/-- The balls round the code words do not meet. -/
theorem balls_all1 : ∀ D, D < 4 → ∀ C, C < 5 → ∀ F, F < 3 → (F ≤ (C + 1) / 2 → sm (fun w => wrongF (D + 1 + (C + 1)) (C + 1) w F) (D + 1 + (C + 1) + 1) = (256 ^ (D + 1) - 1) * sm (errF (D + 1 + (C + 1))) (F + 1)) := by decide +kernel
theorem balls_all2 : ∀ D, D < 5 → ∀ C, C < 6 → ∀ F, F < 3 → (256 ^ D - 1) * sm (errF (D + C)) (F + 1) < 2 ^ 200 := by decide +kernel
theorem sm_mono {f : Nat → Nat} {k K : Nat} (h : k ≤ K) : sm f k ≤ sm f K := by
  induction K with
  | zero => rw [show k = 0 by omega]; exact Nat.le_refl _
  | succ K ih =>
    by_cases e : k = K + 1
    · rw [e]; exact Nat.le_refl _
    · exact Nat.le_trans (ih (by omega)) (Nat.le_add_right _ _)
theorem term_le_sm {f : Nat → Nat} {k K : Nat} (h : k < K) : f k ≤ sm f K := Nat.le_trans (Nat.le_add_left _ _) (sm_mono (f := f) (k := k + 1) h)
/-- The sums of the loop. -/
def wsum (n C F k : Nat) : Nat := sm (fun w => wrongN n C w F) k
def bsum (n F k : Nat) : Nat := sm (errN n) (min k (F + 1))
theorem wsum_succ (n C F k : Nat) : wsum n C F (k + 1) = wsum n C F k + wrongN n C k F := rfl
theorem bsum_yes {n F k : Nat} (h : k ≤ F) : bsum n F (k + 1) = bsum n F k + errN n k := by
  unfold bsum
  rw [Nat.min_eq_left (by omega), Nat.min_eq_left (by omega)]; rfl
theorem bsum_no {n F k : Nat} (h : ¬ k ≤ F) : bsum n F (k + 1) = bsum n F k := by
  unfold bsum
  rw [Nat.min_eq_right (by omega), Nat.min_eq_right (by omega)]
structure BOk (D C F : Nat) : Prop where
  d1 : 1 ≤ D
  d2 : D ≤ 4
  c1 : 1 ≤ C
  c2 : C ≤ 5
  f2 : F ≤ C / 2
theorem balls_eq {D C F : Nat} (h : BOk D C F) : wsum (D + C) C F (D + C + 1) = (256 ^ D - 1) * bsum (D + C) F (D + C + 1) ∧ wsum (D + C) C F (D + C + 1) < 2 ^ 200 := by
  obtain ⟨h1, h2, h3, h4, h5⟩ := h
  have h6 := balls_all2 D (by omega) C (by omega) F (by omega)
  obtain ⟨d, rfl⟩ : ∃ d, D = d + 1 := ⟨D - 1, by omega⟩
  obtain ⟨c, rfl⟩ : ∃ c, C = c + 1 := ⟨C - 1, by omega⟩
  have this := And.intro (balls_all1 d (by omega) c (by omega) F (by omega) h5) h6
  have e1 : wsum (d + 1 + (c + 1)) (c + 1) F (d + 1 + (c + 1) + 1) = sm (fun w => wrongF (d + 1 + (c + 1)) (c + 1) w F) (d + 1 + (c + 1) + 1) := by
    unfold wsum
    congr 1
    funext w
    exact wrong_F _ _ _ _
  have e2 : bsum (d + 1 + (c + 1)) F (d + 1 + (c + 1) + 1) = sm (errF (d + 1 + (c + 1))) (F + 1) := by
    unfold bsum
    rw [Nat.min_eq_right (by omega)]
    congr 1
    funext w
    exact err_F _ _
  rw [e1, e2, this.1]
  exact ⟨rfl, this.2⟩
theorem wsum_lt {D C F k : Nat} (h : BOk D C F) (hk : k ≤ D + C + 1) : wsum (D + C) C F k < 2 ^ 200 := Nat.lt_of_le_of_lt (sm_mono hk) (balls_eq h).2
theorem wrong_lt {D C F k : Nat} (h : BOk D C F) (hk : k ≤ D + C) : wrongN (D + C) C k F < 2 ^ 200 := Nat.lt_of_le_of_lt (term_le_sm (f := fun w => wrongN (D + C) C w F) (k := k) (K := D + C + 1) (by omega)) (balls_eq h).2
theorem len100 {x : Nat} (h : x < 2 ^ 200) : (M.dig x).length ≤ 100 := len_pow h (by omega)
theorem errN_lt {n k : Nat} (hn : n ≤ 9) (hk : k ≤ n) : errN n k < 2 ^ 200 := Nat.lt_of_le_of_lt (errN_le n k) (Nat.pow_lt_pow_right (by omega) (by omega))
theorem sm16 {f : Nat → Nat} {e k : Nat} (hk : k ≤ 16) (h : ∀ z, z < k → f z ≤ 2 ^ e) : sm f k ≤ 2 ^ (e + 4) := by
  rw [Nat.pow_add, Nat.mul_comm]
  exact sm_le k hk h
theorem bsum_lt {n F k : Nat} (hn : n ≤ 9) (hF : F ≤ 4) (_ : F ≤ n) : bsum n F k < 2 ^ 200 :=
  Nat.lt_of_le_of_lt (sm16 (e := 90) (by omega) (fun z hz => Nat.le_trans (errN_le n z) (Nat.pow_le_pow_right (by omega) (by omega)))) (Nat.pow_lt_pow_right (by omega) (by omega))
end C
end Go.Proofs.YtmejneobfkbgeaaDoor

namespace Go.Proofs.YtmejneobfkbgeaaDoor
open Go Go.RowKit Go.Shelf

namespace C
def wbF (k : Nat) : Nat := bwF k + ((k + 1) * bwF (k + 1) + (72 - k + 1) * (if k = 0 then 0 else bwF (k - 1)))
theorem wb_F (k : Nat) : wbN k = wbF k := by
  unfold wbN wbF
  rw [bwN_F, show (k : Int) + 1 = ((k + 1 : Nat) : Int) from rfl, bwN_F]
  by_cases h : k = 0
  · subst h
    rw [if_pos rfl]
    rfl
  · rw [if_neg h, show (k : Int) - 1 = ((k - 1 : Nat) : Int) by omega, bwN_F]
end C
end Go.Proofs.YtmejneobfkbgeaaDoor

namespace Go.Proofs.YtmejneobfkbgeaaDoor
open Go Go.RowKit Go.Shelf

namespace C
/-- How many code words have so many bits. -/
def BW : List Nat := [0, 0, 0, 0, 8541, 0, 1216308, 0, 93530980, 0, 4189014684, 0, 120026536484, 0, 2334561158716, 0, 32158643537992, 0, 323688185463804, 0, 2437883245815160, 0, 13994083059682284, 0, 62111419194361316, 0, 215574402694622156, 0, 590263245930246116, 0, 1283652943041409196, 0, 2228276581375180386, 0, 3098138562428338156, 0, 3457129220341990186, 0, 3098138562527805796, 0, 2228276581208673036, 0, 1283652943230317396, 0, 590263245754149836, 0, 215574402839749556, 0, 62111419085689376, 0, 13994083133191668, 0, 2437883201977744, 0, 323688207869540, 0, 32158633968172, 0, 2334564498756, 0, 120025604780, 0, 4189217380, 0, 93497525, 0, 1220388, 0, 8177, 0, 24, 0, 0, 0]
theorem bw_list : ∀ k, k < 74 → bwF k = BW.getD k 0 := by decide +kernel
/-- The same from the list. -/
def ggL (k : Nat) : Nat := if k = 0 then 1 else if k = 1 then 72 else BW.getD k 0 + ((k + 1) * BW.getD (k + 1) 0 + (72 - k + 1) * BW.getD (k - 1) 0)
set_option maxRecDepth 100000 in
theorem pack_all : CB.pks ggL 73 = CB.colsum (fun s => CB.lk 8 s (CB.tb 72)) 72 := by decide +kernel
theorem gg_lt : ∀ k, k < 73 → ggL k < CB.BB := by decide +kernel
/-- **The sets of k bits whose syndrome is 0 or a column.** -/
theorem tot_wb {k : Nat} (h2 : 2 ≤ k) (hk : k ≤ 72) : CB.tot k = wbN k := by
  rw [CB.tot_eq gg_lt pack_all k (by omega), wb_F]
  unfold ggL wbF
  rw [if_neg (by omega), if_neg (by omega), if_neg (by omega), bw_list k (by omega), bw_list (k + 1) (by omega), bw_list (k - 1) (by omega)]
end C
end Go.Proofs.YtmejneobfkbgeaaDoor

namespace Go.Proofs.YtmejneobfkbgeaaDoor
open Go Go.RowKit Go.Shelf

namespace C
/-- A number and an error. -/
def WbR (E : Int) (n : Nat) (e : Ending) (W : World) : Prop := ∃ a c, e = .returned (.tuple #[.agg #[.slice a (M.dig n).length c], .int .i64 E]) ∧ Row W a (M.dig n) c
theorem wbr0 (E : Int) (W : World) : WbR E 0 (.returned (.tuple #[.agg #[.slice none 0 0], .int .i64 E])) W := by
  refine ⟨none, 0, ?_, ?_⟩
  · rw [M.dig_zero]; rfl
  · exact row_nil W
theorem wb_few : wbN 0 = 0 ∧ wbN 1 = 0 := by rw [wb_F, wb_F]; decide +kernel
set_option maxRecDepth 100000 in
set_option maxHeartbeats 1000000 in
theorem wb_bad (w : Int) (h : w < 0 ∨ 72 < w) (u : World) : Calls Tryd.prog 4 #[.int .i64 w] u fun e W => WbR 2 0 e W ∧ Below u.heap.size u W := by
  have hv := Bx.zero u
  have hb := (Below.refl _ u).alloc (Nat.le_refl _) (.cells #[.slice none 0 0] 24)
  obtain ⟨w1, hw1⟩ : ∃ w1, u.alloc (.cells #[.slice none 0 0] 24) = w1 := ⟨_, rfl⟩
  rw [hw1] at hv hb
  obtain ⟨_, _, k2, _⟩ := hv.cell
  have k3 := hv.free
  have k4 : (w1.setCell ⟨u.heap.size, 0, none⟩ (.slice none 0 0)).cell? ⟨u.heap.size, 0, none⟩ = some (.slice none 0 0) := World.cell?_setCell_same' _ _ _ (by rw [k2]; rfl)
  have HB := Lib.hid (hb.setCell (p := ⟨u.heap.size, 0, none⟩) (Nat.le_refl _) (.slice none 0 0))
  clear hv hb
  by_cases h0 : w < 0
  · clear h
    go_enter Tryd.func4, Tryd.ntmps4
    go_wp2_with fail
    exact bodyPost_ret (v := .tuple #[.agg #[.slice none 0 0], .int .i64 2]) (by simp [results, Tryd.results4, go_sem, k4]) rfl ⟨wbr0 2 _, HB.out⟩
  · have h1 : 72 < w := by omega
    clear h
    go_enter Tryd.func4, Tryd.ntmps4
    go_wp2_with fail
    exact bodyPost_ret (v := .tuple #[.agg #[.slice none 0 0], .int .i64 2]) (by simp [results, Tryd.results4, go_sem, k4]) rfl ⟨wbr0 2 _, HB.out⟩
set_option maxRecDepth 100000 in
set_option maxHeartbeats 1000000 in
theorem rwb_bad (w : Int) (h : w < 0 ∨ 72 < w) (u : World) : Calls Tryd.prog 5 #[.int .i64 w] u fun e W => WbR 2 0 e W ∧ Below u.heap.size u W := by
  have hv := Bx.zero u
  have hb := (Below.refl _ u).alloc (Nat.le_refl _) (.cells #[.slice none 0 0] 24)
  obtain ⟨w1, hw1⟩ : ∃ w1, u.alloc (.cells #[.slice none 0 0] 24) = w1 := ⟨_, rfl⟩
  rw [hw1] at hv hb
  obtain ⟨_, _, k2, _⟩ := hv.cell
  have k3 := hv.free
  have k4 : (w1.setCell ⟨u.heap.size, 0, none⟩ (.slice none 0 0)).cell? ⟨u.heap.size, 0, none⟩ = some (.slice none 0 0) := World.cell?_setCell_same' _ _ _ (by rw [k2]; rfl)
  have HB := Lib.hid (hb.setCell (p := ⟨u.heap.size, 0, none⟩) (Nat.le_refl _) (.slice none 0 0))
  clear hv hb
  by_cases h0 : w < 0
  · clear h
    go_enter Tryd.func5, Tryd.ntmps5
    go_wp2_with fail
    exact bodyPost_ret (v := .tuple #[.agg #[.slice none 0 0], .int .i64 2]) (by simp [results, Tryd.results5, go_sem, k4]) rfl ⟨wbr0 2 _, HB.out⟩
  · have h1 : 72 < w := by omega
    clear h
    go_enter Tryd.func5, Tryd.ntmps5
    go_wp2_with fail
    exact bodyPost_ret (v := .tuple #[.agg #[.slice none 0 0], .int .i64 2]) (by simp [results, Tryd.results5, go_sem, k4]) rfl ⟨wbr0 2 _, HB.out⟩
set_option maxRecDepth 100000 in
set_option maxHeartbeats 1000000 in
theorem rwrongBits_few (w : Int) (h0 : 0 ≤ w) (h2 : w < 2) (u : World) : Calls Tryd.prog 5 #[.int .i64 w] u fun e W => WbR 0 0 e W ∧ Below u.heap.size u W := by
  have hv := Bx.zero u
  have hb := (Below.refl _ u).alloc (Nat.le_refl _) (.cells #[.slice none 0 0] 24)
  obtain ⟨w1, hw1⟩ : ∃ w1, u.alloc (.cells #[.slice none 0 0] 24) = w1 := ⟨_, rfl⟩
  rw [hw1] at hv hb
  obtain ⟨_, _, k2, _⟩ := hv.cell
  have k3 := hv.free
  have k4 : (w1.setCell ⟨u.heap.size, 0, none⟩ (.slice none 0 0)).cell? ⟨u.heap.size, 0, none⟩ = some (.slice none 0 0) := World.cell?_setCell_same' _ _ _ (by rw [k2]; rfl)
  have HB := Lib.hid (hb.setCell (p := ⟨u.heap.size, 0, none⟩) (Nat.le_refl _) (.slice none 0 0))
  have hl0 : ¬ w < 0 := by omega
  have hl1 : ¬ 72 < w := by omega
  clear hv hb
  go_enter Tryd.func5, Tryd.ntmps5
  go_wp2_with fail
  exact bodyPost_ret (v := .tuple #[.agg #[.slice none 0 0], .int .i64 0]) (by simp [results, Tryd.results5, go_sem, k4]) rfl ⟨wbr0 0 _, HB.out⟩
/-- Both packages answer the same. -/
theorem wb_both (w : Int) : ∃ E n, (∀ u, Calls Tryd.prog 4 #[.int .i64 w] u fun e W => WbR E n e W ∧ Below u.heap.size u W) ∧ (∀ u, Calls Tryd.prog 5 #[.int .i64 w] u fun e W => WbR E n e W ∧ Below u.heap.size u W) := by
  by_cases h : w < 0 ∨ 72 < w
  · exact ⟨2, 0, wb_bad w h, rwb_bad w h⟩
  · obtain ⟨k, rfl⟩ : ∃ k : Nat, w = (k : Int) := ⟨w.toNat, by omega⟩
    have hk : k ≤ 72 := by omega
    by_cases h2 : 2 ≤ k
    · refine ⟨0, wbN k, fun u => wrongBits_any k hk u, fun u => ?_⟩
      have := rwrongBits_yes k h2 hk u
      rw [tot_wb h2 hk] at this
      exact this
    · have hz : wbN k = 0 := by
        rcases (show k = 0 ∨ k = 1 by omega) with rfl | rfl
        · exact wb_few.1
        · exact wb_few.2
      refine ⟨0, 0, fun u => ?_, fun u => rwrongBits_few (k : Int) (by omega) (by omega) u⟩
      have := wrongBits_any k hk u
      rw [hz] at this
      exact this
end C
end Go.Proofs.YtmejneobfkbgeaaDoor
