/- ratio.Cmp and ratio.Floor of valid fractions whose products are short. The reference's Of. ref02.Of and ratio.Of of numbers. ratio.Print of eleven sixths. The statements' own check 'awake' of layer 2. The dice of the statements: made.Light, made.Roll, Dice.Next. -/
import Derived.Test.YtfaggdjoogpmmaaDoorB7
import Derived.Deep.RegionLaw
namespace Go.Proofs.YtfaggdjoogpmmaaDoor
open Go Go.RowKit Go.Shelf

/-- A variable of type Ratio in a block of its own. -/
structure RVar (W : World) (p : Nat) (a : Option Addr) (ca : Nat) (b : Option Addr) (cb x y : Nat) : Prop where
  c0 : W.cell? ⟨p, 0, none⟩ = some (.slice a (M.dig x).length ca)
  c1 : W.cell? ⟨p, 1, none⟩ = some (.slice b (M.dig y).length cb)
  ra : Row W a (M.dig x) ca
  rb : Row W b (M.dig y) cb
section
variable {W W' : World} {p : Nat} {a b : Option Addr} {ca cb x y : Nat}
theorem RVar.new (hA : Row W a (M.dig x) ca) (hB : Row W b (M.dig y) cb) : RVar (W.alloc (.cells #[.slice a (M.dig x).length ca, .slice b (M.dig y).length cb] 58)) W.heap.size a ca b cb x y := by
  obtain ⟨⟨h0, _⟩, h1, _⟩ := two_cells W (.slice a (M.dig x).length ca) (.slice b (M.dig y).length cb) 58
  exact ⟨h0, h1, hA.alloc _, hB.alloc _⟩
theorem RVar.below (h : RVar W p a ca b cb x y) (hb : Below W.heap.size W W') : RVar W' p a ca b cb x y :=
  ⟨cell_below hb h.c0, cell_below hb h.c1, h.ra.below hb, h.rb.below hb⟩
theorem RVar.alloc (h : RVar W p a ca b cb x y) (o : Obj) : RVar (W.alloc o) p a ca b cb x y := h.below ((Below.refl _ W).alloc (Nat.le_refl _) o)
theorem RVar.val (h : RVar W p a ca b cb x y) : RatV W (.agg #[.slice a (M.dig x).length ca, .slice b (M.dig y).length cb]) x y := ⟨a, ca, b, cb, rfl, h.ra, h.rb⟩
theorem RVar.lt (h : RVar W p a ca b cb x y) : p < W.heap.size := lt_of_cell h.c0
end

set_option maxRecDepth 100000 in
set_option maxHeartbeats 2000000 in
/-- **ratio.Cmp** -/
theorem ratCmp_fit {u v : Value} {x y z t : Nat} {w : World} (hu : RatV w u x y) (hv : RatV w v z t) (hx : (M.dig x).length ≤ 200) (hy : (M.dig y).length ≤ 200) (hz : (M.dig z).length ≤ 200) (ht : (M.dig t).length ≤ 200) (hy0 : 0 < y) (ht0 : 0 < t) (hg1 : Nat.gcd x y = 1) (hg2 : Nat.gcd z t = 1) (h1 : (M.dig (x * t)).length ≤ 200) (h2 : (M.dig (z * y)).length ≤ 200) :
    Calls Tryd.prog 61 #[u, v] w fun e W' => e = .returned (.tuple #[.int .i64 (Lib.compareInt ((x * t : Nat) : Int) ((z * y : Nat) : Int)), .int .i64 0]) ∧ Below w.heap.size w W' := by
  obtain ⟨a, ca, b, cb, rfl, hA, hB⟩ := hu
  obtain ⟨c, cc, d, cd, rfl, hC, hD⟩ := hv
  have A := Lib.hid ((RVar.new hA hB).alloc (.cells #[.slice c (M.dig z).length cc, .slice d (M.dig t).length cd] 58))
  have b0 := RVar.new (hC.alloc (.cells #[.slice a (M.dig x).length ca, .slice b (M.dig y).length cb] 58)) (hD.alloc (.cells #[.slice a (M.dig x).length ca, .slice b (M.dig y).length cb] 58))
  rw [World.size_alloc] at b0
  have B := Lib.hid b0
  have HB := Lib.hid (show Below w.heap.size w ((w.alloc (.cells #[.slice a (M.dig x).length ca, .slice b (M.dig y).length cb] 58)).alloc (.cells #[.slice c (M.dig z).length cc, .slice d (M.dig t).length cd] 58)) from ((Below.refl _ w).alloc (Nat.le_refl _) _).alloc (by simp) _)
  have HG1 := Lib.hid hg1
  have HG2 := Lib.hid hg2
  clear hA hB hC hD hg1 hg2 b0
  go_enter Tryd.func61, Tryd.ntmps61
  have p0 := A.out.c0
  have p1 := A.out.c1
  have q0 := B.out.c0
  have q1 := B.out.c1
  go_wp2_with fail
  generalize ((w.alloc (.cells #[.slice a (M.dig x).length ca, .slice b (M.dig y).length cb] 58)).alloc (.cells #[.slice c (M.dig z).length cc, .slice d (M.dig t).length cd] 58)) = w2 at *
  refine (show Calls Tryd.prog 99 _ _ _ from cross_fit (x := x) (y := y) (z := z) (t := t) A.out.val B.out.val hx hy hz ht hy0 ht0 HG1.out HG2.out h1 h2).mono ?_
  rintro e w4 ⟨⟨m1, c1, m2, c2, rfl, hr1, hr2⟩, hb4⟩
  have V1 := Lib.hid ((Var.new hr1).alloc (.cells #[.slice m2 (M.dig (z * y)).length c2] 24))
  have v2 := Var.new (hr2.alloc (.cells #[.slice m1 (M.dig (x * t)).length c1] 24))
  rw [World.size_alloc] at v2
  have V2 := Lib.hid v2
  have HB4 := Lib.hid (((HB.out.trans (hb4.mono HB.out.size)).alloc (by have := HB.out.size; have := hb4.size; omega) (.cells #[.slice m1 (M.dig (x * t)).length c1] 24)).alloc (by have := HB.out.size; have := hb4.size; simp; omega) (.cells #[.slice m2 (M.dig (z * y)).length c2] 24))
  clear hr1 hr2 hb4 p0 p1 q0 q1 HB v2 A B
  have e1 := V1.out.cell
  have e2 := V2.out.cell
  go_wp2_with fail
  refine (show Calls Tryd.prog 41 _ _ _ from cmp_any m1 m2 c1 c2 (x * t) (z * y) _ V1.out.row V2.out.row).mono ?_
  rintro e w5 ⟨rfl, hb5⟩
  have HB5 := Lib.hid (HB4.out.trans (hb5.mono HB4.out.size))
  clear e1 e2
  go_wp2_with fail
  go_ret2
  exact ⟨rfl, HB5.out⟩

set_option maxRecDepth 100000 in
set_option maxHeartbeats 2000000 in
/-- **ratio.Floor** -/
theorem ratFloor_fit {u : Value} {x y : Nat} {w : World} (hu : RatV w u x y) (hx : (M.dig x).length ≤ 200) (hy : (M.dig y).length ≤ 200) (hy0 : 0 < y) (hg1 : Nat.gcd x y = 1) :
    Calls Tryd.prog 62 #[u] w fun e W' => (∃ v, e = .returned (.tuple #[v, .int .i64 0]) ∧ Num W' v (x / y)) ∧ Below w.heap.size w W' := by
  obtain ⟨a, ca, b, cb, rfl, hA, hB⟩ := hu
  have A := Lib.hid ((RVar.new hA hB).alloc (.cells #[.slice none 0 0] 24))
  have r0 := cell_new (w.alloc (.cells #[.slice a (M.dig x).length ca, .slice b (M.dig y).length cb] 58)) (.slice none 0 0) 24
  have r1 := frozen_new (w.alloc (.cells #[.slice a (M.dig x).length ca, .slice b (M.dig y).length cb] 58)) (.slice none 0 0) 24
  rw [World.size_alloc] at r0 r1
  have HB := Lib.hid (show Below w.heap.size w ((w.alloc (.cells #[.slice a (M.dig x).length ca, .slice b (M.dig y).length cb] 58)).alloc (.cells #[.slice none 0 0] 24)) from ((Below.refl _ w).alloc (Nat.le_refl _) _).alloc (by simp) _)
  have R0 := Lib.hid r0
  have R1 := Lib.hid r1
  have HG1 := Lib.hid hg1
  clear hA hB hg1 r0 r1
  go_enter Tryd.func62, Tryd.ntmps62
  have p0 := A.out.c0
  have p1 := A.out.c1
  go_wp2_with fail
  generalize ((w.alloc (.cells #[.slice a (M.dig x).length ca, .slice b (M.dig y).length cb] 58)).alloc (.cells #[.slice none 0 0] 24)) = w2 at *
  refine (show Calls Tryd.prog 59 _ _ _ from ratValid_yes (x := x) (y := y) A.out.val hy0 HG1.out hx hy).mono ?_
  rintro e w4 ⟨rfl, hb4⟩
  have A4 := Lib.hid (A.out.below hb4)
  have R04 := Lib.hid (cell_below hb4 R0.out)
  have R14 := Lib.hid (frozen_below hb4 R0.out R1.out)
  have HB4 := Lib.hid (HB.out.trans (hb4.mono HB.out.size))
  clear hb4 p0 p1 A R0 R1 HB
  have p0 := A4.out.c0
  have p1 := A4.out.c1
  go_wp2_with fail
  refine (show Calls Tryd.prog 40 _ _ _ from divide_any a b ca cb x y _ hy0 hx hy A4.out.ra A4.out.rb).mono ?_
  rintro e w5 ⟨⟨a1, c1, a2, c2, rfl, hr1, hr2⟩, hb5⟩
  have V1 := Lib.hid ((Var.new hr1).alloc (.cells #[.slice a2 (M.dig (x % y)).length c2] 24))
  have R05 := cell_later (.cells #[.slice a2 (M.dig (x % y)).length c2] 24) (cell_later (.cells #[.slice a1 (M.dig (x / y)).length c1] 24) (cell_below hb5 R04.out))
  have R15 := frozen_later (.cells #[.slice a2 (M.dig (x % y)).length c2] 24) (cell_later (.cells #[.slice a1 (M.dig (x / y)).length c1] 24) (cell_below hb5 R04.out)) (frozen_later (.cells #[.slice a1 (M.dig (x / y)).length c1] 24) (cell_below hb5 R04.out) (frozen_below hb5 R04.out R14.out))
  have HB5 := Lib.hid (((HB4.out.trans (hb5.mono HB4.out.size)).alloc (by have := HB4.out.size; have := hb5.size; omega) (.cells #[.slice a1 (M.dig (x / y)).length c1] 24)).alloc (by have := HB4.out.size; have := hb5.size; simp; omega) (.cells #[.slice a2 (M.dig (x % y)).length c2] 24))
  have HRow := Lib.hid (V1.out.row.storedAt R05 (.slice a1 (M.dig (x / y)).length c1))
  clear hr1 hr2 hb5 p0 p1 A4 R04 R14 HB4
  have e1 := V1.out.cell
  go_wp2_with fail
  refine bodyPost_ret (v := .tuple #[.agg #[.slice a1 (M.dig (x / y)).length c1], .int .i64 0]) (by simp [results, Tryd.results62, go_sem, R05]) rfl ⟨⟨_, rfl, a1, c1, rfl, HRow.out⟩, HB5.out.setCell (by simp) _⟩
end Go.Proofs.YtfaggdjoogpmmaaDoor

namespace Go.Proofs.YtfaggdjoogpmmaaDoor
open Go Go.RowKit Go.Shelf

set_option maxRecDepth 100000 in
set_option maxHeartbeats 1000000 in
theorem rof_any (N : Nat) (w : World) (hN : N ≤ 9223372036854775807) :
    Calls Tryd.prog 32 #[.int .i64 (N : Int)] w fun e W' => ∃ v, e = .returned (.tuple #[v, .int .i64 0]) ∧ Num W' v N ∧ Below w.heap.size w W' := by
  have HL := Lib.hid (M.dig_len_le.2 (Nat.lt_of_le_of_lt hN (by decide)) : (M.dig N).length ≤ 3)
  have c0 := cell_of_new w (.slice none 0 0) 24
  go_enter Tryd.func32, Tryd.ntmps32
  go_wp2
  go_loopw [0, 4] (fun t v wr => OfRel w N t v wr) (fun t _ _ => (intOf t).toNat)
  case atStart => exact ⟨N, [], rfl, Nat.le_refl _, Own.nil _ _, rfl, c0.1, c0.2, (Below.refl _ w).alloc (Nat.le_refl _) _⟩
  case round =>
    obtain ⟨m, pre, rfl, hm, hown, hdig, hc0, hf0, hB⟩ := hrel
    obtain ⟨a, cap, rfl, hr⟩ := hown.row
    have HR := Lib.hid hr
    clear hr
    have HD := Lib.hid hdig
    clear hdig
    by_cases h0 : m = 0
    · subst h0
      have HE := Lib.hid (show M.dig N = pre by rw [HD.out, M.dig_zero, List.append_nil])
      go_wp2
      refine bodyPost_ret (v := .tuple #[.agg #[.slice a pre.length cap], .int .i64 0]) (by simp [results, Tryd.results32, go_sem, hc0]) rfl ⟨.agg #[.slice a pre.length cap], rfl, ?_, hB.setCell (p := ⟨w.heap.size, 0, none⟩) (Nat.le_refl _) _⟩
      refine Own.num (B := w.heap.size + 1) ?_
      rw [HE.out]
      exact hown.setBelow (Nat.lt_succ_self _) _
    · have hm1 : 0 < m := by omega
      clear h0
      have hpre : pre.length < 1000000 := by have := HL.out; rw [HD.out, List.length_append] at this; omega
      have hsz := hB.size
      go_wp2_with (at_builtin; refine wpList_app1 rfl _ _ rfl rfl (hown.alloc _) rfl (cell_new _ _ _) hpre (by simp; omega) ?_; intro a' cap' W' hown' hb')
      go_roundw
      case rel =>
        refine ⟨m / 16777216, pre ++ [((m % 16777216 : Nat) : Int)], by go_num, by omega, by simpa using hown', by rw [HD.out, M.dig_pos (by omega), List.append_assoc]; rfl, (hb'.cell (p := ⟨w.heap.size, 0, none⟩) (by simp)).trans (cell_later _ hc0), (hb'.frozen (p := ⟨w.heap.size, 0, none⟩) (by simp)).trans (frozen_later _ hc0 hf0), hB.trans (((Below.refl _ wr).alloc hsz _).trans (hb'.mono (by omega)))⟩
      case measure => simp [intOf]; omega
end Go.Proofs.YtfaggdjoogpmmaaDoor

namespace Go.Proofs.YtfaggdjoogpmmaaDoor
open Go Go.RowKit Go.Shelf

/-- A result of type Ratio alone in its cell. -/
structure ResSt (w : World) (W : World) : Prop where
  r0 : W.cell? ⟨w.heap.size, 0, none⟩ = some (.slice none 0 0)
  f0 : W.frozen? ⟨w.heap.size, 0, none⟩ = false
  r1 : W.cell? ⟨w.heap.size, 1, none⟩ = some (.slice none 0 0)
  f1 : W.frozen? ⟨w.heap.size, 1, none⟩ = false
  below : Below w.heap.size w W
section
variable {w W W' : World}
theorem ResSt.keep (h : ResSt w W) (hb : Below W.heap.size W W') : ResSt w W' :=
  ⟨cell_below hb h.r0, frozen_below hb h.r0 h.f0, cell_below hb h.r1, frozen_below hb h.r1 h.f1, h.below.trans (hb.mono h.below.size)⟩
theorem ResSt.alloc (h : ResSt w W) (o : Obj) : ResSt w (W.alloc o) := h.keep ((Below.refl _ W).alloc (Nat.le_refl _) o)
theorem ResSt.done {e f : Option Addr} {ce cf k l : Nat} (h : ResSt w W) (hE : Row W e (M.dig k) ce) (hF : Row W f (M.dig l) cf) :
    RatV ((W.setCell ⟨w.heap.size, 0, none⟩ (.slice e (M.dig k).length ce)).setCell ⟨w.heap.size, 1, none⟩ (.slice f (M.dig l).length cf)) (.agg #[.slice e (M.dig k).length ce, .slice f (M.dig l).length cf]) k l ∧
    Below w.heap.size w ((W.setCell ⟨w.heap.size, 0, none⟩ (.slice e (M.dig k).length ce)).setCell ⟨w.heap.size, 1, none⟩ (.slice f (M.dig l).length cf)) := by
  have r2 : (W.setCell ⟨w.heap.size, 0, none⟩ (.slice e (M.dig k).length ce)).cell? ⟨w.heap.size, 1, none⟩ = some (.slice none 0 0) := (World.cell?_setCell_other _ _ _ _ (by intro e; cases e)).trans h.r1
  exact ⟨⟨e, ce, f, cf, rfl, (hE.storedAt h.r0 _).storedAt r2 _, (hF.storedAt h.r0 _).storedAt r2 _⟩, (h.below.setCell (p := ⟨w.heap.size, 0, none⟩) (Nat.le_refl _) _).setCell (p := ⟨w.heap.size, 1, none⟩) (Nat.le_refl _) _⟩
end

set_option maxRecDepth 100000 in
set_option maxHeartbeats 2000000 in
/-- **memfaultref02.Of** -/
theorem rratOf_any (x y : Nat) (w : World) (hx : x ≤ 9223372036854775807) (hy : y ≤ 9223372036854775807) (hy0 : 0 < y) :
    Calls Tryd.prog 55 #[.int .i64 (x : Int), .int .i64 (y : Int)] w fun e W' => (∃ r, e = .returned (.tuple #[r, .int .i64 0]) ∧ RatV W' r (x / Nat.gcd x y) (y / Nat.gcd x y)) ∧ Below w.heap.size w W' := by
  have hxl : (M.dig x).length ≤ 200 := Nat.le_trans (M.dig_len_le.2 (Nat.lt_of_le_of_lt hx (by decide)) : (M.dig x).length ≤ 3) (by decide)
  have hyl : (M.dig y).length ≤ 200 := Nat.le_trans (M.dig_len_le.2 (Nat.lt_of_le_of_lt hy (by decide)) : (M.dig y).length ≤ 3) (by decide)
  obtain ⟨⟨r0, f0⟩, r1, f1⟩ := two_cells w (.slice none 0 0) (.slice none 0 0) 58
  have R := Lib.hid (show ResSt w (w.alloc (.cells #[.slice none 0 0, .slice none 0 0] 58)) from ⟨r0, f0, r1, f1, (Below.refl _ w).alloc (Nat.le_refl _) _⟩)
  clear r0 f0 r1 f1
  go_enter Tryd.func55, Tryd.ntmps55
  go_wp2_with fail
  generalize (w.alloc (.cells #[.slice none 0 0, .slice none 0 0] 58)) = w1 at *
  refine (rof_any x _ hx).mono ?_
  rintro e w2 ⟨v, rfl, ⟨a, ca, rfl, hA⟩, hb2⟩
  have R2 := Lib.hid ((R.out.keep hb2).alloc (.cells #[.slice a (M.dig x).length ca] 24))
  have A := Lib.hid (Var.new hA)
  clear hb2 hA R
  go_wp2_with fail
  refine (rof_any y _ hy).mono ?_
  rintro e w3 ⟨v, rfl, ⟨b, cb, rfl, hB⟩, hb3⟩
  have R3 := Lib.hid ((R2.out.keep hb3).alloc (.cells #[.slice b (M.dig y).length cb] 24))
  have A3 := Lib.hid ((A.out.below hb3).alloc (.cells #[.slice b (M.dig y).length cb] 24))
  have B := Lib.hid (Var.new hB)
  clear hb3 hB R2 A
  have e0 := A3.out.cell
  have e1 := B.out.cell
  go_wp2_with fail
  refine (show Calls Tryd.prog 52 _ _ _ from rmake_pos a b ca cb x y _ hy0 hxl hyl A3.out.row B.out.row).mono ?_
  rintro e w4 ⟨⟨v, rfl, hv⟩, hb4⟩
  obtain ⟨c, cc, d, cd, rfl, hC, hD⟩ := hv.val
  have R4 := Lib.hid (R3.out.keep hb4)
  have HR := Lib.hid (R4.out.done hC hD)
  have r0 := R4.out.r0
  have r1 := R4.out.r1
  have f0 := R4.out.f0
  have f1 := R4.out.f1
  clear hb4 hC hD e0 e1 R3
  go_wp2_with fail
  refine bodyPost_ret (v := .tuple #[.agg #[.slice c (M.dig (x / Nat.gcd x y)).length cc, .slice d (M.dig (y / Nat.gcd x y)).length cd], .int .i64 0]) (by simp [results, Tryd.results55, go_sem, r0, r1]) rfl ⟨⟨_, rfl, HR.out.1⟩, HR.out.2⟩

set_option maxRecDepth 100000 in
set_option maxHeartbeats 2000000 in
/-- **ratio.Of** -/
theorem ratOf_any (x y : Nat) (w : World) (hx : x ≤ 9223372036854775807) (hy : y ≤ 9223372036854775807) (hy0 : 0 < y) :
    Calls Tryd.prog 54 #[.int .i64 (x : Int), .int .i64 (y : Int)] w fun e W' => (∃ r, e = .returned (.tuple #[r, .int .i64 0]) ∧ RatV W' r (x / Nat.gcd x y) (y / Nat.gcd x y)) ∧ Below w.heap.size w W' := by
  have hxl : (M.dig x).length ≤ 200 := Nat.le_trans (M.dig_len_le.2 (Nat.lt_of_le_of_lt hx (by decide)) : (M.dig x).length ≤ 3) (by decide)
  have hyl : (M.dig y).length ≤ 200 := Nat.le_trans (M.dig_len_le.2 (Nat.lt_of_le_of_lt hy (by decide)) : (M.dig y).length ≤ 3) (by decide)
  obtain ⟨⟨r0, f0⟩, r1, f1⟩ := two_cells w (.slice none 0 0) (.slice none 0 0) 58
  have R := Lib.hid (show ResSt w (w.alloc (.cells #[.slice none 0 0, .slice none 0 0] 58)) from ⟨r0, f0, r1, f1, (Below.refl _ w).alloc (Nat.le_refl _) _⟩)
  clear r0 f0 r1 f1
  go_enter Tryd.func54, Tryd.ntmps54
  go_wp2_with fail
  generalize (w.alloc (.cells #[.slice none 0 0, .slice none 0 0] 58)) = w1 at *
  refine (of_any x _ hx).mono ?_
  rintro e w2 ⟨v, rfl, ⟨a, ca, rfl, hA⟩, hb2⟩
  have R2 := Lib.hid ((R.out.keep hb2).alloc (.cells #[.slice a (M.dig x).length ca] 24))
  have A := Lib.hid (Var.new hA)
  clear hb2 hA R
  go_wp2_with fail
  refine (of_any y _ hy).mono ?_
  rintro e w3 ⟨v, rfl, ⟨b, cb, rfl, hB⟩, hb3⟩
  have R3 := Lib.hid ((R2.out.keep hb3).alloc (.cells #[.slice b (M.dig y).length cb] 24))
  have A3 := Lib.hid ((A.out.below hb3).alloc (.cells #[.slice b (M.dig y).length cb] 24))
  have B := Lib.hid (Var.new hB)
  clear hb3 hB R2 A
  have e0 := A3.out.cell
  have e1 := B.out.cell
  go_wp2_with fail
  refine (show Calls Tryd.prog 51 _ _ _ from make_pos a b ca cb x y _ hy0 hxl hyl A3.out.row B.out.row).mono ?_
  rintro e w4 ⟨⟨v, rfl, hv⟩, hb4⟩
  obtain ⟨c, cc, d, cd, rfl, hC, hD⟩ := hv
  have R4 := Lib.hid (R3.out.keep hb4)
  have HR := Lib.hid (R4.out.done hC hD)
  have r0 := R4.out.r0
  have r1 := R4.out.r1
  have f0 := R4.out.f0
  have f1 := R4.out.f1
  clear hb4 hC hD e0 e1 R3
  go_wp2_with fail
  refine bodyPost_ret (v := .tuple #[.agg #[.slice c (M.dig (x / Nat.gcd x y)).length cc, .slice d (M.dig (y / Nat.gcd x y)).length cd], .int .i64 0]) (by simp [results, Tryd.results54, go_sem, r0, r1]) rfl ⟨⟨_, rfl, HR.out.1⟩, HR.out.2⟩
end Go.Proofs.YtfaggdjoogpmmaaDoor

namespace Go.Proofs.YtfaggdjoogpmmaaDoor
open Go Go.RowKit Go.Shelf

theorem decs_eleven : (M.decs 2 11).map UInt8.ofNat = [49, 49] := by decide
theorem decs_six : (M.decs 1 6).map UInt8.ofNat = [54] := by decide
set_option maxRecDepth 100000 in
theorem print_eleven {a : Option Addr} {cap : Nat} {w : World} (hR : Row w a (M.dig 11) cap) :
    Calls Tryd.prog 39 #[.agg #[.slice a (M.dig 11).length cap]] w fun e W' => e = .returned (.string ⟨#[49, 49]⟩) ∧ Below w.heap.size w W' :=
  (print_pos a cap 11 w (by omega) (small_len (by decide)) hR).mono fun _ _ h => ⟨(prPost_at (K := 2) h.1 (by decide)).trans (by rw [decs_eleven]), h.2⟩
set_option maxRecDepth 100000 in
theorem print_six {a : Option Addr} {cap : Nat} {w : World} (hR : Row w a (M.dig 6) cap) :
    Calls Tryd.prog 39 #[.agg #[.slice a (M.dig 6).length cap]] w fun e W' => e = .returned (.string ⟨#[54]⟩) ∧ Below w.heap.size w W' :=
  (print_pos a cap 6 w (by omega) (small_len (by decide)) hR).mono fun _ _ h => ⟨(prPost_at (K := 1) h.1 (by decide)).trans (by rw [decs_six]), h.2⟩

set_option maxRecDepth 100000 in
set_option maxHeartbeats 2000000 in
theorem ratPrint_116 {u : Value} {w : World} (hu : RatV w u 11 6) :
    Calls Tryd.prog 86 #[u] w fun e W' => e = .returned (.string ⟨#[49, 49, 47, 54]⟩) ∧ Below w.heap.size w W' := by
  obtain ⟨a, ca, b, cb, rfl, hA, hB⟩ := hu
  have A := Lib.hid (RVar.new hA hB)
  have HB := Lib.hid (show Below w.heap.size w (w.alloc (.cells #[.slice a (M.dig 11).length ca, .slice b (M.dig 6).length cb] 58)) from ((Below.refl _ w).alloc (Nat.le_refl _) _))
  have hv := ratValid_yes (x := 11) (y := 6) A.out.val (by decide) (by decide) (small_len (by decide)) (small_len (by decide))
  have HV := Lib.hid hv
  have P11 := Lib.hid (fun (W : World) (h : Row W a (M.dig 11) ca) => print_eleven h)
  have P6 := Lib.hid (fun (W : World) (h : Row W b (M.dig 6) cb) => print_six h)
  clear hA hB hv
  have HA := Lib.hid A.out.ra
  have HBr := Lib.hid A.out.rb
  clear A
  generalize M.dig 11 = d11 at *
  generalize M.dig 6 = d6 at *
  have p0 : (w.alloc (.cells #[.slice a d11.length ca, .slice b d6.length cb] 58)).cell? ⟨w.heap.size, 0, none⟩ = some (.slice a d11.length ca) := (two_cells w _ _ _).1.1
  have p1 : (w.alloc (.cells #[.slice a d11.length ca, .slice b d6.length cb] 58)).cell? ⟨w.heap.size, 1, none⟩ = some (.slice b d6.length cb) := (two_cells w _ _ _).2.1
  go_enter Tryd.func86, Tryd.ntmps86
  go_wp2_with fail
  generalize (w.alloc (.cells #[.slice a d11.length ca, .slice b d6.length cb] 58)) = w1 at *
  refine HV.out.mono ?_
  rintro e w2 ⟨rfl, hb2⟩
  have HB2 := Lib.hid (HB.out.trans (hb2.mono HB.out.size))
  have q0 := cell_below hb2 p0
  have q1 := cell_below hb2 p1
  have HRA := Lib.hid (HA.out.below hb2)
  have HRB := Lib.hid (HBr.out.below hb2)
  clear hb2 HB HA HBr p0 p1 HV
  go_wp2_with fail
  have hra : Row w2.drew a d11 ca := HRA.out.drewN 1
  have hrb : Row w2.drew b d6 cb := HRB.out.drewN 1
  have hB2 : Below w.heap.size w w2.drew := belowN HB2.out 1
  have q1d : w2.drew.cell? ⟨w.heap.size, 1, none⟩ = some (.slice b d6.length cb) := q1
  go_region_law (first
    | (go_simp; go_at_call 39; (with_reducible refine (P11.out _ hra).mono ?_); rintro e w5 ⟨rfl, hb5⟩; have q1' : w5.cell? ⟨w.heap.size, 1, none⟩ = some (.slice b d6.length cb) := cell_below hb5 q1d; have HRB5 := Lib.hid (hrb.below hb5); have HB5 := Lib.hid (hB2.trans (hb5.mono hB2.size)); clear hb5; go_simp)
    | (go_simp; go_at_call 39; (with_reducible refine (P6.out _ HRB5.out).mono ?_); rintro e w6 ⟨rfl, hb6⟩; have HB6 := Lib.hid (HB5.out.trans (hb6.mono HB5.out.size)); clear hb6; go_simp))
  all_goals
    go_wp2_with fail
    go_ret
    exact ⟨by rfl, HB6.out⟩
end Go.Proofs.YtfaggdjoogpmmaaDoor

namespace Go.Proofs.YtfaggdjoogpmmaaDoor
open Go Go.RowKit Go.Shelf

theorem of_64 (w : World) : Calls Tryd.prog 54 #[.int .i64 6, .int .i64 4] w fun e W' => (∃ r, e = .returned (.tuple #[r, .int .i64 0]) ∧ RatV W' r 3 2) ∧ Below w.heap.size w W' := by
  have h := ratOf_any 6 4 w (by decide) (by decide) (by decide)
  rw [show 6 / Nat.gcd 6 4 = 3 by decide, show 4 / Nat.gcd 6 4 = 2 by decide] at h
  exact h
theorem of_13 (w : World) : Calls Tryd.prog 54 #[.int .i64 1, .int .i64 3] w fun e W' => (∃ r, e = .returned (.tuple #[r, .int .i64 0]) ∧ RatV W' r 1 3) ∧ Below w.heap.size w W' := by
  have h := ratOf_any 1 3 w (by decide) (by decide) (by decide)
  rw [show 1 / Nat.gcd 1 3 = 1 by decide, show 3 / Nat.gcd 1 3 = 3 by decide] at h
  exact h
theorem add_116 {u v : Value} {w : World} (hu : RatV w u 3 2) (hv : RatV w v 1 3) : Calls Tryd.prog 56 #[u, v] w fun e W' => (∃ r, e = .returned (.tuple #[r, .int .i64 0]) ∧ RatV W' r 11 6) ∧ Below w.heap.size w W' := by
  have h := ratAdd_fit hu hv (small_len (by decide)) (small_len (by decide)) (small_len (by decide)) (small_len (by decide)) (by decide) (by decide) (by decide) (by decide) (small_len (by decide)) (small_len (by decide)) (small_len (by decide)) (small_len (by decide))
  rw [show (3 * 3 + 1 * 2) / Nat.gcd (3 * 3 + 1 * 2) (2 * 3) = 11 by decide, show 2 * 3 / Nat.gcd (3 * 3 + 1 * 2) (2 * 3) = 6 by decide] at h
  exact h

set_option maxRecDepth 100000 in
set_option maxHeartbeats 2000000 in
/-- **awake** -/
theorem ratAwake_any (w : World) : Calls Tryd.prog 47 #[] w fun e W' => e = .returned (.bool true) ∧ Below w.heap.size w W' := by
  go_enter Tryd.func47, Tryd.ntmps47
  go_wp2_with fail
  refine (of_64 _).mono ?_
  rintro e w1 ⟨⟨v, rfl, a, ca, b, cb, rfl, hA, hB⟩, hb1⟩
  have A := Lib.hid (RVar.new hA hB)
  have HB1 := Lib.hid (hb1.alloc hb1.size (.cells #[.slice a (M.dig 3).length ca, .slice b (M.dig 2).length cb] 58))
  clear hA hB hb1
  go_wp2_with fail
  refine (of_13 _).mono ?_
  rintro e w2 ⟨⟨v, rfl, c, cc, d, cd, rfl, hC, hD⟩, hb2⟩
  have A2 := Lib.hid ((A.out.below hb2).alloc (.cells #[.slice c (M.dig 1).length cc, .slice d (M.dig 3).length cd] 58))
  have B := Lib.hid (RVar.new hC hD)
  have HB2 := Lib.hid ((HB1.out.trans (hb2.mono HB1.out.size)).alloc (by have := HB1.out.size; have := hb2.size; omega) (.cells #[.slice c (M.dig 1).length cc, .slice d (M.dig 3).length cd] 58))
  clear hC hD hb2 A HB1
  have p0 := A2.out.c0
  have p1 := A2.out.c1
  have q0 := B.out.c0
  have q1 := B.out.c1
  go_wp2_with fail
  refine (add_116 A2.out.val B.out.val).mono ?_
  rintro e w3 ⟨⟨v, rfl, f, cf, g, cg, rfl, hF, hG⟩, hb3⟩
  have C := Lib.hid (RVar.new hF hG)
  have HB3 := Lib.hid ((HB2.out.trans (hb3.mono HB2.out.size)).alloc (by have := HB2.out.size; have := hb3.size; omega) (.cells #[.slice f (M.dig 11).length cf, .slice g (M.dig 6).length cg] 58))
  clear hF hG hb3 A2 B HB2 p0 p1 q0 q1
  have p0 := C.out.c0
  have p1 := C.out.c1
  go_wp2_with fail
  refine (ratPrint_116 C.out.val).mono ?_
  rintro e w4 ⟨rfl, hb4⟩
  have HB4 := Lib.hid (HB3.out.trans (hb4.mono HB3.out.size))
  clear hb4 C HB3 p0 p1
  go_wp2_with fail
  go_ret
  exact ⟨rfl, HB4.out⟩
end Go.Proofs.YtfaggdjoogpmmaaDoor

namespace Go.Proofs.YtfaggdjoogpmmaaDoor
open Go Go.RowKit Go.Shelf

/-- The dice in block dp: the numbers ts, k of which have been given out. -/
structure Dice (W : World) (dp : Nat) (a : Option Addr) (cap : Nat) (ts : List Int) (k : Nat) : Prop where
  list : W.cell? ⟨dp, 0, none⟩ = some (.slice a ts.length cap)
  at' : W.cell? ⟨dp, 1, none⟩ = some (.int .i64 (k : Int))
  free : W.frozen? ⟨dp, 1, none⟩ = false
  row : Row W a ts cap
  least : k ≤ ts.length
  few : ts.length ≤ 400
  other : ∀ b off, a = some ⟨b, off, none⟩ → 0 < ts.length → b ≠ dp

theorem Dice.below {W W' : World} {dp : Nat} {a : Option Addr} {cap : Nat} {ts : List Int} {k : Nat} (h : Dice W dp a cap ts k) (hb : Below W.heap.size W W') : Dice W' dp a cap ts k :=
  ⟨(hb.cell (p := ⟨dp, 0, none⟩) (lt_of_cell h.list)).trans h.list, (hb.cell (p := ⟨dp, 1, none⟩) (lt_of_cell h.at')).trans h.at', (hb.frozen (p := ⟨dp, 1, none⟩) (lt_of_cell h.at')).trans h.free, h.row.below hb, h.least, h.few, h.other⟩
theorem Dice.lt {W : World} {dp : Nat} {a : Option Addr} {cap : Nat} {ts : List Int} {k : Nat} (h : Dice W dp a cap ts k) : dp < W.heap.size := lt_of_cell h.list
theorem Dice.alloc {W : World} {dp : Nat} {a : Option Addr} {cap : Nat} {ts : List Int} {k : Nat} (h : Dice W dp a cap ts k) (o : Obj) : Dice (W.alloc o) dp a cap ts k :=
  h.below ((Below.refl _ W).alloc (Nat.le_refl _) _)
/-- A store into another block. -/
theorem Dice.store {W : World} {dp : Nat} {a : Option Addr} {cap : Nat} {ts : List Int} {k : Nat} (h : Dice W dp a cap ts k) {p : Addr} {s : Option Addr} {n c : Nat} (hp : W.cell? p = some (.slice s n c)) (hne : p.block ≠ dp) (u : Value) : Dice (W.setCell p u) dp a cap ts k :=
  ⟨(cell_other u (Ne.symm hne)).trans h.list, (cell_other u (Ne.symm hne)).trans h.at', (World.frozen?_setCell _ _ _ _).trans h.free, h.row.store hp u, h.least, h.few, h.other⟩
theorem Dice.drewN {W : World} {dp : Nat} {a : Option Addr} {cap : Nat} {ts : List Int} {k : Nat} (h : Dice W dp a cap ts k) (n : Nat) : Dice (W.drewN n) dp a cap ts k :=
  ⟨h.list, h.at', h.free, h.row.drewN n, h.least, h.few, h.other⟩
/-- One number more has been given out. -/
theorem Dice.next {W : World} {dp : Nat} {a : Option Addr} {cap : Nat} {ts : List Int} {k : Nat} (h : Dice W dp a cap ts k) (hk : k < ts.length) : Dice (W.setCell ⟨dp, 1, none⟩ (.int .i64 ((k : Int) + 1))) dp a cap ts (k + 1) :=
  ⟨(World.cell?_setCell_other _ _ _ _ (by intro e; cases e)).trans h.list, World.cell?_setCell_same' _ _ _ (by rw [h.at']; rfl), (World.frozen?_setCell _ _ _ _).trans h.free,
    ⟨h.row.room, h.row.most, fun j hj => by
      obtain ⟨b, off, e, hc⟩ := h.row.el j hj
      exact ⟨b, off, e, (cell_other _ (by intro e2; exact h.other b off e (by omega) e2)).trans hc⟩⟩, by omega, h.few, h.other⟩

theorem grown_drewN {w W : World} {row : Option Nat} (h : w.grownBy W row) (n : Nat) : w.grownBy (W.drewN n) row := ⟨h.os, h.tape, h.output, h.size, h.block⟩

/-- What Next gives: a number below n; only the dice have turned. -/
def NextPost (w : World) (dp : Nat) (a : Option Addr) (cap : Nat) (ts : List Int) (n : Nat) (e : Ending) (W : World) : Prop :=
  ∃ (r k' : Nat), r < n ∧ e = .returned (.int .i64 (r : Int)) ∧ Dice W dp a cap ts k' ∧ w.grownBy W (some dp)

set_option maxRecDepth 100000 in
set_option maxHeartbeats 1000000 in
theorem next_any (w : World) (dp : Nat) (a : Option Addr) (cap : Nat) (ts : List Int) (k n : Nat) (hn : 0 < n) (hn2 : n ≤ 4611686018427387904) (hD : Dice w dp a cap ts k) :
    Calls Tryd.prog 50 #[.pointer (some ⟨dp, 0, none⟩), .int .i64 (n : Int)] w (NextPost w dp a cap ts n) := by
  have c0 := hD.list
  have c1 := hD.at'
  have f1 := hD.free
  have hfew := hD.few
  have hleast := hD.least
  have HD := Lib.hid hD
  clear hD
  by_cases hk : k < ts.length
  · obtain ⟨b, off, rfl, hc⟩ := HD.out.row.el k hk
    have hne := HD.out.other b off rfl (by omega)
    have HNX := Lib.hid (HD.out.next hk)
    have hcap := HD.out.row.room
    have hmost := HD.out.row.most
    have hmod := fun W : World => mod_any (M.el ts k) n W hn hn2
    have HMOD := Lib.hid hmod
    clear hmod
    go_enter Tryd.func50, Tryd.ntmps50
    go_wp2_with fail
    go_quiet (fail)
    go_wp2_with fail
    go_quiet ((go_at_call 45; exact Calls.quiet_of_same (HMOD.out _)))
    go_wp2_with fail
    go_ret
    obtain ⟨r, hr, hrn⟩ := mod_nat (M.el ts k) n hn
    exact ⟨r, k + 1, hrn, congrArg (fun z => Ending.returned (.int .i64 z)) hr, (HD.out.drewN _).next hk |>.drewN _, grown_drewN (grown_setCell (grown_drewN (World.grownBy.refl w _) _) _ (.inr rfl)) _⟩
  · go_enter Tryd.func50, Tryd.ntmps50
    go_wp2_with fail
    go_quiet (fail)
    go_wp2_with fail
    go_ret
    exact ⟨0, k, hn, rfl, HD.out.drewN _, grown_drewN (World.grownBy.refl w _) _⟩
end Go.Proofs.YtfaggdjoogpmmaaDoor
