/- HammingExact: the walk. -/
import Derived.Test.YtdafapionedooaaHAny
import Derived.Test.YtdafapionedooaaHSame
import Derived.Test.YtdafapionedooaaHAwake
import Derived.Test.YtdafapionedooaaGDiceB
import Derived.Test.YtdafapionedooaaGStep
namespace Go.Proofs.Ytdafapionedooaa.G.H
open Go Go.RowKit Go.Shelf

theorem grown_below2 {w W W' : World} {dp : Nat} (hb : Below w.heap.size w W) (hg : W.grownBy W' (some dp)) (hd : w.heap.size ≤ dp) : Below w.heap.size w W' :=
  hb.grown hg hb.size (fun k e => by cases e; exact hd)
/-- Three values are stored in a new box. -/
theorem store3new (w : World) (t : TypeId) (v0 v1 v2 u0 u1 u2 : Value) : ∃ W Wa Wb Wc : World, w.alloc (.cells #[v0, v1, v2] t) = W ∧ W.setCell ⟨w.heap.size, 0, none⟩ u0 = Wa ∧ Wa.setCell ⟨w.heap.size, 1, none⟩ u1 = Wb ∧ Wb.setCell ⟨w.heap.size, 2, none⟩ u2 = Wc ∧
    W.cell? ⟨w.heap.size, 0, none⟩ = some v0 ∧ W.frozen? ⟨w.heap.size, 0, none⟩ = false ∧ Wa.cell? ⟨w.heap.size, 1, none⟩ = some v1 ∧ Wa.frozen? ⟨w.heap.size, 1, none⟩ = false ∧ Wb.cell? ⟨w.heap.size, 2, none⟩ = some v2 ∧ Wb.frozen? ⟨w.heap.size, 2, none⟩ = false ∧
    Box Wc w.heap.size t [u0, u1, u2] ∧ Below w.heap.size w Wc := by
  have h := Box.new w t [v0, v1, v2]
  have h1 := h.set 0 u0
  have h2 := h1.set 1 u1
  have h3 := h2.set 2 u2
  exact ⟨_, _, _, _, rfl, rfl, rfl, rfl, h.cell 0 rfl, h.free 0, h1.cell 1 rfl, h1.free 1, h2.cell 2 rfl, h2.free 2, h3, below3 ((Below.refl _ w).alloc (Nat.le_refl _) _) (Nat.le_refl _) _ _ _⟩
theorem DecA.op {w W : World} {zs wd : List Y} {ch : List Nat} {o b er : Int} {n m : Nat} {e : Ending} (h : DecA w zs e W) (hO : dOut zs = o) (hW : dWord zs = wd) (hC : dChips zs = ch) (hB : dBit zs = b) (hE : dErr zs = er) (hn : wd.length = n) (hm : ch.length = m) :
    ∃ (a : Option Addr) (c : Nat) (a2 : Option Addr) (c2 : Nat), e = .returned (.tuple #[.agg #[.int .i64 o, .slice a n c, .slice a2 m c2], .int .i64 b, .int .i64 er]) ∧ Row W a wd c ∧ Row W a2 ch c2 ∧ Below w.heap.size w W := by
  subst hO hW hC hB hE hn hm
  exact h

set_option maxRecDepth 100000 in
set_option maxHeartbeats 4000000 in
theorem hammingExact_any (a0 : Option Addr) (cap0 : Nat) (bs : List Y) (bit : Int) (a : Option Addr) (cap : Nat) (ts : List Int) (w : World) (hB : Row w a0 bs cap0) (hR : IRow w a ts cap) :
    Calls Try.prog 3 #[.slice a0 bs.length cap0, .int .i64 bit, .slice a ts.length cap] w fun e W => e = .returned (.bool true) ∧ Below w.heap.size w W := by
  have hroom := hR.room
  have hmost := hR.most
  have hroom0 := hB.room
  have hmost0 := hB.most
  by_cases h400 : (ts.length : Int) ≤ 400
  case neg =>
    have hd : decide ((ts.length : Int) ≤ 400) = false := by simpa using h400
    have HL := Lib.hid (light_any a ts.length cap w)
    rw [hd] at HL
    clear hd hR
    go_enter Try.func3, Try.ntmps3
    go_wp2_with fail
    refine HL.out.mono ?_
    rintro e w1 ⟨rfl, rfl⟩
    go_wp2_with fail
    refine (awake_yes _).mono ?_
    rintro e w2 ⟨rfl, hb2⟩
    go_wp2_with fail
    go_ret
    exact ⟨rfl, hb2⟩
  case pos =>
    have hd : decide ((ts.length : Int) ≤ 400) = true := by simpa using h400
    have HL := Lib.hid (light_any a ts.length cap w)
    rw [hd] at HL
    have HR := Lib.hid hR
    have HBS := Lib.hid hB
    clear hd hR hB
    by_cases h30 : 30 < bs.length
    · go_enter Try.func3, Try.ntmps3
      go_wp2_with fail
      refine HL.out.mono ?_
      rintro e w1 ⟨rfl, rfl⟩
      go_wp2_with fail
      refine (awake_yes _).mono ?_
      rintro e w2 ⟨rfl, hb2⟩
      go_wp2_with fail
      go_ret
      exact ⟨rfl, hb2⟩
    · have HRO := Lib.hid (roll_any a cap ts w HR.out (by omega))
      go_enter Try.func3, Try.ntmps3
      go_wp2_with fail
      refine HL.out.mono ?_
      rintro e w1 ⟨rfl, rfl⟩
      go_wp2_with fail
      refine HRO.out.mono ?_
      rintro e w1 ⟨rfl, hd1, hb1⟩
      have HB1 := Lib.hid hb1
      have HBY := Lib.hid (show Calls Try.prog 10 #[.pointer (some ⟨w.heap.size, 0, none⟩), .int .i64 9] w1 (BytesPost w1 w.heap.size a cap ts 9) from bytes_any w1 w.heap.size a cap ts 0 9 (by decide) hd1)
      clear hd1 hb1 HL HRO
      go_wp2_with fail
      refine HBY.out.mono ?_
      rintro e w2 ⟨xs, ax, cx, k2, hxl, rfl, ho2, hd2, hg2⟩
      have HB2 := Lib.hid (grown_below2 HB1.out hg2 (Nat.le_refl _))
      obtain ⟨gx, rfl, hgx1, hgx2⟩ := ho2.fresh (by rw [hxl]; decide)
      have hxr := ho2.room
      have HX2 := Lib.hid ho2.rowAt
      have HXL := Lib.hid hxl
      have hBS2 := HBS.out.below HB2.out
      have HBS2 := Lib.hid hBS2
      clear hd2 hg2 ho2 hxl HB1 HBY hBS2 HBS HR hgx1
      obtain ⟨w3, w3a, w3b, w3c, n30, n3a, n3b, n3c, s30, t30, s31, t31, s32, t32, hx3, hb3⟩ := store3new w2 29 (.slice none 0 0) (.slice none 0 0) (.slice none 0 0) (.slice a0 bs.length cap0) (.slice (some ⟨gx, 0, none⟩) 9 cx) (.slice (some ⟨gx, 0, none⟩) 8 cx)
      have HX3 := Lib.hid hx3
      have HBW := Lib.hid (HB2.out.trans (hb3.mono HB2.out.size))
      have HR3 := Lib.hid (HBS2.out.below hb3)
      have HX3r := Lib.hid (HX2.out.below hb3)
      clear hx3 hb3 HX2 HBS2 HB2
      go_wp2_with fail
      clear n30 n3a n3b n3c s30 t30 s31 t31 s32 t32
      obtain ⟨pl, hpl⟩ : ∃ p, w2.heap.size = p := ⟨_, rfl⟩
      rw [hpl] at HX3 ⊢
      clear hpl
      go_loopw [9] (fun jv wr => ∃ j : Nat, jv = .int .i64 (j : Int) ∧ j ≤ 3 ∧ Below w3c.heap.size w3c wr) (fun jv _ => 3 - (intOf jv).toNat)
      case atStart => exact ⟨0, rfl, by decide, Below.refl _ _⟩
      case round =>
        obtain ⟨j, rfl, hj, hb⟩ := hrel
        by_cases hlt : j < 3
        · have hx := HX3.out.below hb
          have hsel : ∃ (aj : Option Addr) (zj : List Y) (cj : Nat), wr.cell? ⟨pl, j, none⟩ = some (.slice aj zj.length cj) ∧ Row wr aj zj cj := by
            match j, hlt with
            | 0, _ => exact ⟨a0, bs, cap0, hx.cell 0 rfl, HR3.out.below hb⟩
            | 1, _ => exact ⟨some ⟨gx, 0, none⟩, xs, cx, by rw [HXL.out]; exact hx.cell 1 rfl, HX3r.out.below hb⟩
            | 2, _ => exact ⟨some ⟨gx, 0, none⟩, xs.take 8, cx, by rw [List.length_take, HXL.out]; exact hx.cell 2 rfl, (HX3r.out.below hb).take 8⟩
          obtain ⟨aj, zj, cj, hcell, hrow⟩ := hsel
          obtain ⟨cV, hcV⟩ : ∃ v, chkV zj = v := ⟨_, rfl⟩
          obtain ⟨cE, hcE⟩ : ∃ v, chkE zj = v := ⟨_, rfl⟩
          obtain ⟨sV, hsV⟩ : ∃ v, synV zj = v := ⟨_, rfl⟩
          obtain ⟨sE, hsE⟩ : ∃ v, synE zj = v := ⟨_, rfl⟩
          obtain ⟨oo, hO⟩ : ∃ v, dOut zj = v := ⟨_, rfl⟩
          obtain ⟨wd, hWd⟩ : ∃ v, dWord zj = v := ⟨_, rfl⟩
          obtain ⟨ch, hCh⟩ : ∃ v, dChips zj = v := ⟨_, rfl⟩
          obtain ⟨bb, hBb⟩ : ∃ v, dBit zj = v := ⟨_, rfl⟩
          obtain ⟨er, hEr⟩ : ∃ v, dErr zj = v := ⟨_, rfl⟩
          obtain ⟨nw, hnw⟩ : ∃ v, wd.length = v := ⟨_, rfl⟩
          obtain ⟨nc, hnc⟩ : ∃ v, ch.length = v := ⟨_, rfl⟩
          have hnc1 : nc ≤ 1 := by rw [← hnc, ← hCh]; exact dChips_le zj
          have C1 := Lib.hid (fun W (h : Row W aj zj cj) => check_any aj zj cj W h)
          have C2 := Lib.hid (fun W (h : Row W aj zj cj) => rcheck_any aj zj cj W h)
          have S1 := Lib.hid (fun W (h : Row W aj zj cj) => syndrome_any aj zj cj W h)
          have S2 := Lib.hid (fun W (h : Row W aj zj cj) => rsyndrome_any aj zj cj W h)
          rw [hcV, hcE] at C1 C2
          rw [hsV, hsE] at S1 S2
          have HALL := Lib.hid (And.intro hO (And.intro hWd (And.intro hCh (And.intro hBb (And.intro hEr (And.intro hnw hnc))))))
          have HB4 := Lib.hid hb
          have HRW := Lib.hid hrow
          clear hcV hcE hsV hsE hO hWd hCh hBb hEr hnw hnc hb hrow hx
          go_wp2_with fail
          refine (C1.out _ HRW.out).mono ?_
          rintro e v1 ⟨rfl, hv1⟩
          have k1 := cell_below hv1 hcell
          have HR1 := Lib.hid (HRW.out.below hv1)
          have HV1 := Lib.hid (HB4.out.trans (hv1.mono HB4.out.size))
          clear hv1 hcell C1 HRW
          go_wp2_with fail
          refine (C2.out _ HR1.out).mono ?_
          rintro e v2 ⟨rfl, hv2⟩
          have k2' := cell_below hv2 k1
          have HR2 := Lib.hid (HR1.out.below hv2)
          have HV2 := Lib.hid (HV1.out.trans (hv2.mono HV1.out.size))
          clear hv2 k1 C2 HR1 HV1
          go_wp2_with fail
          refine (S1.out _ HR2.out).mono ?_
          rintro e v3 ⟨rfl, hv3⟩
          have k3 := cell_below hv3 k2'
          have HR4 := Lib.hid (HR2.out.below hv3)
          have HV3 := Lib.hid (HV2.out.trans (hv3.mono HV2.out.size))
          clear hv3 k2' S1 HR2 HV2
          go_wp2_with fail
          refine (S2.out _ HR4.out).mono ?_
          rintro e v4 ⟨rfl, hv4⟩
          have k4 := cell_below hv4 k3
          have HR5 := Lib.hid (HR4.out.below hv4)
          have HV4 := Lib.hid (HV3.out.trans (hv4.mono HV3.out.size))
          clear hv4 k3 S2 HR4 HV3
          go_wp2_with fail
          refine (decode_any aj zj cj v4 HR5.out).mono ?_
          intro e v5 hdec
          obtain ⟨a5, c5, a6, c6, rfl, hw5, hc5, hv5⟩ := hdec.op HALL.out.1 HALL.out.2.1 HALL.out.2.2.1 HALL.out.2.2.2.1 HALL.out.2.2.2.2.1 HALL.out.2.2.2.2.2.1 HALL.out.2.2.2.2.2.2
          have k5 := cell_below hv5 k4
          obtain ⟨v6, v6a, v6b, v6c, n60, n6a, n6b, n6c, s60, t60, s61, t61, s62, t62, hx6, hb6⟩ := store3new v5 34 (.int .i64 0) (.slice none 0 0) (.slice none 0 0) (.int .i64 oo) (.slice a5 nw c5) (.slice a6 nc c6)
          have k6 := cell_below hb6 k5
          have HX6 := Lib.hid hx6
          have HR6 := Lib.hid ((HR5.out.below hv5).below hb6)
          have hv46 := HV4.out.trans (hv5.mono HV4.out.size)
          have HV6 := Lib.hid (hv46.trans (hb6.mono hv46.size))
          have HW6 := Lib.hid (hw5.below hb6)
          have HC6 := Lib.hid (hc5.below hb6)
          clear hv5 hdec k4 k5 hx6 hb6 hw5 hc5 HR5 HV4 hv46
          go_wp2_with fail
          refine (rdecode_any aj zj cj v6c HR6.out).mono ?_
          intro e v7 hdec
          obtain ⟨a7, c7, a8, c8, rfl, hw7, hc7, hv7⟩ := hdec.op HALL.out.1 HALL.out.2.1 HALL.out.2.2.1 HALL.out.2.2.2.1 HALL.out.2.2.2.2.1 HALL.out.2.2.2.2.2.1 HALL.out.2.2.2.2.2.2
          obtain ⟨p5, hp5⟩ : ∃ p, v5.heap.size = p := ⟨_, rfl⟩
          rw [hp5] at HX6 ⊢
          obtain ⟨v8, v8a, v8b, v8c, n80, n8a, n8b, n8c, s80, t80, s81, t81, s82, t82, hx8, hb8⟩ := store3new v7 34 (.int .i64 0) (.slice none 0 0) (.slice none 0 0) (.int .i64 oo) (.slice a7 nw c7) (.slice a8 nc c8)
          have hx6' := (HX6.out.below hv7).below hb8
          have z10 := hx6'.cell 0 rfl
          have z11 := hx6'.cell 1 rfl
          have z12 := hx6'.cell 2 rfl
          have z20 := hx8.cell 0 rfl
          have z21 := hx8.cell 1 rfl
          have z22 := hx8.cell 2 rfl
          have hv67 := HV6.out.trans (hv7.mono HV6.out.size)
          have HV8 := Lib.hid (hv67.trans (hb8.mono hv67.size))
          have HSM := Lib.hid (same_yes oo a5 a7 c5 c7 wd nw a6 a8 c6 c8 ch nc v8c HALL.out.2.2.2.2.2.1 HALL.out.2.2.2.2.2.2 ((HW6.out.below hv7).below hb8) (hw7.below hb8) ((HC6.out.below hv7).below hb8) (hc7.below hb8) hnc1)
          have q1 : ((cE : Int) != cE) = false := by simp
          have q2 : ((cV : Int) != cV) = false := by simp
          have q3 : ((sE : Int) != sE) = false := by simp
          have q4 : ((sV : Int) != sV) = false := by simp
          have q5 : ((er : Int) != er) = false := by simp
          have q6 : ((bb : Int) != bb) = false := by simp
          clear hv7 hdec hx6' hb8 hx8 hv67 hw7 hc7 k6 n60 n6a n6b n6c s60 t60 s61 t61 s62 t62 HX6 HR6 HV6 HW6 HC6 hp5
          go_wp2_with fail
          refine HSM.out.mono ?_
          rintro e v9 ⟨rfl, hb9⟩
          have HV9 := Lib.hid (HV8.out.trans (hb9.mono HV8.out.size))
          clear hb9 HV8 HSM z10 z11 z12 z20 z21 z22 n80 n8a n8b n8c s80 t80 s81 t81 s82 t82 q1 q2 q3 q4 q5 q6 HALL
          go_wp2_with fail
          go_roundw
          case rel => exact ⟨j + 1, by go_num, hlt, HV9.out⟩
          case measure => simp [intOf]; omega
        · obtain rfl : j = 3 := by omega
          rw [show ((3 : Nat) : Int) = 3 from rfl]
          have HB4 := Lib.hid (HBW.out.trans (hb.mono HBW.out.size))
          clear hb HX3 HR3 HX3r HBW hj hlt
          go_wp2_with fail
          go_loopw [1, 24] (fun bv jv wr => ∃ (j : Nat) (x : Int), jv = .int .i64 (j : Int) ∧ j ≤ 2 ∧ bv = .int .i64 x ∧ Below w.heap.size w wr) (fun _ jv _ => 2 - (intOf jv).toNat)
          case atStart => exact ⟨0, bit, rfl, by decide, rfl, HB4.out⟩
          case round =>
            clear HB4
            obtain ⟨j, x, rfl, hj, rfl, hb⟩ := hrel
            by_cases hlt : j < 2
            · obtain ⟨cV, hcV⟩ : ∃ v, colV x = v := ⟨_, rfl⟩
              obtain ⟨cE, hcE⟩ : ∃ v, colE x = v := ⟨_, rfl⟩
              have C1 := Lib.hid (fun W => column_any x W)
              have C2 := Lib.hid (fun W => rcolumn_any x W)
              have MD := Lib.hid (fun W => mod_any x 74 (by decide) (by decide) W)
              obtain ⟨m, hm, hm74⟩ := mod_nat x 74 (by decide)
              rw [show ((74 : Nat) : Int) = 74 from rfl] at hm
              rw [hm] at MD
              rw [hcV, hcE] at C1 C2
              have HB5 := Lib.hid hb
              have q1 : ((cE : Int) != cE) = false := by simp
              have q2 : ((cV : Int) != cV) = false := by simp
              clear hcV hcE hm hb
              go_wp2_with fail
              refine (C1.out _).mono ?_
              rintro e v1 ⟨rfl, hv1⟩
              have HV1 := Lib.hid (HB5.out.trans (hv1.mono HB5.out.size))
              clear hv1
              go_wp2_with fail
              refine (C2.out _).mono ?_
              rintro e v2 ⟨rfl, hv2⟩
              have HV2 := Lib.hid (HV1.out.trans (hv2.mono HV1.out.size))
              clear hv2
              go_wp2_with fail
              refine (MD.out _).mono ?_
              rintro e v3 ⟨rfl, rfl⟩
              go_wp2_with fail
              go_roundw
              case rel => exact ⟨j + 1, (m : Int) - 1, by go_num, hlt, rfl, HV2.out⟩
              case measure => simp [intOf]; omega
            · obtain rfl : j = 2 := by omega
              have HB5 := Lib.hid hb
              clear hb
              go_wp2_with fail
              refine (awake_yes _).mono ?_
              rintro e v1 ⟨rfl, hv1⟩
              have HV1 := Lib.hid (HB5.out.trans (hv1.mono HB5.out.size))
              clear hv1
              go_wp2_with fail
              go_ret
              exact ⟨rfl, HV1.out⟩
end Go.Proofs.Ytdafapionedooaa.G.H
