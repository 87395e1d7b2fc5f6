/- HammingFixes: the walk. -/
import Derived.Test.YtdafapionedooaaHAwake
import Derived.Test.YtdafapionedooaaGStr
import Derived.Test.YtdafapionedooaaGDiceB
namespace Go.Proofs.Ytdafapionedooaa.G.H
open Go Go.RowKit Go.Shelf

theorem grown_below {w W W' : World} {dp : Nat} (hb : Below w.heap.size w W) (hg : W.grownBy W' (some dp)) (hd : w.heap.size ≤ dp) : Below w.heap.size w W' :=
  hb.grown hg hb.size (fun k e => by cases e; exact hd)
theorem box3_new (W : World) : Box (W.alloc (.cells #[.int .i64 0, .slice none 0 0, .slice none 0 0] 34)) W.heap.size 34 [.int .i64 0, .slice none 0 0, .slice none 0 0] := Box.new W _ [.int .i64 0, .slice none 0 0, .slice none 0 0]
/-- The cells of a result in a box. -/
theorem box3_at {W : World} {p : Nat} {v0 v1 v2 : Value} (h : Box W p 34 [v0, v1, v2]) : W.cell? ⟨p, 0, none⟩ = some v0 ∧ W.cell? ⟨p, 1, none⟩ = some v1 ∧ W.cell? ⟨p, 2, none⟩ = some v2 ∧ W.frozen? ⟨p, 0, none⟩ = false ∧ W.frozen? ⟨p, 1, none⟩ = false ∧ W.frozen? ⟨p, 2, none⟩ = false :=
  ⟨h.cell 0 rfl, h.cell 1 rfl, h.cell 2 rfl, h.free 0, h.free 1, h.free 2⟩
theorem own3' {α : Type} [Elt α] {W : World} {B p g n cap : Nat} {zs : List α} (h : Own W B (.slice (some ⟨g, 0, none⟩) n cap) zs) (hp : g ≠ p) (u0 u1 u2 : Value) : Own (((W.setCell ⟨p, 0, none⟩ u0).setCell ⟨p, 1, none⟩ u1).setCell ⟨p, 2, none⟩ u2) B (.slice (some ⟨g, 0, none⟩) n cap) zs :=
  ((h.other (p := ⟨p, 0, none⟩) _ (by intro e; cases e; exact hp rfl)).other (p := ⟨p, 1, none⟩) _ (by intro e; cases e; exact hp rfl)).other (p := ⟨p, 2, none⟩) _ (by intro e; cases e; exact hp rfl)

/-- A result is stored in a box: the worlds have names. -/
theorem name3 {W : World} {p : Nat} {v0 v1 v2 : Value} (h : Box W p 34 [v0, v1, v2]) (u0 u1 u2 : Value) : ∃ Wa Wb Wc : World, W.setCell ⟨p, 0, none⟩ u0 = Wa ∧ Wa.setCell ⟨p, 1, none⟩ u1 = Wb ∧ Wb.setCell ⟨p, 2, none⟩ u2 = Wc ∧
    W.cell? ⟨p, 0, none⟩ = some v0 ∧ W.frozen? ⟨p, 0, none⟩ = false ∧ Wa.cell? ⟨p, 1, none⟩ = some v1 ∧ Wa.frozen? ⟨p, 1, none⟩ = false ∧ Wb.cell? ⟨p, 2, none⟩ = some v2 ∧ Wb.frozen? ⟨p, 2, none⟩ = false ∧
    Box Wc p 34 [u0, u1, u2] ∧ (∀ (B : Nat) (w : World), Below B w W → B ≤ p → Below B w Wc) ∧ (∀ (B : Nat) (v : Value) (zs : List Y), v.ownBlock ≠ some p → Own W B v zs → Own Wc B v zs) ∧ (∀ (B : Nat) (v : Value) (zs : List Nat), v.ownBlock ≠ some p → Own W B v zs → Own Wc B v zs) ∧ Wc.heap.size = W.heap.size := by
  have h1 := h.set 0 u0
  have h2 := h1.set 1 u1
  have h3 := h2.set 2 u2
  refine ⟨_, _, _, rfl, rfl, rfl, h.cell 0 rfl, h.free 0, h1.cell 1 rfl, h1.free 1, h2.cell 2 rfl, h2.free 2, h3, fun B w hb hp => below3 hb hp _ _ _, fun B v zs hv ho => ((ho.other (p := ⟨p, 0, none⟩) _ hv).other (p := ⟨p, 1, none⟩) _ hv).other (p := ⟨p, 2, none⟩) _ hv, fun B v zs hv ho => ((ho.other (p := ⟨p, 0, none⟩) _ hv).other (p := ⟨p, 1, none⟩) _ hv).other (p := ⟨p, 2, none⟩) _ hv, ?_⟩
  simp [World.setCell]
theorem DecR.is0 {w W : World} {zs : List Y} {s : Y} {e : Ending} (h : DecR w zs s e W) (hs : s = 0) (hl : zs.length = 9) : ∃ (a : Option Addr) (c : Nat) (a2 : Option Addr) (c2 : Nat), e = .returned (.tuple #[.agg #[.int .i64 0, .slice a 9 c, .slice a2 0 c2], .int .i64 (-1), .int .i64 0]) ∧
    Own W w.heap.size (.slice a 9 c) zs ∧ Below w.heap.size w W := by
  obtain ⟨a, c, a2, c2, rfl, h1, h2, h3⟩ := h
  obtain ⟨d0, d1, d2, d3⟩ := dec_0 (w := zs) hs
  rw [d1, hl] at h1
  rw [d0, d1, d2, d3, hl]
  exact ⟨a, c, a2, c2, rfl, h1, h3⟩
theorem DecR.is1 {w W : World} {zs : List Y} {s : Y} {e : Ending} {b : Nat} (h : DecR w zs s e W) (hs : s ≠ 0) (hb : idx s = b) (hb2 : b < 72) (hl : zs.length = 9) : ∃ (a : Option Addr) (c : Nat) (a2 : Option Addr) (c2 : Nat), e = .returned (.tuple #[.agg #[.int .i64 1, .slice a 9 c, .slice a2 1 c2], .int .i64 (b : Int), .int .i64 0]) ∧
    Own W w.heap.size (.slice a 9 c) (flipAt zs b) ∧ Own W w.heap.size (.slice a2 1 c2) [b / 8] ∧ Below w.heap.size w W := by
  obtain ⟨a, c, a2, c2, rfl, h1, h2, h3⟩ := h
  obtain ⟨d0, d1, d2, d3⟩ := dec_1 (w := zs) hs (by omega)
  rw [hb] at d1 d2 d3
  rw [d1, flip_len, hl] at h1
  rw [d2] at h2
  rw [d0, d1, d2, d3, flip_len, hl]
  exact ⟨a, c, a2, c2, rfl, h1, h2, h3⟩
theorem DecR.is2 {w W : World} {zs : List Y} {s : Y} {e : Ending} (h : DecR w zs s e W) (hs : s ≠ 0) (hb : idx s = 72) : ∃ (a : Option Addr) (c : Nat) (a2 : Option Addr) (c2 : Nat), e = .returned (.tuple #[.agg #[.int .i64 2, .slice a 0 c, .slice a2 0 c2], .int .i64 (-1), .int .i64 0]) ∧ Below w.heap.size w W := by
  obtain ⟨a, c, a2, c2, rfl, h1, h2, h3⟩ := h
  obtain ⟨d0, d1, d2, d3⟩ := dec_2 (w := zs) hs hb
  rw [d0, d1, d2, d3]
  exact ⟨a, c, a2, c2, rfl, h3⟩

set_option maxRecDepth 100000 in
set_option maxHeartbeats 4000000 in
theorem hammingFixes_any (a : Option Addr) (cap : Nat) (ts : List Int) (x y : Int) (w : World) (hR : IRow w a ts cap) :
    Calls Try.prog 4 #[.slice a ts.length cap, .int .i64 x, .int .i64 y] w fun e W => e = .returned (.bool true) ∧ Below w.heap.size w W := by
  have hroom := hR.room
  have hmost := hR.most
  by_cases h400 : (ts.length : Int) ≤ 400
  case neg =>
    have hd : decide ((ts.length : Int) ≤ 400) = false := by simpa using h400
    have HL := Lib.hid (light_any a ts.length cap w)
    rw [hd] at HL
    clear hd hR
    go_enter Try.func4, Try.ntmps4
    go_wp2_with fail
    refine HL.out.mono ?_
    rintro e w1 ⟨rfl, rfl⟩
    go_wp2_with fail
    refine (awake_yes _).mono ?_
    rintro e w2 ⟨rfl, hb2⟩
    go_wp2_with fail
    go_ret
    exact ⟨rfl, hb2⟩
  case pos =>
    have hd : decide ((ts.length : Int) ≤ 400) = true := by simpa using h400
    have HL := Lib.hid (light_any a ts.length cap w)
    rw [hd] at HL
    have HRO := Lib.hid (roll_any a cap ts w hR (by omega))
    have HMX := Lib.hid (fun W => mod_any x 72 (by decide) (by decide) W)
    have HMY := Lib.hid (fun W => mod_any y 72 (by decide) (by decide) W)
    obtain ⟨i, hi, hi72⟩ := mod_nat x 72 (by decide)
    obtain ⟨k, hk, hk72⟩ := mod_nat y 72 (by decide)
    rw [show ((72 : Nat) : Int) = 72 from rfl] at hi hk
    rw [hi] at HMX
    rw [hk] at HMY
    clear hd hR hi hk
    go_enter Try.func4, Try.ntmps4
    go_wp2_with fail
    refine HL.out.mono ?_
    rintro e w1 ⟨rfl, rfl⟩
    go_wp2_with fail
    refine HRO.out.mono ?_
    rintro e w1 ⟨rfl, hd1, hb1⟩
    have HB1 := Lib.hid hb1
    have HBY := Lib.hid (show Calls Try.prog 10 #[.pointer (some ⟨w.heap.size, 0, none⟩), .int .i64 8] w1 (BytesPost w1 w.heap.size a cap ts 8) from bytes_any w1 w.heap.size a cap ts 0 8 (by decide) hd1)
    clear hd1 hb1 HL HRO
    go_wp2_with fail
    refine HBY.out.mono ?_
    rintro e w2 ⟨bs, ab, cb, k2, hbl, rfl, ho2, hd2, hg2⟩
    have HB2 := Lib.hid (grown_below HB1.out hg2 (Nat.le_refl _))
    have HD2 := Lib.hid ho2
    have HBL := Lib.hid hbl
    have HCH := Lib.hid (check_yes ab bs cb w2 ho2.rowAt hbl)
    clear hbl ho2 hd2 hg2 HB1 HBY
    go_wp2_with fail
    refine HCH.out.mono ?_
    rintro e w3 ⟨rfl, hb3⟩
    have HB3 := Lib.hid (HB2.out.trans (hb3.mono HB2.out.size))
    have HD3 := Lib.hid (HD2.out.below hb3)
    obtain ⟨c, hc⟩ : ∃ c, syn bs 64 = c := ⟨_, rfl⟩
    have HWD := Lib.hid (show syn (bs ++ [c]) 72 = 0 by rw [← hc]; exact syn_word HBL.out)
    rw [hc]
    clear hb3 hc HB2 HD2 HCH
    have HD3R := Lib.hid HD3.out.rowAt
    go_wp2_with (first | (at_builtin; refine wpList_appAny (α := Y) (zs := []) (ys := bs) (B := w3.heap.size) rfl _ _ rfl rfl (Own.nil _ _) (cap := cb) (ad := ab) (by rw [HBL.out]; rfl) HD3R.out (by rw [HBL.out]; decide) (Nat.le_refl _) ?_; intro a4 cap4 w4 ho4 hb4; rw [show ([] : List Y).length + bs.length = 8 by rw [HBL.out]; rfl] at ho4 ⊢; rw [List.nil_append] at ho4; have HO4 := Lib.hid ho4; have HB4 := Lib.hid hb4; clear ho4 hb4) | (at_builtin; refine wpList_app1 (α := Y) (B := w3.heap.size) (zs := bs) rfl _ _ rfl c rfl (v := .slice a4 8 cap4) (HO4.out.alloc _) rfl (cell_new _ _ _) (by rw [HBL.out]; decide) (by rw [World.size_alloc]; exact Nat.le_succ_of_le HB4.out.size) ?_; intro a5 cap5 w5 ho5 _ hb5 _; rw [show bs.length + 1 = 9 by rw [HBL.out]] at ho5 ⊢; have HO5 := Lib.hid ho5; have HB5 := Lib.hid ((HB4.out.alloc HB4.out.size _).trans hb5); clear ho5 hb5))
    obtain ⟨zs, hzs⟩ : ∃ zs, bs ++ [c] = zs := ⟨_, rfl⟩
    have hzl : zs.length = 9 := by rw [← hzs, List.length_append, HBL.out]; rfl
    rw [hzs] at HO5 HWD
    have HZL := Lib.hid hzl
    have hw5 := HB3.out.trans (HB5.out.mono HB3.out.size)
    have HW5 := Lib.hid hw5
    have hg5 := HO5.out.fresh (by rw [hzl]; decide)
    obtain ⟨gw, rfl, hgw1, hgw2⟩ := hg5
    have hgw : w.heap.size ≤ gw := Nat.le_trans HB3.out.size hgw1
    have hd := decode_yes (some ⟨gw, 0, none⟩) zs cap5 w5 (by have := HO5.out; rw [← hzl] at this; exact this.rowAt) hzl
    have HDC := Lib.hid hd
    clear hzs hzl hw5 hd HB5 HB4 HO4 HD3R HD3 HB3 hgw1 HBL
    go_wp2_with fail
    refine HDC.out.mono ?_
    intro e w6 hdec
    obtain ⟨a6, c6, a7, c7, rfl, _, hb6⟩ := hdec.is0 HWD.out HZL.out
    have hO6 := HO5.out.below hb6
    have hW6 := HW5.out.trans (hb6.mono HW5.out.size)
    have hx6 := box3_new w6
    have hO7 := hO6.alloc (.cells #[.int .i64 0, .slice none 0 0, .slice none 0 0] 34)
    have hW7 := hW6.alloc hW6.size (.cells #[.int .i64 0, .slice none 0 0, .slice none 0 0] 34)
    obtain ⟨p, hp⟩ : ∃ p, w6.heap.size = p := ⟨_, rfl⟩
    have hgp : gw < p := by rw [← hp]; exact Nat.lt_of_lt_of_le hgw2 hb6.size
    have hwp : w.heap.size ≤ p := by omega
    obtain ⟨w7, hn7⟩ : ∃ w7, w6.alloc (.cells #[.int .i64 0, .slice none 0 0, .slice none 0 0] 34) = w7 := ⟨_, rfl⟩
    rw [hn7, hp] at hx6
    rw [hn7] at hO7 hW7
    clear hdec hb6 hO6 hW6 HDC HO5 HW5
    obtain ⟨w8a, w8b, w8c, n8a, n8b, n8c, s80, t80, s81, t81, s82, t82, hx8, tb8, ty8, tn8, hz8⟩ := name3 hx6 (.int .i64 0) (.slice a6 9 c6) (.slice a7 0 c7)
    have HO8 := Lib.hid (ty8 _ _ _ (by show some gw ≠ some p; intro e; cases e; omega) hO7)
    have HW8 := Lib.hid (tb8 _ _ hW7 hwp)
    have HX8 := Lib.hid hx8
    clear hx8 tb8 ty8 tn8 hz8 hO7 hW7 hx6
    go_wp2_with fail
    refine (awake_yes _).mono ?_
    rintro e w9 ⟨rfl, hb9⟩
    have hX9 := HX8.out.below hb9
    have k0 := hX9.cell 0 rfl
    have HX9 := Lib.hid hX9
    have HO9 := Lib.hid (HO8.out.below hb9)
    have HW9 := Lib.hid (HW8.out.trans (hb9.mono HW8.out.size))
    clear hb9 hX9 HX8 HO8 HW8 n8a n8b n8c s80 t80 s81 t81 s82 t82 hn7 hp
    go_wp2_with fail
    refine (HMX.out _).mono ?_
    rintro e w' ⟨rfl, rfl⟩
    go_wp2_with fail
    refine (HMY.out _).mono ?_
    rintro e w' ⟨rfl, rfl⟩
    have hOR := HO9.out
    rw [← HZL.out] at hOR
    have HOR := Lib.hid hOR.rowAt
    clear hOR HMX HMY k0
    obtain ⟨qi, hqi⟩ : ∃ q, i / 8 = q := ⟨_, rfl⟩
    obtain ⟨ri, hri⟩ : ∃ r, i % 8 = r := ⟨_, rfl⟩
    have hqi9 : qi < 9 := by omega
    have hqii : (i : Int) / 8 = (qi : Int) := by omega
    have hrii : (i : Int) % 8 = (ri : Int) := by omega
    have hri8 : ri < 8 := by omega
    have Hqi := Lib.hid hqi
    have Hri := Lib.hid hri
    clear hqi hri
    obtain ⟨qk, hqk⟩ : ∃ q, k / 8 = q := ⟨_, rfl⟩
    obtain ⟨rk, hrk⟩ : ∃ r, k % 8 = r := ⟨_, rfl⟩
    have hqk9 : qk < 9 := by omega
    have hqki : (k : Int) / 8 = (qk : Int) := by omega
    have hrki : (k : Int) % 8 = (rk : Int) := by omega
    have hrk8 : rk < 8 := by omega
    have Hqk := Lib.hid hqk
    have Hrk := Lib.hid hrk
    clear hqk hrk
    have HGS := Lib.hid (HO9.out.fresh (by rw [HZL.out]; decide))
    have hgs9 : p < w9.heap.size := HX9.out.lt
    go_wp2_with (at_builtin; refine wpList_appAny (α := Y) (zs := []) (ys := zs) (B := w9.heap.size) rfl _ _ rfl rfl (Own.nil _ _) (cap := cap5) (ad := some ⟨gw, 0, none⟩) (by rw [HZL.out]; rfl) HOR.out (by rw [HZL.out]; decide) (Nat.le_refl _) ?_; intro a10 cap10 w10 ho10 hb10; rw [show ([] : List Y).length + zs.length = 9 by rw [HZL.out]; rfl] at ho10 ⊢; rw [List.nil_append] at ho10; obtain ⟨gx, rfl, hgx1, hgx2⟩ := ho10.fresh (by rw [HZL.out]; decide); have HO10 := Lib.hid (HO9.out.below hb10); have HX10 := Lib.hid (HX9.out.below hb10); have HW10 := Lib.hid (HW9.out.trans (hb10.mono HW9.out.size)); have hcq := ho10.cellY qi (by rw [HZL.out]; exact hqi9); have hfq := ho10.free qi (by rw [HZL.out]; exact hqi9); have hrm10 := ho10.room; have hsh := shl_Y hri8; have hxy := xor_Y (el zs qi) ((1 : Y) <<< ri); obtain ⟨wr, hwr⟩ : ∃ l, flipAt zs i = l := ⟨_, rfl⟩; have hst := ho10.setY qi (el zs qi ^^^ ((1 : Y) <<< ri)); have hfl : zs.set qi (el zs qi ^^^ ((1 : Y) <<< ri)) = wr := (by rw [← hwr, ← Hqi.out, ← Hri.out]; rfl); rw [hfl] at hst; obtain ⟨y1, hy1⟩ : ∃ y, el zs qi = y := ⟨_, rfl⟩; obtain ⟨y2, hy2⟩ : ∃ y, (1 : Y) <<< ri = y := ⟨_, rfl⟩; obtain ⟨y3, hy3⟩ : ∃ y, y1 ^^^ y2 = y := ⟨_, rfl⟩; rw [hy1] at hcq hxy hst; rw [hy2] at hsh hxy hst; rw [hy3] at hxy hst; obtain ⟨w11, hn11⟩ : ∃ w11, w10.setCell ⟨gx, qi, none⟩ (.int .u8 (y3.toNat : Int)) = w11 := ⟨_, rfl⟩; rw [hn11] at hst; have HS11 := Lib.hid hst; have HWR := Lib.hid hwr; clear hst hwr ho10 hfl hy1 hy2 hy3 hb10)
    have hgwx : gw ≠ gx := by omega
    have hgpx : gx ≠ p := by omega
    have ho11 : Own w11 w3.heap.size (.slice (some ⟨gw, 0, none⟩) 9 cap5) zs := by rw [← hn11]; exact HO10.out.other (p := ⟨gx, qi, none⟩) _ (by show some gw ≠ some gx; intro e; cases e; exact hgwx rfl)
    have hx11 : Box w11 p 34 [.int .i64 0, .slice a6 9 c6, .slice a7 0 c7] := by rw [← hn11]; exact HX10.out.other (q := ⟨gx, qi, none⟩) hgpx _
    have hw11 : Below w.heap.size w w11 := by rw [← hn11]; exact HW10.out.setCell (p := ⟨gx, qi, none⟩) (by show w.heap.size ≤ gx; omega) _
    have hwl : wr.length = 9 := by rw [← HWR.out, flip_len]; exact HZL.out
    have hsy : syn wr 72 = col i := by
      rw [← HWR.out, syn_flip (by rw [HZL.out]; omega), HWD.out, if_pos hi72, Y.zero_xor]
    have hd := decode_yes (some ⟨gx, 0, none⟩) wr cap10 w11 (by have := HS11.out; rw [← hwl] at this; exact this.rowAt) hwl
    have HDC := Lib.hid hd
    have HO11 := Lib.hid ho11
    have HX11 := Lib.hid hx11
    have HW11 := Lib.hid hw11
    have HWL := Lib.hid hwl
    have HSY := Lib.hid hsy
    have hpl : p < w11.heap.size := hx11.lt
    have hgxl : gx < w11.heap.size := by rw [← hn11]; simpa [World.setCell] using hgx2
    clear ho11 hx11 hw11 hwl hsy hd HO10 HX10 HW10 hfq hcq hsh hxy hn11 hrm10 HGS HOR HO9 HX9 HW9
    refine HDC.out.mono ?_
    intro e w12 hdec
    obtain ⟨a12, c12, a13, c13, rfl, ho12, hc12, hb12⟩ := hdec.is1 (by rw [HSY.out]; exact col_ne hi72) (by rw [HSY.out]; exact idx_of_col hi72) hi72 HWL.out
    rw [← HWR.out, flip_flip (by rw [HZL.out]; omega)] at ho12
    rw [Hqi.out] at hc12
    have hx12 := HX11.out.below hb12
    obtain ⟨w13a, w13b, w13c, n13a, n13b, n13c, s130, t130, s131, t131, s132, t132, hx13, tb13, ty13, tn13, hz13⟩ := name3 hx12 (.int .i64 1) (.slice a12 9 c12) (.slice a13 1 c13)
    have ho13 := ty13 _ _ _ (fun e => by have := (World.ownsRow.lt ho12 _ e).1; omega) ho12
    have hc13 := tn13 _ _ _ (fun e => by have := (World.ownsRow.lt hc12 _ e).1; omega) hc12
    have hword := ty13 _ _ _ (by show some gw ≠ some p; intro e; cases e; omega) (HO11.out.below hb12)
    have hwrong := ty13 _ _ _ (by show some gx ≠ some p; intro e; cases e; exact hgpx rfl) (HS11.out.below hb12)
    have hw13 := tb13 _ _ (HW11.out.trans (hb12.mono HW11.out.size)) hwp
    obtain ⟨gc, rfl, _, _⟩ := hc13.fresh Nat.one_pos
    have kc0 := hc13.cellN 0 Nat.one_pos
    rw [show el [qi] 0 = qi from rfl] at kc0
    have hcr := hc13.room
    have k0 := hx13.cell 0 rfl
    have k1 := hx13.cell 1 rfl
    have k2' := hx13.cell 2 rfl
    have z1 := conv_str a12 zs c12 w13c (by rw [← HZL.out] at ho13; exact ho13.rowAt)
    have z2 := conv_str (some ⟨gw, 0, none⟩) zs cap5 w13c (by rw [← HZL.out] at hword; exact hword.rowAt)
    obtain ⟨S, hS⟩ : ∃ S, strY zs = S := ⟨_, rfl⟩
    rw [hS, HZL.out] at z1 z2
    have HX13 := Lib.hid hx13
    have HR13 := Lib.hid hwrong
    have HW13 := Lib.hid hw13
    clear hS hx13 hwrong hw13 hword hc13 ho13 ho12 hc12 hx12 hdec tb13 ty13 tn13 HDC HO11 HX11 HW11 HS11
    have q1 : ((i : Int) != (i : Int)) = false := by simp
    have q2 : ((qi : Int) != (qi : Int)) = false := by simp
    by_cases hik : i = k
    · have q3 : ((i : Int) == (k : Int)) = true := by rw [hik]; simp
      go_wp2_with fail
      go_ret
      exact ⟨rfl, HW13.out⟩
    · have q3 : ((i : Int) == (k : Int)) = false := by rw [beq_eq_false_iff_ne]; omega
      have hcq := HR13.out.cellY qk (by rw [HWL.out]; exact hqk9)
      have hfq := HR13.out.free qk (by rw [HWL.out]; exact hqk9)
      have hrm13 := HR13.out.room
      have hsh := shl_Y hrk8
      have hxy := xor_Y (el wr qk) ((1 : Y) <<< rk)
      obtain ⟨wv, hwv⟩ : ∃ l, flipAt wr k = l := ⟨_, rfl⟩
      have hst := HR13.out.setY qk (el wr qk ^^^ ((1 : Y) <<< rk))
      have hfl : wr.set qk (el wr qk ^^^ ((1 : Y) <<< rk)) = wv := by rw [← hwv, ← Hqk.out, ← Hrk.out]; rfl
      rw [hfl] at hst
      obtain ⟨y1, hy1⟩ : ∃ y, el wr qk = y := ⟨_, rfl⟩
      obtain ⟨y2, hy2⟩ : ∃ y, (1 : Y) <<< rk = y := ⟨_, rfl⟩
      obtain ⟨y3, hy3⟩ : ∃ y, y1 ^^^ y2 = y := ⟨_, rfl⟩
      rw [hy1] at hcq hxy hst
      rw [hy2] at hsh hxy hst
      rw [hy3] at hxy hst
      have hx14 := HX13.out.other (q := ⟨gx, qk, none⟩) hgpx (.int .u8 (y3.toNat : Int))
      have hw14 := HW13.out.setCell (p := ⟨gx, qk, none⟩) (by show w.heap.size ≤ gx; omega) (.int .u8 (y3.toNat : Int))
      obtain ⟨w14, hn14⟩ : ∃ w14, w13c.setCell ⟨gx, qk, none⟩ (.int .u8 (y3.toNat : Int)) = w14 := ⟨_, rfl⟩
      rw [hn14] at hst hx14 hw14
      have hvl : wv.length = 9 := by rw [← hwv, flip_len]; exact HWL.out
      have hsy : syn wv 72 = col i ^^^ col k := by
        rw [← hwv, syn_flip (by rw [HWL.out]; omega), HSY.out, if_pos hk72]
      have hd := decode_yes (some ⟨gx, 0, none⟩) wv cap10 w14 (by rw [← hvl] at hst; exact hst.rowAt) hvl
      have HDC := Lib.hid hd
      have HX14 := Lib.hid hx14
      have HW14 := Lib.hid hw14
      have hne : syn wv 72 ≠ 0 := by
        rw [hsy]
        intro e
        exact hik (col_inj hi72 hk72 (BitVec.xor_eq_zero_iff.1 e))
      have hidx : idx (syn wv 72) = 72 := by
        rw [hsy]
        refine idx_none (fun j hj e => ?_)
        have h1 := par_col j hj
        rw [e, par_xor, par_col i hi72, par_col k hk72] at h1
        cases h1
      have HNE := Lib.hid hne
      have HIX := Lib.hid hidx
      clear hx14 hw14 hst hvl hsy hd hne hidx hfl hy1 hy2 hy3 hwv HX13 HR13 HW13
      go_wp2_with fail
      refine HDC.out.mono ?_
      intro e w15 hdec
      obtain ⟨a15, c15, a16, c16, rfl, hb15⟩ := hdec.is2 HNE.out HIX.out
      have hx15 := HX14.out.below hb15
      obtain ⟨w16a, w16b, w16c, n16a, n16b, n16c, s160, t160, s161, t161, s162, t162, hx16, tb16, ty16, tn16, hz16⟩ := name3 hx15 (.int .i64 2) (.slice a15 0 c15) (.slice a16 0 c16)
      have hw16 := tb16 _ _ (HW14.out.trans (hb15.mono HW14.out.size)) hwp
      have k0' := hx16.cell 0 rfl
      have k1' := hx16.cell 1 rfl
      have k2'' := hx16.cell 2 rfl
      have HW16 := Lib.hid hw16
      clear hx16 hw16 hx15 hb15 hdec tb16 ty16 tn16 HX14 HW14 HDC n13a n13b n13c hn14 k0 k1 k2' z1 z2 kc0 s130 t130 s131 t131 s132 t132 hsh hxy hcq hfq q1 q2 q3
      go_wp2_with fail
      go_ret
      exact ⟨rfl, HW16.out⟩
end Go.Proofs.Ytdafapionedooaa.G.H
