/- made.Bits, Dice.Map. -/
import Derived.Test.YtfleehlajngkbaaRgDec
import Derived.Test.YtfleehlajngkbaaGMasks
import Derived.Test.YtfleehlajngkbaaGOne
import Derived.Test.YtfleehlajngkbaaPReg
namespace Go.Proofs.Ytfleehlajngkbaa.RG
open Go Go.RowKit Go.Shelf
open G P
set_option maxRecDepth 100000 in
theorem mbits_any (x : Nat → Int) (W : World) (hx : ∀ j, j < 6 → x j = (wd x j : Int) ∧ wd x j ≤ 12) :
    Calls Try.prog 17 #[.agg #[.int .i64 (x 0), .int .i64 (x 1), .int .i64 (x 2), .int .i64 (x 3), .int .i64 (x 4), .int .i64 (x 5)]] W fun e W' => e = .returned (.int .i64 (tm x 6 : Int)) ∧ Below W.heap.size W W' := by
  have hs := Six.new W 32 x
  obtain ⟨c0, c1, c2, c3, c4, c5⟩ := hs.all
  have e0 := (hx 0 (by decide)).1
  have e1 := (hx 1 (by decide)).1
  have e2 := (hx 2 (by decide)).1
  have e3 := (hx 3 (by decide)).1
  have e4 := (hx 4 (by decide)).1
  have e5 := (hx 5 (by decide)).1
  have l0 := (hx 0 (by decide)).2
  have l1 := (hx 1 (by decide)).2
  have l2 := (hx 2 (by decide)).2
  have l3 := (hx 3 (by decide)).2
  have l4 := (hx 4 (by decide)).2
  have l5 := (hx 5 (by decide)).2
  have HT := Lib.hid (show (tm x 6 : Int) = x 0 + x 1 + x 2 + x 3 + x 4 + x 5 by
    have h6 := tm_succ x 5
    have h5 := tm_succ x 4
    have h4 := tm_succ x 3
    have h3 := tm_succ x 2
    have h2 := tm_succ x 1
    have h1 := tm_succ x 0
    have h0 := tm_zero x
    simp only [Nat.reduceAdd] at h6 h5 h4 h3 h2 h1
    omega)
  have b0 : 0 ≤ x 0 ∧ x 0 ≤ 12 := by omega
  have b1 : 0 ≤ x 1 ∧ x 1 ≤ 12 := by omega
  have b2 : 0 ≤ x 2 ∧ x 2 ≤ 12 := by omega
  have b3 : 0 ≤ x 3 ∧ x 3 ≤ 12 := by omega
  have b4 : 0 ≤ x 4 ∧ x 4 ≤ 12 := by omega
  have b5 : 0 ≤ x 5 ∧ x 5 ≤ 12 := by omega
  clear e0 e1 e2 e3 e4 e5 hs hx l0 l1 l2 l3 l4 l5
  generalize x 0 = y0 at *
  generalize x 1 = y1 at *
  generalize x 2 = y2 at *
  generalize x 3 = y3 at *
  generalize x 4 = y4 at *
  generalize x 5 = y5 at *
  go_enter Try.func17, Try.ntmps17
  go_wp2_with fail
  go_ret
  refine ⟨ret_int ?_, (Below.refl _ W).alloc (Nat.le_refl _) _⟩
  rw [HT.out]
/-- A map is being made from dice: the box of the shape, that of the result. -/
structure DM (w : World) (dp : Nat) (a : Option Addr) (cap : Nat) (ts : List Int) (p : Nat) (x : Nat → Int) (W : World) : Prop where
  dice : ∃ k, Dice W dp a cap ts k
  shape : Six W p 32 x
  res : Mp W (p + 1) (fun _ => 0) (.slice none 0 0) 0 0
  gr : w.grownBy W (some dp)
  dlt : dp < p
  lo : w.heap.size ≤ p
  far : ∀ b off, a = some ⟨b, off, none⟩ → 0 < ts.length → b < p
section
variable {w W W' : World} {dp : Nat} {a : Option Addr} {cap : Nat} {ts : List Int} {p : Nat} {x : Nat → Int}
theorem below_grow {dp : Nat} {W W' : World} (hb : Below W.heap.size W W') : W.grownBy W' (some dp) := grown_then (World.grownBy.refl W _) hb
theorem DM.below (h : DM w dp a cap ts p x W) (hb : Below W.heap.size W W') : DM w dp a cap ts p x W' :=
  ⟨h.dice.elim fun k hk => ⟨k, hk.below hb⟩, h.shape.below hb, h.res.below hb, grown_trans h.gr (below_grow hb), h.dlt, h.lo, h.far⟩
theorem DM.alloc (h : DM w dp a cap ts p x W) (o : Obj) : DM w dp a cap ts p x (W.alloc o) := h.below ((Below.refl _ W).alloc (Nat.le_refl _) o)
theorem DM.drewN (h : DM w dp a cap ts p x W) (n : Nat) : DM w dp a cap ts p x (W.drewN n) := h.below (belowN (Below.refl _ W) n)
theorem DM.grown {k : Nat} (h : DM w dp a cap ts p x W) (hd : Dice W' dp a cap ts k) (hg : W.grownBy W' (some dp)) : DM w dp a cap ts p x W' :=
  ⟨⟨k, hd⟩, h.shape.grown hg (by intro e; cases e; have := h.dlt; omega), h.res.diced hg (by have := h.dlt; omega), grown_trans h.gr hg, h.dlt, h.lo, h.far⟩
theorem DM.set (h : DM w dp a cap ts p x W) {q : Addr} (hq : p + 1 < q.block) (u : Value) : DM w dp a cap ts p x (W.setCell q u) := by
  have hb : Below (p + 2) W (W.setCell q u) := (Below.refl _ W).setCell (p := q) hq u
  refine ⟨h.dice.elim fun k hk => ⟨k, hk.belowAt hb (by have := h.dlt; omega) (fun b off e h0 => by have := h.far b off e h0; omega)⟩, h.shape.other (by omega) u, h.res.other (by omega) u, ?_, h.dlt, h.lo, h.far⟩
  exact grown_setCell h.gr u (.inl (by have := h.lo; omega))
theorem DM.rlt (h : DM w dp a cap ts p x W) : p + 1 < W.heap.size := h.res.lt
/-- Next: the map's boxes stay. -/
theorem next_dm (n : Nat) (m : Int) (e : m = (n : Int)) (hn : 0 < n) (hn2 : n ≤ 1000000) (h : DM w dp a cap ts p x W) :
    Calls Try.prog 10 #[.pointer (some ⟨dp, 0, none⟩), .int .i64 m] W fun e W' => ∃ r : Nat, r < n ∧ e = .returned (.int .i64 (r : Int)) ∧ DM w dp a cap ts p x W' ∧ W.grownBy W' (some dp) := by
  subst e
  obtain ⟨k, hk⟩ := h.dice
  refine (next_any W dp a cap ts k n hn hn2 hk).mono ?_
  rintro e W' ⟨r, k', hr, rfl, hd, hg⟩
  exact ⟨r, hr, rfl, h.grown hd hg, hg⟩
theorem ungrown {v v' : World} {o : Obj} {dp : Nat} (h : (v.alloc o).grownBy v' (some dp)) : v.grownBy v' (some dp) :=
  grown_trans (grown_alloc (World.grownBy.refl v (some dp)) o) h
end
/-- The map that Map makes. -/
structure MM (W : World) (p g : Nat) (x : Nat → Int) (a : Option Addr) (n c : Nat) (ys : List V) (lo hi : Int) : Prop where
  box : Mp W g x (.slice a n c) lo hi
  own : G.Own W (p + 2) (.slice a n c) ys
  ne : (Value.slice a n c).ownBlock ≠ some g
  lt : p + 1 < g
section
variable {W W' : World} {p g n c : Nat} {x : Nat → Int} {a : Option Addr} {ys : List V} {lo hi : Int}
theorem MM.below (h : MM W p g x a n c ys lo hi) (hb : Below W.heap.size W W') : MM W' p g x a n c ys lo hi := ⟨h.box.below hb, h.own.below hb, h.ne, h.lt⟩
theorem MM.alloc (h : MM W p g x a n c ys lo hi) (o : Obj) : MM (W.alloc o) p g x a n c ys lo hi := h.below ((Below.refl _ W).alloc (Nat.le_refl _) o)
theorem MM.grown {dp : Nat} (h : MM W p g x a n c ys lo hi) (hg : W.grownBy W' (some dp)) (hd : dp < p) : MM W' p g x a n c ys lo hi :=
  ⟨h.box.diced hg (by have := h.lt; omega), h.own.far hg (by omega), h.ne, h.lt⟩
theorem MM.setLo (h : MM W p g x a n c ys lo hi) (u : Int) : MM (W.setCell ⟨g, 7, none⟩ (.int .i64 u)) p g x a n c ys u hi := ⟨h.box.setLo u, h.own.other (p := ⟨g, 7, none⟩) _ h.ne, h.ne, h.lt⟩
theorem MM.setHi (h : MM W p g x a n c ys lo hi) (u : Int) : MM (W.setCell ⟨g, 8, none⟩ (.int .i64 u)) p g x a n c ys lo u := ⟨h.box.setHi u, h.own.other (p := ⟨g, 8, none⟩) _ h.ne, h.ne, h.lt⟩
theorem mm_new (x : Nat → Int) (lo hi : Int) (hO : G.Own W (p + 2) (.slice a n c) ys) (hp : p + 1 < W.heap.size) : MM (W.alloc (.cells #[.int .i64 (x 0), .int .i64 (x 1), .int .i64 (x 2), .int .i64 (x 3), .int .i64 (x 4), .int .i64 (x 5), .slice a n c, .int .i64 lo, .int .i64 hi] 34)) p W.heap.size x a n c ys lo hi :=
  ⟨Mp.new W x _ lo hi, hO.alloc _, fun e => absurd (World.ownsRow.lt hO _ e).2 (Nat.lt_irrefl _), hp⟩
end
/-- A box of zeros that the slice does not lie in. -/
structure Aln (p : Nat) (v : Value) (g : Nat) (W : World) : Prop where
  box : Mp W g (fun _ => 0) (.slice none 0 0) 0 0
  ne : v.ownBlock ≠ some g
  lt : p + 1 < g
theorem Aln.old {v W : World} {p g dp : Nat} {u : Value} {zs : List V} (hm : Mp v g (fun _ => 0) (.slice none 0 0) 0 0) (hg : v.grownBy W (some dp)) (hO : G.Own W v.heap.size u zs) (hp : p + 1 < g) (hd : dp < p) : Aln p u g W :=
  ⟨hm.diced hg (by omega), G.own_ne hO hm.lt, hp⟩
theorem Aln.at {v W : World} {p dp : Nat} {u : Value} {zs : List V} (hg : (v.alloc (.cells #[.int .i64 0, .int .i64 0, .int .i64 0, .int .i64 0, .int .i64 0, .int .i64 0, .slice none 0 0, .int .i64 0, .int .i64 0] 34)).grownBy W (some dp)) (hO : G.Own W (v.alloc (.cells #[.int .i64 0, .int .i64 0, .int .i64 0, .int .i64 0, .int .i64 0, .int .i64 0, .slice none 0 0, .int .i64 0, .int .i64 0] 34)).heap.size u zs) (hp : p + 1 < v.heap.size) (hd : dp < p) : Aln p u v.heap.size W :=
  ⟨(Mp.zero v).diced hg (by omega), G.own_ne hO (by simp), hp⟩
theorem DM.put9 {w W : World} {dp : Nat} {a : Option Addr} {cap : Nat} {ts : List Int} {p g : Nat} {x : Nat → Int} (h : DM w dp a cap ts p x W) (hg : p + 1 < g) (y : Nat → Int) (s : Value) (lo hi : Int) : DM w dp a cap ts p x (put9 W g y s lo hi) :=
  ((((((((h.set (q := ⟨g, 0, none⟩) hg _).set (q := ⟨g, 1, none⟩) hg _).set (q := ⟨g, 2, none⟩) hg _).set (q := ⟨g, 3, none⟩) hg _).set (q := ⟨g, 4, none⟩) hg _).set (q := ⟨g, 5, none⟩) hg _).set (q := ⟨g, 6, none⟩) hg _).set (q := ⟨g, 7, none⟩) hg _).set (q := ⟨g, 8, none⟩) hg _
theorem mm_old {w W : World} {dp : Nat} {a : Option Addr} {cap : Nat} {ts : List Int} {p g n c : Nat} {x : Nat → Int} {a' : Option Addr} {ys : List V} (h : DM w dp a cap ts p x W) (hO : G.Own W (p + 2) (.slice a' n c) ys) (hA : Aln p (.slice a' n c) g W) :
    DM w dp a cap ts p x (((((((((W.setCell ⟨g, 0, none⟩ (.int .i64 (x 0))).setCell ⟨g, 1, none⟩ (.int .i64 (x 1))).setCell ⟨g, 2, none⟩ (.int .i64 (x 2))).setCell ⟨g, 3, none⟩ (.int .i64 (x 3))).setCell ⟨g, 4, none⟩ (.int .i64 (x 4))).setCell ⟨g, 5, none⟩ (.int .i64 (x 5))).setCell ⟨g, 6, none⟩ (.slice a' n c)).setCell ⟨g, 7, none⟩ (.int .i64 0)).setCell ⟨g, 8, none⟩ (.int .i64 0)) ∧
    MM (((((((((W.setCell ⟨g, 0, none⟩ (.int .i64 (x 0))).setCell ⟨g, 1, none⟩ (.int .i64 (x 1))).setCell ⟨g, 2, none⟩ (.int .i64 (x 2))).setCell ⟨g, 3, none⟩ (.int .i64 (x 3))).setCell ⟨g, 4, none⟩ (.int .i64 (x 4))).setCell ⟨g, 5, none⟩ (.int .i64 (x 5))).setCell ⟨g, 6, none⟩ (.slice a' n c)).setCell ⟨g, 7, none⟩ (.int .i64 0)).setCell ⟨g, 8, none⟩ (.int .i64 0)) p g x a' n c ys 0 0 :=
  ⟨h.put9 hA.lt x _ 0 0, put9_map hA.box x _ 0 0, put9_own hO hA.ne x _ 0 0, hA.ne, hA.lt⟩
theorem cell5 (W : World) (v0 v1 v2 v3 v4 : Int) (t : TypeId) (r : Nat) (hr : r < 5) :
    (W.alloc (.cells #[.int .i64 v0, .int .i64 v1, .int .i64 v2, .int .i64 v3, .int .i64 v4] t)).cell? ⟨W.heap.size, r, none⟩ = some (.int .i64 (IN.el [v0, v1, v2, v3, v4] r)) := by
  have h := Box.new W t [.int .i64 v0, .int .i64 v1, .int .i64 v2, .int .i64 v3, .int .i64 v4]
  obtain rfl | rfl | rfl | rfl | rfl : r = 0 ∨ r = 1 ∨ r = 2 ∨ r = 3 ∨ r = 4 := by omega
  · exact h.cell 0 rfl
  · exact h.cell 1 rfl
  · exact h.cell 2 rfl
  · exact h.cell 3 rfl
  · exact h.cell 4 rfl
/-- What is added to Low. -/
theorem pick5 {sz lo r1 r2 r : Nat} (hsz : sz ≤ 4096) (hlo : lo ≤ sz) (h1 : r1 < 100) (h2 : r2 < 524288) (hr : r < 5) :
    0 ≤ IN.el [0, 1, (r1 : Int), 1048576 - (sz : Int) - (lo : Int), (r2 : Int)] r ∧ IN.el [0, 1, (r1 : Int), 1048576 - (sz : Int) - (lo : Int), (r2 : Int)] r ≤ 1048576 - (sz : Int) := by
  obtain rfl | rfl | rfl | rfl | rfl : r = 0 ∨ r = 1 ∨ r = 2 ∨ r = 3 ∨ r = 4 := by omega
  · show (0 : Int) ≤ 0 ∧ (0 : Int) ≤ _
    omega
  · show (0 : Int) ≤ 1 ∧ (1 : Int) ≤ _
    omega
  · show (0 : Int) ≤ (r1 : Int) ∧ (r1 : Int) ≤ _
    omega
  · show (0 : Int) ≤ 1048576 - (sz : Int) - (lo : Int) ∧ 1048576 - (sz : Int) - (lo : Int) ≤ _
    omega
  · show (0 : Int) ≤ (r2 : Int) ∧ (r2 : Int) ≤ _
    omega
theorem hi_of {sz lo : Nat} {z : Int} (hsz : sz ≤ 4096) (hlo : lo ≤ sz) (h : 0 ≤ z ∧ z ≤ 1048576 - (sz : Int)) : ∃ hN : Nat, IntKind.i64.wrap ((lo : Int) + z) = (hN : Int) ∧ lo ≤ hN ∧ hN + sz ≤ lo + 1048576 :=
  ⟨lo + z.toNat, by rw [IntKind.wrap_i64]; omega, by omega, by omega⟩
/-- What Map leaves. -/
def MapPost (w : World) (dp : Nat) (a : Option Addr) (cap : Nat) (ts : List Int) (x : Nat → Int) (e : Ending) (W : World) : Prop :=
  ∃ (ys : List V) (a' : Option Addr) (c' k' lo hi : Nat), e = .returned (.agg #[.int .i64 (x 0), .int .i64 (x 1), .int .i64 (x 2), .int .i64 (x 3), .int .i64 (x 4), .int .i64 (x 5), .slice a' (tm x 6) c', .int .i64 (lo : Int), .int .i64 (hi : Int)]) ∧ ys.length = tm x 6 ∧ G.Own W w.heap.size (.slice a' (tm x 6) c') ys ∧ lo ≤ pw (tm x 6) ∧ lo ≤ hi ∧ hi + pw (tm x 6) ≤ lo + 1048576 ∧ Dice W dp a cap ts k' ∧ w.grownBy W (some dp)
set_option maxRecDepth 100000 in
set_option maxHeartbeats 4000000 in
theorem map_any (w : World) (dp : Nat) (a : Option Addr) (cap : Nat) (ts : List Int) (k : Nat) (x : Nat → Int) (hok : okB x = true) (hD : Dice w dp a cap ts k) :
    Calls Try.prog 8 #[.pointer (some ⟨dp, 0, none⟩), .agg #[.int .i64 (x 0), .int .i64 (x 1), .int .i64 (x 2), .int .i64 (x 3), .int .i64 (x 4), .int .i64 (x 5)]] w (MapPost w dp a cap ts x) := by
  obtain ⟨hx, ht⟩ := ok_yes hok
  have hs1 := (Six.new w 32 x).alloc (.cells #[.int .i64 0, .int .i64 0, .int .i64 0, .int .i64 0, .int .i64 0, .int .i64 0, .slice none 0 0, .int .i64 0, .int .i64 0] 34)
  have hz1 := Mp.zero (w.alloc (.cells #[.int .i64 (x 0), .int .i64 (x 1), .int .i64 (x 2), .int .i64 (x 3), .int .i64 (x 4), .int .i64 (x 5)] 32))
  have hd1 := (hD.alloc (.cells #[.int .i64 (x 0), .int .i64 (x 1), .int .i64 (x 2), .int .i64 (x 3), .int .i64 (x 4), .int .i64 (x 5)] 32)).alloc (.cells #[.int .i64 0, .int .i64 0, .int .i64 0, .int .i64 0, .int .i64 0, .int .i64 0, .slice none 0 0, .int .i64 0, .int .i64 0] 34)
  have hg1 := grown_alloc (grown_alloc (World.grownBy.refl w (some dp)) (.cells #[.int .i64 (x 0), .int .i64 (x 1), .int .i64 (x 2), .int .i64 (x 3), .int .i64 (x 4), .int .i64 (x 5)] 32)) (.cells #[.int .i64 0, .int .i64 0, .int .i64 0, .int .i64 0, .int .i64 0, .int .i64 0, .slice none 0 0, .int .i64 0, .int .i64 0] 34)
  rw [World.size_alloc] at hz1
  obtain ⟨w1, hw1⟩ : ∃ w1, (w.alloc (.cells #[.int .i64 (x 0), .int .i64 (x 1), .int .i64 (x 2), .int .i64 (x 3), .int .i64 (x 4), .int .i64 (x 5)] 32)).alloc (.cells #[.int .i64 0, .int .i64 0, .int .i64 0, .int .i64 0, .int .i64 0, .int .i64 0, .slice none 0 0, .int .i64 0, .int .i64 0] 34) = w1 := ⟨_, rfl⟩
  rw [hw1] at hs1 hz1 hd1 hg1
  obtain ⟨p, hp⟩ : ∃ p, w.heap.size = p := ⟨_, rfl⟩
  have hdl := hD.lt
  have hfar := hD.far
  rw [hp] at hs1 hz1 hdl hfar
  have HM1 := Lib.hid (show DM w dp a cap ts p x w1 from ⟨⟨k, hd1⟩, hs1, hz1, hg1, hdl, Nat.le_of_eq hp, hfar⟩)
  obtain ⟨c0, c1, c2, c3, c4, c5⟩ := hs1.all
  obtain ⟨t, hT⟩ : ∃ t, tm x 6 = t := ⟨_, rfl⟩
  have hB := fun W => mbits_any x W hx
  rw [hT] at hB ht
  have HB := Lib.hid hB
  have HT := Lib.hid hT
  have HP := Lib.hid hp
  have hsh := P.shl_one ht
  have hsz := pw_12 ht
  have hsz0 := pw_pos t
  obtain ⟨sz, hS⟩ : ∃ sz, pw t = sz := ⟨_, rfl⟩
  rw [hS] at hsh hsz hsz0
  have HS := Lib.hid hS
  clear hs1 hz1 hd1 hg1 hD hok hx hB hT hS hfar hdl
  go_enter Try.func8, Try.ntmps8
  go_wp2_with fail
  refine (HB.out _).mono ?_
  rintro e w2 ⟨rfl, hb2⟩
  have HM2 := Lib.hid (HM1.out.below hb2)
  have hwt : IntKind.u64.wrap (t : Int) = (t : Int) := by rw [IntKind.wrap_u64]; omega
  clear c0 c1 c2 c3 c4 c5 hb2 HM1 hw1
  have hsA : w2.drew.cell? ⟨p, 0, none⟩ = some (.int .i64 (x 0)) ∧ w2.drew.cell? ⟨p, 1, none⟩ = some (.int .i64 (x 1)) ∧ w2.drew.cell? ⟨p, 2, none⟩ = some (.int .i64 (x 2)) ∧ w2.drew.cell? ⟨p, 3, none⟩ = some (.int .i64 (x 3)) ∧ w2.drew.cell? ⟨p, 4, none⟩ = some (.int .i64 (x 4)) ∧ w2.drew.cell? ⟨p, 5, none⟩ = some (.int .i64 (x 5)) := HM2.out.shape.all
  have hsB := (show Six (w2.alloc (.cells #[.int .i64 0, .int .i64 0, .int .i64 0, .int .i64 0, .int .i64 0, .int .i64 0, .slice none 0 0, .int .i64 0, .int .i64 0] 34)).drew p 32 x from (HM2.out.shape.alloc (.cells #[.int .i64 0, .int .i64 0, .int .i64 0, .int .i64 0, .int .i64 0, .int .i64 0, .slice none 0 0, .int .i64 0, .int .i64 0] 34)).drewN 1).all
  have hdl : dp < p := HM2.out.dlt
  have HM2' := Lib.hid (show DM w dp a cap ts p x w2.drew from HM2.out.drewN 1)
  clear HM2
  have HM2 := HM2'
  clear HM2'
  go_upto_region 2 with fail
  go_cut [6] (fun s6 wx => ∃ (g : Nat) (a' : Option Addr) (c' : Nat) (ys : List V), s6 = .pointer (some ⟨g, 0, none⟩) ∧ ys.length = t ∧ DM w dp a cap ts p x wx ∧ MM wx p g x a' t c' ys 0 0)
  case first =>
    go_region_held (fun W' => W'.cell? ⟨p, 0, none⟩ = some (.int .i64 (x 0)) ∧ W'.cell? ⟨p, 1, none⟩ = some (.int .i64 (x 1)) ∧ W'.cell? ⟨p, 2, none⟩ = some (.int .i64 (x 2)) ∧ W'.cell? ⟨p, 3, none⟩ = some (.int .i64 (x 3)) ∧ W'.cell? ⟨p, 4, none⟩ = some (.int .i64 (x 4)) ∧ W'.cell? ⟨p, 5, none⟩ = some (.int .i64 (x 5))) (first | with_reducible exact hs4 | with_reducible exact (mm_old HM4.out HO4.out hA2).1.shape.all | with_reducible exact hs3 | with_reducible exact hsA | with_reducible exact hsB | (go_keep; done)) (first
      | ((try go_simp); go_at_call 17; (with_reducible refine (HB.out _).mono ?_); go_must (rintro e v1 ⟨rfl, hb1⟩; have hv1 : Below w2.drew.heap.size w2.drew v1 := (by first | exact hb1 | exact unal9 (W := w2.drew) hb1); (try (have hA1 := (show Mp v1 w2.heap.size (fun _ => 0) (.slice none 0 0) 0 0 from (Mp.zero w2.drew).below hb1))); have HM3 := Lib.hid (HM2.out.below hv1); have hs3 := HM3.out.shape.all; clear hv1))
      | ((try go_simp); go_at_call 18; (first | ((with_reducible refine (HM3.out.dice.elim fun k hk => masks_any v1 dp a cap ts k t (by omega) hk).mono ?_); go_must (rintro e v2 ⟨ys, a2, k2, k3, rfl, hyl, ho2, hd2, hg2⟩; have hv2 : v1.grownBy v2 (some dp) := hg2; (try (have hA2 := (show Aln p (.slice a2 t k2) w2.heap.size v2 from Aln.old hA1 hg2 ho2 HM2.out.rlt hdl); clear hA1)); have HM4 := Lib.hid (HM3.out.grown hd2 hv2); have HO4 := Lib.hid (show G.Own v2 (p + 2) (.slice a2 t k2) ys from ho2.mono HM3.out.rlt); (try (obtain ⟨f0, f1, f2, f3, f4, f5, f6, f7, f8⟩ := hA2.box.frees; obtain ⟨d0, d1, d2, d3, d4, d5, d6, d7, d8⟩ := hA2.box.all)); have hs4 := HM4.out.shape.all; clear hv2 hd2 hg2 ho2)) | ((with_reducible refine (HM3.out.dice.elim fun k hk => masks_any (v1.alloc (.cells #[.int .i64 0, .int .i64 0, .int .i64 0, .int .i64 0, .int .i64 0, .int .i64 0, .slice none 0 0, .int .i64 0, .int .i64 0] 34)) dp a cap ts k t (by omega) (hk.alloc _)).mono ?_); go_must (rintro e v2 ⟨ys, a2, k2, k3, rfl, hyl, ho2, hd2, hg2⟩; have hv2 : v1.grownBy v2 (some dp) := ungrown hg2; have hA2 := (show Aln p (.slice a2 t k2) v1.heap.size v2 from Aln.at hg2 ho2 HM3.out.rlt hdl); have HM4 := Lib.hid (HM3.out.grown hd2 hv2); have HO4 := Lib.hid (show G.Own v2 (p + 2) (.slice a2 t k2) ys from ho2.mono (Nat.le_trans HM3.out.rlt (by simp))); (try (obtain ⟨f0, f1, f2, f3, f4, f5, f6, f7, f8⟩ := hA2.box.frees; obtain ⟨d0, d1, d2, d3, d4, d5, d6, d7, d8⟩ := hA2.box.all)); have hs4 := HM4.out.shape.all; clear hv2 hd2 hg2 ho2)))))
    all_goals (
      go_wp2_with fail
      go_meet
      first
        | with_reducible exact ⟨_, _, _, _, rfl, hyl, HM4.out.alloc _, mm_new x 0 0 HO4.out HM4.out.rlt⟩
        | with_reducible exact ⟨_, _, _, _, rfl, hyl, mm_old HM4.out HO4.out hA2⟩)
  case rest =>
    clear hsA hsB HM2 HB hsh hwt
    obtain ⟨g, a', c', ys, rfl, hyl, hdm, hmm⟩ := hcut
    have HYL := Lib.hid hyl
    have HN := Lib.hid (next_dm (sz + 1) ((sz : Int) + 1) (by omega) (by omega) (by omega) hdm)
    have HM3 := Lib.hid hmm
    have hgl := hmm.lt
    clear hyl hdm hmm
    go_wp2_with fail
    refine HN.out.mono ?_
    rintro e w4 ⟨lo, hlo, rfl, hd4, hg4⟩
    have hm4 := HM3.out.grown hg4 hdl
    have hc7 := hm4.box.c7
    have hf7 := hm4.box.free 7
    obtain ⟨w5, hw5⟩ : ∃ w5, w4.setCell ⟨g, 7, none⟩ (.int .i64 (lo : Int)) = w5 := ⟨_, rfl⟩
    have hd5 : DM w dp a cap ts p x w5 := by rw [← hw5]; exact hd4.set (q := ⟨g, 7, none⟩) hgl _
    have hm5 : MM w5 p g x a' t c' ys (lo : Int) 0 := by rw [← hw5]; exact hm4.setLo _
    have HDu1 := Lib.hid (show DM w dp a cap ts p x w5.drew from hd5.drewN 1)
    have HMu1 := Lib.hid (show MM w5.drew p g x a' t c' ys (lo : Int) 0 from hm5.below (belowN (Below.refl _ w5) 1))
    have hcu1 : w5.drew.cell? ⟨g, 7, none⟩ = some (.int .i64 (lo : Int)) := HMu1.out.box.c7
    have hw6 : IntKind.i64.wrap (1048576 - (sz : Int)) = 1048576 - (sz : Int) := by rw [IntKind.wrap_i64]; omega
    have hw7 : IntKind.i64.wrap (1048576 - (sz : Int) - (lo : Int)) = 1048576 - (sz : Int) - (lo : Int) := by rw [IntKind.wrap_i64]; omega
    clear hd4 hg4 hm4 hd5 hm5 HN HM3
    go_upto_region 4 with fail
    go_cut [] (fun wx => ∃ hi : Nat, lo ≤ hi ∧ hi + sz ≤ lo + 1048576 ∧ DM w dp a cap ts p x wx ∧ MM wx p g x a' t c' ys (lo : Int) (hi : Int))
    case first =>
      clear hc7 hf7 hw5
      go_region_with (first
        | ((try go_simp); go_at_call 10; (with_reducible refine (next_dm 100 100 rfl (by decide) (by decide) HDu1.out).mono ?_); go_must (rintro e u2 ⟨ru2, hru2, rfl, hdu2, hgu2⟩; have HDu2 := Lib.hid hdu2; have HMu2 := Lib.hid (HMu1.out.grown hgu2 hdl); have hcu2 := HMu2.out.box.c7; clear hdu2 hgu2))
        | ((try go_simp); go_at_call 10; (with_reducible refine (next_dm 524288 524288 rfl (by decide) (by decide) HDu2.out).mono ?_); go_must (rintro e u3 ⟨ru3, hru3, rfl, hdu3, hgu3⟩; have HDu3 := Lib.hid hdu3; have HMu3 := Lib.hid (HMu2.out.grown hgu3 hdl); have hcu3 := HMu3.out.box.c7; have hmb3 := HMu3.out.alloc (.cells #[.int .i64 0, .int .i64 1, .int .i64 (ru2 : Int), .int .i64 (1048576 - (sz : Int) - (lo : Int)), .int .i64 (ru3 : Int)] 3); have hcu3a := hmb3.box.c7; clear hmb3; clear hdu3 hgu3))
        | ((try go_simp); go_at_call 10; (with_reducible refine (next_dm 5 5 rfl (by decide) (by decide) HDu3.out).mono ?_); go_must (rintro e u4 ⟨r, hr, rfl, hdu4, hgu4⟩; have HDu4 := Lib.hid hdu4; have HMu4 := Lib.hid (HMu3.out.grown hgu4 hdl); have hcu4 := HMu4.out.box.c7; have hcl := cell5 u4 0 1 (ru2 : Int) (1048576 - (sz : Int) - (lo : Int)) (ru3 : Int) 3 r hr; have hpk := pick5 (lo := lo) (r := r) hsz (by omega) hru2 hru3 hr; obtain ⟨z, hz⟩ : ∃ z, IN.el [0, 1, (ru2 : Int), 1048576 - (sz : Int) - (lo : Int), (ru3 : Int)] r = z := ⟨_, rfl⟩; rw [hz] at hcl hpk; have hri : (r : Int) < 5 := (by omega); obtain ⟨hN, hwz, hh1, hh2⟩ := hi_of (lo := lo) hsz (show lo ≤ sz by omega) hpk; have hma := HMu4.out.alloc (.cells #[.int .i64 0, .int .i64 1, .int .i64 (ru2 : Int), .int .i64 (1048576 - (sz : Int) - (lo : Int)), .int .i64 (ru3 : Int)] 3); have hf8' := hma.box.free 8; have hc8' := hma.box.c8; have hcu4' := hma.box.c7; clear hma; have hf8 := HMu4.out.box.free 8; have hc8 := HMu4.out.box.c8; clear hz hdu4 hgu4))
        | ((try go_simp); go_at_call 10; (with_reducible refine (next_dm 5 5 rfl (by decide) (by decide) (HDu3.out.alloc (.cells #[.int .i64 0, .int .i64 1, .int .i64 (ru2 : Int), .int .i64 (1048576 - (sz : Int) - (lo : Int)), .int .i64 (ru3 : Int)] 3))).mono ?_); go_must (rintro e u4 ⟨r, hr, rfl, hdu4, hgu4⟩; have HDu4 := Lib.hid hdu4; have HMu4 := Lib.hid ((HMu3.out.alloc (.cells #[.int .i64 0, .int .i64 1, .int .i64 (ru2 : Int), .int .i64 (1048576 - (sz : Int) - (lo : Int)), .int .i64 (ru3 : Int)] 3)).grown hgu4 hdl); have hcu4 := HMu4.out.box.c7; have hcl := cell_grown hgu4 (show u3.heap.size ≠ dp by have := HDu3.out.rlt; omega) (cell5 u3 0 1 (ru2 : Int) (1048576 - (sz : Int) - (lo : Int)) (ru3 : Int) 3 r hr); have hpk := pick5 (lo := lo) (r := r) hsz (by omega) hru2 hru3 hr; obtain ⟨z, hz⟩ : ∃ z, IN.el [0, 1, (ru2 : Int), 1048576 - (sz : Int) - (lo : Int), (ru3 : Int)] r = z := ⟨_, rfl⟩; rw [hz] at hcl hpk; have hri : (r : Int) < 5 := (by omega); obtain ⟨hN, hwz, hh1, hh2⟩ := hi_of (lo := lo) hsz (show lo ≤ sz by omega) hpk; have hf8 := HMu4.out.box.free 8; have hc8 := HMu4.out.box.c8; clear hz hdu4 hgu4)))
      all_goals (
        go_wp2_with fail
        go_meet
        first
          | with_reducible exact ⟨hN, hh1, hh2, HDu4.out.set (q := ⟨g, 8, none⟩) hgl _, HMu4.out.setHi _⟩
          | with_reducible exact ⟨hN, hh1, hh2, (HDu4.out.alloc _).set (q := ⟨g, 8, none⟩) hgl _, (HMu4.out.alloc _).setHi _⟩)
    case rest =>
      obtain ⟨hi, hh1, hh2, hd, hm⟩ := hcut
      obtain ⟨c0, c1, c2, c3, c4, c5, c6, c7, c8⟩ := hm.box.all
      obtain ⟨d0, d1, d2, d3, d4, d5, d6, d7, d8⟩ := hd.res.all
      obtain ⟨f0, f1, f2, f3, f4, f5, f6, f7, f8⟩ := hd.res.frees
      have hq9 := put9_map hd.res x (.slice a' t c') (lo : Int) (hi : Int)
      obtain ⟨k0, k1, k2, k3, k4, k5, k6, k7, k8⟩ := hq9.all
      have hfb : Below (p + 1) wc (put9 wc (p + 1) x (.slice a' t c') (lo : Int) (hi : Int)) := put9_below (Below.refl _ wc) (Nat.le_refl _) x _ _ _
      have hown := (put9_own hm.own (G.own_ne hm.own (Nat.lt_succ_self (p + 1))) x (.slice a' t c') (lo : Int) (hi : Int)).mono (show w.heap.size ≤ p + 2 by have := HP.out; omega)
      have hdice := hd.dice.elim fun kk hk => (⟨kk, hk.belowAt hfb (by omega) (fun b off e h0 => by have := hd.far b off e h0; omega)⟩ : ∃ kk, Dice (put9 wc (p + 1) x (.slice a' t c') (lo : Int) (hi : Int)) dp a cap ts kk)
      have hgr : w.grownBy (put9 wc (p + 1) x (.slice a' t c') (lo : Int) (hi : Int)) (some dp) := grown_then hd.gr (hfb.mono (by have := HP.out; omega))
      obtain ⟨kk, hdk⟩ := hdice
      unfold put9 at k0 k1 k2 k3 k4 k5 k6 k7 k8 hown hdk hgr
      have HO := Lib.hid hown
      have HDK := Lib.hid hdk
      have HGR := Lib.hid hgr
      clear hown hdk hgr hfb hq9 hd hm hw5
      go_wp2_with fail
      exact bodyPost_ret (v := .agg #[.int .i64 (x 0), .int .i64 (x 1), .int .i64 (x 2), .int .i64 (x 3), .int .i64 (x 4), .int .i64 (x 5), .slice a' t c', .int .i64 (lo : Int), .int .i64 (hi : Int)]) (by simp [results, Try.results8, go_sem, k0, k1, k2, k3, k4, k5, k6, k7, k8]) rfl ⟨ys, a', c', kk, lo, hi, by rw [HT.out], by rw [HT.out]; exact HYL.out, by rw [HT.out]; exact HO.out, by rw [HT.out, HS.out]; omega, hh1, by rw [HT.out, HS.out]; exact hh2, HDK.out, HGR.out⟩
end Go.Proofs.Ytfleehlajngkbaa.RG
