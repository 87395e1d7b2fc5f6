/- law10.HashRaw. -/
import Derived.Test.YtodiokladojnjaaHsA
import Derived.Test.YtodiokladojnjaaHsS2
import Derived.Test.YtodiokladojnjaaHsP
import Derived.Deep.RegionHeld3
import Derived.Deep.DeepMust
namespace Go.Proofs.Ytodiokladojnjaa.B
open Go Go.RowKit Go.Shelf

theorem quad_box (w : World) (m n o q : Value) (t : TypeId) : (w.alloc (.cells #[m, n, o, q] t)).cell? ⟨w.heap.size, 0, none⟩ = some m ∧ (w.alloc (.cells #[m, n, o, q] t)).cell? ⟨w.heap.size, 1, none⟩ = some n ∧ (w.alloc (.cells #[m, n, o, q] t)).cell? ⟨w.heap.size, 2, none⟩ = some o ∧ (w.alloc (.cells #[m, n, o, q] t)).cell? ⟨w.heap.size, 3, none⟩ = some q := by
  have hb : (w.alloc (.cells #[m, n, o, q] t)).heap[w.heap.size]? = some (.cells #[m, n, o, q] t) := Array.getElem?_push_size
  exact ⟨by rw [cell_of_row _ _ _ _ _ _ hb]; rfl, by rw [cell_of_row _ _ _ _ _ _ hb]; rfl, by rw [cell_of_row _ _ _ _ _ _ hb]; rfl, by rw [cell_of_row _ _ _ _ _ _ hb]; rfl⟩
/-- The box of four numbers. -/
structure Bx4 (W : World) (p : Nat) (m n o q : Int) : Prop where
  c0 : W.cell? ⟨p, 0, none⟩ = some (.int .i64 m)
  c1 : W.cell? ⟨p, 1, none⟩ = some (.int .i64 n)
  c2 : W.cell? ⟨p, 2, none⟩ = some (.int .i64 o)
  c3 : W.cell? ⟨p, 3, none⟩ = some (.int .i64 q)
theorem Bx4.new (w : World) (m n o q : Int) (t : TypeId) : Bx4 (w.alloc (.cells #[.int .i64 m, .int .i64 n, .int .i64 o, .int .i64 q] t)) w.heap.size m n o q := by
  obtain ⟨a, b, c, d⟩ := quad_box w (.int .i64 m) (.int .i64 n) (.int .i64 o) (.int .i64 q) t; exact ⟨a, b, c, d⟩
theorem Bx4.below {W W' : World} {p : Nat} {m n o q : Int} (h : Bx4 W p m n o q) (hb : Below W.heap.size W W') : Bx4 W' p m n o q :=
  ⟨cell_below hb h.c0, cell_below hb h.c1, cell_below hb h.c2, cell_below hb h.c3⟩
/-- A number of type int as a uint64. -/
theorem u64_of (x : Int) : ∃ v : V, IntKind.u64.wrap x = (v.toNat : Int) := by
  have h1 : 0 ≤ x % 18446744073709551616 := Int.emod_nonneg _ (by decide)
  have h2 : x % 18446744073709551616 < 18446744073709551616 := Int.emod_lt_of_pos _ (by decide)
  refine ⟨BitVec.ofNat 64 (x % 18446744073709551616).toNat, ?_⟩
  rw [BitVec.toNat_ofNat, Nat.mod_eq_of_lt (by omega), Int.toNat_of_nonneg h1]
  rfl
/-- What the last region meets. -/
structure RawQ (w W : World) (a : Option Addr) (ca : Nat) (A : List V) (x : Value) (X : List V) (y : Value) (p : Value) (P : List V) (q : Value) (u : Value) (U : List Nat) (v : Value) (qv : Int) : Prop where
  ra : Row W a A ca
  rx : SlR W x X
  ry : SlR W y X
  rp : SlR W p P
  rq : SlR W q P
  ru : SlM W u U
  rv : SlM W v U
  bel : Below w.heap.size w W
  cq : W.cell? ⟨w.heap.size, 3, none⟩ = some (.int .i64 qv)
theorem RawQ.below {w W W' : World} {a : Option Addr} {ca : Nat} {A X P : List V} {U : List Nat} {x y p q u v : Value} {qv : Int} (h : RawQ w W a ca A x X y p P q u U v qv) (hb : Below W.heap.size W W') : RawQ w W' a ca A x X y p P q u U v qv :=
  ⟨h.ra.below hb, h.rx.below hb, h.ry.below hb, h.rp.below hb, h.rq.below hb, h.ru.below hb, h.rv.below hb, h.bel.trans (hb.mono h.bel.size), cell_below hb h.cq⟩
theorem sameList_sl {x y : Value} {X : List V} {w : World} (hx : SlR w x X) (hy : SlR w y X) :
    Calls Try.prog 19 #[x, y] w fun e W => e = .returned (.bool true) ∧ Below w.heap.size w W := by
  obtain ⟨a, c, rfl, ha⟩ := hx
  obtain ⟨b, d, rfl, hb⟩ := hy
  exact sameList_yes a b c d X X w ha hb rfl
theorem sameInts_sl {x y : Value} {X : List Nat} {w : World} (hx : SlM w x X) (hy : SlM w y X) :
    Calls Try.prog 20 #[x, y] w fun e W => e = .returned (.bool true) ∧ Below w.heap.size w W := by
  obtain ⟨a, c, rfl, ha⟩ := hx
  obtain ⟨b, d, rfl, hb⟩ := hy
  exact sameInts_yes a b c d X X w ha hb rfl

set_option maxRecDepth 100000 in
set_option maxHeartbeats 40000000 in
theorem hashRaw_any (a b : Option Addr) (ca cb : Nat) (A T : List V) (m n o q : Int) (w : World) (hA : Row w a A ca) (hT : Row w b T cb) :
    Calls Try.prog 3 #[.slice a A.length ca, .slice b T.length cb, .agg #[.int .i64 m, .int .i64 n, .int .i64 o, .int .i64 q]] w fun e W => e = .returned (.bool true) ∧ Below w.heap.size w W := by
  have hroomA := hA.room
  have hmostA := hA.most
  have hroomT := hT.room
  have hmostT := hT.most
  have hbx := Bx4.new w m n o q 23
  have hA1 := hA.alloc (.cells #[.int .i64 m, .int .i64 n, .int .i64 o, .int .i64 q] 23)
  have hT1 := hT.alloc (.cells #[.int .i64 m, .int .i64 n, .int .i64 o, .int .i64 q] 23)
  have hB1 := (Below.refl _ w).alloc (Nat.le_refl _) (.cells #[.int .i64 m, .int .i64 n, .int .i64 o, .int .i64 q] 23)
  obtain ⟨w1, hw1⟩ : ∃ w1, w.alloc (.cells #[.int .i64 m, .int .i64 n, .int .i64 o, .int .i64 q] 23) = w1 := ⟨_, rfl⟩
  rw [hw1] at hbx hA1 hT1 hB1
  have HX1 := Lib.hid hbx
  have RA1 := Lib.hid hA1
  have RT1 := Lib.hid hT1
  have HB1 := Lib.hid hB1
  clear hbx hA1 hT1 hB1 hA hT
  have HAW := Lib.hid (hawake_yes w1)
  by_cases hla : A.length ≤ 70
  · by_cases hlt : T.length ≤ 70
    · go_enter Try.func3, Try.ntmps3
      have HC := Lib.hid (hinverse_any a ca A w1 RA1.out)
      go_wp2_with fail
      refine HC.out.mono ?_
      rintro e w2 ⟨⟨x, rfl, h⟩, hb⟩
      have HBw2 := Lib.hid (HB1.out.trans (hb.mono HB1.out.size))
      have RAw2 := Lib.hid (RA1.out.below hb)
      have RTw2 := Lib.hid (RT1.out.below hb)
      have HXw2 := Lib.hid (HX1.out.below hb)
      clear RA1 RT1 HX1
      have SXw2 := Lib.hid h
      clear h
      clear hb HC
      have HC := Lib.hid (rhinverse_any a ca A w2 RAw2.out)
      go_wp2_with fail
      refine HC.out.mono ?_
      rintro e w3 ⟨⟨y, rfl, h⟩, hb⟩
      have HBw3 := Lib.hid (HBw2.out.trans (hb.mono HBw2.out.size))
      have RAw3 := Lib.hid (RAw2.out.below hb)
      have RTw3 := Lib.hid (RTw2.out.below hb)
      have HXw3 := Lib.hid (HXw2.out.below hb)
      have SXw3 := Lib.hid (SXw2.out.below hb)
      clear HBw2 RAw2 RTw2 HXw2 SXw2
      have SYw3 := Lib.hid h
      clear h
      clear hb HC
      have HC := Lib.hid (hjoin_any a b ca cb A T w3 RAw3.out RTw3.out)
      go_wp2_with fail
      refine HC.out.mono ?_
      rintro e w4 ⟨⟨p, rfl, h⟩, hb⟩
      have HBw4 := Lib.hid (HBw3.out.trans (hb.mono HBw3.out.size))
      have RAw4 := Lib.hid (RAw3.out.below hb)
      have RTw4 := Lib.hid (RTw3.out.below hb)
      have HXw4 := Lib.hid (HXw3.out.below hb)
      have SXw4 := Lib.hid (SXw3.out.below hb)
      have SYw4 := Lib.hid (SYw3.out.below hb)
      clear HBw3 RAw3 RTw3 HXw3 SXw3 SYw3
      have SPw4 := Lib.hid h
      clear h
      clear hb HC
      have HC := Lib.hid (rhjoin_any a b ca cb A T w4 RAw4.out RTw4.out)
      go_wp2_with fail
      refine HC.out.mono ?_
      rintro e w5 ⟨⟨r, rfl, h⟩, hb⟩
      have HBw5 := Lib.hid (HBw4.out.trans (hb.mono HBw4.out.size))
      have RAw5 := Lib.hid (RAw4.out.below hb)
      have RTw5 := Lib.hid (RTw4.out.below hb)
      have HXw5 := Lib.hid (HXw4.out.below hb)
      have SXw5 := Lib.hid (SXw4.out.below hb)
      have SYw5 := Lib.hid (SYw4.out.below hb)
      have SPw5 := Lib.hid (SPw4.out.below hb)
      clear HBw4 RAw4 RTw4 HXw4 SXw4 SYw4 SPw4
      have SQw5 := Lib.hid h
      clear h
      clear hb HC
      have c0 := HXw5.out.c0
      have c1 := HXw5.out.c1
      have c2 := HXw5.out.c2
      have HC := Lib.hid (spread_any a ca A m n o w5 RAw5.out)
      go_wp2_with fail
      refine HC.out.mono ?_
      rintro e w6 ⟨⟨u, rfl, h⟩, hb⟩
      have HBw6 := Lib.hid (HBw5.out.trans (hb.mono HBw5.out.size))
      have RAw6 := Lib.hid (RAw5.out.below hb)
      have RTw6 := Lib.hid (RTw5.out.below hb)
      have HXw6 := Lib.hid (HXw5.out.below hb)
      have SXw6 := Lib.hid (SXw5.out.below hb)
      have SYw6 := Lib.hid (SYw5.out.below hb)
      have SPw6 := Lib.hid (SPw5.out.below hb)
      have SQw6 := Lib.hid (SQw5.out.below hb)
      clear HBw5 RAw5 RTw5 HXw5 SXw5 SYw5 SPw5 SQw5
      have SUw6 := Lib.hid h.sm
      clear h
      clear hb HC
      clear c0 c1 c2
      have c0 := HXw6.out.c0
      have c1 := HXw6.out.c1
      have c2 := HXw6.out.c2
      have HC := Lib.hid (rspread_any a ca A m n o w6 RAw6.out)
      go_wp2_with fail
      refine HC.out.mono ?_
      rintro e w7 ⟨⟨v, rfl, h⟩, hb⟩
      have HBw7 := Lib.hid (HBw6.out.trans (hb.mono HBw6.out.size))
      have RAw7 := Lib.hid (RAw6.out.below hb)
      have RTw7 := Lib.hid (RTw6.out.below hb)
      have HXw7 := Lib.hid (HXw6.out.below hb)
      have SXw7 := Lib.hid (SXw6.out.below hb)
      have SYw7 := Lib.hid (SYw6.out.below hb)
      have SPw7 := Lib.hid (SPw6.out.below hb)
      have SQw7 := Lib.hid (SQw6.out.below hb)
      have SUw7 := Lib.hid (SUw6.out.below hb)
      clear HBw6 RAw6 RTw6 HXw6 SXw6 SYw6 SPw6 SQw6 SUw6
      have SVw7 := Lib.hid h.sm
      clear h
      clear hb HC
      clear c0 c1 c2
      have HQ0 := Lib.hid (RawQ.mk RAw7.out SXw7.out SYw7.out SPw7.out SQw7.out SUw7.out SVw7.out HBw7.out HXw7.out.c3 : RawQ w w7 a ca A x (hinvR A) y p (joinR A T) r u (sprL A m n o) v q)
      have HQ := Lib.hid (HQ0.out.below ((Below.refl _ w7).drew))
      clear HQ0
      obtain ⟨z, hz⟩ := u64_of q
      obtain ⟨zv, hzv⟩ : ∃ zv, valV A z = zv := ⟨_, rfl⟩
      have HV1 := Lib.hid (fun W h => value_any a ca A z W h)
      have HV2 := Lib.hid (fun W h => rvalue_any a ca A z W h)
      rw [hzv] at HV1 HV2
      have HC1 := Lib.hid (fun W h => check_any a ca A W h)
      have HC2 := Lib.hid (fun W h => rcheck_any a ca A W h)
      have c3 := HXw7.out.c3
      clear HXw7 RAw7 RTw7 SPw7 SQw7 SUw7 SVw7 SXw7 SYw7 HAW hzv
      go_upto_region 9 with fail
      try dsimp only [List.append_eq, List.cons_append, List.nil_append]
      
      go_region_held3 (fun W' => W'.cell? ⟨w.heap.size, 3, none⟩ = some (.int .i64 q)) (first | exact HQ.out.cq) (first
        | ((try go_simp); go_at_call 8; (with_reducible refine (hawake_yes _).mono ?_); go_must (rintro e v1 ⟨rfl, hb⟩; (have HQ' := Lib.hid (HQ.out.below hb)); (clear HQ); (have HQ := HQ'); (clear HQ'); clear hb))
        | ((try go_simp); go_at_call 15; (with_reducible refine (HV1.out _ HQ.out.ra).mono ?_); go_must (rintro e v1 ⟨rfl, hb⟩; (have HQ' := Lib.hid (HQ.out.below hb)); (clear HQ); (have HQ := HQ'); (clear HQ'); clear hb))
        | ((try go_simp); go_at_call 16; (with_reducible refine (HV2.out _ HQ.out.ra).mono ?_); go_must (rintro e v1 ⟨rfl, hw⟩; obtain rfl := hw.symm))
        | ((try go_simp); go_at_call 17; (with_reducible refine (HC1.out _ HQ.out.ra).mono ?_); go_must (rintro e v1 ⟨rfl, hb⟩; (have HQ' := Lib.hid (HQ.out.below hb)); (clear HQ); (have HQ := HQ'); (clear HQ'); clear hb))
        | ((try go_simp); go_at_call 18; (with_reducible refine (HC2.out _ HQ.out.ra).mono ?_); go_must (rintro e v1 ⟨rfl, hb⟩; (have HQ' := Lib.hid (HQ.out.below hb)); (clear HQ); (have HQ := HQ'); (clear HQ'); clear hb))
        | ((try go_simp); go_at_call 19; (first | (with_reducible refine (sameList_sl HQ.out.rx HQ.out.ry).mono ?_) | (with_reducible refine (sameList_sl HQ.out.rp HQ.out.rq).mono ?_)); go_must (rintro e v1 ⟨rfl, hb⟩; (have HQ' := Lib.hid (HQ.out.below hb)); (clear HQ); (have HQ := HQ'); (clear HQ'); clear hb))
        | ((try go_simp); go_at_call 20; (with_reducible refine (sameInts_sl HQ.out.ru HQ.out.rv).mono ?_); go_must (rintro e v1 ⟨rfl, hb⟩; (have HQ' := Lib.hid (HQ.out.below hb)); (clear HQ); (have HQ := HQ'); (clear HQ'); clear hb)))
      have HB := Lib.hid HQ.out.bel
      clear HQ
      go_wp2_with fail
      go_ret
      exact ⟨rfl, HB.out⟩
    · have hli : (70 : Int) < (T.length : Int) := by omega
      clear hlt
      go_enter Try.func3, Try.ntmps3
      go_wp2_with fail
      refine HAW.out.mono ?_
      rintro e w2 ⟨rfl, hb⟩
      have HB := Lib.hid (HB1.out.trans (hb.mono HB1.out.size))
      clear hb
      go_wp2_with fail
      go_ret
      exact ⟨rfl, HB.out⟩
  · have hli : (70 : Int) < (A.length : Int) := by omega
    clear hla
    go_enter Try.func3, Try.ntmps3
    go_wp2_with fail
    refine HAW.out.mono ?_
    rintro e w2 ⟨rfl, hb⟩
    have HB := Lib.hid (HB1.out.trans (hb.mono HB1.out.size))
    clear hb
    go_wp2_with fail
    go_ret
    exact ⟨rfl, HB.out⟩
theorem hashRaw_all (a : Option Addr) (ca : Nat) (A : List V) (b : Option Addr) (cb : Nat) (T : List V) (m n o q : Int) (w : World) (hA : Row w a A ca) (hT : Row w b T cb) (_ : In64 m) (_ : In64 n) (_ : In64 o) (_ : In64 q) :
    Calls Try.prog 3 #[.slice a A.length ca, .slice b T.length cb, .agg #[.int .i64 m, .int .i64 n, .int .i64 o, .int .i64 q]] w fun e W => e = .returned (.bool true) ∧ Below w.heap.size w W :=
  hashRaw_any a b ca cb A T m n o q w hA hT
end Go.Proofs.Ytodiokladojnjaa.B
