/- nat.divideLong: long division by a number of two limbs or more. -/
import Derived.Test.YtamniclnhenmgaaDoorTakeOut
import Derived.Test.YtamniclnhenmgaaDoorLongMath
import Derived.Test.YtamniclnhenmgaaDoorScale
import Derived.Test.YtamniclnhenmgaaDoorDup
import Derived.Test.YtamniclnhenmgaaDoorShrink
import Derived.Test.YtamniclnhenmgaaDoorShelf
import Derived.Test.YtamniclnhenmgaaDoorRound
namespace Go.Proofs.YtamniclnhenmgaaDoor
open Go Go.RowKit Go.Shelf
attribute [local go_sem] Oper.semAt_some

/-- What is read at a lies in memory made from block B on. -/
def Fresh (B : Nat) (a : Option Addr) (zs : List Int) : Prop := ∀ b off, a = some ⟨b, off, none⟩ → 0 < zs.length → B ≤ b
theorem Own.fresh {W : World} {B n cap : Nat} {a : Option Addr} {zs : List Int} (h : Own W B (.slice a n cap) zs) : Fresh B a zs := by
  intro b off e hl
  obtain ⟨g, e2, hB, _⟩ := h.at2 0 hl
  rw [e] at e2
  cases e2
  exact hB
theorem Row.setFresh {W : World} {B cap : Nat} {a : Option Addr} {zs : List Int} (h : Row W a zs cap) (hf : Fresh B a zs) {p : Addr} (hp : p.block < B) (v : Value) : Row (W.setCell p v) a zs cap :=
  ⟨h.room, h.most, fun j hj => by
    obtain ⟨b, off, e, hc⟩ := h.el j hj
    have hb := hf b off e (by omega)
    exact ⟨b, off, e, (cell_other v (show b ≠ p.block by omega)).trans hc⟩⟩

def LongPost (w : World) (xs ys : List Int) (e : Ending) (W : World) : Prop :=
  ∃ a1 c1 qs a2 c2 rs, e = .returned (.tuple #[.slice a1 qs.length c1, .slice a2 rs.length c2]) ∧ Row W a1 qs c1 ∧ Row W a2 rs c2 ∧ M.Lim qs ∧ M.Lim rs ∧
    M.val qs = M.val xs / M.val ys ∧ M.val rs = M.val xs % M.val ys ∧ Fresh w.heap.size a1 qs ∧ Fresh w.heap.size a2 rs ∧ Below w.heap.size w W

theorem cell_below {w W : World} {p : Addr} {v : Value} (hb : Below w.heap.size w W) (h : w.cell? p = some v) : W.cell? p = some v := (hb.cell (lt_of_cell h)).trans h
theorem frozen_below {w W : World} {p : Addr} {v : Value} {t : Bool} (hb : Below w.heap.size w W) (h : w.cell? p = some v) (hf : w.frozen? p = t) : W.frozen? p = t := (hb.frozen (lt_of_cell h)).trans hf

theorem Own.belowAt {W W' : World} {B B0 g L cap : Nat} {zs : List Int} (h : Own W B (.slice (some ⟨g, 0, none⟩) L cap) zs) (hg : g < B0) (hb : Below B0 W W') : Own W' B (.slice (some ⟨g, 0, none⟩) L cap) zs := by
  refine ⟨h.1, ?_⟩
  rcases h.2 with hn | ⟨g', cap', cur, hv, hB, hgg, rest⟩
  · exact .inl hn
  · refine .inr ⟨g', cap', cur, hv, hB, ?_, rest⟩
    cases hv
    rw [hb.block _ hg]
    exact hgg
theorem Own.grownAt {W W' : World} {B g r L cap : Nat} {zs : List Int} (h : Own W B (.slice (some ⟨g, 0, none⟩) L cap) zs) (hg : W.grownBy W' (some r)) (hne : g ≠ r) : Own W' B (.slice (some ⟨g, 0, none⟩) L cap) zs :=
  World.ownsRow.kept h hg (.inr (by intro e; cases e; exact hne rfl))
theorem cell_grown {W W' : World} {r : Nat} {a : Addr} {v : Value} (hg : W.grownBy W' (some r)) (hne : a.block ≠ r) (h : W.cell? a = some v) : W'.cell? a = some v :=
  (World.cell?_of_block (hg.block a.block (lt_of_cell h) (by intro e; cases e; exact hne rfl))).trans h
theorem frozen_grown {W W' : World} {r : Nat} {a : Addr} {v : Value} {t : Bool} (hg : W.grownBy W' (some r)) (hne : a.block ≠ r) (h : W.cell? a = some v) (hf : W.frozen? a = t) : W'.frozen? a = t :=
  (World.frozen?_of_block (hg.block a.block (lt_of_cell h) (by intro e; cases e; exact hne rfl))).trans hf

/-- What holds in divideLong's loop when k places are still to come. -/
def LongI (w : World) (p7 gq gr gd bb bo n m L pr pd cb bs : Nat) (ds : List Int) (A : Int) (k : Nat) (W : World) : Prop :=
  ((W.cell? ⟨w.heap.size + 1, 0, none⟩ = some (.slice (some ⟨gq, 0, none⟩) (m + 1) (m + 1)) ∧ W.cell? ⟨w.heap.size + 1 + 1, 0, none⟩ = some (.slice (some ⟨gr, 0, none⟩) L pr) ∧
    W.cell? ⟨w.heap.size, 0, none⟩ = some (.slice (some ⟨bb, bo, none⟩) (n + 2) cb) ∧ W.cell? ⟨p7, 0, none⟩ = some (.slice (some ⟨gd, 0, none⟩) (n + 2) pd)) ∧
    W.frozen? ⟨w.heap.size + 1, 0, none⟩ = false ∧ W.frozen? ⟨w.heap.size + 1 + 1, 0, none⟩ = false ∧ W.cell? ⟨bs, 0, none⟩ = some (.slice (some ⟨gq, 0, none⟩) (m + 1) (m + 1))) ∧
  ∃ qs rs, Own W w.heap.size (.slice (some ⟨gq, 0, none⟩) (m + 1) (m + 1)) qs ∧ Own W w.heap.size (.slice (some ⟨gr, 0, none⟩) L pr) rs ∧ Own W w.heap.size (.slice (some ⟨gd, 0, none⟩) (n + 2) pd) ds ∧ M.Lim qs ∧ M.Lim rs ∧
    qs.length = m + 1 ∧ rs.length = L ∧ (∀ j : Nat, j < k → M.el qs j = 0) ∧ A = M.val rs + M.val ds * 16777216 ^ k * M.val (qs.drop k) ∧ M.val (rs.drop k) < M.val ds ∧ Below w.heap.size w W

theorem longI_own {w : World} {p7 gq gr gd bb bo n m L pr pd cb bs : Nat} {ds : List Int} {A : Int} {B0 : Nat} (hB0 : w.heap.size ≤ B0) : OwnFrom B0 (LongI w p7 gq gr gd bb bo n m L pr pd cb bs ds A) := by
  refine OwnFrom.and (Own.from (fun _ _ _ _ hs hg hr => ⟨⟨cell_kept hs.1.1 hg hr, cell_kept hs.1.2.1 hg hr, cell_kept hs.1.2.2.1 hg hr, cell_kept hs.1.2.2.2 hg hr⟩, (frozen_kept hs.1.1 hg hr).trans hs.2.1, (frozen_kept hs.1.2.1 hg hr).trans hs.2.2.1, cell_kept hs.2.2.2 hg hr⟩) _) ?_
  rintro s W W' row ⟨qs, rs, h1, h2, h3, h4⟩ hg hr
  refine ⟨qs, rs, ownFrom_own (B0 := B0) (fun (_ : Unit) => qs) () _ _ _ h1 hg hr, ownFrom_own (B0 := B0) (fun (_ : Unit) => rs) () _ _ _ h2 hg hr, ownFrom_own (B0 := B0) (fun (_ : Unit) => ds) () _ _ _ h3 hg hr, h4.1, h4.2.1, h4.2.2.1, h4.2.2.2.1, h4.2.2.2.2.1, h4.2.2.2.2.2.1, h4.2.2.2.2.2.2.1, ?_⟩
  exact ownFrom_below (β := Unit) (Nat.le_refl _) hB0 () _ _ _ h4.2.2.2.2.2.2.2 hg hr

set_option maxRecDepth 100000 in
set_option maxHeartbeats 1000000 in
theorem divideLong_any (a b : Option Addr) (ca cb : Nat) (xs ys : List Int) (n m : Nat) (w : World) (hla : xs.length = n + 2 + m) (hlb : ys.length = n + 2) (hx : M.Lim xs) (hy : M.Lim ys) (htop : 0 < M.el ys (n + 1))
    (hsz : n + 2 + m < 10000) (hA : Row w a xs ca) (hB : Row w b ys cb) :
    Calls Tryd.prog 108 #[.slice a (n + 2 + m) ca, .slice b (n + 2) cb] w (LongPost w xs ys) := by
  have hB3 : Below w.heap.size w (((w.alloc (.cells #[.slice b (n + 2) cb] 22)).alloc (.cells #[.slice none 0 0] 22)).alloc (.cells #[.slice none 0 0] 22)) := (((Below.refl _ w).alloc (Nat.le_refl _) _).alloc (by simp) _).alloc (by simp; omega) _
  obtain ⟨bb, bo, rfl, hc0⟩ := hB.el (n + 1) (by omega)
  have hel := hy.get (n + 1)
  obtain ⟨t, ht⟩ : ∃ t, M.el ys (n + 1) = t := ⟨_, rfl⟩
  rw [ht] at hc0 hel htop
  obtain ⟨T, rfl⟩ := Int.eq_ofNat_of_zero_le hel.1
  obtain ⟨l, hl⟩ : ∃ l, Lib.bitLen T = l := ⟨_, rfl⟩
  obtain ⟨k1, k2, k3, k4, k5, k6⟩ := M.norm_factor T l hl (by omega) (by omega)
  have hbl := fun W : World => bitsLen_any (T : Int) W (by omega) (by omega)
  rw [Int.toNat_natCast, hl] at hbl
  obtain ⟨F, hF⟩ : ∃ F : Nat, 2 ^ (24 - l) = F := ⟨_, rfl⟩
  rw [hF] at k3 k4 k5 k6
  have c1 := (hB3.cell (p := ⟨bb, bo + (n + 1), none⟩) (lt_of_cell hc0)).trans hc0
  have HBL := Lib.hid hbl
  have HF := Lib.hid hF
  have hrb := hB.room
  have hmb := hB.most
  rw [hlb] at hrb
  have hra := hA.room
  have hma := hA.most
  rw [hla] at hra
  have HB3 := Lib.hid hB3
  have HA := Lib.hid hA
  have HB := Lib.hid hB
  have HX := Lib.hid hx
  have HY := Lib.hid hy
  have HT := Lib.hid ht
  have HLA := Lib.hid hla
  have HLB := Lib.hid hlb
  clear hB3 hA hB hx hy ht hla hlb hc0 hbl hF hl
  refine (callsIn_wide (n := 6)).1 ?_
  refine callsIn_of_wp_marks Tryd.func108 rfl trivial ?_ rfl
  refine wpIn_wide.2 ?_
  simp only [Tryd.ntmps108, List.size_toArray, List.length_cons, List.length_nil, Nat.reduceAdd, Nat.reduceSub, Array.replicate_succ, Array.replicate_zero, List.push_toArray, List.append_toArray, List.nil_append, List.cons_append]
  go_wp2_with fail
  refine (HBL.out _).mono ?_
  rintro e w' ⟨rfl, rfl⟩
  go_wp2_with fail
  have hw64 : wrap64 ((2 : Int) ^ (24 - l)) = (F : Int) := by
    have h1 := HF.out
    have h2 : ((2 ^ (24 - l) : Nat) : Int) = (2 : Int) ^ (24 - l) := by rw [Int.natCast_pow]; rfl
    rw [← h2, h1]; unfold wrap64; omega
  rw [hw64]
  clear hw64 c1
  have d0 := cell_new w (.slice (some ⟨bb, bo, none⟩) (n + 2) cb) 22
  have d1 := cell_new (w.alloc (.cells #[.slice (some ⟨bb, bo, none⟩) (n + 2) cb] 22)) (.slice none 0 0) 22
  have f1 := frozen_new (w.alloc (.cells #[.slice (some ⟨bb, bo, none⟩) (n + 2) cb] 22)) (.slice none 0 0) 22
  have d2 := cell_new ((w.alloc (.cells #[.slice (some ⟨bb, bo, none⟩) (n + 2) cb] 22)).alloc (.cells #[.slice none 0 0] 22)) (.slice none 0 0) 22
  have f2 := frozen_new ((w.alloc (.cells #[.slice (some ⟨bb, bo, none⟩) (n + 2) cb] 22)).alloc (.cells #[.slice none 0 0] 22)) (.slice none 0 0) 22
  simp only [World.size_alloc] at d1 f1 d2 f2
  have HC3 := Lib.hid (And.intro (cell_later (.cells #[.slice none 0 0] 22) (cell_later (.cells #[.slice none 0 0] 22) d0)) (And.intro (cell_later (.cells #[.slice none 0 0] 22) d1) (And.intro (frozen_later (.cells #[.slice none 0 0] 22) d1 f1) (And.intro d2 f2))))
  clear d0 d1 f1 d2 f2
  have HB' := Lib.hid (HB.out.below HB3.out)
  have HA' := Lib.hid (HA.out.below HB3.out)
  have hs3 : (((w.alloc (.cells #[.slice (some ⟨bb, bo, none⟩) (n + 2) cb] 22)).alloc (.cells #[.slice none 0 0] 22)).alloc (.cells #[.slice none 0 0] 22)).heap.size = w.heap.size + 3 := by simp
  generalize (((w.alloc (.cells #[.slice (some ⟨bb, bo, none⟩) (n + 2) cb] 22)).alloc (.cells #[.slice none 0 0] 22)).alloc (.cells #[.slice none 0 0] 22)) = w3 at *
  clear HB HA
  have hcl := clone_any _ ys cb w3 HB'.out (by rw [HLB.out]; omega) (by rw [HLB.out]; omega)
  rw [HLB.out] at hcl
  refine hcl.mono ?_
  clear hcl
  rintro e w4 ⟨a4, p4, rfl, ho4, hb4⟩
  have hsc := scale_full w3.heap.size a4 p4 ys F 0 w4 hb4.size k4 (by omega) HY.out (by rw [HLB.out]; omega) (by rw [HLB.out]; exact ho4)
  rw [HLB.out] at hsc
  have HSC := Lib.hid hsc
  have HB4 := Lib.hid hb4
  clear hsc hb4 ho4
  go_wp2_with fail
  refine HSC.out.mono ?_
  rintro e w5 ⟨a5, p5, ds, rfl, ho5, hb5, hlimd, _, hvd, hld⟩
  have hvd2 : M.val ds = M.val ys * (F : Int) := by rw [hvd]; simp
  obtain ⟨hld, htopd⟩ := M.scaled_divisor (F := F) HLB.out HY.out hlimd hvd2 (by rw [HT.out, ← Int.natCast_mul]; omega) (by rw [HT.out, show ((T : Int) + 1) = ((T + 1 : Nat) : Int) from rfl, ← Int.natCast_mul]; omega) hld
  rw [hld] at ho5 ⊢
  obtain ⟨gd, rfl, hgd1, hgd2, _⟩ := ho5.at2 0 (by omega)
  have HLD := Lib.hid hld
  have HVD := Lib.hid hvd2
  have HLIMD := Lib.hid hlimd
  have hb35 := HB4.out.trans (hb5.mono (Nat.le_refl _))
  have HB5 := Lib.hid hb35
  have hs5 := hb35.size
  have HC5 := Lib.hid (And.intro (cell_below hb35 HC3.out.1) (And.intro (cell_below hb35 HC3.out.2.1) (And.intro (frozen_below hb35 HC3.out.2.1 HC3.out.2.2.1) (And.intro (cell_below hb35 HC3.out.2.2.2.1) (frozen_below hb35 HC3.out.2.2.2.1 HC3.out.2.2.2.2)))))
  have HA5 := Lib.hid (HA'.out.below hb35)
  have HO5 := Lib.hid ho5
  clear hld hvd hvd2 hlimd hb35 hb5 ho5 HC3 HB4 HSC HA'
  go_wp2_with fail
  have d7 := cell_new w5 (.slice (some ⟨gd, 0, none⟩) (n + 2) p5) 22
  have hb56 := (Below.refl w5.heap.size w5).alloc (Nat.le_refl _) (.cells #[.slice (some ⟨gd, 0, none⟩) (n + 2) p5] 22)
  have HC6 := Lib.hid (And.intro d7 (And.intro (cell_below hb56 HC5.out.1) (And.intro (cell_below hb56 HC5.out.2.1) (And.intro (frozen_below hb56 HC5.out.2.1 HC5.out.2.2.1) (And.intro (cell_below hb56 HC5.out.2.2.2.1) (frozen_below hb56 HC5.out.2.2.2.1 HC5.out.2.2.2.2))))))
  have HA6 := Lib.hid (HA5.out.below hb56)
  have HO6 := Lib.hid (HO5.out.below hb56)
  have HB6 := Lib.hid (HB5.out.trans (hb56.mono (by omega)))
  have hs6 : (w5.alloc (.cells #[.slice (some ⟨gd, 0, none⟩) (n + 2) p5] 22)).heap.size = w5.heap.size + 1 := by simp
  clear d7 hb56 HC5 HA5 HO5 HB5
  generalize w5.alloc (.cells #[.slice (some ⟨gd, 0, none⟩) (n + 2) p5] 22) = w6 at *
  have hcl := clone_any _ xs ca w6 HA6.out (by rw [HLA.out]; omega) (by rw [HLA.out]; omega)
  rw [HLA.out] at hcl
  refine hcl.mono ?_
  clear hcl
  rintro e w7 ⟨a7, p7, rfl, ho7, hb7⟩
  have hsc := scale_full w6.heap.size a7 p7 xs F 0 w7 hb7.size k4 (by omega) HX.out (by rw [HLA.out]; omega) (by rw [HLA.out]; exact ho7)
  rw [HLA.out] at hsc
  have HSC := Lib.hid hsc
  have HB7 := Lib.hid hb7
  clear hsc hb7 ho7
  go_wp2_with fail
  refine HSC.out.mono ?_
  rintro e w8 ⟨a8, p8, rs, rfl, ho8, hb8, hlimr, hlr, hvr, hlr2⟩
  have hvr2 : M.val rs = M.val xs * (F : Int) := by rw [hvr]; simp
  have hb68 := HB7.out.trans (hb8.mono (Nat.le_refl _))
  have hs8 := hb68.size
  have hlr3 : n + 2 + m ≤ rs.length ∧ rs.length ≤ n + 2 + m + 1 := by have := HLA.out; omega
  have HC8 := Lib.hid (And.intro (cell_below hb68 HC6.out.1) (And.intro (cell_below hb68 HC6.out.2.1) (And.intro (cell_below hb68 HC6.out.2.2.1) (And.intro (frozen_below hb68 HC6.out.2.2.1 HC6.out.2.2.2.1) (And.intro (cell_below hb68 HC6.out.2.2.2.2.1) (frozen_below hb68 HC6.out.2.2.2.2.1 HC6.out.2.2.2.2.2))))))
  have HO8 := Lib.hid ho8
  have HD8 := Lib.hid (HO6.out.below hb68)
  have HB8 := Lib.hid hb68
  have HVR := Lib.hid hvr2
  have HLIMR := Lib.hid hlimr
  clear hvr hvr2 hlimr hlr hlr2 hb68 hb8 ho8 HC6 HO6 HB7 HSC HA6
  have g3 := HC8.out.2.2.2.2.1
  have gf3 := HC8.out.2.2.2.2.2
  have l3 : w.heap.size + 1 + 1 < w6.heap.size := by omega
  go_wp2_with (first
    | (at_builtin; refine wpList_app1 rfl _ _ rfl rfl (HO8.out.alloc _) rfl (cell_new _ _ _) (by omega) (by simp; omega) ?_; intro a9 p9 w9 hown9 hb9; have e9 := (hb9.cell (p := ⟨w.heap.size + 1 + 1, 0, none⟩) l3).trans (cell_later (.cells #[.int .i64 0] 3) g3); have ef9 := (hb9.frozen (p := ⟨w.heap.size + 1 + 1, 0, none⟩) l3).trans (frozen_later (.cells #[.int .i64 0] 3) g3 gf3);
        have c9 := (hb9.cell (p := ⟨w.heap.size, 0, none⟩) (by show w.heap.size < _; omega)).trans (cell_later (.cells #[.int .i64 0] 3) HC8.out.2.1); have c92 := (hb9.cell (p := ⟨w.heap.size + 1, 0, none⟩) (by show w.heap.size + 1 < _; omega)).trans (cell_later (.cells #[.int .i64 0] 3) HC8.out.2.2.1); have cf92 := (hb9.frozen (p := ⟨w.heap.size + 1, 0, none⟩) (by show w.heap.size + 1 < _; omega)).trans (frozen_later (.cells #[.int .i64 0] 3) HC8.out.2.2.1 HC8.out.2.2.2.1); have HO9 := Lib.hid hown9; have HB9 := Lib.hid hb9; clear hown9 hb9)
    | (at_make; refine wpList_make1 rfl _ _ rfl (m + 1) rfl rfl (by omega) (by omega) (B := w9.heap.size) (by simp [World.setCell]) ?_; intro w10 hown10 hb10; have HO10 := Lib.hid hown10; have HB10 := Lib.hid hb10; clear hown10 hb10;
        have e10 := cell_below ((HB10.out.mono (by simp [World.setCell]))) ((cell_other (W := w9) (p := ⟨w.heap.size + 1 + 1, 0, none⟩) (a := ⟨w.heap.size + 1, 0, none⟩) (.slice a9 (rs.length + 1) p9) (by simp)).trans c92); have ef10 := frozen_below ((HB10.out.mono (by simp [World.setCell]))) ((cell_other (W := w9) (p := ⟨w.heap.size + 1 + 1, 0, none⟩) (a := ⟨w.heap.size + 1, 0, none⟩) (.slice a9 (rs.length + 1) p9) (by simp)).trans c92) ((World.frozen?_setCell _ _ _ _).trans cf92)))
  refine (backward_any _ _ _ _).mono ?_
  rintro e w' ⟨rfl, rfl⟩
  have hb10 := HB10.out
  have hs9 := HB9.out.size
  have hs10 := hb10.size
  have hsz9 : (w9.setCell ⟨w.heap.size + 1 + 1, 0, none⟩ (.slice a9 (rs.length + 1) p9)).heap.size = w9.heap.size := by simp [World.setCell]
  have hsz10 : (w10.setCell ⟨w.heap.size + 1, 0, none⟩ (.slice (some ⟨w9.heap.size, 0, none⟩) (m + 1) (m + 1))).heap.size = w10.heap.size := by simp [World.setCell]
  rw [World.size_alloc] at hs9
  rw [hsz9] at hs10
  have hbb : Below (w9.setCell ⟨w.heap.size + 1 + 1, 0, none⟩ (.slice a9 (rs.length + 1) p9)).heap.size (w9.setCell ⟨w.heap.size + 1 + 1, 0, none⟩ (.slice a9 (rs.length + 1) p9)) w10 := by rw [hsz9]; exact hb10
  have q5 := World.cell?_setCell_same' w9 ⟨w.heap.size + 1 + 1, 0, none⟩ (.slice a9 (rs.length + 1) p9) (by rw [e9]; rfl)
  have r5 := cell_below hbb q5
  have r5f := frozen_below hbb q5 ((World.frozen?_setCell _ _ _ _).trans ef9)
  have r3 := cell_below hbb ((cell_other (W := w9) (p := ⟨w.heap.size + 1 + 1, 0, none⟩) (a := ⟨w.heap.size, 0, none⟩) (.slice a9 (rs.length + 1) p9) (by simp; omega)).trans c9)
  have c97 := (HB9.out.cell (p := ⟨w5.heap.size, 0, none⟩) (by show w5.heap.size < _; omega)).trans (cell_later (.cells #[.int .i64 0] 3) HC8.out.1)
  have r7 := cell_below hbb ((cell_other (W := w9) (p := ⟨w.heap.size + 1 + 1, 0, none⟩) (a := ⟨w5.heap.size, 0, none⟩) (.slice a9 (rs.length + 1) p9) (by show w5.heap.size ≠ w.heap.size + 1 + 1; omega)).trans c97)
  obtain ⟨gr, rfl, hgr1, hgr2, _⟩ := HO9.out.at2 0 (by simp)
  have hlen9 : (rs ++ [0]).length = rs.length + 1 := by simp
  have hO9 := HO9.out
  rw [hlen9] at hO9
  have hR := ((hO9.other (p := ⟨w.heap.size + 1 + 1, 0, none⟩) (.slice (some ⟨gr, 0, none⟩) (rs.length + 1) p9) (by simp [Value.ownBlock]; omega)).below hbb).mono (B' := w.heap.size) (by omega)
  have hR' := (hR.other (p := ⟨w.heap.size + 1, 0, none⟩) (.slice (some ⟨w9.heap.size, 0, none⟩) (m + 1) (m + 1)) (by simp [Value.ownBlock]; omega)).alloc (.cells #[.slice (some ⟨w9.heap.size, 0, none⟩) (m + 1) (m + 1)] 22)
  have hb89 : Below w8.heap.size w8 (w8.alloc (.cells #[.int .i64 0] 3)) := (Below.refl _ _).alloc (Nat.le_refl _) _
  have hD9 := (((HD8.out.below hb89).belowAt (B0 := w6.heap.size) (by omega) HB9.out).other (p := ⟨w.heap.size + 1 + 1, 0, none⟩) (.slice (some ⟨gr, 0, none⟩) (rs.length + 1) p9) (by simp [Value.ownBlock]; omega)).below hbb
  have hD' := ((hD9.mono (B' := w.heap.size) (by omega)).other (p := ⟨w.heap.size + 1, 0, none⟩) (.slice (some ⟨w9.heap.size, 0, none⟩) (m + 1) (m + 1)) (by simp [Value.ownBlock]; omega)).alloc (.cells #[.slice (some ⟨w9.heap.size, 0, none⟩) (m + 1) (m + 1)] 22)
  have hQ := HO10.out
  rw [hsz9, List.length_replicate] at hQ
  have hQ' := ((hQ.mono (B' := w.heap.size) (by omega)).other (p := ⟨w.heap.size + 1, 0, none⟩) (.slice (some ⟨w9.heap.size, 0, none⟩) (m + 1) (m + 1)) (by simp [Value.ownBlock]; omega)).alloc (.cells #[.slice (some ⟨w9.heap.size, 0, none⟩) (m + 1) (m + 1)] 22)
  have hb3 := HB3.out
  have hb0 : Below w.heap.size w (w8.alloc (.cells #[.int .i64 0] 3)) := ((hb3.trans (HB6.out.mono (by omega))).trans (HB8.out.mono (by omega))).alloc (by omega) _
  have hb1 : Below w.heap.size w w10 := (((hb0.trans (HB9.out.mono (by omega))).setCell (p := ⟨w.heap.size + 1 + 1, 0, none⟩) (by simp; omega) _).trans (hbb.mono (by omega)))
  have hb2 := (hb1.setCell (p := ⟨w.heap.size + 1, 0, none⟩) (by simp) (.slice (some ⟨w9.heap.size, 0, none⟩) (m + 1) (m + 1))).alloc (by rw [hsz10]; omega) (.cells #[.slice (some ⟨w9.heap.size, 0, none⟩) (m + 1) (m + 1)] 22)
  have s4 := World.cell?_setCell_same' w10 ⟨w.heap.size + 1, 0, none⟩ (.slice (some ⟨w9.heap.size, 0, none⟩) (m + 1) (m + 1)) (by rw [e10]; rfl)
  have s5 := (cell_other (W := w10) (p := ⟨w.heap.size + 1, 0, none⟩) (a := ⟨w.heap.size + 1 + 1, 0, none⟩) (.slice (some ⟨w9.heap.size, 0, none⟩) (m + 1) (m + 1)) (by simp)).trans r5
  have s3 := (cell_other (W := w10) (p := ⟨w.heap.size + 1, 0, none⟩) (a := ⟨w.heap.size, 0, none⟩) (.slice (some ⟨w9.heap.size, 0, none⟩) (m + 1) (m + 1)) (by simp)).trans r3
  have s7 := (cell_other (W := w10) (p := ⟨w.heap.size + 1, 0, none⟩) (a := ⟨w5.heap.size, 0, none⟩) (.slice (some ⟨w9.heap.size, 0, none⟩) (m + 1) (m + 1)) (by show w5.heap.size ≠ w.heap.size + 1; omega)).trans r7
  have sb := cell_new (w10.setCell ⟨w.heap.size + 1, 0, none⟩ (.slice (some ⟨w9.heap.size, 0, none⟩) (m + 1) (m + 1))) (.slice (some ⟨w9.heap.size, 0, none⟩) (m + 1) (m + 1)) 22
  have hD0 : 0 < M.val ds := M.val_pos_top HLD.out HLIMD.out htopd
  have hstart : M.val ((rs ++ [0]).drop (m + 1)) < M.val ds := M.start_lt HLA.out HLB.out HX.out HY.out (HLIMR.out.append (M.Lim.cons (by omega) (by omega) M.Lim.nil)) (by rw [HT.out]; exact htop) k3 (by rw [M.val_append]; simp [M.val]; exact HVR.out) HVD.out (by simp; omega)
  have HI0 : Hid (LongI w w5.heap.size w9.heap.size gr gd bb bo n m (rs.length + 1) p9 p5 cb (w10.setCell ⟨w.heap.size + 1, 0, none⟩ (.slice (some ⟨w9.heap.size, 0, none⟩) (m + 1) (m + 1))).heap.size ds (M.val xs * F) (m + 1) ((w10.setCell ⟨w.heap.size + 1, 0, none⟩ (.slice (some ⟨w9.heap.size, 0, none⟩) (m + 1) (m + 1))).alloc (.cells #[.slice (some ⟨w9.heap.size, 0, none⟩) (m + 1) (m + 1)] 22))) :=
    ⟨⟨⟨cell_later _ s4, cell_later _ s5, cell_later _ s3, cell_later _ s7⟩, frozen_later _ s4 ((World.frozen?_setCell _ _ _ _).trans ef10), frozen_later _ s5 ((World.frozen?_setCell _ _ _ _).trans r5f), sb⟩,
      _, _, hQ', hR', hD', M.Lim.replicate _, HLIMR.out.append (M.Lim.cons (by omega) (by omega) M.Lim.nil), by simp, by simp, fun j _ => M.el_replicate _ _, by
        rw [List.drop_of_length_le (by simp), M.val_append]; simp [M.val]; exact HVR.out.symm, hstart, hb2⟩
  have hbs : (w10.setCell ⟨w.heap.size + 1, 0, none⟩ (.slice (some ⟨w9.heap.size, 0, none⟩) (m + 1) (m + 1))).heap.size = w10.heap.size := hsz10
  rw [hbs] at HI0
  have hwsz : w.heap.size ≤ ((w10.setCell ⟨w.heap.size + 1, 0, none⟩ (.slice (some ⟨w9.heap.size, 0, none⟩) (m + 1) (m + 1))).alloc (.cells #[.slice (some ⟨w9.heap.size, 0, none⟩) (m + 1) (m + 1)] 22)).heap.size := hb2.size
  have hL : n + 2 + m + 1 ≤ rs.length + 1 := by omega
  have hL2 : rs.length + 1 < 20000 := by omega
  obtain ⟨A, hA⟩ : ∃ A, M.val xs * F = A := ⟨_, rfl⟩
  rw [hA] at HI0
  have HAF := Lib.hid hA
  have z1 : gr < ((w10.setCell ⟨w.heap.size + 1, 0, none⟩ (.slice (some ⟨w9.heap.size, 0, none⟩) (m + 1) (m + 1))).alloc (.cells #[.slice (some ⟨w9.heap.size, 0, none⟩) (m + 1) (m + 1)] 22)).heap.size := by rw [World.size_alloc, hsz10]; omega
  have z2 : w.heap.size ≤ w9.heap.size := by omega
  have z3 : w.heap.size ≤ gr := by omega
  have x1 : gr ≠ w.heap.size + 1 := by omega
  have x2 : gr ≠ w.heap.size + 1 + 1 := by omega
  have x3 : gr ≠ w.heap.size := by omega
  have x4 : gr ≠ w5.heap.size := by omega
  have x5 : gr ≠ w10.heap.size := by omega
  have x6 : gd ≠ gr := by omega
  have x7 : w9.heap.size ≠ gr := by omega
  have x8 : w9.heap.size ≠ w.heap.size + 1 := by omega
  have x9 : w9.heap.size ≠ w.heap.size + 1 + 1 := by omega
  have y3 : w9.heap.size ≠ w.heap.size := by omega
  have y4 : w9.heap.size ≠ w5.heap.size := by omega
  have y5 : w9.heap.size ≠ w10.heap.size := by have := hQ.at2 0 (by simp); obtain ⟨g', e, _, h, _⟩ := this; cases e; omega
  have y6 : gd ≠ w9.heap.size := by omega
  have y7 : gr ≠ w9.heap.size := by omega
  clear hA hb2 hb1 hb0 hb3 s4 s5 s3 s7 sb hstart hQ hQ' hD' hD9 hb89 hR hR' hO9 hlen9 r3 r5 r7 r5f c97 q5 hbb hb10 e9 ef9 c9 c92 cf92 e10 ef10 HO9 HB9 HO10 HB10 g3 gf3 l3 HC8 HO8 HD8 HB8 HVR HLIMR hs9 hs10 hsz9 hsz10 HB6 HB3 HB' HBL hs3 hs5 hs6 hs8 hbs hgr1 hgr2 hgd1 hgd2
  generalize ((w10.setCell ⟨w.heap.size + 1, 0, none⟩ (.slice (some ⟨w9.heap.size, 0, none⟩) (m + 1) (m + 1))).alloc (.cells #[.slice (some ⟨w9.heap.size, 0, none⟩) (m + 1) (m + 1)] 22)) = W11 at *
  generalize w9.heap.size = gq at *
  generalize w5.heap.size = q7 at *
  generalize rs.length = L0 at *
  go_wp2_with fail
  generalize w10.heap.size = bs at *
  refine wpIn_wide.1 (wpIn_back (n := 6) (by omega) (Bs := bs) rfl rfl (some ⟨gq, 0, none⟩) (m + 1) (m + 1) (by omega) (fun _ => 0) (LongI w q7 gq gr gd bb bo n m (L0 + 1) p9 p5 cb bs ds A) (fun _ _ _ => False) (longI_own hwsz) (fun _ _ _ _ _ hs _ _ => hs) HI0.out (fun k W h => h.1.2.2.2) ?read ?act ?assign ?body ?done ?stop)
  case read =>
    rintro k W ⟨_, qs, _, hq, _, _, _, _, hql, _, hz, _⟩ hk
    obtain ⟨g, e, _, _, _, _, hc, _⟩ := hq.at2 k (by rw [hql]; exact hk)
    rw [hz k (Nat.lt_succ_self k)] at hc
    exact ⟨g, 0, e, by simpa using hc⟩
  case assign =>
    intro l k W K hk hK
    gi_wp2
    exact hK
  case body =>
    rintro l k W hl hrec ⟨⟨⟨h4, h5, h3, h7⟩, f4, f5, hbx⟩, qs, rs, hq, hr, hd, hlq, hlr, hqn, hrn, hz, hA, hlt, hB⟩ hk
    clear hl hrec HI0
    have hKD := M.val_lt HLIMD.out
    rw [HLD.out] at hKD
    obtain ⟨p0, pp, plt⟩ := M.part_lt (k := k) (n := n) hlr (by omega) (Int.le_of_lt hKD) hlt
    have hmx : Tryd.prog.follows .mixedOrders = true := by kernel_rfl
    have hrm := (show Own W w.heap.size (.slice (some ⟨gr, 0, none⟩) rs.length p9) rs by rw [hrn]; exact hr).rowAt
    have hrm1 := hrm.room
    have hrm2 := hrm.most
    obtain ⟨u, hu⟩ : ∃ u : Nat, u = k + (n + 2) := ⟨_, rfl⟩
    obtain ⟨v, hv⟩ : ∃ v : Nat, v = u + 1 := ⟨_, rfl⟩
    have hw1 : IntKind.i64.wrap ((k : Int) + ((n : Int) + 2)) = (u : Int) := by rw [IntKind.wrap_i64]; omega
    have hw2 : IntKind.i64.wrap ((u : Int) + 1) = (v : Int) := by rw [IntKind.wrap_i64]; omega
    have hv1 : (k : Int) ≤ (v : Int) := by omega
    have hv2 : (v : Int) ≤ (p9 : Int) := by omega
    have hv3 : (0 : Int) ≤ (k : Int) := by omega
    have HU := Lib.hid hu
    have HV := Lib.hid hv
    have HRN := Lib.hid hrn
    have HQN := Lib.hid hqn
    have HA := Lib.hid hA
    have HP0 := Lib.hid p0
    have HPP := Lib.hid pp
    clear hrm hu hv hrn hqn hA p0 pp
    refine wpIn_block ?_
    refine wpIn_region_held (S := fun W' => W'.cell? ⟨w.heap.size + 1, 0, none⟩ = some (.slice (some ⟨gq, 0, none⟩) (m + 1) (m + 1)) ∧ W'.cell? ⟨w.heap.size + 1 + 1, 0, none⟩ = some (.slice (some ⟨gr, 0, none⟩) (L0 + 1) p9) ∧
      W'.cell? ⟨w.heap.size, 0, none⟩ = some (.slice (some ⟨bb, bo, none⟩) (n + 2) cb) ∧ W'.cell? ⟨q7, 0, none⟩ = some (.slice (some ⟨gd, 0, none⟩) (n + 2) p5)) hmx (by kernel_rfl) (by rintro ⟨_, _, h⟩; exact h) ⟨h4, h5, h3, h7⟩ (fun hHeld => ?_)
    refine wpAnyH_at 0 (some 40) (v := ?_) rfl rfl (by kernel_rfl) (by kernel_rfl) (by kernel_rfl) (fun _ _ _ h => h) (Or.inl ⟨by rfl, ?_⟩) hHeld ?_
    rotate_left
    · (intro W2 hSw; obtain ⟨j4, j5, j3, j7⟩ := hSw; go_simp; try with_reducible rfl)
    simp only [Act.put, List.setIfInBounds_toArray, List.set_cons_zero, List.set_cons_succ]
    refine wpAnyH_at 1 (some 41) (v := ?_) rfl rfl (by kernel_rfl) (by kernel_rfl) (by kernel_rfl) (fun _ _ _ h => h) (Or.inl ⟨by rfl, ?_⟩) hHeld ?_
    rotate_left
    · (intro W2 hSw; obtain ⟨j4, j5, j3, j7⟩ := hSw; go_simp; try with_reducible rfl)
    simp only [Act.put, List.setIfInBounds_toArray, List.set_cons_zero, List.set_cons_succ]
    refine wpAnyH_at 2 (some 42) (v := ?_) rfl rfl (by kernel_rfl) (by kernel_rfl) (by kernel_rfl) (fun _ _ _ h => h) (Or.inl ⟨by rfl, ?_⟩) hHeld ?_
    rotate_left
    · (intro W2 hSw; obtain ⟨j4, j5, j3, j7⟩ := hSw; go_simp; try with_reducible rfl)
    simp only [Act.put, List.setIfInBounds_toArray, List.set_cons_zero, List.set_cons_succ]
    refine wpAnyH_at 3 (some 43) (v := ?_) rfl rfl (by kernel_rfl) (by kernel_rfl) (by kernel_rfl) (fun _ _ _ h => h) (Or.inl ⟨by rfl, ?_⟩) hHeld ?_
    rotate_left
    · (intro W2 hSw; obtain ⟨j4, j5, j3, j7⟩ := hSw; go_simp; try with_reducible rfl)
    simp only [Act.put, List.setIfInBounds_toArray, List.set_cons_zero, List.set_cons_succ]
    refine wpAnyH_at 4 (some 44) (v := ?_) rfl rfl (by kernel_rfl) (by kernel_rfl) (by kernel_rfl) (fun _ _ _ h => h) (Or.inl ⟨by rfl, ?_⟩) hHeld ?_
    rotate_left
    · (intro W2 hSw; obtain ⟨j4, j5, j3, j7⟩ := hSw; go_simp; try with_reducible rfl)
    simp only [Act.put, List.setIfInBounds_toArray, List.set_cons_zero, List.set_cons_succ]
    refine wpAnyH_at 5 (some 45) (v := ?_) rfl rfl (by kernel_rfl) (by kernel_rfl) (by kernel_rfl) (fun _ _ _ h => h) (Or.inl ⟨by rfl, ?_⟩) hHeld ?_
    rotate_left
    · (intro W2 hSw; obtain ⟨j4, j5, j3, j7⟩ := hSw; go_simp; try with_reducible rfl)
    simp only [Act.put, List.setIfInBounds_toArray, List.set_cons_zero, List.set_cons_succ]
    refine wpAnyH_at 6 (some 46) (v := ?_) rfl rfl (by kernel_rfl) (by kernel_rfl) (by kernel_rfl) (fun _ _ _ h => h) (Or.inl ⟨by rfl, ?_⟩) hHeld ?_
    rotate_left
    · (intro W2 hSw; obtain ⟨j4, j5, j3, j7⟩ := hSw; go_simp; try with_reducible rfl)
    simp only [Act.put, List.setIfInBounds_toArray, List.set_cons_zero, List.set_cons_succ]
    refine wpAnyH_at 7 (some 47) (v := ?_) rfl rfl (by kernel_rfl) (by kernel_rfl) (by kernel_rfl) (fun _ _ _ h => h) (Or.inl ⟨by rfl, ?_⟩) hHeld ?_
    rotate_left
    · (intro W2 hSw; obtain ⟨j4, j5, j3, j7⟩ := hSw; go_simp; try with_reducible rfl)
    simp only [Act.put, List.setIfInBounds_toArray, List.set_cons_zero, List.set_cons_succ]
    refine wpAnyH_at 8 (some 48) (v := ?_) rfl rfl (by kernel_rfl) (by kernel_rfl) (by kernel_rfl) (fun _ _ _ h => h) (Or.inl ⟨by rfl, ?_⟩) hHeld ?_
    rotate_left
    · (intro W2 hSw; obtain ⟨j4, j5, j3, j7⟩ := hSw; go_simp; try with_reducible rfl)
    simp only [Act.put, List.setIfInBounds_toArray, List.set_cons_zero, List.set_cons_succ]
    refine wpAnyH_at 9 (some 49) (v := ?_) rfl rfl (by kernel_rfl) (by kernel_rfl) (by kernel_rfl) (fun _ _ _ h => h) (Or.inl ⟨by rfl, ?_⟩) hHeld ?_
    rotate_left
    · (intro W2 hSw; obtain ⟨j4, j5, j3, j7⟩ := hSw; go_simp; try with_reducible rfl)
    simp only [Act.put, List.setIfInBounds_toArray, List.set_cons_zero, List.set_cons_succ]
    refine wpAnyH_at 10 (some 50) (v := ?_) rfl rfl (by kernel_rfl) (by kernel_rfl) (by kernel_rfl) (fun _ _ _ h => h) (Or.inl ⟨by rfl, ?_⟩) hHeld ?_
    rotate_left
    · (intro W2 hSw; obtain ⟨j4, j5, j3, j7⟩ := hSw; go_simp; try with_reducible rfl)
    simp only [Act.put, List.setIfInBounds_toArray, List.set_cons_zero, List.set_cons_succ]
    refine wpAnyH_ready (rs := [11]) (by kernel_rfl) (by simp) ?_
    refine AllReadyH.cons rfl (fun K hK => ?_) AllReadyH.nil
    go_simp
    rw [if_neg (show ¬ p9 = k by have := HU.out; have := HV.out; omega), show v - k = n + 2 + 1 by have := HU.out; have := HV.out; omega]
    have hkr : k + (n + 2 + 1) ≤ rs.length := by rw [HRN.out]; omega
    have lk : (rs.take k).length = k := by rw [List.length_take]; omega
    have lp : ((rs.drop k).take (n + 2 + 1)).length = n + 2 + 1 := by rw [List.length_take, List.length_drop]; omega
    have hdr := (show Own W w.heap.size (.slice (some ⟨gd, 0, none⟩) ds.length p5) ds by rw [HLD.out]; exact hd).rowAt
    have ht := takeOut_any w.heap.size gr p9 (L0 + 1) (p9 - k) p5 n (rs.take k) ((rs.drop k).take (n + 2 + 1)) (rs.drop (k + (n + 2 + 1))) ds (some ⟨gd, 0, none⟩) W.drew (by rw [M.split3]; exact hr) lp (by have := HRN.out; omega) (by omega)
      ⟨hdr.room, hdr.most, hdr.el⟩ HLD.out (by intro b off e; cases e; exact x6) ((hlr.drop k).take _) HLIMD.out htopd (by rw [HPP.out]; exact plt)
    rw [lk] at ht
    refine ht.mono ?_
    clear ht
    rintro e W2 ⟨ts, rfl, hts, hlt2, hvt, ho2, hg2⟩
    have hg2' : W.grownBy W2 (some gr) := ⟨hg2.os, hg2.tape, hg2.output, hg2.size, hg2.block⟩
    have g4 := cell_grown hg2' (show (w.heap.size + 1 : Nat) ≠ gr from x1.symm) h4
    have g5 := cell_grown hg2' (show (w.heap.size + 1 + 1 : Nat) ≠ gr from x2.symm) h5
    have g3 := cell_grown hg2' (show (w.heap.size : Nat) ≠ gr from x3.symm) h3
    have g7 := cell_grown hg2' (show (q7 : Nat) ≠ gr from x4.symm) h7
    have gf4 := frozen_grown hg2' (show (w.heap.size + 1 : Nat) ≠ gr from x1.symm) h4 f4
    have gf5 := frozen_grown hg2' (show (w.heap.size + 1 + 1 : Nat) ≠ gr from x2.symm) h5 f5
    have gbx := cell_grown hg2' (show (bs : Nat) ≠ gr from x5.symm) hbx
    have hq2 := hq.grownAt hg2' x7
    have hd2 := hd.grownAt hg2' x6
    obtain ⟨_, e', _, _, _, _, ck, fk⟩ := hq2.at2 k (by rw [HQN.out]; exact hk)
    cases e'
    obtain ⟨st1, st2⟩ := M.long_step hkr (by rw [HQN.out]; exact hk) hts hD0 HP0.out HPP.out hvt HA.out
    have hkeep : KeepsFrom W11.heap.size W W2 := KeepsFrom.of_grownBy hg2' (fun j e => by cases e; exact z1)
    have hqd : 0 ≤ M.val ((rs.drop k).take (n + 2 + 1)) / M.val ds ∧ M.val ((rs.drop k).take (n + 2 + 1)) / M.val ds < 16777216 := by
      rw [HPP.out]
      exact ⟨Int.ediv_nonneg (M.val_nonneg (hlr.drop k)) (Int.le_of_lt hD0), Int.ediv_lt_of_lt_mul hD0 (by rw [Int.mul_comm]; exact plt)⟩
    obtain ⟨qk, hqk⟩ : ∃ qk, M.val ((rs.drop k).take (n + 2 + 1)) / M.val ds = qk := ⟨_, rfl⟩
    rw [hqk] at st1 hqd ⊢
    have HST := Lib.hid (And.intro st1 st2)
    have HHK := Lib.hid hkeep
    have hkm : (k : Int) < (m : Int) + 1 := by omega
    clear hHeld hqk st1 st2 hkeep h4 h5 h3 h7 f4 f5 hbx hq hd hg2 hr hvt
    refine hK.out _ _ ⟨g4, g5, g3, g7⟩ (fun hHeld => ?_)
    try simp only [Act.put, List.setIfInBounds_toArray, List.set_cons_zero, List.set_cons_succ]
    refine wpAnyH_at 12 (some 52) (v := ?_) rfl rfl (by kernel_rfl) (by kernel_rfl) (by kernel_rfl) (fun _ _ _ h => h) (Or.inl ⟨by rfl, ?_⟩) hHeld ?_
    rotate_left
    · (intro W2 hSw; obtain ⟨j4, j5, j3, j7⟩ := hSw; go_simp; try with_reducible rfl)
    simp only [Act.put, List.setIfInBounds_toArray, List.set_cons_zero, List.set_cons_succ]
    refine wpAnyH_ready (rs := [13]) (by kernel_rfl) (by simp) ?_
    refine AllReadyH.cons rfl (fun K hK => ?_) AllReadyH.nil
    go_simp
    have hqs : Own (W2.setCell ⟨gq, k, none⟩ (.int .i64 qk)) w.heap.size (.slice (some ⟨gq, 0, none⟩) (m + 1) (m + 1)) (qs.set k qk) := by
      have := (show Own W2 w.heap.size (.slice (some ⟨gq, 0, none⟩) qs.length (m + 1)) qs by rw [HQN.out]; exact hq2).set k qk
      rw [HQN.out] at this
      exact this
    have hkql : k < qs.length := by rw [HQN.out]; exact hk
    refine hK.out _ _ ⟨(cell_other _ (show (w.heap.size + 1 : Nat) ≠ gq from x8.symm)).trans g4, (cell_other _ (show (w.heap.size + 1 + 1 : Nat) ≠ gq from x9.symm)).trans g5, (cell_other _ (show (w.heap.size : Nat) ≠ gq from y3.symm)).trans g3, (cell_other _ (show (q7 : Nat) ≠ gq from y4.symm)).trans g7⟩ (fun _ => wpAnyH_done (by kernel_rfl) ?_ _)
    refine ⟨HHK.out.trans ((KeepsOthers.setCell _ _ _).from _), ⟨⟨(cell_other _ (show (w.heap.size + 1 : Nat) ≠ gq from x8.symm)).trans g4, (cell_other _ (show (w.heap.size + 1 + 1 : Nat) ≠ gq from x9.symm)).trans g5, (cell_other _ (show (w.heap.size : Nat) ≠ gq from y3.symm)).trans g3, (cell_other _ (show (q7 : Nat) ≠ gq from y4.symm)).trans g7⟩,
      (World.frozen?_setCell _ _ _ _).trans gf4, (World.frozen?_setCell _ _ _ _).trans gf5, (cell_other _ (show (bs : Nat) ≠ gq from y5.symm)).trans gbx⟩, qs.set k qk, rs.take k ++ ts ++ rs.drop (k + (n + 2 + 1)), hqs, ho2.other _ (by simp [Value.ownBlock]; exact y7), hd2.other _ (by simp [Value.ownBlock]; exact y6), hlq.set _ hqd.1 hqd.2, ((hlr.take k).append hlt2).append (hlr.drop _), by rw [List.length_set]; exact HQN.out,
      by have := HRN.out; simp only [List.length_append, List.length_drop, lk, hts]; omega, fun j hj => by rw [M.el_set _ _ _ _ hkql, if_neg (by omega)]; exact hz j (by omega), HST.out.1, HST.out.2, ?_⟩
    exact (hB.trans ((Below.refl w.heap.size W).grown hg2' hB.size (fun j e => by cases e; exact z3))).setCell (p := ⟨gq, k, none⟩) z2 _
  case done =>
    rintro D W hD ⟨⟨⟨h4, h5, _, _⟩, f4, f5, _⟩, qs, rs, hq, hr, _, hlq, hlr, hqn, hrn, _, hA, hlt, hB⟩ hK
    rw [Int.pow_zero, Int.mul_one, List.drop_zero] at hA
    rw [List.drop_zero] at hlt
    rw [← HAF.out, HVD.out] at hA
    rw [HVD.out] at hlt
    have HE := Lib.hid (M.long_end k3 hlr hA hlt)
    have hsh := shrink_any w.heap.size (some ⟨gr, 0, none⟩) p9 rs F W k3 (by omega) hlr (by rw [hrn]; exact hr)
    rw [hrn] at hsh
    have HSH := Lib.hid hsh
    have HQN := Lib.hid hqn
    have HRN := Lib.hid hrn
    have HQ := Lib.hid hq
    have HB := Lib.hid hB
    have HKD := Lib.hid hK
    clear hA hlt hsh hqn hrn hq hr hB hK HI0
    go_wp2_with fail
    refine HSH.out.mono ?_
    rintro e W2 ⟨rfl, ho2, hg2⟩
    have g4 := cell_grown hg2 (show (w.heap.size + 1 : Nat) ≠ gr from x1.symm) h4
    have g5 := cell_grown hg2 (show (w.heap.size + 1 + 1 : Nat) ≠ gr from x2.symm) h5
    have gf4 := frozen_grown hg2 (show (w.heap.size + 1 : Nat) ≠ gr from x1.symm) h4 f4
    have gf5 := frozen_grown hg2 (show (w.heap.size + 1 + 1 : Nat) ≠ gr from x2.symm) h5 f5
    have hq2 := HQ.out.grownAt hg2 x7
    have hK2 : W2.heap[D]? = some (.deferred (some [])) := (hg2.block D (Array.getElem?_eq_some_iff.1 HKD.out).1 (by intro e; have h1 : D = gr := Option.some.inj e; have h2 : W11.heap.size ≤ D := hD; omega)).trans HKD.out
    have hB2 := HB.out.trans ((Below.refl w.heap.size W).grown hg2 HB.out.size (fun j e => by cases e; exact z3))
    have HQ2 := Lib.hid hq2
    have HO2 := Lib.hid ho2
    have HK2 := Lib.hid hK2
    have HB2 := Lib.hid hB2
    clear hq2 ho2 hK2 hB2 hg2 h4 h5 f4 f5
    go_wp2_with fail
    go_region
    go_wp2_with fail
    have hKa := (((KeepsOthers.setCell W2 ⟨w.heap.size + 1, 0, none⟩ (.slice (some ⟨gq, 0, none⟩) (m + 1) (m + 1))).trans (KeepsOthers.setCell _ ⟨w.heap.size + 1 + 1, 0, none⟩ (.slice (some ⟨gr, 0, none⟩) (L0 + 1) p9))).trans (KeepsOthers.drew _)).same D _ HK2.out rfl
    refine ⟨by simp, .inl ⟨_, _, rfl, run_takeDeferred hKa, ?_⟩⟩
    have u4 := World.cell?_setCell_same' W2 ⟨w.heap.size + 1, 0, none⟩ (.slice (some ⟨gq, 0, none⟩) (m + 1) (m + 1)) (by rw [g4]; rfl)
    have u5 := World.cell?_setCell_same' (W2.setCell ⟨w.heap.size + 1, 0, none⟩ (.slice (some ⟨gq, 0, none⟩) (m + 1) (m + 1))) ⟨w.heap.size + 1 + 1, 0, none⟩ (.slice (some ⟨gr, 0, none⟩) (L0 + 1) p9) (by rw [cell_other _ (by simp), g5]; rfl)
    have u4' := (cell_other (W := W2.setCell ⟨w.heap.size + 1, 0, none⟩ (.slice (some ⟨gq, 0, none⟩) (m + 1) (m + 1))) (p := ⟨w.heap.size + 1 + 1, 0, none⟩) (a := ⟨w.heap.size + 1, 0, none⟩) (.slice (some ⟨gr, 0, none⟩) (L0 + 1) p9) (by simp)).trans u4
    have hq3 := (HQ2.out.other (p := ⟨w.heap.size + 1, 0, none⟩) (.slice (some ⟨gq, 0, none⟩) (m + 1) (m + 1)) (by simp [Value.ownBlock]; exact x8)).other (p := ⟨w.heap.size + 1 + 1, 0, none⟩) (.slice (some ⟨gr, 0, none⟩) (L0 + 1) p9) (by simp [Value.ownBlock]; exact x9)
    have hr3 := (HO2.out.other (p := ⟨w.heap.size + 1, 0, none⟩) (.slice (some ⟨gq, 0, none⟩) (m + 1) (m + 1)) (by simp [Value.ownBlock]; exact x1)).other (p := ⟨w.heap.size + 1 + 1, 0, none⟩) (.slice (some ⟨gr, 0, none⟩) (L0 + 1) p9) (by simp [Value.ownBlock]; exact x2)
    have hB3 := belowN ((HB2.out.setCell (p := ⟨w.heap.size + 1, 0, none⟩) (by simp) (.slice (some ⟨gq, 0, none⟩) (m + 1) (m + 1))).setCell (p := ⟨w.heap.size + 1 + 1, 0, none⟩) (by simp; omega) (.slice (some ⟨gr, 0, none⟩) (L0 + 1) p9)) 1
    have u4d : ((W2.setCell ⟨w.heap.size + 1, 0, none⟩ (.slice (some ⟨gq, 0, none⟩) (m + 1) (m + 1))).setCell ⟨w.heap.size + 1 + 1, 0, none⟩ (.slice (some ⟨gr, 0, none⟩) (L0 + 1) p9)).drew.cell? ⟨w.heap.size + 1, 0, none⟩ = some (.slice (some ⟨gq, 0, none⟩) (m + 1) (m + 1)) := u4'
    have u5d : ((W2.setCell ⟨w.heap.size + 1, 0, none⟩ (.slice (some ⟨gq, 0, none⟩) (m + 1) (m + 1))).setCell ⟨w.heap.size + 1 + 1, 0, none⟩ (.slice (some ⟨gr, 0, none⟩) (L0 + 1) p9)).drew.cell? ⟨w.heap.size + 1 + 1, 0, none⟩ = some (.slice (some ⟨gr, 0, none⟩) (L0 + 1) p9) := u5
    have hq4 : Own ((W2.setCell ⟨w.heap.size + 1, 0, none⟩ (.slice (some ⟨gq, 0, none⟩) (m + 1) (m + 1))).setCell ⟨w.heap.size + 1 + 1, 0, none⟩ (.slice (some ⟨gr, 0, none⟩) (L0 + 1) p9)).drew w.heap.size (.slice (some ⟨gq, 0, none⟩) (m + 1) (m + 1)) qs := hq3
    have hr4 : Own ((W2.setCell ⟨w.heap.size + 1, 0, none⟩ (.slice (some ⟨gq, 0, none⟩) (m + 1) (m + 1))).setCell ⟨w.heap.size + 1 + 1, 0, none⟩ (.slice (some ⟨gr, 0, none⟩) (L0 + 1) p9)).drew w.heap.size (.slice (some ⟨gr, 0, none⟩) (L0 + 1) p9) (M.shr (F : Int) rs).2 := hr3
    have hB4 : Below w.heap.size w ((W2.setCell ⟨w.heap.size + 1, 0, none⟩ (.slice (some ⟨gq, 0, none⟩) (m + 1) (m + 1))).setCell ⟨w.heap.size + 1 + 1, 0, none⟩ (.slice (some ⟨gr, 0, none⟩) (L0 + 1) p9)).drew := hB3
    clear hq3 hr3 hB3 u4 u5 u4' g4 g5 gf4 gf5 HQ2 HO2 HK2 HB2
    generalize ((W2.setCell ⟨w.heap.size + 1, 0, none⟩ (.slice (some ⟨gq, 0, none⟩) (m + 1) (m + 1))).setCell ⟨w.heap.size + 1 + 1, 0, none⟩ (.slice (some ⟨gr, 0, none⟩) (L0 + 1) p9)).drew = W3 at *
    have v4 := cell_kept u4d (grownBy_putObj' _ D (.deferred none)) (fun r e => by cases e; exact ⟨_, hKa, rfl⟩)
    have v5 := cell_kept u5d (grownBy_putObj' _ D (.deferred none)) (fun r e => by cases e; exact ⟨_, hKa, rfl⟩)
    have hq5 := ownFrom_own (B0 := 0) (fun (_ : Unit) => qs) () _ _ _ hq4 (grownBy_putObj' _ D (.deferred none)) (fun r e => by cases e; exact ⟨Nat.zero_le _, _, hKa, rfl⟩)
    have hr5 := ownFrom_own (B0 := 0) (fun (_ : Unit) => (M.shr (F : Int) rs).2) () _ _ _ hr4 (grownBy_putObj' _ D (.deferred none)) (fun r e => by cases e; exact ⟨Nat.zero_le _, _, hKa, rfl⟩)
    have hsl : (M.shr (F : Int) rs).2.length = L0 + 1 := by rw [M.shr_len, HRN.out]
    refine ⟨.tuple #[.slice (some ⟨gq, 0, none⟩) (m + 1) (m + 1), .slice (some ⟨gr, 0, none⟩) (L0 + 1) p9], ?_, some ⟨gq, 0, none⟩, m + 1, qs, some ⟨gr, 0, none⟩, p9, (M.shr (F : Int) rs).2, ?_, ?_, ?_, hlq, M.shr_lim _ (by omega) hlr, HE.out.1, HE.out.2, hq5.fresh, hr5.fresh, ?_⟩
    · simp [results, Tryd.f108, go_sem, v4, v5]
    · rw [HQN.out, hsl]
    · exact (show Own _ w.heap.size (.slice (some ⟨gq, 0, none⟩) qs.length (m + 1)) qs by rw [HQN.out]; exact hq5).rowAt
    · exact (show Own _ w.heap.size (.slice (some ⟨gr, 0, none⟩) (M.shr (F : Int) rs).2.length p9) (M.shr (F : Int) rs).2 by rw [hsl]; exact hr5).rowAt
    · exact hB4.trans (belowK_b (w := w) (Nat.le_refl _) W3 D _ _ (by have h2 : W11.heap.size ≤ D := hD; omega) hKa rfl rfl)
  case stop =>
    rintro D c k W _ _ h _
    exact h.elim
end Go.Proofs.YtamniclnhenmgaaDoor
