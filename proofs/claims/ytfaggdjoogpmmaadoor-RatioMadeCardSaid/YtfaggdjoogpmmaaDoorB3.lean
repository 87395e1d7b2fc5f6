/- Regions that draw their order inside a round of a range over a function: the laws of the plain walk serve there, where no operation defers. No program is named here. nat.divideLong: long division by a number of two limbs or more. slices.Clone of any slice of ints; nat.divideLimbs. nat.Valid. nat.Add. nat.Divide and nat.Gcd. nat.Gcd. -/
import Derived.Test.YtfaggdjoogpmmaaDoorB2
import Derived.RangeFuncCalls
import Derived.OrdersHeld
import Derived.Deep.RegionHeld
import Derived.OrdersIn
import Derived.BigRegionIn
import Derived.Deep.RegionHeld3
namespace Go.Proofs.YtfaggdjoogpmmaaDoor
open Go

/-- No operation of the region defers a call. -/
def noDefer (ops : Array Oper) : Bool := ops.all fun o => match o.op with | .defer _ => false | _ => true
theorem noDefer_at {ops : Array Oper} (h : noDefer ops = true) {i : Nat} {o : Oper} (ho : ops[i]? = some o) : ∀ c, o.op ≠ .defer c := by
  intro c e
  have h1 := Array.all_eq_true_iff_forall_mem.1 h o (Array.mem_of_getElem? ho)
  simp [e] at h1

theorem oper_round {P : Program} {n l : Nat} {o : Oper} {a : Act} {w : World} {K : Act → World → Prop} {Q : Exit → Act → World → Prop} (hd : ∀ c, o.op ≠ .defer c) (h : o.wp P a w K Q) :
    o.wpIn (Fence.wide.inRound l) n P a w K Q := by
  unfold Oper.wp at h
  unfold Oper.wpIn
  refine ⟨fun f _ => trivial, ?_⟩
  rw [Oper.semAt_eq _ _ _ hd]
  generalize (execOp a.eval o).run P w = r at *
  cases r with
  | ok x w' =>
    cases x with
    | value v => exact h
    | skip => exact h
    | defer d => exact h
    | enter f args => exact ⟨(fun h => (by cases h)), callsIn_wide.2 h⟩
    | row row args =>
      refine ⟨(fun h => (by cases h)), fun c cs _ => ?_⟩
      obtain ⟨v, w', r, s⟩ := h c cs
      exact ⟨v, w', r, stepsIn_wide.2 s⟩
    | _ => exact absurd h (by simp [Oper.upon])
  | halt x w' => cases x <;> first | exact h | exact absurd h (by simp [Oper.upon])

theorem wpOp_round {P : Program} {n l : Nat} {ops : Array Oper} {Q : Exit → Act → World → Prop} (hd : noDefer ops = true) (hout : ¬ LetsOut Q) {i : Nat} {K : Act → World → Prop} {a : Act} {w : World} (h : wpOp P ops Q i K a w) :
    wpOpIn (Fence.wide.inRound l) n P ops Q i K a w := by
  unfold wpOp at h
  unfold wpOpIn
  cases ho : ops[i]? with
  | none => rw [ho] at h; exact h
  | some o =>
    rw [ho] at h
    simp only at h ⊢
    by_cases hw : Region.wanted o (yielded ops a.tmps) = true
    · rw [if_pos hw] at h ⊢
      rcases h with h | ⟨_, h⟩
      · exact oper_round (noDefer_at hd ho) h
      · exact absurd h hout
    · rw [if_neg hw] at h ⊢
      exact ⟨fun f _ => trivial, h⟩

theorem wpAny_round {P : Program} {n l : Nat} {md : Region.Mode} {ops : Array Oper} {Q : Exit → Act → World → Prop} (hd : noDefer ops = true) (hout : ¬ LetsOut Q) :
    ∀ (fuel : Nat) (listed : Array Bool) (a : Act) (w : World), wpAny P md ops Q fuel listed a w → wpAnyIn (Fence.wide.inRound l) n P md ops Q fuel listed a w
  | 0, _, _, _, h => h
  | fuel + 1, _, _, _, h => ⟨h.1, fun i hi => wpOpIn_mono (fun a' w' h' => wpAny_round hd hout fuel _ a' w' h') (wpOp_round hd hout (h.2 i hi))⟩

/-- A region in a round, by the plain walk's law. -/
theorem wpIn_region_round {P : Program} {n l id : Nat} {ops : Array Oper} {Q : Exit → Act → World → Prop} {a : Act} {w : World} (hm : P.follows .mixedOrders = true) (hd : noDefer ops = true) (hout : ¬ LetsOut Q)
    (h : wpAny P .any ops Q ops.size (Array.replicate ops.size false) a w.drew) : (Code.region id ops true).wpIn (Fence.wide.inRound l) n P Q a w :=
  wpIn_region_any hm (wpAny_round hd hout _ _ _ _ h)

/-- .. and with cells that the operations read held. -/
theorem wpIn_region_held {P : Program} {n l id : Nat} {ops : Array Oper} {Q : Exit → Act → World → Prop} {S : World → Prop} {a : Act} {w : World} (hm : P.follows .mixedOrders = true) (hd : noDefer ops = true) (hout : ¬ LetsOut Q) (hS : S w.drew)
    (h : S w.drew → wpAnyH P .any ops Q S ops.size (Array.replicate ops.size false) a w.drew) : (Code.region id ops true).wpIn (Fence.wide.inRound l) n P Q a w :=
  wpIn_region_round hm hd hout (wpAny_of_held _ _ _ _ (h hS))

/-- An operation that is taken first, its slot named: so the state behind it can be laid out anew. -/
theorem wpAnyH_at {P : Program} {md : Region.Mode} {ops : Array Oper} {Q : Exit → Act → World → Prop} {S : World → Prop} (i : Nat) (d : Option Tmp) {oi : Oper} {v : Value} {fuel : Nat} {listed : Array Bool} {a : Act} {w : World} (hi : ops[i]? = some oi) (hd : oi.dst = d)
    (hs : Region.noSelect ops = true) (hf : Region.free md ops listed i = true) (hr : (Region.ready md ops listed).contains i = true)
    (hQ : ∀ c a w, Q (.panic c) (a.put d v) w → Q (.panic c) a w) (hy : YieldsIf P ops S oi v a) (hS : S w)
    (h : wpAnyH P md ops Q S fuel (listed.setIfInBounds i true) (a.put d v) w) : wpAnyH P md ops Q S (fuel + 1) listed a w := by
  subst hd
  exact wpAnyH_take hi hs hf hr hQ hy hS h
end Go.Proofs.YtfaggdjoogpmmaaDoor

namespace Go.Proofs.YtfaggdjoogpmmaaDoor
open Go Go.RowKit Go.Shelf
attribute [local go_sem] Oper.semAt_some

/-- What is read at a lies in memory made from block B on. -/
def Fresh (B : Nat) (a : Option Addr) (zs : List Int) : Prop := ∀ b off, a = some ⟨b, off, none⟩ → 0 < zs.length → B ≤ b
theorem Own.fresh {W : World} {B n cap : Nat} {a : Option Addr} {zs : List Int} (h : Own W B (.slice a n cap) zs) : Fresh B a zs := by
  intro b off e hl
  obtain ⟨g, e2, hB, _⟩ := h.at2 0 hl
  rw [e] at e2
  cases e2
  exact hB
theorem Row.setFresh {W : World} {B cap : Nat} {a : Option Addr} {zs : List Int} (h : Row W a zs cap) (hf : Fresh B a zs) {p : Addr} (hp : p.block < B) (v : Value) : Row (W.setCell p v) a zs cap :=
  ⟨h.room, h.most, fun j hj => by
    obtain ⟨b, off, e, hc⟩ := h.el j hj
    have hb := hf b off e (by omega)
    exact ⟨b, off, e, (cell_other v (show b ≠ p.block by omega)).trans hc⟩⟩

def LongPost (w : World) (xs ys : List Int) (e : Ending) (W : World) : Prop :=
  ∃ a1 c1 qs a2 c2 rs, e = .returned (.tuple #[.slice a1 qs.length c1, .slice a2 rs.length c2]) ∧ Row W a1 qs c1 ∧ Row W a2 rs c2 ∧ M.Lim qs ∧ M.Lim rs ∧
    M.val qs = M.val xs / M.val ys ∧ M.val rs = M.val xs % M.val ys ∧ Fresh w.heap.size a1 qs ∧ Fresh w.heap.size a2 rs ∧ Below w.heap.size w W

theorem cell_below {w W : World} {p : Addr} {v : Value} (hb : Below w.heap.size w W) (h : w.cell? p = some v) : W.cell? p = some v := (hb.cell (lt_of_cell h)).trans h
theorem frozen_below {w W : World} {p : Addr} {v : Value} {t : Bool} (hb : Below w.heap.size w W) (h : w.cell? p = some v) (hf : w.frozen? p = t) : W.frozen? p = t := (hb.frozen (lt_of_cell h)).trans hf

theorem Own.belowAt {W W' : World} {B B0 g L cap : Nat} {zs : List Int} (h : Own W B (.slice (some ⟨g, 0, none⟩) L cap) zs) (hg : g < B0) (hb : Below B0 W W') : Own W' B (.slice (some ⟨g, 0, none⟩) L cap) zs := by
  refine ⟨h.1, ?_⟩
  rcases h.2 with hn | ⟨g', cap', cur, hv, hB, hgg, rest⟩
  · exact .inl hn
  · refine .inr ⟨g', cap', cur, hv, hB, ?_, rest⟩
    cases hv
    rw [hb.block _ hg]
    exact hgg
theorem Own.grownAt {W W' : World} {B g r L cap : Nat} {zs : List Int} (h : Own W B (.slice (some ⟨g, 0, none⟩) L cap) zs) (hg : W.grownBy W' (some r)) (hne : g ≠ r) : Own W' B (.slice (some ⟨g, 0, none⟩) L cap) zs :=
  World.ownsRow.kept h hg (.inr (by intro e; cases e; exact hne rfl))
theorem cell_grown {W W' : World} {r : Nat} {a : Addr} {v : Value} (hg : W.grownBy W' (some r)) (hne : a.block ≠ r) (h : W.cell? a = some v) : W'.cell? a = some v :=
  (World.cell?_of_block (hg.block a.block (lt_of_cell h) (by intro e; cases e; exact hne rfl))).trans h
theorem frozen_grown {W W' : World} {r : Nat} {a : Addr} {v : Value} {t : Bool} (hg : W.grownBy W' (some r)) (hne : a.block ≠ r) (h : W.cell? a = some v) (hf : W.frozen? a = t) : W'.frozen? a = t :=
  (World.frozen?_of_block (hg.block a.block (lt_of_cell h) (by intro e; cases e; exact hne rfl))).trans hf

/-- What holds in divideLong's loop when k places are still to come. -/
def LongI (w : World) (p7 gq gr gd bb bo n m L pr pd cb bs : Nat) (ds : List Int) (A : Int) (k : Nat) (W : World) : Prop :=
  ((W.cell? ⟨w.heap.size + 1, 0, none⟩ = some (.slice (some ⟨gq, 0, none⟩) (m + 1) (m + 1)) ∧ W.cell? ⟨w.heap.size + 1 + 1, 0, none⟩ = some (.slice (some ⟨gr, 0, none⟩) L pr) ∧
    W.cell? ⟨w.heap.size, 0, none⟩ = some (.slice (some ⟨bb, bo, none⟩) (n + 2) cb) ∧ W.cell? ⟨p7, 0, none⟩ = some (.slice (some ⟨gd, 0, none⟩) (n + 2) pd)) ∧
    W.frozen? ⟨w.heap.size + 1, 0, none⟩ = false ∧ W.frozen? ⟨w.heap.size + 1 + 1, 0, none⟩ = false ∧ W.cell? ⟨bs, 0, none⟩ = some (.slice (some ⟨gq, 0, none⟩) (m + 1) (m + 1))) ∧
  ∃ qs rs, Own W w.heap.size (.slice (some ⟨gq, 0, none⟩) (m + 1) (m + 1)) qs ∧ Own W w.heap.size (.slice (some ⟨gr, 0, none⟩) L pr) rs ∧ Own W w.heap.size (.slice (some ⟨gd, 0, none⟩) (n + 2) pd) ds ∧ M.Lim qs ∧ M.Lim rs ∧
    qs.length = m + 1 ∧ rs.length = L ∧ (∀ j : Nat, j < k → M.el qs j = 0) ∧ A = M.val rs + M.val ds * 16777216 ^ k * M.val (qs.drop k) ∧ M.val (rs.drop k) < M.val ds ∧ Below w.heap.size w W

theorem longI_own {w : World} {p7 gq gr gd bb bo n m L pr pd cb bs : Nat} {ds : List Int} {A : Int} {B0 : Nat} (hB0 : w.heap.size ≤ B0) : OwnFrom B0 (LongI w p7 gq gr gd bb bo n m L pr pd cb bs ds A) := by
  refine OwnFrom.and (Own.from (fun _ _ _ _ hs hg hr => ⟨⟨cell_kept hs.1.1 hg hr, cell_kept hs.1.2.1 hg hr, cell_kept hs.1.2.2.1 hg hr, cell_kept hs.1.2.2.2 hg hr⟩, (frozen_kept hs.1.1 hg hr).trans hs.2.1, (frozen_kept hs.1.2.1 hg hr).trans hs.2.2.1, cell_kept hs.2.2.2 hg hr⟩) _) ?_
  rintro s W W' row ⟨qs, rs, h1, h2, h3, h4⟩ hg hr
  refine ⟨qs, rs, ownFrom_own (B0 := B0) (fun (_ : Unit) => qs) () _ _ _ h1 hg hr, ownFrom_own (B0 := B0) (fun (_ : Unit) => rs) () _ _ _ h2 hg hr, ownFrom_own (B0 := B0) (fun (_ : Unit) => ds) () _ _ _ h3 hg hr, h4.1, h4.2.1, h4.2.2.1, h4.2.2.2.1, h4.2.2.2.2.1, h4.2.2.2.2.2.1, h4.2.2.2.2.2.2.1, ?_⟩
  exact ownFrom_below (β := Unit) (Nat.le_refl _) hB0 () _ _ _ h4.2.2.2.2.2.2.2 hg hr

set_option maxRecDepth 100000 in
set_option maxHeartbeats 1000000 in
theorem divideLong_any (a b : Option Addr) (ca cb : Nat) (xs ys : List Int) (n m : Nat) (w : World) (hla : xs.length = n + 2 + m) (hlb : ys.length = n + 2) (hx : M.Lim xs) (hy : M.Lim ys) (htop : 0 < M.el ys (n + 1))
    (hsz : n + 2 + m < 10000) (hA : Row w a xs ca) (hB : Row w b ys cb) :
    Calls Tryd.prog 108 #[.slice a (n + 2 + m) ca, .slice b (n + 2) cb] w (LongPost w xs ys) := by
  have hB3 : Below w.heap.size w (((w.alloc (.cells #[.slice b (n + 2) cb] 22)).alloc (.cells #[.slice none 0 0] 22)).alloc (.cells #[.slice none 0 0] 22)) := (((Below.refl _ w).alloc (Nat.le_refl _) _).alloc (by simp) _).alloc (by simp; omega) _
  obtain ⟨bb, bo, rfl, hc0⟩ := hB.el (n + 1) (by omega)
  have hel := hy.get (n + 1)
  obtain ⟨t, ht⟩ : ∃ t, M.el ys (n + 1) = t := ⟨_, rfl⟩
  rw [ht] at hc0 hel htop
  obtain ⟨T, rfl⟩ := Int.eq_ofNat_of_zero_le hel.1
  obtain ⟨l, hl⟩ : ∃ l, Lib.bitLen T = l := ⟨_, rfl⟩
  obtain ⟨k1, k2, k3, k4, k5, k6⟩ := M.norm_factor T l hl (by omega) (by omega)
  have hbl := fun W : World => bitsLen_any (T : Int) W (by omega) (by omega)
  rw [Int.toNat_natCast, hl] at hbl
  obtain ⟨F, hF⟩ : ∃ F : Nat, 2 ^ (24 - l) = F := ⟨_, rfl⟩
  rw [hF] at k3 k4 k5 k6
  have c1 := (hB3.cell (p := ⟨bb, bo + (n + 1), none⟩) (lt_of_cell hc0)).trans hc0
  have HBL := Lib.hid hbl
  have HF := Lib.hid hF
  have hrb := hB.room
  have hmb := hB.most
  rw [hlb] at hrb
  have hra := hA.room
  have hma := hA.most
  rw [hla] at hra
  have HB3 := Lib.hid hB3
  have HA := Lib.hid hA
  have HB := Lib.hid hB
  have HX := Lib.hid hx
  have HY := Lib.hid hy
  have HT := Lib.hid ht
  have HLA := Lib.hid hla
  have HLB := Lib.hid hlb
  clear hB3 hA hB hx hy ht hla hlb hc0 hbl hF hl
  refine (callsIn_wide (n := 6)).1 ?_
  refine callsIn_of_wp_marks Tryd.func108 rfl trivial ?_ rfl
  refine wpIn_wide.2 ?_
  simp only [Tryd.ntmps108, List.size_toArray, List.length_cons, List.length_nil, Nat.reduceAdd, Nat.reduceSub, Array.replicate_succ, Array.replicate_zero, List.push_toArray, List.append_toArray, List.nil_append, List.cons_append]
  go_wp2_with fail
  refine (HBL.out _).mono ?_
  rintro e w' ⟨rfl, rfl⟩
  go_wp2_with fail
  have hw64 : wrap64 ((2 : Int) ^ (24 - l)) = (F : Int) := by
    have h1 := HF.out
    have h2 : ((2 ^ (24 - l) : Nat) : Int) = (2 : Int) ^ (24 - l) := by rw [Int.natCast_pow]; rfl
    rw [← h2, h1]; unfold wrap64; omega
  rw [hw64]
  clear hw64 c1
  have d0 := cell_new w (.slice (some ⟨bb, bo, none⟩) (n + 2) cb) 22
  have d1 := cell_new (w.alloc (.cells #[.slice (some ⟨bb, bo, none⟩) (n + 2) cb] 22)) (.slice none 0 0) 22
  have f1 := frozen_new (w.alloc (.cells #[.slice (some ⟨bb, bo, none⟩) (n + 2) cb] 22)) (.slice none 0 0) 22
  have d2 := cell_new ((w.alloc (.cells #[.slice (some ⟨bb, bo, none⟩) (n + 2) cb] 22)).alloc (.cells #[.slice none 0 0] 22)) (.slice none 0 0) 22
  have f2 := frozen_new ((w.alloc (.cells #[.slice (some ⟨bb, bo, none⟩) (n + 2) cb] 22)).alloc (.cells #[.slice none 0 0] 22)) (.slice none 0 0) 22
  simp only [World.size_alloc] at d1 f1 d2 f2
  have HC3 := Lib.hid (And.intro (cell_later (.cells #[.slice none 0 0] 22) (cell_later (.cells #[.slice none 0 0] 22) d0)) (And.intro (cell_later (.cells #[.slice none 0 0] 22) d1) (And.intro (frozen_later (.cells #[.slice none 0 0] 22) d1 f1) (And.intro d2 f2))))
  clear d0 d1 f1 d2 f2
  have HB' := Lib.hid (HB.out.below HB3.out)
  have HA' := Lib.hid (HA.out.below HB3.out)
  have hs3 : (((w.alloc (.cells #[.slice (some ⟨bb, bo, none⟩) (n + 2) cb] 22)).alloc (.cells #[.slice none 0 0] 22)).alloc (.cells #[.slice none 0 0] 22)).heap.size = w.heap.size + 3 := by simp
  generalize (((w.alloc (.cells #[.slice (some ⟨bb, bo, none⟩) (n + 2) cb] 22)).alloc (.cells #[.slice none 0 0] 22)).alloc (.cells #[.slice none 0 0] 22)) = w3 at *
  clear HB HA
  have hcl := clone_any _ ys cb w3 HB'.out (by rw [HLB.out]; omega) (by rw [HLB.out]; omega)
  rw [HLB.out] at hcl
  refine hcl.mono ?_
  clear hcl
  rintro e w4 ⟨a4, p4, rfl, ho4, hb4⟩
  have hsc := scale_full w3.heap.size a4 p4 ys F 0 w4 hb4.size k4 (by omega) HY.out (by rw [HLB.out]; omega) (by rw [HLB.out]; exact ho4)
  rw [HLB.out] at hsc
  have HSC := Lib.hid hsc
  have HB4 := Lib.hid hb4
  clear hsc hb4 ho4
  go_wp2_with fail
  refine HSC.out.mono ?_
  rintro e w5 ⟨a5, p5, ds, rfl, ho5, hb5, hlimd, _, hvd, hld⟩
  have hvd2 : M.val ds = M.val ys * (F : Int) := by rw [hvd]; simp
  obtain ⟨hld, htopd⟩ := M.scaled_divisor (F := F) HLB.out HY.out hlimd hvd2 (by rw [HT.out, ← Int.natCast_mul]; omega) (by rw [HT.out, show ((T : Int) + 1) = ((T + 1 : Nat) : Int) from rfl, ← Int.natCast_mul]; omega) hld
  rw [hld] at ho5 ⊢
  obtain ⟨gd, rfl, hgd1, hgd2, _⟩ := ho5.at2 0 (by omega)
  have HLD := Lib.hid hld
  have HVD := Lib.hid hvd2
  have HLIMD := Lib.hid hlimd
  have hb35 := HB4.out.trans (hb5.mono (Nat.le_refl _))
  have HB5 := Lib.hid hb35
  have hs5 := hb35.size
  have HC5 := Lib.hid (And.intro (cell_below hb35 HC3.out.1) (And.intro (cell_below hb35 HC3.out.2.1) (And.intro (frozen_below hb35 HC3.out.2.1 HC3.out.2.2.1) (And.intro (cell_below hb35 HC3.out.2.2.2.1) (frozen_below hb35 HC3.out.2.2.2.1 HC3.out.2.2.2.2)))))
  have HA5 := Lib.hid (HA'.out.below hb35)
  have HO5 := Lib.hid ho5
  clear hld hvd hvd2 hlimd hb35 hb5 ho5 HC3 HB4 HSC HA'
  go_wp2_with fail
  have d7 := cell_new w5 (.slice (some ⟨gd, 0, none⟩) (n + 2) p5) 22
  have hb56 := (Below.refl w5.heap.size w5).alloc (Nat.le_refl _) (.cells #[.slice (some ⟨gd, 0, none⟩) (n + 2) p5] 22)
  have HC6 := Lib.hid (And.intro d7 (And.intro (cell_below hb56 HC5.out.1) (And.intro (cell_below hb56 HC5.out.2.1) (And.intro (frozen_below hb56 HC5.out.2.1 HC5.out.2.2.1) (And.intro (cell_below hb56 HC5.out.2.2.2.1) (frozen_below hb56 HC5.out.2.2.2.1 HC5.out.2.2.2.2))))))
  have HA6 := Lib.hid (HA5.out.below hb56)
  have HO6 := Lib.hid (HO5.out.below hb56)
  have HB6 := Lib.hid (HB5.out.trans (hb56.mono (by omega)))
  have hs6 : (w5.alloc (.cells #[.slice (some ⟨gd, 0, none⟩) (n + 2) p5] 22)).heap.size = w5.heap.size + 1 := by simp
  clear d7 hb56 HC5 HA5 HO5 HB5
  generalize w5.alloc (.cells #[.slice (some ⟨gd, 0, none⟩) (n + 2) p5] 22) = w6 at *
  have hcl := clone_any _ xs ca w6 HA6.out (by rw [HLA.out]; omega) (by rw [HLA.out]; omega)
  rw [HLA.out] at hcl
  refine hcl.mono ?_
  clear hcl
  rintro e w7 ⟨a7, p7, rfl, ho7, hb7⟩
  have hsc := scale_full w6.heap.size a7 p7 xs F 0 w7 hb7.size k4 (by omega) HX.out (by rw [HLA.out]; omega) (by rw [HLA.out]; exact ho7)
  rw [HLA.out] at hsc
  have HSC := Lib.hid hsc
  have HB7 := Lib.hid hb7
  clear hsc hb7 ho7
  go_wp2_with fail
  refine HSC.out.mono ?_
  rintro e w8 ⟨a8, p8, rs, rfl, ho8, hb8, hlimr, hlr, hvr, hlr2⟩
  have hvr2 : M.val rs = M.val xs * (F : Int) := by rw [hvr]; simp
  have hb68 := HB7.out.trans (hb8.mono (Nat.le_refl _))
  have hs8 := hb68.size
  have hlr3 : n + 2 + m ≤ rs.length ∧ rs.length ≤ n + 2 + m + 1 := by have := HLA.out; omega
  have HC8 := Lib.hid (And.intro (cell_below hb68 HC6.out.1) (And.intro (cell_below hb68 HC6.out.2.1) (And.intro (cell_below hb68 HC6.out.2.2.1) (And.intro (frozen_below hb68 HC6.out.2.2.1 HC6.out.2.2.2.1) (And.intro (cell_below hb68 HC6.out.2.2.2.2.1) (frozen_below hb68 HC6.out.2.2.2.2.1 HC6.out.2.2.2.2.2))))))
  have HO8 := Lib.hid ho8
  have HD8 := Lib.hid (HO6.out.below hb68)
  have HB8 := Lib.hid hb68
  have HVR := Lib.hid hvr2
  have HLIMR := Lib.hid hlimr
  clear hvr hvr2 hlimr hlr hlr2 hb68 hb8 ho8 HC6 HO6 HB7 HSC HA6
  have g3 := HC8.out.2.2.2.2.1
  have gf3 := HC8.out.2.2.2.2.2
  have l3 : w.heap.size + 1 + 1 < w6.heap.size := by omega
  go_wp2_with (first
    | (at_builtin; refine wpList_app1 rfl _ _ rfl rfl (HO8.out.alloc _) rfl (cell_new _ _ _) (by omega) (by simp; omega) ?_; intro a9 p9 w9 hown9 hb9; have e9 := (hb9.cell (p := ⟨w.heap.size + 1 + 1, 0, none⟩) l3).trans (cell_later (.cells #[.int .i64 0] 3) g3); have ef9 := (hb9.frozen (p := ⟨w.heap.size + 1 + 1, 0, none⟩) l3).trans (frozen_later (.cells #[.int .i64 0] 3) g3 gf3);
        have c9 := (hb9.cell (p := ⟨w.heap.size, 0, none⟩) (by show w.heap.size < _; omega)).trans (cell_later (.cells #[.int .i64 0] 3) HC8.out.2.1); have c92 := (hb9.cell (p := ⟨w.heap.size + 1, 0, none⟩) (by show w.heap.size + 1 < _; omega)).trans (cell_later (.cells #[.int .i64 0] 3) HC8.out.2.2.1); have cf92 := (hb9.frozen (p := ⟨w.heap.size + 1, 0, none⟩) (by show w.heap.size + 1 < _; omega)).trans (frozen_later (.cells #[.int .i64 0] 3) HC8.out.2.2.1 HC8.out.2.2.2.1); have HO9 := Lib.hid hown9; have HB9 := Lib.hid hb9; clear hown9 hb9)
    | (at_make; refine wpList_make1 rfl _ _ rfl (m + 1) rfl rfl (by omega) (by omega) (B := w9.heap.size) (by simp [World.setCell]) ?_; intro w10 hown10 hb10; have HO10 := Lib.hid hown10; have HB10 := Lib.hid hb10; clear hown10 hb10;
        have e10 := cell_below ((HB10.out.mono (by simp [World.setCell]))) ((cell_other (W := w9) (p := ⟨w.heap.size + 1 + 1, 0, none⟩) (a := ⟨w.heap.size + 1, 0, none⟩) (.slice a9 (rs.length + 1) p9) (by simp)).trans c92); have ef10 := frozen_below ((HB10.out.mono (by simp [World.setCell]))) ((cell_other (W := w9) (p := ⟨w.heap.size + 1 + 1, 0, none⟩) (a := ⟨w.heap.size + 1, 0, none⟩) (.slice a9 (rs.length + 1) p9) (by simp)).trans c92) ((World.frozen?_setCell _ _ _ _).trans cf92)))
  refine (backward_any _ _ _ _).mono ?_
  rintro e w' ⟨rfl, rfl⟩
  have hb10 := HB10.out
  have hs9 := HB9.out.size
  have hs10 := hb10.size
  have hsz9 : (w9.setCell ⟨w.heap.size + 1 + 1, 0, none⟩ (.slice a9 (rs.length + 1) p9)).heap.size = w9.heap.size := by simp [World.setCell]
  have hsz10 : (w10.setCell ⟨w.heap.size + 1, 0, none⟩ (.slice (some ⟨w9.heap.size, 0, none⟩) (m + 1) (m + 1))).heap.size = w10.heap.size := by simp [World.setCell]
  rw [World.size_alloc] at hs9
  rw [hsz9] at hs10
  have hbb : Below (w9.setCell ⟨w.heap.size + 1 + 1, 0, none⟩ (.slice a9 (rs.length + 1) p9)).heap.size (w9.setCell ⟨w.heap.size + 1 + 1, 0, none⟩ (.slice a9 (rs.length + 1) p9)) w10 := by rw [hsz9]; exact hb10
  have q5 := World.cell?_setCell_same' w9 ⟨w.heap.size + 1 + 1, 0, none⟩ (.slice a9 (rs.length + 1) p9) (by rw [e9]; rfl)
  have r5 := cell_below hbb q5
  have r5f := frozen_below hbb q5 ((World.frozen?_setCell _ _ _ _).trans ef9)
  have r3 := cell_below hbb ((cell_other (W := w9) (p := ⟨w.heap.size + 1 + 1, 0, none⟩) (a := ⟨w.heap.size, 0, none⟩) (.slice a9 (rs.length + 1) p9) (by simp; omega)).trans c9)
  have c97 := (HB9.out.cell (p := ⟨w5.heap.size, 0, none⟩) (by show w5.heap.size < _; omega)).trans (cell_later (.cells #[.int .i64 0] 3) HC8.out.1)
  have r7 := cell_below hbb ((cell_other (W := w9) (p := ⟨w.heap.size + 1 + 1, 0, none⟩) (a := ⟨w5.heap.size, 0, none⟩) (.slice a9 (rs.length + 1) p9) (by show w5.heap.size ≠ w.heap.size + 1 + 1; omega)).trans c97)
  obtain ⟨gr, rfl, hgr1, hgr2, _⟩ := HO9.out.at2 0 (by simp)
  have hlen9 : (rs ++ [0]).length = rs.length + 1 := by simp
  have hO9 := HO9.out
  rw [hlen9] at hO9
  have hR := ((hO9.other (p := ⟨w.heap.size + 1 + 1, 0, none⟩) (.slice (some ⟨gr, 0, none⟩) (rs.length + 1) p9) (by simp [Value.ownBlock]; omega)).below hbb).mono (B' := w.heap.size) (by omega)
  have hR' := (hR.other (p := ⟨w.heap.size + 1, 0, none⟩) (.slice (some ⟨w9.heap.size, 0, none⟩) (m + 1) (m + 1)) (by simp [Value.ownBlock]; omega)).alloc (.cells #[.slice (some ⟨w9.heap.size, 0, none⟩) (m + 1) (m + 1)] 22)
  have hb89 : Below w8.heap.size w8 (w8.alloc (.cells #[.int .i64 0] 3)) := (Below.refl _ _).alloc (Nat.le_refl _) _
  have hD9 := (((HD8.out.below hb89).belowAt (B0 := w6.heap.size) (by omega) HB9.out).other (p := ⟨w.heap.size + 1 + 1, 0, none⟩) (.slice (some ⟨gr, 0, none⟩) (rs.length + 1) p9) (by simp [Value.ownBlock]; omega)).below hbb
  have hD' := ((hD9.mono (B' := w.heap.size) (by omega)).other (p := ⟨w.heap.size + 1, 0, none⟩) (.slice (some ⟨w9.heap.size, 0, none⟩) (m + 1) (m + 1)) (by simp [Value.ownBlock]; omega)).alloc (.cells #[.slice (some ⟨w9.heap.size, 0, none⟩) (m + 1) (m + 1)] 22)
  have hQ := HO10.out
  rw [hsz9, List.length_replicate] at hQ
  have hQ' := ((hQ.mono (B' := w.heap.size) (by omega)).other (p := ⟨w.heap.size + 1, 0, none⟩) (.slice (some ⟨w9.heap.size, 0, none⟩) (m + 1) (m + 1)) (by simp [Value.ownBlock]; omega)).alloc (.cells #[.slice (some ⟨w9.heap.size, 0, none⟩) (m + 1) (m + 1)] 22)
  have hb3 := HB3.out
  have hb0 : Below w.heap.size w (w8.alloc (.cells #[.int .i64 0] 3)) := ((hb3.trans (HB6.out.mono (by omega))).trans (HB8.out.mono (by omega))).alloc (by omega) _
  have hb1 : Below w.heap.size w w10 := (((hb0.trans (HB9.out.mono (by omega))).setCell (p := ⟨w.heap.size + 1 + 1, 0, none⟩) (by simp; omega) _).trans (hbb.mono (by omega)))
  have hb2 := (hb1.setCell (p := ⟨w.heap.size + 1, 0, none⟩) (by simp) (.slice (some ⟨w9.heap.size, 0, none⟩) (m + 1) (m + 1))).alloc (by rw [hsz10]; omega) (.cells #[.slice (some ⟨w9.heap.size, 0, none⟩) (m + 1) (m + 1)] 22)
  have s4 := World.cell?_setCell_same' w10 ⟨w.heap.size + 1, 0, none⟩ (.slice (some ⟨w9.heap.size, 0, none⟩) (m + 1) (m + 1)) (by rw [e10]; rfl)
  have s5 := (cell_other (W := w10) (p := ⟨w.heap.size + 1, 0, none⟩) (a := ⟨w.heap.size + 1 + 1, 0, none⟩) (.slice (some ⟨w9.heap.size, 0, none⟩) (m + 1) (m + 1)) (by simp)).trans r5
  have s3 := (cell_other (W := w10) (p := ⟨w.heap.size + 1, 0, none⟩) (a := ⟨w.heap.size, 0, none⟩) (.slice (some ⟨w9.heap.size, 0, none⟩) (m + 1) (m + 1)) (by simp)).trans r3
  have s7 := (cell_other (W := w10) (p := ⟨w.heap.size + 1, 0, none⟩) (a := ⟨w5.heap.size, 0, none⟩) (.slice (some ⟨w9.heap.size, 0, none⟩) (m + 1) (m + 1)) (by show w5.heap.size ≠ w.heap.size + 1; omega)).trans r7
  have sb := cell_new (w10.setCell ⟨w.heap.size + 1, 0, none⟩ (.slice (some ⟨w9.heap.size, 0, none⟩) (m + 1) (m + 1))) (.slice (some ⟨w9.heap.size, 0, none⟩) (m + 1) (m + 1)) 22
  have hD0 : 0 < M.val ds := M.val_pos_top HLD.out HLIMD.out htopd
  have hstart : M.val ((rs ++ [0]).drop (m + 1)) < M.val ds := M.start_lt HLA.out HLB.out HX.out HY.out (HLIMR.out.append (M.Lim.cons (by omega) (by omega) M.Lim.nil)) (by rw [HT.out]; exact htop) k3 (by rw [M.val_append]; simp [M.val]; exact HVR.out) HVD.out (by simp; omega)
  have HI0 : Hid (LongI w w5.heap.size w9.heap.size gr gd bb bo n m (rs.length + 1) p9 p5 cb (w10.setCell ⟨w.heap.size + 1, 0, none⟩ (.slice (some ⟨w9.heap.size, 0, none⟩) (m + 1) (m + 1))).heap.size ds (M.val xs * F) (m + 1) ((w10.setCell ⟨w.heap.size + 1, 0, none⟩ (.slice (some ⟨w9.heap.size, 0, none⟩) (m + 1) (m + 1))).alloc (.cells #[.slice (some ⟨w9.heap.size, 0, none⟩) (m + 1) (m + 1)] 22))) :=
    ⟨⟨⟨cell_later _ s4, cell_later _ s5, cell_later _ s3, cell_later _ s7⟩, frozen_later _ s4 ((World.frozen?_setCell _ _ _ _).trans ef10), frozen_later _ s5 ((World.frozen?_setCell _ _ _ _).trans r5f), sb⟩,
      _, _, hQ', hR', hD', M.Lim.replicate _, HLIMR.out.append (M.Lim.cons (by omega) (by omega) M.Lim.nil), by simp, by simp, fun j _ => M.el_replicate _ _, by
        rw [List.drop_of_length_le (by simp), M.val_append]; simp [M.val]; exact HVR.out.symm, hstart, hb2⟩
  have hbs : (w10.setCell ⟨w.heap.size + 1, 0, none⟩ (.slice (some ⟨w9.heap.size, 0, none⟩) (m + 1) (m + 1))).heap.size = w10.heap.size := hsz10
  rw [hbs] at HI0
  have hwsz : w.heap.size ≤ ((w10.setCell ⟨w.heap.size + 1, 0, none⟩ (.slice (some ⟨w9.heap.size, 0, none⟩) (m + 1) (m + 1))).alloc (.cells #[.slice (some ⟨w9.heap.size, 0, none⟩) (m + 1) (m + 1)] 22)).heap.size := hb2.size
  have hL : n + 2 + m + 1 ≤ rs.length + 1 := by omega
  have hL2 : rs.length + 1 < 20000 := by omega
  obtain ⟨A, hA⟩ : ∃ A, M.val xs * F = A := ⟨_, rfl⟩
  rw [hA] at HI0
  have HAF := Lib.hid hA
  have z1 : gr < ((w10.setCell ⟨w.heap.size + 1, 0, none⟩ (.slice (some ⟨w9.heap.size, 0, none⟩) (m + 1) (m + 1))).alloc (.cells #[.slice (some ⟨w9.heap.size, 0, none⟩) (m + 1) (m + 1)] 22)).heap.size := by rw [World.size_alloc, hsz10]; omega
  have z2 : w.heap.size ≤ w9.heap.size := by omega
  have z3 : w.heap.size ≤ gr := by omega
  have x1 : gr ≠ w.heap.size + 1 := by omega
  have x2 : gr ≠ w.heap.size + 1 + 1 := by omega
  have x3 : gr ≠ w.heap.size := by omega
  have x4 : gr ≠ w5.heap.size := by omega
  have x5 : gr ≠ w10.heap.size := by omega
  have x6 : gd ≠ gr := by omega
  have x7 : w9.heap.size ≠ gr := by omega
  have x8 : w9.heap.size ≠ w.heap.size + 1 := by omega
  have x9 : w9.heap.size ≠ w.heap.size + 1 + 1 := by omega
  have y3 : w9.heap.size ≠ w.heap.size := by omega
  have y4 : w9.heap.size ≠ w5.heap.size := by omega
  have y5 : w9.heap.size ≠ w10.heap.size := by have := hQ.at2 0 (by simp); obtain ⟨g', e, _, h, _⟩ := this; cases e; omega
  have y6 : gd ≠ w9.heap.size := by omega
  have y7 : gr ≠ w9.heap.size := by omega
  clear hA hb2 hb1 hb0 hb3 s4 s5 s3 s7 sb hstart hQ hQ' hD' hD9 hb89 hR hR' hO9 hlen9 r3 r5 r7 r5f c97 q5 hbb hb10 e9 ef9 c9 c92 cf92 e10 ef10 HO9 HB9 HO10 HB10 g3 gf3 l3 HC8 HO8 HD8 HB8 HVR HLIMR hs9 hs10 hsz9 hsz10 HB6 HB3 HB' HBL hs3 hs5 hs6 hs8 hbs hgr1 hgr2 hgd1 hgd2
  generalize ((w10.setCell ⟨w.heap.size + 1, 0, none⟩ (.slice (some ⟨w9.heap.size, 0, none⟩) (m + 1) (m + 1))).alloc (.cells #[.slice (some ⟨w9.heap.size, 0, none⟩) (m + 1) (m + 1)] 22)) = W11 at *
  generalize w9.heap.size = gq at *
  generalize w5.heap.size = q7 at *
  generalize rs.length = L0 at *
  go_wp2_with fail
  generalize w10.heap.size = bs at *
  refine wpIn_wide.1 (wpIn_back (n := 6) (by omega) (Bs := bs) rfl rfl (some ⟨gq, 0, none⟩) (m + 1) (m + 1) (by omega) (fun _ => 0) (LongI w q7 gq gr gd bb bo n m (L0 + 1) p9 p5 cb bs ds A) (fun _ _ _ => False) (longI_own hwsz) (fun _ _ _ _ _ hs _ _ => hs) HI0.out (fun k W h => h.1.2.2.2) ?read ?act ?assign ?body ?done ?stop)
  case read =>
    rintro k W ⟨_, qs, _, hq, _, _, _, _, hql, _, hz, _⟩ hk
    obtain ⟨g, e, _, _, _, _, hc, _⟩ := hq.at2 k (by rw [hql]; exact hk)
    rw [hz k (Nat.lt_succ_self k)] at hc
    exact ⟨g, 0, e, by simpa using hc⟩
  case assign =>
    intro l k W K hk hK
    gi_wp2
    exact hK
  case body =>
    rintro l k W hl hrec ⟨⟨⟨h4, h5, h3, h7⟩, f4, f5, hbx⟩, qs, rs, hq, hr, hd, hlq, hlr, hqn, hrn, hz, hA, hlt, hB⟩ hk
    clear hl hrec HI0
    have hKD := M.val_lt HLIMD.out
    rw [HLD.out] at hKD
    obtain ⟨p0, pp, plt⟩ := M.part_lt (k := k) (n := n) hlr (by omega) (Int.le_of_lt hKD) hlt
    have hmx : Tryd.prog.follows .mixedOrders = true := by kernel_rfl
    have hrm := (show Own W w.heap.size (.slice (some ⟨gr, 0, none⟩) rs.length p9) rs by rw [hrn]; exact hr).rowAt
    have hrm1 := hrm.room
    have hrm2 := hrm.most
    obtain ⟨u, hu⟩ : ∃ u : Nat, u = k + (n + 2) := ⟨_, rfl⟩
    obtain ⟨v, hv⟩ : ∃ v : Nat, v = u + 1 := ⟨_, rfl⟩
    have hw1 : IntKind.i64.wrap ((k : Int) + ((n : Int) + 2)) = (u : Int) := by rw [IntKind.wrap_i64]; omega
    have hw2 : IntKind.i64.wrap ((u : Int) + 1) = (v : Int) := by rw [IntKind.wrap_i64]; omega
    have hv1 : (k : Int) ≤ (v : Int) := by omega
    have hv2 : (v : Int) ≤ (p9 : Int) := by omega
    have hv3 : (0 : Int) ≤ (k : Int) := by omega
    have HU := Lib.hid hu
    have HV := Lib.hid hv
    have HRN := Lib.hid hrn
    have HQN := Lib.hid hqn
    have HA := Lib.hid hA
    have HP0 := Lib.hid p0
    have HPP := Lib.hid pp
    clear hrm hu hv hrn hqn hA p0 pp
    refine wpIn_block ?_
    refine wpIn_region_held (S := fun W' => W'.cell? ⟨w.heap.size + 1, 0, none⟩ = some (.slice (some ⟨gq, 0, none⟩) (m + 1) (m + 1)) ∧ W'.cell? ⟨w.heap.size + 1 + 1, 0, none⟩ = some (.slice (some ⟨gr, 0, none⟩) (L0 + 1) p9) ∧
      W'.cell? ⟨w.heap.size, 0, none⟩ = some (.slice (some ⟨bb, bo, none⟩) (n + 2) cb) ∧ W'.cell? ⟨q7, 0, none⟩ = some (.slice (some ⟨gd, 0, none⟩) (n + 2) p5)) hmx (by kernel_rfl) (by rintro ⟨_, _, h⟩; exact h) ⟨h4, h5, h3, h7⟩ (fun hHeld => ?_)
    refine wpAnyH_at 0 (some 40) (v := ?_) rfl rfl (by kernel_rfl) (by kernel_rfl) (by kernel_rfl) (fun _ _ _ h => h) (Or.inl ⟨by rfl, ?_⟩) hHeld ?_
    rotate_left
    · (intro W2 hSw; obtain ⟨j4, j5, j3, j7⟩ := hSw; go_simp; try with_reducible rfl)
    simp only [Act.put, List.setIfInBounds_toArray, List.set_cons_zero, List.set_cons_succ]
    refine wpAnyH_at 1 (some 41) (v := ?_) rfl rfl (by kernel_rfl) (by kernel_rfl) (by kernel_rfl) (fun _ _ _ h => h) (Or.inl ⟨by rfl, ?_⟩) hHeld ?_
    rotate_left
    · (intro W2 hSw; obtain ⟨j4, j5, j3, j7⟩ := hSw; go_simp; try with_reducible rfl)
    simp only [Act.put, List.setIfInBounds_toArray, List.set_cons_zero, List.set_cons_succ]
    refine wpAnyH_at 2 (some 42) (v := ?_) rfl rfl (by kernel_rfl) (by kernel_rfl) (by kernel_rfl) (fun _ _ _ h => h) (Or.inl ⟨by rfl, ?_⟩) hHeld ?_
    rotate_left
    · (intro W2 hSw; obtain ⟨j4, j5, j3, j7⟩ := hSw; go_simp; try with_reducible rfl)
    simp only [Act.put, List.setIfInBounds_toArray, List.set_cons_zero, List.set_cons_succ]
    refine wpAnyH_at 3 (some 43) (v := ?_) rfl rfl (by kernel_rfl) (by kernel_rfl) (by kernel_rfl) (fun _ _ _ h => h) (Or.inl ⟨by rfl, ?_⟩) hHeld ?_
    rotate_left
    · (intro W2 hSw; obtain ⟨j4, j5, j3, j7⟩ := hSw; go_simp; try with_reducible rfl)
    simp only [Act.put, List.setIfInBounds_toArray, List.set_cons_zero, List.set_cons_succ]
    refine wpAnyH_at 4 (some 44) (v := ?_) rfl rfl (by kernel_rfl) (by kernel_rfl) (by kernel_rfl) (fun _ _ _ h => h) (Or.inl ⟨by rfl, ?_⟩) hHeld ?_
    rotate_left
    · (intro W2 hSw; obtain ⟨j4, j5, j3, j7⟩ := hSw; go_simp; try with_reducible rfl)
    simp only [Act.put, List.setIfInBounds_toArray, List.set_cons_zero, List.set_cons_succ]
    refine wpAnyH_at 5 (some 45) (v := ?_) rfl rfl (by kernel_rfl) (by kernel_rfl) (by kernel_rfl) (fun _ _ _ h => h) (Or.inl ⟨by rfl, ?_⟩) hHeld ?_
    rotate_left
    · (intro W2 hSw; obtain ⟨j4, j5, j3, j7⟩ := hSw; go_simp; try with_reducible rfl)
    simp only [Act.put, List.setIfInBounds_toArray, List.set_cons_zero, List.set_cons_succ]
    refine wpAnyH_at 6 (some 46) (v := ?_) rfl rfl (by kernel_rfl) (by kernel_rfl) (by kernel_rfl) (fun _ _ _ h => h) (Or.inl ⟨by rfl, ?_⟩) hHeld ?_
    rotate_left
    · (intro W2 hSw; obtain ⟨j4, j5, j3, j7⟩ := hSw; go_simp; try with_reducible rfl)
    simp only [Act.put, List.setIfInBounds_toArray, List.set_cons_zero, List.set_cons_succ]
    refine wpAnyH_at 7 (some 47) (v := ?_) rfl rfl (by kernel_rfl) (by kernel_rfl) (by kernel_rfl) (fun _ _ _ h => h) (Or.inl ⟨by rfl, ?_⟩) hHeld ?_
    rotate_left
    · (intro W2 hSw; obtain ⟨j4, j5, j3, j7⟩ := hSw; go_simp; try with_reducible rfl)
    simp only [Act.put, List.setIfInBounds_toArray, List.set_cons_zero, List.set_cons_succ]
    refine wpAnyH_at 8 (some 48) (v := ?_) rfl rfl (by kernel_rfl) (by kernel_rfl) (by kernel_rfl) (fun _ _ _ h => h) (Or.inl ⟨by rfl, ?_⟩) hHeld ?_
    rotate_left
    · (intro W2 hSw; obtain ⟨j4, j5, j3, j7⟩ := hSw; go_simp; try with_reducible rfl)
    simp only [Act.put, List.setIfInBounds_toArray, List.set_cons_zero, List.set_cons_succ]
    refine wpAnyH_at 9 (some 49) (v := ?_) rfl rfl (by kernel_rfl) (by kernel_rfl) (by kernel_rfl) (fun _ _ _ h => h) (Or.inl ⟨by rfl, ?_⟩) hHeld ?_
    rotate_left
    · (intro W2 hSw; obtain ⟨j4, j5, j3, j7⟩ := hSw; go_simp; try with_reducible rfl)
    simp only [Act.put, List.setIfInBounds_toArray, List.set_cons_zero, List.set_cons_succ]
    refine wpAnyH_at 10 (some 50) (v := ?_) rfl rfl (by kernel_rfl) (by kernel_rfl) (by kernel_rfl) (fun _ _ _ h => h) (Or.inl ⟨by rfl, ?_⟩) hHeld ?_
    rotate_left
    · (intro W2 hSw; obtain ⟨j4, j5, j3, j7⟩ := hSw; go_simp; try with_reducible rfl)
    simp only [Act.put, List.setIfInBounds_toArray, List.set_cons_zero, List.set_cons_succ]
    refine wpAnyH_ready (rs := [11]) (by kernel_rfl) (by simp) ?_
    refine AllReadyH.cons rfl (fun K hK => ?_) AllReadyH.nil
    go_simp
    rw [if_neg (show ¬ p9 = k by have := HU.out; have := HV.out; omega), show v - k = n + 2 + 1 by have := HU.out; have := HV.out; omega]
    have hkr : k + (n + 2 + 1) ≤ rs.length := by rw [HRN.out]; omega
    have lk : (rs.take k).length = k := by rw [List.length_take]; omega
    have lp : ((rs.drop k).take (n + 2 + 1)).length = n + 2 + 1 := by rw [List.length_take, List.length_drop]; omega
    have hdr := (show Own W w.heap.size (.slice (some ⟨gd, 0, none⟩) ds.length p5) ds by rw [HLD.out]; exact hd).rowAt
    have ht := takeOut_any w.heap.size gr p9 (L0 + 1) (p9 - k) p5 n (rs.take k) ((rs.drop k).take (n + 2 + 1)) (rs.drop (k + (n + 2 + 1))) ds (some ⟨gd, 0, none⟩) W.drew (by rw [M.split3]; exact hr) lp (by have := HRN.out; omega) (by omega)
      ⟨hdr.room, hdr.most, hdr.el⟩ HLD.out (by intro b off e; cases e; exact x6) ((hlr.drop k).take _) HLIMD.out htopd (by rw [HPP.out]; exact plt)
    rw [lk] at ht
    refine ht.mono ?_
    clear ht
    rintro e W2 ⟨ts, rfl, hts, hlt2, hvt, ho2, hg2⟩
    have hg2' : W.grownBy W2 (some gr) := ⟨hg2.os, hg2.tape, hg2.output, hg2.size, hg2.block⟩
    have g4 := cell_grown hg2' (show (w.heap.size + 1 : Nat) ≠ gr from x1.symm) h4
    have g5 := cell_grown hg2' (show (w.heap.size + 1 + 1 : Nat) ≠ gr from x2.symm) h5
    have g3 := cell_grown hg2' (show (w.heap.size : Nat) ≠ gr from x3.symm) h3
    have g7 := cell_grown hg2' (show (q7 : Nat) ≠ gr from x4.symm) h7
    have gf4 := frozen_grown hg2' (show (w.heap.size + 1 : Nat) ≠ gr from x1.symm) h4 f4
    have gf5 := frozen_grown hg2' (show (w.heap.size + 1 + 1 : Nat) ≠ gr from x2.symm) h5 f5
    have gbx := cell_grown hg2' (show (bs : Nat) ≠ gr from x5.symm) hbx
    have hq2 := hq.grownAt hg2' x7
    have hd2 := hd.grownAt hg2' x6
    obtain ⟨_, e', _, _, _, _, ck, fk⟩ := hq2.at2 k (by rw [HQN.out]; exact hk)
    cases e'
    obtain ⟨st1, st2⟩ := M.long_step hkr (by rw [HQN.out]; exact hk) hts hD0 HP0.out HPP.out hvt HA.out
    have hkeep : KeepsFrom W11.heap.size W W2 := KeepsFrom.of_grownBy hg2' (fun j e => by cases e; exact z1)
    have hqd : 0 ≤ M.val ((rs.drop k).take (n + 2 + 1)) / M.val ds ∧ M.val ((rs.drop k).take (n + 2 + 1)) / M.val ds < 16777216 := by
      rw [HPP.out]
      exact ⟨Int.ediv_nonneg (M.val_nonneg (hlr.drop k)) (Int.le_of_lt hD0), Int.ediv_lt_of_lt_mul hD0 (by rw [Int.mul_comm]; exact plt)⟩
    obtain ⟨qk, hqk⟩ : ∃ qk, M.val ((rs.drop k).take (n + 2 + 1)) / M.val ds = qk := ⟨_, rfl⟩
    rw [hqk] at st1 hqd ⊢
    have HST := Lib.hid (And.intro st1 st2)
    have HHK := Lib.hid hkeep
    have hkm : (k : Int) < (m : Int) + 1 := by omega
    clear hHeld hqk st1 st2 hkeep h4 h5 h3 h7 f4 f5 hbx hq hd hg2 hr hvt
    refine hK.out _ _ ⟨g4, g5, g3, g7⟩ (fun hHeld => ?_)
    try simp only [Act.put, List.setIfInBounds_toArray, List.set_cons_zero, List.set_cons_succ]
    refine wpAnyH_at 12 (some 52) (v := ?_) rfl rfl (by kernel_rfl) (by kernel_rfl) (by kernel_rfl) (fun _ _ _ h => h) (Or.inl ⟨by rfl, ?_⟩) hHeld ?_
    rotate_left
    · (intro W2 hSw; obtain ⟨j4, j5, j3, j7⟩ := hSw; go_simp; try with_reducible rfl)
    simp only [Act.put, List.setIfInBounds_toArray, List.set_cons_zero, List.set_cons_succ]
    refine wpAnyH_ready (rs := [13]) (by kernel_rfl) (by simp) ?_
    refine AllReadyH.cons rfl (fun K hK => ?_) AllReadyH.nil
    go_simp
    have hqs : Own (W2.setCell ⟨gq, k, none⟩ (.int .i64 qk)) w.heap.size (.slice (some ⟨gq, 0, none⟩) (m + 1) (m + 1)) (qs.set k qk) := by
      have := (show Own W2 w.heap.size (.slice (some ⟨gq, 0, none⟩) qs.length (m + 1)) qs by rw [HQN.out]; exact hq2).set k qk
      rw [HQN.out] at this
      exact this
    have hkql : k < qs.length := by rw [HQN.out]; exact hk
    refine hK.out _ _ ⟨(cell_other _ (show (w.heap.size + 1 : Nat) ≠ gq from x8.symm)).trans g4, (cell_other _ (show (w.heap.size + 1 + 1 : Nat) ≠ gq from x9.symm)).trans g5, (cell_other _ (show (w.heap.size : Nat) ≠ gq from y3.symm)).trans g3, (cell_other _ (show (q7 : Nat) ≠ gq from y4.symm)).trans g7⟩ (fun _ => wpAnyH_done (by kernel_rfl) ?_ _)
    refine ⟨HHK.out.trans ((KeepsOthers.setCell _ _ _).from _), ⟨⟨(cell_other _ (show (w.heap.size + 1 : Nat) ≠ gq from x8.symm)).trans g4, (cell_other _ (show (w.heap.size + 1 + 1 : Nat) ≠ gq from x9.symm)).trans g5, (cell_other _ (show (w.heap.size : Nat) ≠ gq from y3.symm)).trans g3, (cell_other _ (show (q7 : Nat) ≠ gq from y4.symm)).trans g7⟩,
      (World.frozen?_setCell _ _ _ _).trans gf4, (World.frozen?_setCell _ _ _ _).trans gf5, (cell_other _ (show (bs : Nat) ≠ gq from y5.symm)).trans gbx⟩, qs.set k qk, rs.take k ++ ts ++ rs.drop (k + (n + 2 + 1)), hqs, ho2.other _ (by simp [Value.ownBlock]; exact y7), hd2.other _ (by simp [Value.ownBlock]; exact y6), hlq.set _ hqd.1 hqd.2, ((hlr.take k).append hlt2).append (hlr.drop _), by rw [List.length_set]; exact HQN.out,
      by have := HRN.out; simp only [List.length_append, List.length_drop, lk, hts]; omega, fun j hj => by rw [M.el_set _ _ _ _ hkql, if_neg (by omega)]; exact hz j (by omega), HST.out.1, HST.out.2, ?_⟩
    exact (hB.trans ((Below.refl w.heap.size W).grown hg2' hB.size (fun j e => by cases e; exact z3))).setCell (p := ⟨gq, k, none⟩) z2 _
  case done =>
    rintro D W hD ⟨⟨⟨h4, h5, _, _⟩, f4, f5, _⟩, qs, rs, hq, hr, _, hlq, hlr, hqn, hrn, _, hA, hlt, hB⟩ hK
    rw [Int.pow_zero, Int.mul_one, List.drop_zero] at hA
    rw [List.drop_zero] at hlt
    rw [← HAF.out, HVD.out] at hA
    rw [HVD.out] at hlt
    have HE := Lib.hid (M.long_end k3 hlr hA hlt)
    have hsh := shrink_any w.heap.size (some ⟨gr, 0, none⟩) p9 rs F W k3 (by omega) hlr (by rw [hrn]; exact hr)
    rw [hrn] at hsh
    have HSH := Lib.hid hsh
    have HQN := Lib.hid hqn
    have HRN := Lib.hid hrn
    have HQ := Lib.hid hq
    have HB := Lib.hid hB
    have HKD := Lib.hid hK
    clear hA hlt hsh hqn hrn hq hr hB hK HI0
    go_wp2_with fail
    refine HSH.out.mono ?_
    rintro e W2 ⟨rfl, ho2, hg2⟩
    have g4 := cell_grown hg2 (show (w.heap.size + 1 : Nat) ≠ gr from x1.symm) h4
    have g5 := cell_grown hg2 (show (w.heap.size + 1 + 1 : Nat) ≠ gr from x2.symm) h5
    have gf4 := frozen_grown hg2 (show (w.heap.size + 1 : Nat) ≠ gr from x1.symm) h4 f4
    have gf5 := frozen_grown hg2 (show (w.heap.size + 1 + 1 : Nat) ≠ gr from x2.symm) h5 f5
    have hq2 := HQ.out.grownAt hg2 x7
    have hK2 : W2.heap[D]? = some (.deferred (some [])) := (hg2.block D (Array.getElem?_eq_some_iff.1 HKD.out).1 (by intro e; have h1 : D = gr := Option.some.inj e; have h2 : W11.heap.size ≤ D := hD; omega)).trans HKD.out
    have hB2 := HB.out.trans ((Below.refl w.heap.size W).grown hg2 HB.out.size (fun j e => by cases e; exact z3))
    have HQ2 := Lib.hid hq2
    have HO2 := Lib.hid ho2
    have HK2 := Lib.hid hK2
    have HB2 := Lib.hid hB2
    clear hq2 ho2 hK2 hB2 hg2 h4 h5 f4 f5
    go_wp2_with fail
    go_region
    go_wp2_with fail
    have hKa := (((KeepsOthers.setCell W2 ⟨w.heap.size + 1, 0, none⟩ (.slice (some ⟨gq, 0, none⟩) (m + 1) (m + 1))).trans (KeepsOthers.setCell _ ⟨w.heap.size + 1 + 1, 0, none⟩ (.slice (some ⟨gr, 0, none⟩) (L0 + 1) p9))).trans (KeepsOthers.drew _)).same D _ HK2.out rfl
    refine ⟨by simp, .inl ⟨_, _, rfl, run_takeDeferred hKa, ?_⟩⟩
    have u4 := World.cell?_setCell_same' W2 ⟨w.heap.size + 1, 0, none⟩ (.slice (some ⟨gq, 0, none⟩) (m + 1) (m + 1)) (by rw [g4]; rfl)
    have u5 := World.cell?_setCell_same' (W2.setCell ⟨w.heap.size + 1, 0, none⟩ (.slice (some ⟨gq, 0, none⟩) (m + 1) (m + 1))) ⟨w.heap.size + 1 + 1, 0, none⟩ (.slice (some ⟨gr, 0, none⟩) (L0 + 1) p9) (by rw [cell_other _ (by simp), g5]; rfl)
    have u4' := (cell_other (W := W2.setCell ⟨w.heap.size + 1, 0, none⟩ (.slice (some ⟨gq, 0, none⟩) (m + 1) (m + 1))) (p := ⟨w.heap.size + 1 + 1, 0, none⟩) (a := ⟨w.heap.size + 1, 0, none⟩) (.slice (some ⟨gr, 0, none⟩) (L0 + 1) p9) (by simp)).trans u4
    have hq3 := (HQ2.out.other (p := ⟨w.heap.size + 1, 0, none⟩) (.slice (some ⟨gq, 0, none⟩) (m + 1) (m + 1)) (by simp [Value.ownBlock]; exact x8)).other (p := ⟨w.heap.size + 1 + 1, 0, none⟩) (.slice (some ⟨gr, 0, none⟩) (L0 + 1) p9) (by simp [Value.ownBlock]; exact x9)
    have hr3 := (HO2.out.other (p := ⟨w.heap.size + 1, 0, none⟩) (.slice (some ⟨gq, 0, none⟩) (m + 1) (m + 1)) (by simp [Value.ownBlock]; exact x1)).other (p := ⟨w.heap.size + 1 + 1, 0, none⟩) (.slice (some ⟨gr, 0, none⟩) (L0 + 1) p9) (by simp [Value.ownBlock]; exact x2)
    have hB3 := belowN ((HB2.out.setCell (p := ⟨w.heap.size + 1, 0, none⟩) (by simp) (.slice (some ⟨gq, 0, none⟩) (m + 1) (m + 1))).setCell (p := ⟨w.heap.size + 1 + 1, 0, none⟩) (by simp; omega) (.slice (some ⟨gr, 0, none⟩) (L0 + 1) p9)) 1
    have u4d : ((W2.setCell ⟨w.heap.size + 1, 0, none⟩ (.slice (some ⟨gq, 0, none⟩) (m + 1) (m + 1))).setCell ⟨w.heap.size + 1 + 1, 0, none⟩ (.slice (some ⟨gr, 0, none⟩) (L0 + 1) p9)).drew.cell? ⟨w.heap.size + 1, 0, none⟩ = some (.slice (some ⟨gq, 0, none⟩) (m + 1) (m + 1)) := u4'
    have u5d : ((W2.setCell ⟨w.heap.size + 1, 0, none⟩ (.slice (some ⟨gq, 0, none⟩) (m + 1) (m + 1))).setCell ⟨w.heap.size + 1 + 1, 0, none⟩ (.slice (some ⟨gr, 0, none⟩) (L0 + 1) p9)).drew.cell? ⟨w.heap.size + 1 + 1, 0, none⟩ = some (.slice (some ⟨gr, 0, none⟩) (L0 + 1) p9) := u5
    have hq4 : Own ((W2.setCell ⟨w.heap.size + 1, 0, none⟩ (.slice (some ⟨gq, 0, none⟩) (m + 1) (m + 1))).setCell ⟨w.heap.size + 1 + 1, 0, none⟩ (.slice (some ⟨gr, 0, none⟩) (L0 + 1) p9)).drew w.heap.size (.slice (some ⟨gq, 0, none⟩) (m + 1) (m + 1)) qs := hq3
    have hr4 : Own ((W2.setCell ⟨w.heap.size + 1, 0, none⟩ (.slice (some ⟨gq, 0, none⟩) (m + 1) (m + 1))).setCell ⟨w.heap.size + 1 + 1, 0, none⟩ (.slice (some ⟨gr, 0, none⟩) (L0 + 1) p9)).drew w.heap.size (.slice (some ⟨gr, 0, none⟩) (L0 + 1) p9) (M.shr (F : Int) rs).2 := hr3
    have hB4 : Below w.heap.size w ((W2.setCell ⟨w.heap.size + 1, 0, none⟩ (.slice (some ⟨gq, 0, none⟩) (m + 1) (m + 1))).setCell ⟨w.heap.size + 1 + 1, 0, none⟩ (.slice (some ⟨gr, 0, none⟩) (L0 + 1) p9)).drew := hB3
    clear hq3 hr3 hB3 u4 u5 u4' g4 g5 gf4 gf5 HQ2 HO2 HK2 HB2
    generalize ((W2.setCell ⟨w.heap.size + 1, 0, none⟩ (.slice (some ⟨gq, 0, none⟩) (m + 1) (m + 1))).setCell ⟨w.heap.size + 1 + 1, 0, none⟩ (.slice (some ⟨gr, 0, none⟩) (L0 + 1) p9)).drew = W3 at *
    have v4 := cell_kept u4d (grownBy_putObj' _ D (.deferred none)) (fun r e => by cases e; exact ⟨_, hKa, rfl⟩)
    have v5 := cell_kept u5d (grownBy_putObj' _ D (.deferred none)) (fun r e => by cases e; exact ⟨_, hKa, rfl⟩)
    have hq5 := ownFrom_own (B0 := 0) (fun (_ : Unit) => qs) () _ _ _ hq4 (grownBy_putObj' _ D (.deferred none)) (fun r e => by cases e; exact ⟨Nat.zero_le _, _, hKa, rfl⟩)
    have hr5 := ownFrom_own (B0 := 0) (fun (_ : Unit) => (M.shr (F : Int) rs).2) () _ _ _ hr4 (grownBy_putObj' _ D (.deferred none)) (fun r e => by cases e; exact ⟨Nat.zero_le _, _, hKa, rfl⟩)
    have hsl : (M.shr (F : Int) rs).2.length = L0 + 1 := by rw [M.shr_len, HRN.out]
    refine ⟨.tuple #[.slice (some ⟨gq, 0, none⟩) (m + 1) (m + 1), .slice (some ⟨gr, 0, none⟩) (L0 + 1) p9], ?_, some ⟨gq, 0, none⟩, m + 1, qs, some ⟨gr, 0, none⟩, p9, (M.shr (F : Int) rs).2, ?_, ?_, ?_, hlq, M.shr_lim _ (by omega) hlr, HE.out.1, HE.out.2, hq5.fresh, hr5.fresh, ?_⟩
    · simp [results, Tryd.f108, go_sem, v4, v5]
    · rw [HQN.out, hsl]
    · exact (show Own _ w.heap.size (.slice (some ⟨gq, 0, none⟩) qs.length (m + 1)) qs by rw [HQN.out]; exact hq5).rowAt
    · exact (show Own _ w.heap.size (.slice (some ⟨gr, 0, none⟩) (M.shr (F : Int) rs).2.length p9) (M.shr (F : Int) rs).2 by rw [hsl]; exact hr5).rowAt
    · exact hB4.trans (belowK_b (w := w) (Nat.le_refl _) W3 D _ _ (by have h2 : W11.heap.size ≤ D := hD; omega) hKa rfl rfl)
  case stop =>
    rintro D c k W _ _ h _
    exact h.elim
end Go.Proofs.YtfaggdjoogpmmaaDoor

namespace Go.Proofs.YtfaggdjoogpmmaaDoor
open Go Go.RowKit Go.Shelf

theorem wpList_appNone {W : World} {ops : Array Oper} {rest : List Oper} {o : Oper} {a : Act} {Q : Exit → Act → World → Prop} (hgd : o.guard = none) (s x : Operand)
    (ho : o.op = .call { callee := .builtin .append, args := #[s, x], argTypes := #[22, 22] }) {B : Nat} {v : Value} (hs : a.eval s = v) (hown : Own W B v [])
    {ad : Addr} {cap : Nat} (hx : a.eval x = .slice (some ad) 0 cap) (hbase : B ≤ W.heap.size)
    (h : ∀ a' cap' W', Own W' B (.slice a' 0 cap') [] → Below B W W' → wpList Tryd.prog ops Q rest (a.put o.dst (.slice a' 0 cap')) W') : wpList Tryd.prog ops Q (o :: rest) a W := by
  obtain ⟨i0, hi, hz0, hz1, hz2⟩ := info_parts info_int
  refine wpList_append_own W hgd s x 22 ho B 3 i0 (.int .i64 0) 1 8 Tryd.underlying22 hi hz0 hz1 hz2 rfl (by decide) v 0 [] hs hown ad 0 cap [] hx (by simp) (fun j u hj => by simp at hj) (fun u hu => by cases hu) (by unfold maxLen; simp) (by simp) hbase ?_
  intro v' W' hown' hgrow _
  have ho2 : Own W' B v' [] := hown'
  have hB2 : Below B W W' := (Below.refl B W).grown hgrow hbase (fun k e => (World.ownsRow.lt hown k e).1)
  obtain ⟨a', cap', rfl, _⟩ := ho2.row
  exact h a' cap' W' ho2 hB2

set_option maxRecDepth 100000 in
set_option maxHeartbeats 1000000 in
/-- **slices.Clone** of any slice of ints. -/
theorem clone_row (a : Option Addr) (zs : List Int) (cap : Nat) (w : World) (hR : Row w a zs cap) (hl : zs.length < 100000) :
    Calls Tryd.prog 80 #[.slice a zs.length cap] w fun e W' => ∃ a' cap', e = .returned (.slice a' zs.length cap') ∧ Own W' w.heap.size (.slice a' zs.length cap') zs ∧ Below w.heap.size w W' := by
  by_cases h0 : 0 < zs.length
  · exact clone_any a zs cap w hR h0 hl
  · obtain rfl : zs = [] := List.length_eq_zero_iff.1 (by omega)
    have q22 : ∀ (w : World) (a : Option Addr) (n c n' c' : Nat), (binOp .eql 22 (.slice a n c) (.slice none n' c')).run Tryd.prog w = .ok (.bool a.isNone) w := fun w a n c n' c' => Lib.run_eql_slice_nil w _ _ a n c n' c' Tryd.underlying22
    have HO := Lib.hid (own_empty w w.heap.size (Nat.le_refl _))
    clear hR hl h0
    cases a with
    | none =>
      go_enter Tryd.func80, Tryd.ntmps80
      go_wp2_with fail
      go_ret
      exact ⟨none, 0, rfl, Own.nil _ _, Below.refl _ _⟩
    | some ad =>
      go_enter Tryd.func80, Tryd.ntmps80
      go_wp2_with (at_builtin; refine wpList_appNone rfl _ _ rfl rfl HO.out rfl (by simp) ?_; intro a' cap' W' hown' hb')
      go_ret
      exact ⟨a', cap', rfl, hown', ((Below.refl _ w).alloc (Nat.le_refl _) _).trans hb'⟩

theorem cut_row {W : World} {a : Option Addr} {cap : Nat} {zs ts : List Int} (h : Row W a zs cap) (hp : zs.take ts.length = ts) : ∃ a' c', cut a cap ts = .slice a' ts.length c' ∧ Row W a' ts c' ∧ ∀ B, Fresh B a zs → Fresh B a' ts := by
  unfold cut
  split
  · rename_i e; subst e; exact ⟨none, 0, rfl, ⟨Nat.le_refl _, by omega, fun j hj => by simp at hj⟩, fun B _ b off e => by cases e⟩
  · have hl : ts.length ≤ zs.length := by have := congrArg List.length hp; rw [List.length_take] at this; omega
    exact ⟨a, cap, rfl, ⟨Nat.le_trans hl h.room, h.most, fun j hj => by
      obtain ⟨b, off, e, hc⟩ := h.el j (by omega)
      refine ⟨b, off, e, hc.trans ?_⟩
      rw [← hp, M.el_take (by omega)]⟩, fun B hf b off e hl2 => hf b off e (by omega)⟩

theorem M.dig_top {y n : Nat} (hl : (M.dig y).length = n + 1) : 0 < M.el (M.dig y) n := by
  have h0 : y ≠ 0 := by rintro rfl; rw [M.dig_zero] at hl; simp at hl
  have h1 := M.dig_last h0
  rw [List.getLast?_eq_getElem?, List.getElem?_eq_getElem (by omega)] at h1
  have h2 := (M.lim_dig y).get n
  rcases Int.lt_or_eq_of_le h2.1 with h | h
  · exact h
  · exfalso; apply h1
    rw [M.el_lt (by omega)] at h
    simp only [hl, Nat.add_sub_cancel]
    rw [← h]

def DivPost (w : World) (x y : Nat) (e : Ending) (W : World) : Prop :=
  ∃ a1 c1 a2 c2, e = .returned (.tuple #[.slice a1 (M.dig (x / y)).length c1, .slice a2 (M.dig (x % y)).length c2]) ∧ Row W a1 (M.dig (x / y)) c1 ∧ Row W a2 (M.dig (x % y)) c2 ∧ Fresh w.heap.size a1 (M.dig (x / y)) ∧ Fresh w.heap.size a2 (M.dig (x % y)) ∧ Below w.heap.size w W

theorem trim_dig {zs : List Int} {n : Nat} (h : M.Lim zs) (hv : M.val zs = n) : M.trimL zs = M.dig n := by
  rw [M.trimL_dig h, hv, Int.toNat_natCast]

/-- Both slices are trimmed: the last lines of divideLimbs. -/
theorem trim_num (a : Option Addr) (zs : List Int) (cap n : Nat) (w : World) (hR : Row w a zs cap) (hl : M.Lim zs) (hv : M.val zs = n) :
    Calls Tryd.prog 78 #[.slice a zs.length cap] w fun e W' => ∃ a' c', e = .returned (.slice a' (M.dig n).length c') ∧ Row W' a' (M.dig n) c' ∧ (∀ B, Fresh B a zs → Fresh B a' (M.dig n)) ∧ Below w.heap.size w W' := by
  refine (trim_any a zs cap w hR).mono ?_
  rintro e W' ⟨rfl, hb⟩
  have ht := trim_dig hl hv
  obtain ⟨a', c', e1, r, f⟩ := cut_row (ts := M.trimL zs) (hR.below hb) (M.trimL_take zs)
  rw [e1]
  rw [ht] at r f ⊢
  exact ⟨a', c', rfl, r, f, hb⟩

set_option maxRecDepth 100000 in
set_option maxHeartbeats 1000000 in
theorem divideLimbs_any (a b : Option Addr) (ca cb x y : Nat) (w : World) (hy : 0 < y) (hx200 : (M.dig x).length ≤ 200) (hy200 : (M.dig y).length ≤ 200) (hA : Row w a (M.dig x) ca) (hB : Row w b (M.dig y) cb) :
    Calls Tryd.prog 83 #[.slice a (M.dig x).length ca, .slice b (M.dig y).length cb] w (DivPost w x y) := by
  have hy0 : 0 < (M.dig y).length := by
    rcases Nat.eq_zero_or_pos (M.dig y).length with h | h
    · have := M.dig_nil.1 (List.length_eq_zero_iff.1 h); omega
    · exact h
  by_cases hlt : (M.dig x).length < (M.dig y).length
  · have hxy : x < y := by
      have h1 : x < 16777216 ^ (M.dig x).length := M.dig_len_le.1 (Nat.le_refl _)
      by_cases h : x < y
      · exact h
      · have h2 : (M.dig y).length ≤ (M.dig x).length := M.dig_len_le.2 (by omega)
        omega
    have hcl := clone_row a (M.dig x) ca w hA (by omega)
    have HC := Lib.hid hcl
    have HXY := Lib.hid hxy
    clear hcl hxy hA hB hy
    go_enter Tryd.func83, Tryd.ntmps83
    go_wp2_with fail
    refine HC.out.mono ?_
    rintro e w' ⟨a', c', rfl, ho, hb⟩
    have HO := Lib.hid ho
    have HB := Lib.hid hb
    clear ho hb
    go_wp2_with fail
    go_ret2
    have e1 : x / y = 0 := Nat.div_eq_of_lt HXY.out
    have e2 : x % y = x := Nat.mod_eq_of_lt HXY.out
    refine ⟨none, 0, a', c', by rw [e1, e2, M.dig_zero]; rfl, ?_, ?_, (fun b off e => (by cases e)), ?_, HB.out⟩
    · rw [e1, M.dig_zero]; exact ⟨Nat.le_refl _, by omega, fun j hj => by simp at hj⟩
    · rw [e2]; exact HO.out.rowAt
    · rw [e2]; exact HO.out.fresh
  · by_cases h1 : (M.dig y).length = 1
    · have hyv := M.val_dig y
      obtain ⟨z, hz⟩ : ∃ z, M.dig y = [z] := List.length_eq_one_iff.1 h1
      have hlz := M.lim_dig y
      rw [hz] at hyv hlz
      have hzy : z = (y : Int) := by simpa [M.val] using hyv
      have hzb := hlz.head
      subst hzy
      obtain ⟨bb, bo, rfl, hc0⟩ := hB.el 0 hy0
      rw [hz] at hc0
      have hcl := clone_row a (M.dig x) ca w hA (by omega)
      have HC := Lib.hid hcl
      have hn : decide ((M.dig x).length < (M.dig y).length) = false := decide_eq_false hlt
      have HY1 := Lib.hid h1
      rw [h1] at hlt hn ⊢
      have hx1 : 1 ≤ (M.dig x).length := by omega
      have hbr := hB.room
      have hbm := hB.most
      rw [h1] at hbr
      clear hcl hA hB hz hyv hlz hlt h1
      simp only [M.el_zero, Nat.add_zero] at hc0
      go_enter Tryd.func83, Tryd.ntmps83
      go_wp2_with fail
      refine HC.out.mono ?_
      rintro e w1 ⟨a1, c1, rfl, ho, hb⟩
      have hc1 := cell_below hb hc0
      have HB := Lib.hid hb
      have hsh := shrink_any w.heap.size a1 c1 (M.dig x) y w1 hy (by omega) (M.lim_dig x) ho
      have HSH := Lib.hid hsh
      have HO1 := Lib.hid ho
      clear hb hsh ho hc0
      go_wp2_with fail
      refine HSH.out.mono ?_
      rintro e w2 ⟨rfl, ho2, hg2⟩
      obtain ⟨hs1, hs2⟩ := M.shr_nat hy (M.lim_dig x) (M.val_dig x)
      have HFQ : Hid (Fresh w.heap.size a1 (M.shr (y : Int) (M.dig x)).2) := ho2.fresh
      have HB2 := Lib.hid (HB.out.trans (below_of_grown HO1.out hg2 HB.out.size))
      rw [hs2]
      have hq2 : Row w2 a1 (M.shr (y : Int) (M.dig x)).2 c1 := (show Own w2 w.heap.size (.slice a1 (M.shr (y : Int) (M.dig x)).2.length c1) (M.shr (y : Int) (M.dig x)).2 by rw [M.shr_len]; exact ho2).rowAt
      have hvq : M.val (M.shr (y : Int) (M.dig x)).2 = ((x / y : Nat) : Int) := by
        have h1 := M.shr_val (y : Int) (M.dig x)
        rw [hs2, M.val_dig] at h1
        have h2 : ((x / y : Nat) : Int) * y + ((x % y : Nat) : Int) = x := by rw [← Int.natCast_mul, ← Int.natCast_add]; congr 1; exact Nat.div_add_mod' x y
        have h3 : M.val (M.shr (y : Int) (M.dig x)).2 * y = ((x / y : Nat) : Int) * y := by omega
        exact Int.eq_of_mul_eq_mul_right (by omega) h3
      have hlq := M.shr_lim (y : Int) (by omega) (M.lim_dig x)
      have HT1 := Lib.hid (fun (W : World) (hb : Below w2.heap.size w2 W) => trim_num a1 _ c1 (x / y) W (hq2.below hb) hlq hvq)
      have hrm : ((x % y : Nat) : Int) < 16777216 := by have := Nat.mod_lt x hy; omega
      have hrm0 : 0 ≤ ((x % y : Nat) : Int) := by omega
      obtain ⟨r, hr⟩ : ∃ r, x % y = r := ⟨_, rfl⟩
      rw [hr] at hrm hrm0 ⊢
      have hrow2 : Row (w2.alloc (.cells #[.int .i64 (r : Int)] 3)) (some ⟨w2.heap.size, 0, none⟩) [(r : Int)] 1 := ⟨Nat.le_refl _, by omega, fun j hj => ⟨_, 0, rfl, by
        obtain rfl : j = 0 := by simpa using hj
        simp⟩⟩
      have HT2 := Lib.hid (fun (W : World) (hb : Below (w2.alloc (.cells #[.int .i64 (r : Int)] 3)).heap.size (w2.alloc (.cells #[.int .i64 (r : Int)] 3)) W) => trim_num (some ⟨w2.heap.size, 0, none⟩) [(r : Int)] 1 r W (hrow2.below hb) (M.Lim.cons hrm0 hrm M.Lim.nil) (by simp [M.val]))
      have HR := Lib.hid hr
      rw [M.shr_len] at HT1
      clear hrow2 hq2 hvq hlq hs1 hs2 ho2 hg2 hr HSH HC HO1 HB
      go_wp2_with fail
      refine (HT1.out _ ((Below.refl _ _).alloc (Nat.le_refl _) _)).mono ?_
      rintro e w3 ⟨a3, c3, rfl, hr3, hf3, hb3⟩
      have HF3 := Lib.hid hf3
      have HR3 := Lib.hid hr3
      have HB3 := Lib.hid hb3
      clear hr3 hf3 hb3
      go_wp2_with fail
      refine (HT2.out _ HB3.out).mono ?_
      rintro e w4 ⟨a4, c4, rfl, hr4, hf4, hb4⟩
      have HF4 := Lib.hid hf4
      have HR4 := Lib.hid hr4
      have HB4 := Lib.hid hb4
      clear hr4 hf4 hb4
      go_wp2_with fail
      go_ret2
      refine ⟨a3, c3, a4, c4, by rw [HR.out]; rfl, HR3.out.below HB4.out, by rw [HR.out]; exact HR4.out, HF3.out _ HFQ.out, by rw [HR.out]; exact HF4.out _ (fun b off e _ => by cases e; exact HB2.out.size), ?_⟩
      exact (((HB2.out.alloc HB2.out.size _).trans (HB3.out.mono (by have := HB2.out.size; simp; omega))).trans (HB4.out.mono (by have := HB2.out.size; have := HB3.out.size; simp at this; omega)))
    · obtain ⟨n, hn⟩ : ∃ n, (M.dig y).length = n + 2 := ⟨(M.dig y).length - 2, by omega⟩
      obtain ⟨m, hm⟩ : ∃ m, (M.dig x).length = n + 2 + m := ⟨(M.dig x).length - (n + 2), by omega⟩
      have hlong := divideLong_any a b ca cb (M.dig x) (M.dig y) n m w hm hn (M.lim_dig x) (M.lim_dig y) (M.dig_top hn) (by omega) hA hB
      have hra := hA.room
      have hma := hA.most
      have hrb := hB.room
      have hmb := hB.most
      rw [hm] at hlt hra ⊢
      rw [hn] at hlt h1 hrb ⊢
      have hn1 : decide (n + 2 + m < n + 2) = false := decide_eq_false (by omega)
      have hn3 : (((n : Int) + 2) == 1) = false := by simp; omega
      have HL := Lib.hid hlong
      clear hlong hn hm hA hB hlt h1 hy0 hx200 hy200
      go_enter Tryd.func83, Tryd.ntmps83
      go_wp2_with fail
      refine HL.out.mono ?_
      rintro e w1 ⟨a1, c1, qs, a2, c2, rs, rfl, hr1, hr2, hl1, hl2, hv1, hv2, hf1, hf2, hb⟩
      have HF1 := Lib.hid hf1
      have HF2 := Lib.hid hf2
      rw [M.val_dig, M.val_dig, ← Int.natCast_ediv] at hv1
      rw [M.val_dig, M.val_dig, ← Int.natCast_emod] at hv2
      have HT1 := Lib.hid (trim_num a1 qs c1 (x / y) w1 hr1 hl1 hv1)
      have HT2 := Lib.hid (fun (W : World) (hb : Below w1.heap.size w1 W) => trim_num a2 rs c2 (x % y) W (hr2.below hb) hl2 hv2)
      have HB := Lib.hid hb
      clear hr1 hr2 hl1 hl2 hv1 hv2 hf1 hf2 hb HL
      go_wp2_with fail
      refine HT1.out.mono ?_
      rintro e w3 ⟨a3, c3, rfl, hr3, hf3, hb3⟩
      have HF3 := Lib.hid hf3
      have HR3 := Lib.hid hr3
      have HB3 := Lib.hid hb3
      clear hr3 hf3 hb3
      go_wp2_with fail
      refine (HT2.out _ HB3.out).mono ?_
      rintro e w4 ⟨a4, c4, rfl, hr4, hf4, hb4⟩
      have HF4 := Lib.hid hf4
      have HR4 := Lib.hid hr4
      have HB4 := Lib.hid hb4
      clear hr4 hf4 hb4
      go_wp2_with fail
      go_ret2
      refine ⟨a3, c3, a4, c4, rfl, HR3.out.below HB4.out, HR4.out, HF3.out _ HF1.out, HF4.out _ HF2.out, ?_⟩
      exact (HB.out.trans (HB3.out.mono HB.out.size)).trans (HB4.out.mono (Nat.le_trans HB.out.size HB3.out.size))
end Go.Proofs.YtfaggdjoogpmmaaDoor

namespace Go.Proofs.YtfaggdjoogpmmaaDoor
open Go Go.RowKit Go.Shelf

/-- A valid number's limbs. -/
structure Vld (zs : List Int) : Prop where
  len : zs.length ≤ 200
  last : 0 < zs.length → M.el zs (zs.length - 1) ≠ 0
  lim : M.Lim zs

set_option maxHeartbeats 400000 in
theorem valid_yes (a : Option Addr) (zs : List Int) (cap : Nat) (w : World) (hR : Row w a zs cap) (hV : Vld zs) :
    Calls Tryd.prog 42 #[.agg #[.slice a zs.length cap]] w fun e W' => e = .returned (.bool true) ∧ Below w.heap.size w W' := by
  have hroom := hR.room
  have hmost := hR.most
  have hlen := hV.len
  have HR := Lib.hid (hR.alloc (.cells #[.slice a zs.length cap] 24))
  have HV := Lib.hid hV
  clear hR hV
  by_cases h0 : 0 < zs.length
  · obtain ⟨b, off, rfl, hc⟩ := HR.out.el (zs.length - 1) (by omega)
    have hz : (M.el zs (zs.length - 1) == 0) = false := by have := HV.out.last h0; simp [this]
    go_enter Tryd.func42, Tryd.ntmps42
    go_wp2
    go_loop [27] (fun i => ∃ k : Nat, k ≤ zs.length ∧ i = .int .i64 k) (fun i => zs.length - (intOf i).toNat)
    case atStart => exact ⟨0, Nat.zero_le _, rfl⟩
    case round =>
      obtain ⟨k, hk, rfl⟩ := hrel
      have hl := HV.out.lim.get k
      by_cases hlt : k < zs.length
      · have hck := HR.out.cell k hlt
        go_wp2
        go_round
        case rel => exact ⟨k + 1, by omega, by go_num⟩
        case measure => simp [intOf]; omega
      · go_wp2
        go_ret
        exact ⟨rfl, (Below.refl _ w).alloc (Nat.le_refl _) _⟩
  · have h0' : zs.length = 0 := by omega
    have hzs : zs = [] := List.length_eq_zero_iff.1 h0'
    subst hzs
    clear h0 HR HV
    go_enter Tryd.func42, Tryd.ntmps42
    go_wp2
    go_loop [27] (fun i => i = .int .i64 0) (fun _ => 0)
    case atStart => rfl
    case round =>
      obtain rfl := hrel
      go_wp2
      go_ret
      exact ⟨rfl, (Below.refl _ w).alloc (Nat.le_refl _) _⟩
end Go.Proofs.YtfaggdjoogpmmaaDoor

namespace Go.Proofs.YtfaggdjoogpmmaaDoor
open Go Go.RowKit Go.Shelf
attribute [local go_sem] mask24

theorem vld_dig {n : Nat} (h : (M.dig n).length ≤ 200) : Vld (M.dig n) := by
  refine ⟨h, fun h0 => ?_, M.lim_dig n⟩
  have hn : n ≠ 0 := by intro e; rw [e, M.dig_zero] at h0; simp at h0
  have := M.dig_last hn
  rw [M.el_lt (by omega)]
  intro e
  apply this
  rw [List.getLast?_eq_getElem?, List.getElem?_eq_getElem (by omega), e]

/-- The world behind the three boxes with which Add and its kin begin. -/
def boxes (w : World) (u v : Value) : World := ((w.alloc (.cells #[u] 24)).alloc (.cells #[v] 24)).alloc (.cells #[.slice none 0 0] 24)

theorem boxes_size (w : World) (u v : Value) : (boxes w u v).heap.size = w.heap.size + 3 := by simp [boxes]
theorem boxes_below (w : World) (u v : Value) : Below w.heap.size w (boxes w u v) := (((Below.refl _ w).alloc (Nat.le_refl _) _).alloc (by simp) _).alloc (by simp; omega) _
theorem boxes_cells (w : World) (u v : Value) : (boxes w u v).cell? ⟨w.heap.size, 0, none⟩ = some u ∧ (boxes w u v).cell? ⟨w.heap.size + 1, 0, none⟩ = some v ∧ (boxes w u v).cell? ⟨w.heap.size + 1 + 1, 0, none⟩ = some (.slice none 0 0) ∧ (boxes w u v).frozen? ⟨w.heap.size + 1 + 1, 0, none⟩ = false := by
  have h0 := cell_new w u 24
  have h1 := cell_new (w.alloc (.cells #[u] 24)) v 24
  have h2 := cell_new ((w.alloc (.cells #[u] 24)).alloc (.cells #[v] 24)) (.slice none 0 0) 24
  have h3 := frozen_new ((w.alloc (.cells #[u] 24)).alloc (.cells #[v] 24)) (.slice none 0 0) 24
  simp only [World.size_alloc] at h1 h2 h3
  exact ⟨cell_later _ (cell_later _ h0), cell_later _ h1, h2, h3⟩

def AddRel (w w3 : World) (g n x y : Nat) (c i : Value) (W : World) : Prop :=
  ∃ (k : Nat) (zs : List Int) (q : Int), i = .int .i64 (k : Int) ∧ c = .int .i64 q ∧ k ≤ n + 1 ∧ zs.length = n + 1 ∧ M.Lim zs ∧ 0 ≤ q ∧ q ≤ 1 ∧
    M.val (zs.take k) + 16777216 ^ k * q = M.val ((M.dig x).take k) + M.val ((M.dig y).take k) ∧ Own W (w.heap.size + 3) (.slice (some ⟨g, 0, none⟩) zs.length (n + 1)) zs ∧ Below (w.heap.size + 3) w3 W

set_option maxRecDepth 100000 in
set_option maxHeartbeats 2000000 in
theorem add_lt (a b : Option Addr) (ca cb x y : Nat) (w : World) (hx : (M.dig x).length ≤ 200) (hy : (M.dig y).length ≤ 200) (ha : Row w a (M.dig x) ca) (hb : Row w b (M.dig y) cb) (hle : (M.dig x).length < (M.dig y).length) :
    Calls Tryd.prog 26 #[.agg #[.slice a (M.dig x).length ca], .agg #[.slice b (M.dig y).length cb]] w fun e W' =>
      NatRes (x + y) e W' ∧ Below w.heap.size w W' := by
  have Hvx := Lib.hid (vld_dig hx)
  have Hvy := Lib.hid (vld_dig hy)
  have hB3 := boxes_below w (.slice a (M.dig x).length ca) (.slice b (M.dig y).length cb)
  have hsz := boxes_size w (.slice a (M.dig x).length ca) (.slice b (M.dig y).length cb)
  have HA := Lib.hid (ha.below hB3)
  have HB := Lib.hid (hb.below hB3)
  have HC := Lib.hid (boxes_cells w (.slice a (M.dig x).length ca) (.slice b (M.dig y).length cb))
  have HB3 := Lib.hid hB3
  have HSZ := Lib.hid hsz
  have hla : (M.dig x).length ≤ ca := ha.room
  have hlb : (M.dig y).length ≤ cb := hb.room
  have hma := ha.most
  have hmb := hb.most
  clear ha hb hB3 hsz
  go_enter Tryd.func26, Tryd.ntmps26
  go_wp2_with fail
  generalize hw3 : (((w.alloc (.cells #[.slice a (M.dig x).length ca] 24)).alloc (.cells #[.slice b (M.dig y).length cb] 24)).alloc (.cells #[.slice none 0 0] 24)) = w3
  obtain rfl : boxes w (.slice a (M.dig x).length ca) (.slice b (M.dig y).length cb) = w3 := hw3
  generalize boxes w (.slice a (M.dig x).length ca) (.slice b (M.dig y).length cb) = w3 at *
  refine (valid_yes a _ ca _ HA.out Hvx.out).mono ?_
  rintro e w4 ⟨rfl, hb4⟩
  have hsz4 := hb4.size
  have c1 := (hb4.cell (p := ⟨w.heap.size + 1, 0, none⟩) (by rw [HSZ.out]; simp)).trans HC.out.2.1
  go_wp2_with fail
  refine (valid_yes b _ cb _ (HB.out.below hb4) Hvy.out).mono ?_
  rintro e w5 ⟨rfl, hb5⟩
  have hsz5 := hb5.size
  have c0 := (hb5.cell (p := ⟨w.heap.size, 0, none⟩) (by have := HSZ.out; simp; omega)).trans ((hb4.cell (p := ⟨w.heap.size, 0, none⟩) (by rw [HSZ.out]; simp)).trans HC.out.1)
  replace c1 := (hb5.cell (p := ⟨w.heap.size + 1, 0, none⟩) (by have := HSZ.out; simp; omega)).trans c1
  have HD : Hid (w.heap.size + 3 ≤ w5.heap.size ∧ Below w3.heap.size w3 w5) := ⟨by have := HSZ.out; omega, hb4.trans (hb5.mono hb4.size)⟩
  clear hb4 hb5 hsz4 hsz5
  go_wp2_with (at_make; refine wpList_make1 rfl _ _ rfl ((M.dig y).length + 1) rfl rfl (by omega) (by omega) HD.out.1 ?_; intro w6 hown6 hb6)
  generalize w5.heap.size = g at *
  replace HD : Hid (Below (w.heap.size + 3) w3 w6) := (HD.out.2.mono (by rw [HSZ.out]; exact Nat.le_refl _)).trans hb6
  clear c0 c1 hb6
  go_loopw [7, 29] (fun c i wr => AddRel w w3 g (M.dig y).length x y c i wr) (fun _ i _ => (M.dig y).length + 1 - (intOf i).toNat)
  case atStart => exact ⟨0, _, 0, rfl, rfl, Nat.zero_le _, List.length_replicate, M.Lim.replicate _, by omega, by omega, by simp [M.val], by simpa using hown6, HD.out⟩
  case round =>
    obtain ⟨k, zs, q, hi, hc, hk, hlen, hlim, hq0, hq1, hval, hown, hbW⟩ := hrel
    subst hi hc
    clear hown6 HD
    have hsW := hbW.size
    have c0 := (hbW.cell (p := ⟨w.heap.size, 0, none⟩) (by simp)).trans HC.out.1
    have c1 := (hbW.cell (p := ⟨w.heap.size + 1, 0, none⟩) (by simp)).trans HC.out.2.1
    have c2 := (hbW.cell (p := ⟨w.heap.size + 1 + 1, 0, none⟩) (by simp)).trans HC.out.2.2.1
    have f2 := (hbW.frozen (p := ⟨w.heap.size + 1 + 1, 0, none⟩) (by simp)).trans HC.out.2.2.2
    have HBW := Lib.hid hbW
    clear hbW
    have HVAL := Lib.hid hval
    have HLN := Lib.hid hlen
    have HLIM := Lib.hid hlim
    have HOWN := Lib.hid hown
    clear hval hlen hlim hown
    have hRA : Row wr a (M.dig x) ca := HA.out.below (HBW.out.mono (by rw [HSZ.out]; exact Nat.le_refl _))
    have hRB : Row wr b (M.dig y) cb := HB.out.below (HBW.out.mono (by rw [HSZ.out]; exact Nat.le_refl _))
    by_cases hlt : k < (M.dig y).length + 1
    · have h1 := (M.lim_dig x).get k
      have h2 := (M.lim_dig y).get k
      have HRA := Lib.hid hRA
      have HRB := Lib.hid hRB
      clear hRA hRB
      obtain ⟨hgB, hcz, hfz⟩ := HOWN.out.at k (by rw [HLN.out]; exact hlt)
      go_wp2_with fail
      go_quiet ((go_at_call 70; first | exact Calls.quiet_of_same (limbAt_any _ _ _ _ _ (by first | exact HRA.out | exact HRA.out.drewN _)) | exact Calls.quiet_of_same (limbAt_any _ _ _ _ _ (by first | exact HRB.out | exact HRB.out.drewN _))))
      go_wp2
      go_roundw
      case rel =>
        refine ⟨k + 1, zs.set k ((q + (M.el (M.dig x) k + M.el (M.dig y) k)) % 16777216), _, by go_num, rfl, by omega, by rw [List.length_set]; exact HLN.out, HLIM.out.set k (by omega) (by omega), by omega, by omega, ?_, ?_, (belowN HBW.out nq).setCell (p := ⟨g, k, none⟩) hgB _⟩
        · rw [M.val_set_succ _ _ _ (by rw [HLN.out]; exact hlt), M.val_take_succ', M.val_take_succ', Int.pow_succ]
          exact M.add_step HVAL.out
        · rw [List.length_set]
          exact (HOWN.out.drewN nq).set k _
      case measure => simp [intOf]; omega
    · have hk' : k = (M.dig y).length + 1 := by omega
      have hx2 : (M.dig x).length ≤ (M.dig y).length + 0 := by omega
      have hy2 : (M.dig y).length ≤ (M.dig y).length + 0 := by omega
      have hend : M.trimL zs = M.dig (x + y) := by
        refine M.add_end HLIM.out hx2 hy2 hq0 (c := q) ?_
        have hv := HVAL.out
        rw [List.take_of_length_le (by rw [HLN.out]; omega), List.take_of_length_le (by omega), List.take_of_length_le (by omega), M.val_dig, M.val_dig, hk'] at hv
        exact hv
      have hw := within_any _ zs _ wr HOWN.out.rowAt
      have ho := HOWN.out.trimmed
      rw [HLN.out] at hw
      rw [hend] at hw ho
      obtain ⟨a', c', hcut⟩ := cut_slice (some ⟨g, 0, none⟩) ((M.dig y).length + 1) (M.dig (x + y))
      rw [hcut] at hw ho
      clear hRA hRB hend hcut
      have HO := Lib.hid ho
      have HK := Lib.hid hk'
      clear ho hk'
      have hs2 : w.heap.size + 1 + 1 < wr.heap.size := by have := HSZ.out; omega
      by_cases h200 : (M.dig (x + y)).length ≤ 200
      · rw [if_pos h200] at hw
        have HW := Lib.hid hw
        clear hw
        go_wp2_with (go_at_call 71; refine HW.out.mono ?_; rintro e w7 ⟨rfl, hb7⟩; have d2 := (hb7.cell (p := ⟨w.heap.size + 1 + 1, 0, none⟩) hs2).trans c2; have g2 := (hb7.frozen (p := ⟨w.heap.size + 1 + 1, 0, none⟩) hs2).trans f2)
        refine bodyPost_ret (v := .tuple #[.agg #[.slice a' (M.dig (x + y)).length c'], .int .i64 0]) (by simp [results, Tryd.results26, go_sem, d2]) rfl ⟨natRes_ok h200 ?_, ?_⟩
        · exact ((HO.out.below hb7).setBelow (p := ⟨w.heap.size + 1 + 1, 0, none⟩) (by simp) _).num
        · exact ((HB3.out.trans (HBW.out.mono (by omega))).trans (hb7.mono (by have := HSZ.out; omega))).setCell (p := ⟨w.heap.size + 1 + 1, 0, none⟩) (by simp; omega) _
      · rw [if_neg h200] at hw
        have HW := Lib.hid hw
        clear hw
        go_wp2_with (go_at_call 71; refine HW.out.mono ?_; rintro e w7 ⟨rfl, hb7⟩; have d2 := (hb7.cell (p := ⟨w.heap.size + 1 + 1, 0, none⟩) hs2).trans c2; have g2 := (hb7.frozen (p := ⟨w.heap.size + 1 + 1, 0, none⟩) hs2).trans f2)
        refine bodyPost_ret (v := .tuple #[.agg #[.slice none 0 0], .int .i64 3]) (by simp [results, Tryd.results26, go_sem, d2]) rfl ⟨natRes_limit h200, ?_⟩
        exact ((HB3.out.trans (HBW.out.mono (by omega))).trans (hb7.mono (by have := HSZ.out; omega))).setCell (p := ⟨w.heap.size + 1 + 1, 0, none⟩) (by simp; omega) _

set_option maxRecDepth 100000 in
set_option maxHeartbeats 2000000 in
theorem add_ge (a b : Option Addr) (ca cb x y : Nat) (w : World) (hx : (M.dig x).length ≤ 200) (hy : (M.dig y).length ≤ 200) (ha : Row w a (M.dig x) ca) (hb : Row w b (M.dig y) cb) (hle : (M.dig y).length ≤ (M.dig x).length) :
    Calls Tryd.prog 26 #[.agg #[.slice a (M.dig x).length ca], .agg #[.slice b (M.dig y).length cb]] w fun e W' =>
      NatRes (x + y) e W' ∧ Below w.heap.size w W' := by
  have Hvx := Lib.hid (vld_dig hx)
  have Hvy := Lib.hid (vld_dig hy)
  have hB3 := boxes_below w (.slice a (M.dig x).length ca) (.slice b (M.dig y).length cb)
  have hsz := boxes_size w (.slice a (M.dig x).length ca) (.slice b (M.dig y).length cb)
  have HA := Lib.hid (ha.below hB3)
  have HB := Lib.hid (hb.below hB3)
  have HC := Lib.hid (boxes_cells w (.slice a (M.dig x).length ca) (.slice b (M.dig y).length cb))
  have HB3 := Lib.hid hB3
  have HSZ := Lib.hid hsz
  have hla : (M.dig x).length ≤ ca := ha.room
  have hlb : (M.dig y).length ≤ cb := hb.room
  have hma := ha.most
  have hmb := hb.most
  clear ha hb hB3 hsz
  go_enter Tryd.func26, Tryd.ntmps26
  go_wp2_with fail
  generalize hw3 : (((w.alloc (.cells #[.slice a (M.dig x).length ca] 24)).alloc (.cells #[.slice b (M.dig y).length cb] 24)).alloc (.cells #[.slice none 0 0] 24)) = w3
  obtain rfl : boxes w (.slice a (M.dig x).length ca) (.slice b (M.dig y).length cb) = w3 := hw3
  generalize boxes w (.slice a (M.dig x).length ca) (.slice b (M.dig y).length cb) = w3 at *
  refine (valid_yes a _ ca _ HA.out Hvx.out).mono ?_
  rintro e w4 ⟨rfl, hb4⟩
  have hsz4 := hb4.size
  have c1 := (hb4.cell (p := ⟨w.heap.size + 1, 0, none⟩) (by rw [HSZ.out]; simp)).trans HC.out.2.1
  go_wp2_with fail
  refine (valid_yes b _ cb _ (HB.out.below hb4) Hvy.out).mono ?_
  rintro e w5 ⟨rfl, hb5⟩
  have hsz5 := hb5.size
  have c0 := (hb5.cell (p := ⟨w.heap.size, 0, none⟩) (by have := HSZ.out; simp; omega)).trans ((hb4.cell (p := ⟨w.heap.size, 0, none⟩) (by rw [HSZ.out]; simp)).trans HC.out.1)
  replace c1 := (hb5.cell (p := ⟨w.heap.size + 1, 0, none⟩) (by have := HSZ.out; simp; omega)).trans c1
  have HD : Hid (w.heap.size + 3 ≤ w5.heap.size ∧ Below w3.heap.size w3 w5) := ⟨by have := HSZ.out; omega, hb4.trans (hb5.mono hb4.size)⟩
  clear hb4 hb5 hsz4 hsz5
  go_wp2_with (at_make; refine wpList_make1 rfl _ _ rfl ((M.dig x).length + 1) rfl rfl (by omega) (by omega) HD.out.1 ?_; intro w6 hown6 hb6)
  generalize w5.heap.size = g at *
  replace HD : Hid (Below (w.heap.size + 3) w3 w6) := (HD.out.2.mono (by rw [HSZ.out]; exact Nat.le_refl _)).trans hb6
  clear c0 c1 hb6
  go_loopw [7, 29] (fun c i wr => AddRel w w3 g (M.dig x).length x y c i wr) (fun _ i _ => (M.dig x).length + 1 - (intOf i).toNat)
  case atStart => exact ⟨0, _, 0, rfl, rfl, Nat.zero_le _, List.length_replicate, M.Lim.replicate _, by omega, by omega, by simp [M.val], by simpa using hown6, HD.out⟩
  case round =>
    obtain ⟨k, zs, q, hi, hc, hk, hlen, hlim, hq0, hq1, hval, hown, hbW⟩ := hrel
    subst hi hc
    clear hown6 HD
    have hsW := hbW.size
    have c0 := (hbW.cell (p := ⟨w.heap.size, 0, none⟩) (by simp)).trans HC.out.1
    have c1 := (hbW.cell (p := ⟨w.heap.size + 1, 0, none⟩) (by simp)).trans HC.out.2.1
    have c2 := (hbW.cell (p := ⟨w.heap.size + 1 + 1, 0, none⟩) (by simp)).trans HC.out.2.2.1
    have f2 := (hbW.frozen (p := ⟨w.heap.size + 1 + 1, 0, none⟩) (by simp)).trans HC.out.2.2.2
    have HBW := Lib.hid hbW
    clear hbW
    have HVAL := Lib.hid hval
    have HLN := Lib.hid hlen
    have HLIM := Lib.hid hlim
    have HOWN := Lib.hid hown
    clear hval hlen hlim hown
    have hRA : Row wr a (M.dig x) ca := HA.out.below (HBW.out.mono (by rw [HSZ.out]; exact Nat.le_refl _))
    have hRB : Row wr b (M.dig y) cb := HB.out.below (HBW.out.mono (by rw [HSZ.out]; exact Nat.le_refl _))
    by_cases hlt : k < (M.dig x).length + 1
    · have h1 := (M.lim_dig x).get k
      have h2 := (M.lim_dig y).get k
      have HRA := Lib.hid hRA
      have HRB := Lib.hid hRB
      clear hRA hRB
      obtain ⟨hgB, hcz, hfz⟩ := HOWN.out.at k (by rw [HLN.out]; exact hlt)
      go_wp2_with fail
      go_quiet ((go_at_call 70; first | exact Calls.quiet_of_same (limbAt_any _ _ _ _ _ (by first | exact HRA.out | exact HRA.out.drewN _)) | exact Calls.quiet_of_same (limbAt_any _ _ _ _ _ (by first | exact HRB.out | exact HRB.out.drewN _))))
      go_wp2
      go_roundw
      case rel =>
        refine ⟨k + 1, zs.set k ((q + (M.el (M.dig x) k + M.el (M.dig y) k)) % 16777216), _, by go_num, rfl, by omega, by rw [List.length_set]; exact HLN.out, HLIM.out.set k (by omega) (by omega), by omega, by omega, ?_, ?_, (belowN HBW.out nq).setCell (p := ⟨g, k, none⟩) hgB _⟩
        · rw [M.val_set_succ _ _ _ (by rw [HLN.out]; exact hlt), M.val_take_succ', M.val_take_succ', Int.pow_succ]
          exact M.add_step HVAL.out
        · rw [List.length_set]
          exact (HOWN.out.drewN nq).set k _
      case measure => simp [intOf]; omega
    · have hk' : k = (M.dig x).length + 1 := by omega
      have hx2 : (M.dig x).length ≤ (M.dig x).length + 0 := by omega
      have hy2 : (M.dig y).length ≤ (M.dig x).length + 0 := by omega
      have hend : M.trimL zs = M.dig (x + y) := by
        refine M.add_end HLIM.out hx2 hy2 hq0 (c := q) ?_
        have hv := HVAL.out
        rw [List.take_of_length_le (by rw [HLN.out]; omega), List.take_of_length_le (by omega), List.take_of_length_le (by omega), M.val_dig, M.val_dig, hk'] at hv
        exact hv
      have hw := within_any _ zs _ wr HOWN.out.rowAt
      have ho := HOWN.out.trimmed
      rw [HLN.out] at hw
      rw [hend] at hw ho
      obtain ⟨a', c', hcut⟩ := cut_slice (some ⟨g, 0, none⟩) ((M.dig x).length + 1) (M.dig (x + y))
      rw [hcut] at hw ho
      clear hRA hRB hend hcut
      have HO := Lib.hid ho
      have HK := Lib.hid hk'
      clear ho hk'
      have hs2 : w.heap.size + 1 + 1 < wr.heap.size := by have := HSZ.out; omega
      by_cases h200 : (M.dig (x + y)).length ≤ 200
      · rw [if_pos h200] at hw
        have HW := Lib.hid hw
        clear hw
        go_wp2_with (go_at_call 71; refine HW.out.mono ?_; rintro e w7 ⟨rfl, hb7⟩; have d2 := (hb7.cell (p := ⟨w.heap.size + 1 + 1, 0, none⟩) hs2).trans c2; have g2 := (hb7.frozen (p := ⟨w.heap.size + 1 + 1, 0, none⟩) hs2).trans f2)
        refine bodyPost_ret (v := .tuple #[.agg #[.slice a' (M.dig (x + y)).length c'], .int .i64 0]) (by simp [results, Tryd.results26, go_sem, d2]) rfl ⟨natRes_ok h200 ?_, ?_⟩
        · exact ((HO.out.below hb7).setBelow (p := ⟨w.heap.size + 1 + 1, 0, none⟩) (by simp) _).num
        · exact ((HB3.out.trans (HBW.out.mono (by omega))).trans (hb7.mono (by have := HSZ.out; omega))).setCell (p := ⟨w.heap.size + 1 + 1, 0, none⟩) (by simp; omega) _
      · rw [if_neg h200] at hw
        have HW := Lib.hid hw
        clear hw
        go_wp2_with (go_at_call 71; refine HW.out.mono ?_; rintro e w7 ⟨rfl, hb7⟩; have d2 := (hb7.cell (p := ⟨w.heap.size + 1 + 1, 0, none⟩) hs2).trans c2; have g2 := (hb7.frozen (p := ⟨w.heap.size + 1 + 1, 0, none⟩) hs2).trans f2)
        refine bodyPost_ret (v := .tuple #[.agg #[.slice none 0 0], .int .i64 3]) (by simp [results, Tryd.results26, go_sem, d2]) rfl ⟨natRes_limit h200, ?_⟩
        exact ((HB3.out.trans (HBW.out.mono (by omega))).trans (hb7.mono (by have := HSZ.out; omega))).setCell (p := ⟨w.heap.size + 1 + 1, 0, none⟩) (by simp; omega) _


/-- **nat.Add** of two numbers. -/
theorem add_num {u v : Value} {x y : Nat} {w : World} (hx : (M.dig x).length ≤ 200) (hy : (M.dig y).length ≤ 200) (hu : Num w u x) (hv : Num w v y) :
    Calls Tryd.prog 26 #[u, v] w fun e W' => NatRes (x + y) e W' ∧ Below w.heap.size w W' := by
  obtain ⟨a, ca, rfl, ha⟩ := hu
  obtain ⟨b, cb, rfl, hb⟩ := hv
  rcases Nat.lt_or_ge (M.dig x).length (M.dig y).length with h | h
  · exact add_lt a b ca cb x y w hx hy ha hb h
  · exact add_ge a b ca cb x y w hx hy ha hb h
end Go.Proofs.YtfaggdjoogpmmaaDoor

namespace Go.Proofs.YtfaggdjoogpmmaaDoor
open Go Go.RowKit Go.Shelf

theorem dig_len_div (x y : Nat) : (M.dig (x / y)).length ≤ (M.dig x).length := M.dig_len_le.2 (Nat.lt_of_le_of_lt (Nat.div_le_self x y) (M.dig_len_le.1 (Nat.le_refl _)))
theorem dig_len_mod (x y : Nat) : (M.dig (x % y)).length ≤ (M.dig x).length := M.dig_len_le.2 (Nat.lt_of_le_of_lt (Nat.mod_le x y) (M.dig_len_le.1 (Nat.le_refl _)))
theorem dig_len_divmul (x y : Nat) : (M.dig (x / y * y)).length ≤ (M.dig x).length := M.dig_len_le.2 (Nat.lt_of_le_of_lt (Nat.div_mul_le_self x y) (M.dig_len_le.1 (Nat.le_refl _)))

def DivRes (x y : Nat) (e : Ending) (W : World) : Prop :=
  ∃ a1 c1 a2 c2, e = .returned (.tuple #[.agg #[.slice a1 (M.dig (x / y)).length c1], .agg #[.slice a2 (M.dig (x % y)).length c2], .int .i64 0]) ∧ Row W a1 (M.dig (x / y)) c1 ∧ Row W a2 (M.dig (x % y)) c2

/-- Four boxes: two parameters, two results. -/
theorem boxes4 (w : World) (u v : Value) : ∃ w4 : World, w4 = (boxes w u v).alloc (.cells #[.slice none 0 0] 24) ∧ w4.heap.size = w.heap.size + 4 ∧ Below w.heap.size w w4 ∧
    w4.cell? ⟨w.heap.size, 0, none⟩ = some u ∧ w4.cell? ⟨w.heap.size + 1, 0, none⟩ = some v ∧ w4.cell? ⟨w.heap.size + 1 + 1, 0, none⟩ = some (.slice none 0 0) ∧ w4.frozen? ⟨w.heap.size + 1 + 1, 0, none⟩ = false ∧
    w4.cell? ⟨w.heap.size + 1 + 1 + 1, 0, none⟩ = some (.slice none 0 0) ∧ w4.frozen? ⟨w.heap.size + 1 + 1 + 1, 0, none⟩ = false := by
  obtain ⟨h0, h1, h2, h3⟩ := boxes_cells w u v
  have hs := boxes_size w u v
  have h4 := cell_new (boxes w u v) (.slice none 0 0) 24
  have h5 := frozen_new (boxes w u v) (.slice none 0 0) 24
  rw [hs] at h4 h5
  exact ⟨_, rfl, by rw [World.size_alloc, hs], (boxes_below w u v).alloc (by rw [hs]; omega) _, cell_later _ h0, cell_later _ h1, cell_later _ h2, frozen_later _ h2 h3, h4, h5⟩

set_option maxRecDepth 100000 in
set_option maxHeartbeats 1000000 in
theorem divide_any (a b : Option Addr) (ca cb x y : Nat) (w : World) (hy : 0 < y) (hx200 : (M.dig x).length ≤ 200) (hy200 : (M.dig y).length ≤ 200) (hA : Row w a (M.dig x) ca) (hB : Row w b (M.dig y) cb) :
    Calls Tryd.prog 40 #[.agg #[.slice a (M.dig x).length ca], .agg #[.slice b (M.dig y).length cb]] w fun e W' => DivRes x y e W' ∧ Below w.heap.size w W' := by
  have hyl : ¬ (M.dig y).length = 0 := by intro h; have := M.dig_nil.1 (List.length_eq_zero_iff.1 h); omega
  have Hvx := Lib.hid (vld_dig hx200)
  have Hvy := Lib.hid (vld_dig hy200)
  have HA := Lib.hid hA
  have HB := Lib.hid hB
  clear hA hB
  go_enter Tryd.func40, Tryd.ntmps40
  go_wp2_with fail
  obtain ⟨w4, hw4, hs4, hb4, c0, c1, c2, f2, c3, f3⟩ := boxes4 w (.slice a (M.dig x).length ca) (.slice b (M.dig y).length cb)
  rw [show ((((w.alloc (.cells #[.slice a (M.dig x).length ca] 24)).alloc (.cells #[.slice b (M.dig y).length cb] 24)).alloc (.cells #[.slice none 0 0] 24)).alloc (.cells #[.slice none 0 0] 24)) = w4 from hw4.symm]
  have HB4 := Lib.hid hb4
  clear hw4 hb4
  refine (valid_yes a _ ca _ (HA.out.below HB4.out) Hvx.out).mono ?_
  rintro e w5 ⟨rfl, hb5⟩
  have d0 := cell_below hb5 c0
  have d1 := cell_below hb5 c1
  have d2 := cell_below hb5 c2
  have g2 := frozen_below hb5 c2 f2
  have d3 := cell_below hb5 c3
  have g3 := frozen_below hb5 c3 f3
  have HB5 := Lib.hid (HB4.out.trans (hb5.mono HB4.out.size))
  have hs5 := hb5.size
  clear c0 c1 c2 f2 c3 f3 hb5
  go_wp2_with fail
  refine (valid_yes b _ cb _ (HB.out.below HB5.out) Hvy.out).mono ?_
  rintro e w6 ⟨rfl, hb6⟩
  have c0 := cell_below hb6 d0
  have c1 := cell_below hb6 d1
  have c2 := cell_below hb6 d2
  have f2 := frozen_below hb6 d2 g2
  have c3 := cell_below hb6 d3
  have f3 := frozen_below hb6 d3 g3
  have HB6 := Lib.hid (HB5.out.trans (hb6.mono HB5.out.size))
  have hs6 := hb6.size
  clear d0 d1 d2 g2 d3 g3 hb6
  have hyn : (((M.dig y).length : Int) == 0) = false := beq_eq_false_iff_ne.2 (by omega)
  go_wp2_with fail
  refine (divideLimbs_any a b ca cb x y w6 hy hx200 hy200 (HA.out.below HB6.out) (HB.out.below HB6.out)).mono ?_
  rintro e w7 ⟨a1, p1, a2, p2, rfl, hr1, hr2, hf1, hf2, hb7⟩
  have HF1 := Lib.hid hf1
  have HF2 := Lib.hid hf2
  have d2 := cell_below hb7 c2
  have g2 := frozen_below hb7 c2 f2
  have d3 := cell_below hb7 c3
  have g3 := frozen_below hb7 c3 f3
  have HB7 := Lib.hid (HB6.out.trans (hb7.mono HB6.out.size))
  have hs7 := hb7.size
  have HR1 := Lib.hid hr1
  have HR2 := Lib.hid hr2
  clear c0 c1 c2 f2 c3 f3 hb7 hr1 hr2 hf1 hf2
  go_wp2_with fail
  refine bodyPost_ret (v := .tuple #[.agg #[.slice a1 (M.dig (x / y)).length p1], .agg #[.slice a2 (M.dig (x % y)).length p2], .int .i64 0]) (by simp [results, Tryd.results40, go_sem, d2, d3]) rfl ⟨⟨a1, p1, a2, p2, rfl, ?_, ?_⟩, ?_⟩
  · exact (HR1.out.setFresh HF1.out (p := ⟨w.heap.size + 1 + 1, 0, none⟩) (by show w.heap.size + 1 + 1 < _; omega) _).setFresh HF1.out (p := ⟨w.heap.size + 1 + 1 + 1, 0, none⟩) (by show w.heap.size + 1 + 1 + 1 < _; omega) _
  · exact (HR2.out.setFresh HF2.out (p := ⟨w.heap.size + 1 + 1, 0, none⟩) (by show w.heap.size + 1 + 1 < _; omega) _).setFresh HF2.out (p := ⟨w.heap.size + 1 + 1 + 1, 0, none⟩) (by show w.heap.size + 1 + 1 + 1 < _; omega) _
  · exact (HB7.out.setCell (p := ⟨w.heap.size + 1 + 1, 0, none⟩) (by simp; omega) _).setCell (p := ⟨w.heap.size + 1 + 1 + 1, 0, none⟩) (by simp; omega) _

set_option maxRecDepth 100000 in
set_option maxHeartbeats 1000000 in
theorem divide_zero (a b : Option Addr) (ca cb x : Nat) (w : World) (hx200 : (M.dig x).length ≤ 200) (hA : Row w a (M.dig x) ca) (hB : Row w b [] cb) :
    Calls Tryd.prog 40 #[.agg #[.slice a (M.dig x).length ca], .agg #[.slice b 0 cb]] w fun e W' => e = .returned (.tuple #[.agg #[.slice none 0 0], .agg #[.slice none 0 0], .int .i64 4]) ∧ Below w.heap.size w W' := by
  have Hvx := Lib.hid (vld_dig hx200)
  have Hvy : Hid (Vld []) := by have := vld_dig (n := 0) (by rw [M.dig_zero]; simp); rwa [M.dig_zero] at this
  have HA := Lib.hid hA
  have HB := Lib.hid hB
  clear hA hB
  go_enter Tryd.func40, Tryd.ntmps40
  go_wp2_with fail
  obtain ⟨w4, hw4, hs4, hb4, c0, c1, c2, f2, c3, f3⟩ := boxes4 w (.slice a (M.dig x).length ca) (.slice b 0 cb)
  rw [show ((((w.alloc (.cells #[.slice a (M.dig x).length ca] 24)).alloc (.cells #[.slice b 0 cb] 24)).alloc (.cells #[.slice none 0 0] 24)).alloc (.cells #[.slice none 0 0] 24)) = w4 from hw4.symm]
  have HB4 := Lib.hid hb4
  clear hw4 hb4
  refine (valid_yes a _ ca _ (HA.out.below HB4.out) Hvx.out).mono ?_
  rintro e w5 ⟨rfl, hb5⟩
  have d0 := cell_below hb5 c0
  have d1 := cell_below hb5 c1
  have d2 := cell_below hb5 c2
  have g2 := frozen_below hb5 c2 f2
  have d3 := cell_below hb5 c3
  have g3 := frozen_below hb5 c3 f3
  have HB5 := Lib.hid (HB4.out.trans (hb5.mono HB4.out.size))
  have hs5 := hb5.size
  clear c0 c1 c2 f2 c3 f3 hb5
  go_wp2_with fail
  refine (valid_yes b [] cb _ (HB.out.below HB5.out) Hvy.out).mono ?_
  rintro e w6 ⟨rfl, hb6⟩
  have c0 := cell_below hb6 d0
  have c1 := cell_below hb6 d1
  have c2 := cell_below hb6 d2
  have f2 := frozen_below hb6 d2 g2
  have c3 := cell_below hb6 d3
  have f3 := frozen_below hb6 d3 g3
  have HB6 := Lib.hid (HB5.out.trans (hb6.mono HB5.out.size))
  have hs6 := hb6.size
  clear d0 d1 d2 g2 d3 g3 hb6
  go_wp2_with fail
  refine bodyPost_ret (v := .tuple #[.agg #[.slice none 0 0], .agg #[.slice none 0 0], .int .i64 4]) (by simp [results, Tryd.results40, go_sem, c2, c3]) rfl ⟨rfl, ?_⟩
  exact (HB6.out.setCell (p := ⟨w.heap.size + 1 + 1, 0, none⟩) (by simp; omega) _).setCell (p := ⟨w.heap.size + 1 + 1 + 1, 0, none⟩) (by simp; omega) _
end Go.Proofs.YtfaggdjoogpmmaaDoor

namespace Go.Proofs.YtfaggdjoogpmmaaDoor
open Go Go.RowKit Go.Shelf

/-- The int in cell j of a slice. -/
def cellInt (W : World) (a : Option Addr) (j : Nat) : Int :=
  match a with
  | some p => match W.cell? ⟨p.block, p.off + j, none⟩ with | some (.int _ z) => z | _ => 0
  | none => 0
/-- The number that a slice holds. -/
def numAt (W : World) : Value → Nat
  | .slice a n _ => (M.val ((List.range n).map (cellInt W a))).toNat
  | _ => 0
theorem numAt_row {W : World} {a : Option Addr} {c v : Nat} (h : Row W a (M.dig v) c) : numAt W (.slice a (M.dig v).length c) = v := by
  have e : (List.range (M.dig v).length).map (cellInt W a) = M.dig v := by
    refine M.ext_el (by simp) fun j hj => ?_
    have hj' : j < (M.dig v).length := by simpa using hj
    obtain ⟨b, off, rfl, hc⟩ := h.el j hj'
    rw [M.el_lt hj, List.getElem_map, List.getElem_range]
    simp [cellInt, hc]
  unfold numAt
  simp only
  rw [e, M.val_dig, Int.toNat_natCast]

def GcdRel (w : World) (x y : Nat) (s t : Value) (W : World) : Prop :=
  ∃ (u v : Nat) (a b : Option Addr) (ca cb : Nat), s = .slice a (M.dig u).length ca ∧ t = .slice b (M.dig v).length cb ∧ Row W a (M.dig u) ca ∧ Row W b (M.dig v) cb ∧ Fresh (w.heap.size + 3) a (M.dig u) ∧ Fresh (w.heap.size + 3) b (M.dig v) ∧
    (M.dig u).length ≤ 200 ∧ (M.dig v).length ≤ 200 ∧ Nat.gcd u v = Nat.gcd x y ∧ W.cell? ⟨w.heap.size + 1 + 1, 0, none⟩ = some (.slice none 0 0) ∧ W.frozen? ⟨w.heap.size + 1 + 1, 0, none⟩ = false ∧ w.heap.size + 3 ≤ W.heap.size ∧ Below w.heap.size w W

set_option maxRecDepth 100000 in
set_option maxHeartbeats 1000000 in
theorem gcd_any (a b : Option Addr) (ca cb x y : Nat) (w : World) (hx200 : (M.dig x).length ≤ 200) (hy200 : (M.dig y).length ≤ 200) (hA : Row w a (M.dig x) ca) (hB : Row w b (M.dig y) cb) :
    Calls Tryd.prog 44 #[.agg #[.slice a (M.dig x).length ca], .agg #[.slice b (M.dig y).length cb]] w fun e W' => (∃ v, e = .returned (.tuple #[v, .int .i64 0]) ∧ Num W' v (Nat.gcd x y)) ∧ Below w.heap.size w W' := by
  have Hvx := Lib.hid (vld_dig hx200)
  have Hvy := Lib.hid (vld_dig hy200)
  have hb3 := boxes_below w (.slice a (M.dig x).length ca) (.slice b (M.dig y).length cb)
  have hs3 := boxes_size w (.slice a (M.dig x).length ca) (.slice b (M.dig y).length cb)
  obtain ⟨c0, c1, c2, f2⟩ := boxes_cells w (.slice a (M.dig x).length ca) (.slice b (M.dig y).length cb)
  have HA := Lib.hid hA
  have HB := Lib.hid hB
  have HB3 := Lib.hid hb3
  clear hA hB hb3
  go_enter Tryd.func44, Tryd.ntmps44
  go_wp2_with fail
  generalize hw3 : (((w.alloc (.cells #[.slice a (M.dig x).length ca] 24)).alloc (.cells #[.slice b (M.dig y).length cb] 24)).alloc (.cells #[.slice none 0 0] 24)) = w3
  obtain rfl : boxes w (.slice a (M.dig x).length ca) (.slice b (M.dig y).length cb) = w3 := hw3
  generalize boxes w (.slice a (M.dig x).length ca) (.slice b (M.dig y).length cb) = w3 at *
  refine (valid_yes a _ ca _ (HA.out.below HB3.out) Hvx.out).mono ?_
  rintro e w5 ⟨rfl, hb5⟩
  have d0 := cell_below hb5 c0
  have d1 := cell_below hb5 c1
  have d2 := cell_below hb5 c2
  have g2 := frozen_below hb5 c2 f2
  have HB5 := Lib.hid (HB3.out.trans (hb5.mono HB3.out.size))
  have hs5 := hb5.size
  clear c0 c1 c2 f2 hb5
  go_wp2_with fail
  refine (valid_yes b _ cb _ (HB.out.below HB5.out) Hvy.out).mono ?_
  rintro e w6 ⟨rfl, hb6⟩
  have c0 := cell_below hb6 d0
  have c1 := cell_below hb6 d1
  have c2 := cell_below hb6 d2
  have f2 := frozen_below hb6 d2 g2
  have HB6 := Lib.hid (HB5.out.trans (hb6.mono HB5.out.size))
  have hs6 := hb6.size
  clear d0 d1 d2 g2 hb6
  have HCA := Lib.hid (fun (W : World) (hb : Below w6.heap.size w6 W) => clone_row a (M.dig x) ca W ((HA.out.below HB6.out).below hb) (by omega))
  have HCB := Lib.hid (fun (W : World) (hb : Below w6.heap.size w6 W) => clone_row b (M.dig y) cb W ((HB.out.below HB6.out).below hb) (by omega))
  have hw6 : w.heap.size + 3 ≤ w6.heap.size := by omega
  go_wp2_with fail
  have hbd : Below w6.heap.size w6 w6.drew := belowN (Below.refl _ _) 1
  have hsd : w6.drew.heap.size = w6.heap.size := rfl
  go_region_held3 (fun w' => w'.cell? ⟨w.heap.size, 0, none⟩ = some (.slice a (M.dig x).length ca) ∧ w'.cell? ⟨w.heap.size + 1, 0, none⟩ = some (.slice b (M.dig y).length cb))
    (first | exact ⟨c0, c1⟩ | exact ⟨cell_below hb1 c0, cell_below hb1 c1⟩ | exact ⟨cell_below (hb1.trans (hb2.mono hb1.size)) c0, cell_below (hb1.trans (hb2.mono hb1.size)) c1⟩)
    (first
      | (go_at_call 80; (with_reducible refine (HCA.out _ hbd).mono ?_); rintro e wa ⟨a1, p1, rfl, ho1, hb1⟩)
      | (go_at_call 80; (with_reducible refine (HCB.out _ (hbd.trans (hb1.mono (Nat.le_refl _)))).mono ?_); rintro e wb ⟨b1, q1, rfl, ho2, hb2⟩))
  have hs1 := hb1.size
  have hs2 := hb2.size
  have hab := hbd.trans (hb1.mono (Nat.le_refl _))
  have hab2 := hab.trans (hb2.mono hab.size)
  have hr0 : GcdRel w x y (.slice a1 (M.dig x).length p1) (.slice b1 (M.dig y).length q1) wb :=
    ⟨x, y, a1, b1, p1, q1, rfl, rfl, ho1.rowAt.below hb2, ho2.rowAt, (ho1.mono (by omega)).fresh, (ho2.mono (by omega)).fresh, hx200, hy200, rfl, cell_below hab2 c2, frozen_below hab2 c2 f2, by omega, HB6.out.trans (hab2.mono (by omega))⟩
  have HR0 := Lib.hid hr0
  clear hr0 hab hab2 hs1 hs2 hsd hbd hb1 hb2 ho1 ho2 HCA HCB c0 c1 c2 f2 HB6 HB5 HB3 HA HB Hvx Hvy hs3 hs5 hs6 hw6
  try clear hHeld
  go_wp2_with fail
  go_loopw [6, 7] (fun s t wr => GcdRel w x y s t wr) (fun _ t wr => numAt wr t)
  case atStart => exact HR0.out
  case round =>
    clear HR0
    obtain ⟨u, v, a, b, ca, cb, rfl, rfl, hra, hrb, hfa, hfb, hu200, hv200, hg, c2, f2, hsz, hbw⟩ := hrel
    have HRA := Lib.hid hra
    have HRB := Lib.hid hrb
    have HFA := Lib.hid hfa
    have HFB := Lib.hid hfb
    have HG := Lib.hid hg
    have HBW := Lib.hid hbw
    clear hra hrb hfa hfb hg hbw
    by_cases hv0 : v = 0
    · subst hv0
      have hg0 := HG.out
      rw [Nat.gcd_zero_right] at hg0
      have HG0 := Lib.hid hg0
      clear hg0
      have hlt : w.heap.size + 1 + 1 < wr.heap.size := by omega
      rw [M.dig_zero]
      go_wp2_with fail
      refine bodyPost_ret (v := .tuple #[.agg #[.slice a (M.dig u).length ca], .int .i64 0]) (by simp [results, Tryd.results44, go_sem, c2]) rfl ⟨⟨_, rfl, a, ca, by rw [HG0.out], ?_⟩, ?_⟩
      · rw [← HG0.out]
        exact HRA.out.setFresh HFA.out (p := ⟨w.heap.size + 1 + 1, 0, none⟩) (by show w.heap.size + 1 + 1 < w.heap.size + 3; omega) _
      · exact HBW.out.setCell (p := ⟨w.heap.size + 1 + 1, 0, none⟩) (by simp; omega) _
    · have hvp : 0 < v := by omega
      have hvl : 0 < (M.dig v).length := by
        rcases Nat.eq_zero_or_pos (M.dig v).length with h | h
        · exact absurd (M.dig_nil.1 (List.length_eq_zero_iff.1 h)) hv0
        · exact h
      go_wp2_with fail
      refine (divideLimbs_any a b ca cb u v wr hvp hu200 hv200 HRA.out HRB.out).mono ?_
      rintro e w2 ⟨a1, c1, a2, p2, rfl, _, hr2, _, hf2, hb2⟩
      have HR2 := Lib.hid hr2
      have HF2 := Lib.hid hf2
      have HB2 := Lib.hid hb2
      clear hr2 hf2 hb2
      go_wp2_with fail
      go_roundw
      case rel =>
        exact ⟨v, u % v, b, a2, cb, p2, rfl, rfl, HRB.out.below HB2.out, HR2.out, HFB.out, fun b off e hl => Nat.le_trans hsz (HF2.out b off e hl), hv200, Nat.le_trans (dig_len_mod u v) hu200, by rw [← HG.out, Nat.gcd_comm v, ← Nat.gcd_rec, Nat.gcd_comm],
          cell_below HB2.out c2, frozen_below HB2.out c2 f2, Nat.le_trans hsz HB2.out.size, HBW.out.trans (HB2.out.mono HBW.out.size)⟩
      case measure =>
        rw [numAt_row HR2.out, numAt_row HRB.out]
        exact Nat.mod_lt u hvp
end Go.Proofs.YtfaggdjoogpmmaaDoor
