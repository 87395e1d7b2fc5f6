/- poly.divide of a polynomial that is no shorter. poly.Divide (of XPGcd). symbol.recurrence. symbol.wrongPlaces. Plain mathematics: what is added at the wrong places; the wrong places are found. symbol.Syndromes, Encode. bytes.Clone; symbol.corrected. What Decode looks for, plain mathematics. What ChanceFewer says, as mathematics. What ChanceBalls says, as mathematics. ChanceSmall: facts. symbol.Decode. ChanceSmall: the walk. What the statements' last steps share: a start that fits, and the row's post behind a call that only makes memory. A parameter of type []int: its row of numbers, and its reading again behind a call that only makes memory. -/
import Derived.Test.YtmejneobfkbgeaaGreatDoorB13
import Derived.Deep.CutBlock
import Derived.Deep.DeepCutAuto
import Derived.Deep.RegionLaw
import Derived.Test.YtmejneobfkbgeaaGreatDoorCards
import Derived.Test.YtmejneobfkbgeaaGreatDoorTie
import Derived.WalkKit
import Derived.ProofKit
import Derived.OpenShut
import Derived.Deep.DeepHandedRow
import Derived.Lib.LaidTab
namespace Go.Proofs.YtmejneobfkbgeaaGreatDoor.P
open Go Go.RowKit Go.Shelf
attribute [local go_sem] Oper.semAt_some

/-- The cells of divide. -/
structure DivC (w : World) (s g gr bs n m cr cb : Nat) (b : Option Addr) (q : List PM.G) (W : World) : Prop where
  c0 : W.cell? ⟨w.heap.size, 0, none⟩ = some (.slice b q.length cb)
  c1 : W.cell? ⟨w.heap.size + 1, 0, none⟩ = some (.slice (some ⟨g, 0, none⟩) n n)
  f1 : W.frozen? ⟨w.heap.size + 1, 0, none⟩ = false
  c2 : W.cell? ⟨w.heap.size + 1 + 1, 0, none⟩ = some (.slice (some ⟨gr, 0, none⟩) m cr)
  f2 : W.frozen? ⟨w.heap.size + 1 + 1, 0, none⟩ = false
  c6 : W.cell? ⟨s, 0, none⟩ = some (.int .i64 ((q.length : Int) - 1))
  c7 : W.cell? ⟨s + 1, 0, none⟩ = some (.int .u8 ((PM.el q (q.length - 1)).inv.v : Int))
  cb : W.cell? ⟨bs, 0, none⟩ = some (.slice (some ⟨g, 0, none⟩) n n)
/-- The cells before there is a quotient. -/
structure DivC0 (w : World) (s gr m cr cb : Nat) (b : Option Addr) (q : List PM.G) (W : World) : Prop where
  c0 : W.cell? ⟨w.heap.size, 0, none⟩ = some (.slice b q.length cb)
  c1 : W.cell? ⟨w.heap.size + 1, 0, none⟩ = some (.slice none 0 0)
  f1 : W.frozen? ⟨w.heap.size + 1, 0, none⟩ = false
  c2 : W.cell? ⟨w.heap.size + 1 + 1, 0, none⟩ = some (.slice (some ⟨gr, 0, none⟩) m cr)
  f2 : W.frozen? ⟨w.heap.size + 1 + 1, 0, none⟩ = false
  c6 : W.cell? ⟨s, 0, none⟩ = some (.int .i64 ((q.length : Int) - 1))
theorem DivC0.alloc {w W : World} {s gr m cr cb : Nat} {b : Option Addr} {q : List PM.G} (h : DivC0 w s gr m cr cb b q W) (o : Obj) : DivC0 w s gr m cr cb b q (W.alloc o) :=
  ⟨cell_later _ h.c0, cell_later _ h.c1, frozen_later _ h.c1 h.f1, cell_later _ h.c2, frozen_later _ h.c2 h.f2, cell_later _ h.c6⟩
theorem DivC0.below {w W W' : World} {s gr m cr cb : Nat} {b : Option Addr} {q : List PM.G} (h : DivC0 w s gr m cr cb b q W) (hb : Below W.heap.size W W') : DivC0 w s gr m cr cb b q W' :=
  ⟨cell_below hb h.c0, cell_below hb h.c1, frozen_below hb h.c1 h.f1, cell_below hb h.c2, frozen_below hb h.c2 h.f2, cell_below hb h.c6⟩
/-- What holds in divide's loop when k elements are still to come. -/
def DivI (w : World) (s g gr bs n m cr cb : Nat) (b : Option Addr) (p q : List PM.G) (k : Nat) (W : World) : Prop :=
  DivC w s g gr bs n m cr cb b q W ∧
  ∃ A R : List PM.G, Own W w.heap.size (.slice (some ⟨g, 0, none⟩) n n) A ∧ A.length = n ∧ Own W w.heap.size (.slice (some ⟨gr, 0, none⟩) m cr) R ∧ R.length = m ∧ (∀ j, j < k → PM.el A j = 0) ∧
    (∀ j, k + (q.length - 1) ≤ j → PM.el R j = 0) ∧ (∀ j, PM.el p j = PM.conv (PM.el A) (PM.el q) j + PM.el R j) ∧ Below w.heap.size w W
theorem divI_own {w : World} {s g gr bs n m cr cb : Nat} {b : Option Addr} {p q : List PM.G} {B0 : Nat} (hB0 : w.heap.size ≤ B0) : OwnFrom B0 (DivI w s g gr bs n m cr cb b p q) := by
  refine OwnFrom.and (Own.from (fun _ _ _ _ hs hg hr => ⟨cell_kept hs.c0 hg hr, cell_kept hs.c1 hg hr, (frozen_kept hs.c1 hg hr).trans hs.f1, cell_kept hs.c2 hg hr, (frozen_kept hs.c2 hg hr).trans hs.f2, cell_kept hs.c6 hg hr, cell_kept hs.c7 hg hr, cell_kept hs.cb hg hr⟩) _) ?_
  rintro k W W' row ⟨A, R, h1, h2, h3, h4, h5, h6, h7, h8⟩ hg hr
  exact ⟨A, R, ownFrom_own (B0 := B0) (fun (_ : Unit) => A) () _ _ _ h1 hg hr, h2, ownFrom_own (B0 := B0) (fun (_ : Unit) => R) () _ _ _ h3 hg hr, h4, h5, h6, h7, ownFrom_below (β := Unit) (Nat.le_refl _) hB0 () _ _ _ h8 hg hr⟩

theorem divI_start {w w8 w9 : World} {s gr n cr cb : Nat} {b : Option Addr} {p q : List PM.G} (hC8 : DivC0 w s gr p.length cr cb b q w8) (h87 : w8.cell? ⟨s + 1, 0, none⟩ = some (.int .u8 ((PM.el q (q.length - 1)).inv.v : Int)))
    (hs8 : w8.heap.size = s + 1 + 1) (hB8 : Below w.heap.size w w8) (hO8 : Own w8 (w.heap.size + 3) (.slice (some ⟨gr, 0, none⟩) p.length cr) p)
    (hO9 : Own w9 (s + 1 + 1) (.slice (some ⟨s + 1 + 1, 0, none⟩) (List.replicate n (0 : PM.G)).length n) (List.replicate n 0)) (hB9 : Below (s + 1 + 1) w8 w9) (hgr : w.heap.size + 3 ≤ gr) (hgr2 : gr < s) (hq0 : 0 < q.length) (hl : q.length ≤ p.length)
    (hn : p.length - (q.length - 1) = n) :
    DivI w s (s + 1 + 1) gr w9.heap.size n p.length cr cb b p q n ((w9.setCell ⟨w.heap.size + 1, 0, none⟩ (.slice (some ⟨s + 1 + 1, 0, none⟩) n n)).alloc (.cells #[.slice (some ⟨s + 1 + 1, 0, none⟩) n n] 34)) := by
  have hb9 : Below w8.heap.size w8 w9 := by rw [hs8]; exact hB9
  have hs9 := hb9.size
  have hC9 := hC8.below hb9
  have h97 := cell_below hb9 h87
  have hsz : (w9.setCell ⟨w.heap.size + 1, 0, none⟩ (.slice (some ⟨s + 1 + 1, 0, none⟩) n n)).heap.size = w9.heap.size := by simp [World.setCell]
  have hB10 := (hB8.trans (hb9.mono hB8.size)).setCell (p := ⟨w.heap.size + 1, 0, none⟩) (by simp) (.slice (some ⟨s + 1 + 1, 0, none⟩) n n)
  rw [List.length_replicate] at hO9
  refine ⟨⟨cell_later _ ((cell_other _ (by simp)).trans hC9.c0), cell_later _ (World.cell?_setCell_same' _ _ _ (by rw [hC9.c1]; rfl)), ?_, cell_later _ ((cell_other _ (by simp)).trans hC9.c2), ?_, cell_later _ ((cell_other _ (by simp <;> omega)).trans hC9.c6), cell_later _ ((cell_other _ (by simp <;> omega)).trans h97), ?_⟩,
    List.replicate n 0, p, ((hO9.setBelow (p := ⟨w.heap.size + 1, 0, none⟩) (by simp <;> omega) _).alloc _).mono (by omega), List.length_replicate, (((hO8.below hb9).setBelow (p := ⟨w.heap.size + 1, 0, none⟩) (by simp <;> omega) _).alloc _).mono (by omega), rfl, fun j _ => PM.el_replicate n j,
    fun j hj => PM.el_ge (by omega), fun j => ?_, hB10.alloc (by rw [hsz]; omega) _⟩
  · exact frozen_later _ (World.cell?_setCell_same' _ _ _ (by rw [hC9.c1]; rfl)) ((World.frozen?_setCell _ _ _ _).trans hC9.f1)
  · exact frozen_later _ ((cell_other _ (by simp)).trans hC9.c2) ((World.frozen?_setCell _ _ _ _).trans hC9.f2)
  · rw [← hsz]; exact cell_new _ _ _
  · rw [show PM.el (List.replicate n (0 : PM.G)) = PM.zeroC from funext (PM.el_replicate n), PM.conv_zeroC_l, PM.G.zero_add]
/-- Quotient and rest. -/
structure DivEq (p q A r : List PM.G) : Prop where
  eq : ∀ j, PM.el p j = PM.conv (PM.el A) (PM.el q) j + PM.el r j
  less : r.length < q.length
  can : PM.Can r
  canq : PM.Can A
  len : A.length = p.length + 1 - q.length

theorem div_math {p q A R ys : List PM.G} {k d : Nat} {f : PM.G} (hd : k + (q.length - 1) = d) (hk : k < A.length) (hq0 : 0 < q.length) (ht : PM.el q (q.length - 1) ≠ 0) (hzA : ∀ j, j < k + 1 → PM.el A j = 0)
    (hzR : ∀ j, k + 1 + (q.length - 1) ≤ j → PM.el R j = 0) (heq : ∀ j, PM.el p j = PM.conv (PM.el A) (PM.el q) j + PM.el R j) (hf : PM.el R d * (PM.el q (q.length - 1)).inv = f)
    (hy : ∀ j, PM.el ys j = PM.el R j + if j < k then 0 else f * PM.el q (j - k)) :
    (∀ j, j < k → PM.el (A.set k f) j = 0) ∧ (∀ j, k + (q.length - 1) ≤ j → PM.el ys j = 0) ∧ ∀ j, PM.el p j = PM.conv (PM.el (A.set k f)) (PM.el q) j + PM.el ys j := by
  refine ⟨fun j hj => ?_, fun j hj => ?_, fun j => ?_⟩
  · rw [PM.el_set hk, if_neg (by omega)]; exact hzA j (by omega)
  · rw [hy, if_neg (by omega)]
    by_cases e : j = d
    · subst e
      rw [show j - k = q.length - 1 by omega, ← hf, PM.G.mul_assoc, PM.G.mul_comm (PM.G.inv _), PM.G.mul_inv ht, PM.G.mul_one, PM.G.add_self]
    · rw [hzR j (by omega), PM.el_ge (p := q) (by omega), PM.G.mul_zero, PM.G.add_zero]
  · rw [PM.conv_put (PM.el A) (PM.el (A.set k f)) (PM.el q) f k (hzA k (by omega)) (fun i => PM.el_set hk f i), hy, heq]
    generalize PM.conv (PM.el A) (PM.el q) j = u, PM.el R j = v, (if j < k then (0 : PM.G) else f * PM.el q (j - k)) = t
    rw [PM.G.add_comm v t, PM.G.add_assoc, ← PM.G.add_assoc t t, PM.G.add_self, PM.G.zero_add]
theorem div_eq {p q A R r : List PM.G} (hp : Pol p) (hq0 : 0 < q.length) (hl : q.length ≤ p.length) (hr : Pol r) (hco : ∀ k, PM.el r k = PM.el R k) (hz : ∀ j, 0 + (q.length - 1) ≤ j → PM.el R j = 0)
    (heq : ∀ j, PM.el p j = PM.conv (PM.el A) (PM.el q) j + PM.el R j) (hA : A.length = p.length + 1 - q.length) : DivEq p q A r := by
  have hlr : r.length ≤ q.length - 1 := PM.can_len hr.can (fun k hk => by rw [hco]; exact hz k (by omega))
  refine ⟨fun j => by rw [hco]; exact heq j, by omega, hr.can, fun h0 => ?_, hA⟩
  have ht := (PM.conv_top (PM.el A) (PM.el q) (A.length - 1) (q.length - 1) (by rw [show A.length - 1 + 1 = A.length by omega]; exact PM.el_van A) (by rw [show q.length - 1 + 1 = q.length by omega]; exact PM.el_van q)).1
  have hp' := heq (p.length - 1)
  rw [hz (p.length - 1) (by omega), PM.G.add_zero, show p.length - 1 = A.length - 1 + (q.length - 1) by omega, ht] at hp'
  intro e
  rw [e, PM.G.zero_mul] at hp'
  exact hp.can (by omega) (by rw [show p.length - 1 = A.length - 1 + (q.length - 1) by omega]; exact hp')
theorem div_end {w W W2 : World} {g gr n m cr c2 D : Nat} {a2 : Option Addr} {A r : List PM.G} (hB : Below w.heap.size w W) (hA : Own W w.heap.size (.slice (some ⟨g, 0, none⟩) n n) A) (hr : Row W2 a2 r c2) (hb : Below (W.drewN 1).heap.size (W.drewN 1) W2)
    (hgb : ∀ b o, a2 = some ⟨b, o, none⟩ → b = gr) (y1 : W2.cell? ⟨w.heap.size + 1, 0, none⟩ = some (.slice (some ⟨g, 0, none⟩) n n)) (y2 : W2.cell? ⟨w.heap.size + 1 + 1, 0, none⟩ = some (.slice (some ⟨gr, 0, none⟩) m cr))
    (hK : W.heap[D]? = some (.deferred (some []))) (hgr : w.heap.size + 3 ≤ gr) (hD : gr < D) (hg : gr < g) :
    let W5 := ((W2.setCell ⟨w.heap.size + 1, 0, none⟩ (.slice (some ⟨g, 0, none⟩) n n)).setCell ⟨w.heap.size + 1 + 1, 0, none⟩ (.slice a2 r.length c2))
    W5.heap[D]? = some (.deferred (some [])) ∧ (W5.putObj D (.deferred none)).cell? ⟨w.heap.size + 1, 0, none⟩ = some (.slice (some ⟨g, 0, none⟩) n n) ∧ (W5.putObj D (.deferred none)).cell? ⟨w.heap.size + 1 + 1, 0, none⟩ = some (.slice a2 r.length c2) ∧
      Row (W5.putObj D (.deferred none)) (some ⟨g, 0, none⟩) A n ∧ Row (W5.putObj D (.deferred none)) a2 r c2 ∧ Below w.heap.size w (W5.putObj D (.deferred none)) := by
  intro W5
  have hDl : D < W.heap.size := (Array.getElem?_eq_some_iff.1 hK).1
  have hK2 : W2.heap[D]? = some (.deferred (some [])) := (hb.block D hDl).trans hK
  have hK5 : W5.heap[D]? = some (.deferred (some [])) := (Below.heap_setCell _ _ _ D (by simp <;> omega)).trans ((Below.heap_setCell _ _ _ D (by simp <;> omega)).trans hK2)
  have hg5 := grownBy_putObj' W5 D (.deferred none)
  have hA2 : Own W2 w.heap.size (.slice (some ⟨g, 0, none⟩) n n) A := (hA.drewN 1).below hb
  have hA5 : Own W5 w.heap.size (.slice (some ⟨g, 0, none⟩) n n) A := (hA2.other _ (by simp [Value.ownBlock] <;> omega)).other _ (by simp [Value.ownBlock] <;> omega)
  have hr5 : Row W5 a2 r c2 := (hr.grown (grown_set (World.grownBy.refl W2 (some (w.heap.size + 1))) 0 _) (fun b o e => by have := hgb b o e; intro h; cases h; omega)).grown (grown_set (World.grownBy.refl _ (some (w.heap.size + 1 + 1))) 0 _) (fun b o e => by have := hgb b o e; intro h; cases h; omega)
  have hB5 : Below w.heap.size w W5 := (((belowN hB 1).trans (hb.mono hB.size)).setCell (p := ⟨w.heap.size + 1, 0, none⟩) (by simp) _).setCell (p := ⟨w.heap.size + 1 + 1, 0, none⟩) (by simp <;> omega) _
  have hA6 := ownFrom_own (B0 := 0) (fun (_ : Unit) => A) () _ _ _ hA5 hg5 (fun r e => by cases e; exact ⟨Nat.zero_le _, _, hK5, rfl⟩)
  have hl := hA6.len
  refine ⟨hK5, cell_kept ((cell_other _ (by simp)).trans (World.cell?_setCell_same' _ _ _ (by rw [y1]; rfl))) hg5 (fun r e => by cases e; exact ⟨_, hK5, rfl⟩),
    cell_kept (World.cell?_setCell_same' _ _ _ (by rw [(cell_other _ (by simp)).trans y2]; rfl)) hg5 (fun r e => by cases e; exact ⟨_, hK5, rfl⟩),
    (show Own _ w.heap.size (.slice (some ⟨g, 0, none⟩) A.length n) A by rw [← hl]; exact hA6).rowAt, hr5.grown hg5 (fun b o e => by have := hgb b o e; intro h; cases h; omega), ?_⟩
  exact hB5.trans (belowK_b (w := w) (Nat.le_refl _) W5 D _ _ (by have := hB.size; omega) hK5 rfl rfl)
/-- What lies in memory when an element of the quotient has been stored. -/
structure DivM (w W W3 : World) (s g gr bs n m cr cb : Nat) (b : Option Addr) (q A R : List PM.G) (f : PM.G) (k : Nat) : Prop where
  c : DivC w s g gr bs n m cr cb b q W3
  oA : Own W3 w.heap.size (.slice (some ⟨g, 0, none⟩) n n) (A.set k f)
  oR : Own W3 w.heap.size (.slice (some ⟨gr, 0, none⟩) m cr) R
  below : Below w.heap.size w W3
  keeps : ∀ B0, KeepsFrom B0 W W3
  put : W3.cell? ⟨g, k, none⟩ = some (.int .u8 (f.v : Int))
theorem div_mid {w W : World} {s g gr bs n m cr cb k : Nat} {b : Option Addr} {q A R : List PM.G} (hC : DivC w s g gr bs n m cr cb b q W) (hA : Own W w.heap.size (.slice (some ⟨g, 0, none⟩) n n) A)
    (hR : Own W w.heap.size (.slice (some ⟨gr, 0, none⟩) m cr) R) (hB : Below w.heap.size w W) (hl : A.length = n) (hk : k < n) (hgg : g ≠ gr) (hs9 : g ≤ bs) (hg : s + 1 + 1 = g) (hgr1 : w.heap.size + 3 ≤ gr) (hgr2 : gr < s) {f : PM.G} (m2 : Nat) (W3 : World)
    (h3 : (W.drewN m2).setCell ⟨g, k, none⟩ (.int .u8 (f.v : Int)) = W3) : DivM w W W3 s g gr bs n m cr cb b q A R f k := by
  subst h3
  have hx := hA.at k (by omega)
  have hAl : Own W w.heap.size (.slice (some ⟨g, 0, none⟩) A.length n) A := by rw [hl]; exact hA
  have hA2 := (hAl.drewN m2).set k f
  rw [hl] at hA2
  have hbs : bs ≠ g := by
    intro e
    subst e
    have h0 := hC.cb
    have h1 := (hA.at 0 (by omega)).2.2.2.2.1
    rw [h1] at h0
    cases h0
  refine ⟨⟨(cell_other _ (by simp <;> omega)).trans hC.c0, (cell_other _ (by simp <;> omega)).trans hC.c1, (World.frozen?_setCell _ _ _ _).trans hC.f1, (cell_other _ (by simp <;> omega)).trans hC.c2, (World.frozen?_setCell _ _ _ _).trans hC.f2,
    (cell_other _ (by simp <;> omega)).trans hC.c6, (cell_other _ (by simp <;> omega)).trans hC.c7, (cell_other _ (by simp <;> omega)).trans hC.cb⟩, hA2, (hR.drewN m2).other _ (by simp [Value.ownBlock] <;> omega),
    (belowN hB m2).setCell (p := ⟨g, k, none⟩) (by simp <;> omega) _, fun B0 => ?_, World.cell?_setCell_same' _ _ _ (by rw [show (W.drewN m2).cell? ⟨g, k, none⟩ = _ from hx.2.2.2.2.1]; rfl)⟩
  exact (KeepsOthers.from (W := W) (W' := W.drewN m2) ⟨Nat.le_refl _, fun _ _ h _ => h⟩ _).trans ((KeepsOthers.setCell _ _ _).from _)

set_option maxRecDepth 100000 in
set_option maxHeartbeats 1000000 in
theorem divide_long (a b : Option Addr) (ca cb : Nat) (p q : List PM.G) (w : World) (ha : Row w a p ca) (hb : Row w b q cb) (hp : Pol p) (hq : Pol q) (hq0 : 0 < q.length) (hl : q.length ≤ p.length) :
    Calls Tryz.prog 127 #[.slice a p.length ca, .slice b q.length cb] w fun e W => (∃ A r a1 c1 a2 c2, e = .returned (.tuple #[.slice a1 A.length c1, .slice a2 r.length c2]) ∧ Row W a1 A c1 ∧ Row W a2 r c2 ∧ Loc w a2 ∧ DivEq p q A r) ∧ Below w.heap.size w W := by
  have hra := ha.room
  have hma := ha.most
  have hrb := hb.room
  have hmb := hb.most
  have hlp := hp.len
  have HP := Lib.hid hp
  have HQ := Lib.hid hq
  have HBR := Lib.hid hb
  have h3 := div3 w b cb q.length
  have HCL := Lib.hid (clone_any a p ca _ (ha.below h3.below) (by omega))
  have H3 := Lib.hid h3
  clear h3 hp hq ha hb
  refine (callsIn_wide (n := 6)).1 ?_
  refine callsIn_of_wp_marks Tryz.func127 rfl trivial ?_ rfl
  refine wpIn_wide.2 ?_
  simp only [Tryz.ntmps127, List.size_toArray, List.length_cons, List.length_nil, Nat.reduceAdd, Nat.reduceSub, Array.replicate_succ, Array.replicate_zero, List.push_toArray, List.append_toArray, List.nil_append, List.cons_append]
  go_wp2_with fail
  generalize ((w.alloc (.cells #[.slice b q.length cb] 34)).alloc (.cells #[.slice none 0 0] 34)).alloc (.cells #[.slice none 0 0] 34) = w3 at *
  refine HCL.out.mono ?_
  rintro e w4 ⟨a1, c1, rfl, hown, hb4⟩
  have h4 := H3.out.next hown hb4
  obtain ⟨gr, rfl, hgr1, hgr2⟩ := h4.own.fresh (by omega)
  obtain ⟨w5, hw5⟩ : ∃ w5, w4.setCell ⟨w.heap.size + 1 + 1, 0, none⟩ (.slice (some ⟨gr, 0, none⟩) p.length c1) = w5 := ⟨_, rfl⟩
  have hs4 := h4.size
  have H5 : Below w.heap.size w w5 ∧ w5.heap.size = w4.heap.size ∧ Own w5 (w.heap.size + 3) (.slice (some ⟨gr, 0, none⟩) p.length c1) p ∧ w5.cell? ⟨w.heap.size, 0, none⟩ = some (.slice b q.length cb) ∧
      w5.cell? ⟨w.heap.size + 1, 0, none⟩ = some (.slice none 0 0) ∧ w5.frozen? ⟨w.heap.size + 1, 0, none⟩ = false ∧ w5.cell? ⟨w.heap.size + 1 + 1, 0, none⟩ = some (.slice (some ⟨gr, 0, none⟩) p.length c1) ∧ w5.frozen? ⟨w.heap.size + 1 + 1, 0, none⟩ = false := by
    subst hw5
    exact ⟨h4.below.setCell (p := ⟨w.heap.size + 1 + 1, 0, none⟩) (by simp <;> omega) _, by simp [World.setCell], h4.own.setBelow (p := ⟨w.heap.size + 1 + 1, 0, none⟩) (by simp) _, (cell_other _ (by simp <;> omega)).trans h4.c0, (cell_other _ (by simp)).trans h4.c1,
      (World.frozen?_setCell _ _ _ _).trans h4.f1, World.cell?_setCell_same' _ _ _ (by rw [h4.c2]; rfl), (World.frozen?_setCell _ _ _ _).trans h4.f2⟩
  obtain ⟨hB5, hs5, hO5, k0, k1, g1, k2, g2⟩ := H5
  have l0 := cell_later (.cells #[.int .i64 ((q.length : Int) - 1)] 3) k0
  have l1 := cell_later (.cells #[.int .i64 ((q.length : Int) - 1)] 3) k1
  have n1 := frozen_later (.cells #[.int .i64 ((q.length : Int) - 1)] 3) k1 g1
  have l2 := cell_later (.cells #[.int .i64 ((q.length : Int) - 1)] 3) k2
  have n2 := frozen_later (.cells #[.int .i64 ((q.length : Int) - 1)] 3) k2 g2
  have l6 := cell_new w5 (.int .i64 ((q.length : Int) - 1)) 3
  have hO6 := hO5.alloc (.cells #[.int .i64 ((q.length : Int) - 1)] 3)
  have hB6 := hB5.alloc (by omega) (.cells #[.int .i64 ((q.length : Int) - 1)] 3)
  have hs6 : (w5.alloc (.cells #[.int .i64 ((q.length : Int) - 1)] 3)).heap.size = w4.heap.size + 1 := by simp [hs5]
  rw [hs5] at l6
  obtain ⟨s, hs⟩ : ∃ s, w4.heap.size = s := ⟨_, rfl⟩
  rw [hs] at hs4 hs5 hs6 l6 hgr2
  obtain ⟨w6, hw6⟩ : ∃ w6, w5.alloc (.cells #[.int .i64 ((q.length : Int) - 1)] 3) = w6 := ⟨_, rfl⟩
  rw [hw6] at l0 l1 n1 l2 n2 l6 hO6 hB6 hs6
  have d2 := h4.c2
  have e2 := h4.f2
  have HT := Lib.hid (top_any b cb q w6 (HBR.out.below hB6) hq0)
  have HB6 := Lib.hid hB6
  have HO6 := Lib.hid hO6
  clear HCL H3 hown hb4 h4 hB5 hO5 hB6 hO6
  go_wp2_with fail
  refine HT.out.mono ?_
  rintro e w7' ⟨rfl, m7, hm7⟩
  obtain ⟨w7, hw7⟩ : ∃ w7, w7' = w7 := ⟨_, rfl⟩
  have H7 : w7.heap.size = s + 1 ∧ Below w.heap.size w w7 ∧ Own w7 (w.heap.size + 3) (.slice (some ⟨gr, 0, none⟩) p.length c1) p ∧ DivC0 w s gr p.length c1 cb b q w7 := by
    subst hm7 hw7
    exact ⟨hs6, belowN HB6.out m7, HO6.out.drewN m7, l0, l1, n1, l2, n2, l6⟩
  clear hm7 HB6 HO6 l0 l1 n1 l2 n2 l6 k0 k1 k2 g1 g2 d2 e2 hs5 hs6 HT
  subst hw7
  obtain ⟨hs7, hB7, hO7, hC7⟩ := H7
  obtain ⟨w8, hw8⟩ : ∃ w8, w7'.alloc (.cells #[.int .u8 ((PM.el q (q.length - 1)).inv.v : Int)] 5) = w8 := ⟨_, rfl⟩
  have H8 : w8.heap.size = s + 1 + 1 ∧ Below w.heap.size w w8 ∧ Own w8 (w.heap.size + 3) (.slice (some ⟨gr, 0, none⟩) p.length c1) p ∧ DivC0 w s gr p.length c1 cb b q w8 ∧ w8.cell? ⟨s + 1, 0, none⟩ = some (.int .u8 ((PM.el q (q.length - 1)).inv.v : Int)) := by
    have hsz := hB7.size
    subst hw8
    exact ⟨by simp [hs7], hB7.alloc hsz _, hO7.alloc _, hC7.alloc _, by rw [← hs7]; exact cell_new _ _ _⟩
  obtain ⟨hs8, hB8, hO8, hC8, h87⟩ := H8
  obtain ⟨n, hn⟩ : ∃ n, p.length - (q.length - 1) = n := ⟨_, rfl⟩
  have hC80 := hC8.c0
  have hC81 := hC8.c1
  have hC8f := hC8.f1
  have hC86 := hC8.c6
  have HC8 := Lib.hid hC8
  have HB8 := Lib.hid hB8
  have HO8 := Lib.hid hO8
  clear hB7 hO7 hC7 hC8 hB8 hO8
  go_wp2_with (at_make; refine wpList_make1 rfl _ _ rfl n rfl rfl (by omega) (by omega) (B := w8.heap.size) (Nat.le_refl _) ?_; intro w9 hown9 hb9; rw [hs8] at hown9 hb9; have hst := divI_start HC8.out h87 hs8 HB8.out HO8.out hown9 hb9 hgr1 hgr2 hq0 hl hn; have hb9' : Below w8.heap.size w8 w9 := (by rw [hs8]; exact hb9); have j91 := cell_below hb9' hC81; have j9f := frozen_below hb9' hC81 hC8f; have j10 := World.cell?_setCell_same' w9 ⟨w.heap.size + 1, 0, none⟩ (.slice (some ⟨s + 1 + 1, 0, none⟩) n n) (by rw [j91]; rfl); have hs9 := hb9'.size; have HST := Lib.hid hst; clear hst hown9 hb9 hb9')
  refine (backward_any _ _ _ _).mono ?_
  rintro e w11' ⟨rfl, rfl⟩
  have hsz : (w9.setCell ⟨w.heap.size + 1, 0, none⟩ (.slice (some ⟨s + 1 + 1, 0, none⟩) n n)).heap.size = w9.heap.size := by simp [World.setCell]
  rw [hsz]
  have hst := HST.out
  have hcb := hst.1.cb
  clear HST hsz j91 j9f j10 hC80 hC81 hC8f hC86 HC8 HB8 HO8 h87 hw8 hw6 hw5
  generalize (w9.setCell ⟨w.heap.size + 1, 0, none⟩ (.slice (some ⟨s + 1 + 1, 0, none⟩) n n)).alloc (.cells #[.slice (some ⟨s + 1 + 1, 0, none⟩) n n] 34) = w11 at *
  have hs11 := lt_of_cell hcb
  simp only at hs11
  clear hcb
  have HST := Lib.hid hst
  clear hst
  rw [hs8] at hs9
  generalize w9.heap.size = bs at *
  clear w9 hs8 w8 hs7 w7' w6 w5 hs w4 w3
  obtain ⟨g, hg⟩ : ∃ g, s + 1 + 1 = g := ⟨_, rfl⟩
  rw [hg] at HST hs9 ⊢
  go_wp2_with fail
  refine wpIn_wide.1 (wpIn_back (n := 6) (by omega) (Bs := bs) rfl rfl (some ⟨g, 0, none⟩) n n (by omega) (fun _ => 0) (DivI w s g gr bs n p.length c1 cb b p q) (fun _ _ _ => False) (divI_own (by have := HST.out.2; obtain ⟨_, _, _, _, _, _, _, _, _, h⟩ := this; exact h.size)) (fun _ _ _ _ _ hs _ _ => hs) HST.out (fun k W h => h.1.cb) ?read ?act ?assign ?body ?done ?stop)
  case read =>
    rintro k W ⟨_, A, _, hA, hlA, _, _, hz, _⟩ hk
    have := (hA.at k (by omega)).2.2.2.2.1
    rw [hz k (by omega)] at this
    exact ⟨g, 0, rfl, by rw [Nat.zero_add]; exact this⟩
  case assign =>
    intro l k W K hk hK
    gi_wp2
    exact hK
  case body =>
    rintro l k W hl hrec ⟨hC, A, R, hOA, hlA, hOR, hlR, hzA, hzR, heq, hB⟩ hk
    clear hl hrec HST
    have hmx : Tryz.prog.follows .mixedOrders = true := by kernel_rfl
    obtain ⟨d, hd⟩ : ∃ d, k + (q.length - 1) = d := ⟨_, rfl⟩
    have hidx : (k : Int) + ((q.length : Int) - 1) = (d : Int) := by omega
    have hdl : d < p.length := by omega
    have hwd : IntKind.i64.wrap (d : Int) = (d : Int) := by rw [IntKind.wrap_i64]; omega
    have hrr := hOR.at d (by omega)
    have haa := hOA.at k (by omega)
    have HC := Lib.hid hC
    have HOA := Lib.hid hOA
    have HOR := Lib.hid hOR
    have HZA := Lib.hid hzA
    have HZR := Lib.hid hzR
    have HEQ := Lib.hid heq
    have HB := Lib.hid hB
    have HLA := Lib.hid hlA
    have HLR := Lib.hid hlR
    have hkn1 : (k : Int) < (n : Int) := by omega
    have hgg : g ≠ gr := by omega
    clear hOA hOR hzA hzR heq hB hlA hlR hC
    refine wpIn_block (wpIn_seq ?_)
    refine wpIn_region_held (S := fun W' => W'.cell? ⟨w.heap.size + 1, 0, none⟩ = some (.slice (some ⟨g, 0, none⟩) n n) ∧ W'.cell? ⟨w.heap.size + 1 + 1, 0, none⟩ = some (.slice (some ⟨gr, 0, none⟩) p.length c1) ∧ W'.cell? ⟨s, 0, none⟩ = some (.int .i64 ((q.length : Int) - 1)) ∧ W'.cell? ⟨s + 1, 0, none⟩ = some (.int .u8 ((PM.el q (q.length - 1)).inv.v : Int)) ∧ W'.cell? ⟨gr, d, none⟩ = some (.int .u8 ((PM.el R d).v : Int))) hmx (by kernel_rfl) (by rintro ⟨_, _, h⟩; exact h) ⟨HC.out.c1, HC.out.c2, HC.out.c6, HC.out.c7, hrr.2.2.2.2.1⟩ (fun hHeld => ?_)
    refine wpAnyH_at 0 (some 31) (v := ?_) rfl rfl (by kernel_rfl) (by kernel_rfl) (by kernel_rfl) (fun _ _ _ h => h) (Or.inl ⟨by rfl, ?_⟩) hHeld ?_
    rotate_left
    · (intro W2 hSw; obtain ⟨j1, j2, j6, j7, jr⟩ := hSw; go_simp; try with_reducible rfl)
    simp only [Act.put, List.setIfInBounds_toArray, List.set_cons_zero, List.set_cons_succ]
    refine wpAnyH_at 1 (some 32) (v := ?_) rfl rfl (by kernel_rfl) (by kernel_rfl) (by kernel_rfl) (fun _ _ _ h => h) (Or.inl ⟨by rfl, ?_⟩) hHeld ?_
    rotate_left
    · (intro W2 hSw; obtain ⟨j1, j2, j6, j7, jr⟩ := hSw; go_simp; try with_reducible rfl)
    simp only [Act.put, List.setIfInBounds_toArray, List.set_cons_zero, List.set_cons_succ]
    refine wpAnyH_at 2 (some 33) (v := ?_) rfl rfl (by kernel_rfl) (by kernel_rfl) (by kernel_rfl) (fun _ _ _ h => h) (Or.inl ⟨by rfl, ?_⟩) hHeld ?_
    rotate_left
    · (intro W2 hSw; obtain ⟨j1, j2, j6, j7, jr⟩ := hSw; go_simp; try with_reducible rfl)
    simp only [Act.put, List.setIfInBounds_toArray, List.set_cons_zero, List.set_cons_succ]
    refine wpAnyH_at 3 (some 34) (v := ?_) rfl rfl (by kernel_rfl) (by kernel_rfl) (by kernel_rfl) (fun _ _ _ h => h) (Or.inl ⟨by rfl, ?_⟩) hHeld ?_
    rotate_left
    · (intro W2 hSw; obtain ⟨j1, j2, j6, j7, jr⟩ := hSw; go_simp; try with_reducible rfl)
    simp only [Act.put, List.setIfInBounds_toArray, List.set_cons_zero, List.set_cons_succ]
    refine wpAnyH_at 4 (some 35) (v := ?_) rfl rfl (by kernel_rfl) (by kernel_rfl) (by kernel_rfl) (fun _ _ _ h => h) (Or.inl ⟨by rfl, ?_⟩) hHeld ?_
    rotate_left
    · (intro W2 hSw; obtain ⟨j1, j2, j6, j7, jr⟩ := hSw; go_simp; try with_reducible rfl)
    simp only [Act.put, List.setIfInBounds_toArray, List.set_cons_zero, List.set_cons_succ]
    refine wpAnyH_at 5 (some 36) (v := ?_) rfl rfl (by kernel_rfl) (by kernel_rfl) (by kernel_rfl) (fun _ _ _ h => h) (Or.inl ⟨by rfl, ?_⟩) hHeld ?_
    rotate_left
    · (intro W2 hSw; obtain ⟨j1, j2, j6, j7, jr⟩ := hSw; go_simp; try with_reducible rfl)
    simp only [Act.put, List.setIfInBounds_toArray, List.set_cons_zero, List.set_cons_succ]
    refine wpAnyH_at 6 (some 37) (v := ?_) rfl rfl (by kernel_rfl) (by kernel_rfl) (by kernel_rfl) (fun _ _ _ h => h) (Or.inl ⟨by rfl, ?_⟩) hHeld ?_
    rotate_left
    · (intro W2 hSw; obtain ⟨j1, j2, j6, j7, jr⟩ := hSw; go_simp; try with_reducible rfl)
    simp only [Act.put, List.setIfInBounds_toArray, List.set_cons_zero, List.set_cons_succ]
    refine wpAnyH_at 7 (some 38) (v := ?_) rfl rfl (by kernel_rfl) (by kernel_rfl) (by kernel_rfl) (fun _ _ _ h => h) (Or.inl ⟨by rfl, ?_⟩) hHeld ?_
    rotate_left
    · (intro W2 hSw; obtain ⟨j1, j2, j6, j7, jr⟩ := hSw; go_simp; try with_reducible rfl)
    simp only [Act.put, List.setIfInBounds_toArray, List.set_cons_zero, List.set_cons_succ]
    refine wpAnyH_at 8 (some 39) (v := ?_) rfl rfl (by kernel_rfl) (by kernel_rfl) (by kernel_rfl) (fun _ _ _ h => h) (Or.inl ⟨by rfl, ?_⟩) hHeld ?_
    rotate_left
    · (intro W2 hSw; obtain ⟨j1, j2, j6, j7, jr⟩ := hSw; go_simp; try with_reducible rfl)
    simp only [Act.put, List.setIfInBounds_toArray, List.set_cons_zero, List.set_cons_succ]
    refine wpAnyH_ready (rs := [9]) (by kernel_rfl) (by simp) ?_
    refine AllReadyH.cons rfl (fun K hK => ?_) AllReadyH.nil
    go_simp
    refine (fmul_any (PM.el R d) (PM.el q (q.length - 1)).inv _).mono ?_
    rintro e W2 ⟨rfl, m2, rfl⟩
    refine hK.out _ _ ⟨HC.out.c1, HC.out.c2, HC.out.c6, HC.out.c7, hrr.2.2.2.2.1⟩ (fun hHeld => ?_)
    clear hK K
    refine wpAnyH_at 10 (some 41) (v := ?_) rfl rfl (by kernel_rfl) (by kernel_rfl) (by kernel_rfl) (fun _ _ _ h => h) (Or.inl ⟨by rfl, ?_⟩) hHeld ?_
    rotate_left
    · (intro W2 hSw; obtain ⟨j1, j2, j6, j7, jr⟩ := hSw; go_simp; try with_reducible rfl)
    simp only [Act.put, List.setIfInBounds_toArray, List.set_cons_zero, List.set_cons_succ]
    refine wpAnyH_ready (rs := [11]) (by kernel_rfl) (by simp) ?_
    refine AllReadyH.cons rfl (fun K hK => ?_) AllReadyH.nil
    obtain ⟨f, hf⟩ : ∃ f, PM.el R d * (PM.el q (q.length - 1)).inv = f := ⟨_, rfl⟩
    rw [hf]
    have x1 : ((W.drew).drewN m2).cell? ⟨g, k, none⟩ = some (.int .u8 ((PM.el A k).v : Int)) := haa.2.2.2.2.1
    have x2 : ((W.drew).drewN m2).frozen? ⟨g, k, none⟩ = false := haa.2.2.2.2.2
    obtain ⟨W3, hW3⟩ : ∃ W3, (W.drewN (1 + m2)).setCell ⟨g, k, none⟩ (.int .u8 (f.v : Int)) = W3 := ⟨_, rfl⟩
    have hst := div_mid HC.out HOA.out HOR.out HB.out HLA.out hk hgg hs9 hg hgr1 hgr2 (f := f) (1 + m2) W3 hW3
    have HM := Lib.hid hst
    clear hst
    go_simp
    refine hK.out _ _ ⟨HM.out.c.c1, HM.out.c.c2, HM.out.c.c6, HM.out.c.c7, (HM.out.oR.at d (by have := HLR.out; omega)).2.2.2.2.1⟩ (fun _ => wpAnyH_done (by kernel_rfl) ?_ _)
    have hkm : k < p.length := by omega
    have hpc : p.length ≤ c1 := by have := hrr.2.2.2.1; have := HLR.out; omega
    have hcm : c1 ≤ 9223372036854775807 := hrr.2.2.1
    have hkle : (k : Int) ≤ (p.length : Int) := by omega
    have hk0 : (0 : Int) ≤ (k : Int) := by omega
    have hkp : (k : Int) < (p.length : Int) := by omega
    clear hK K x1 x2 hHeld hrr haa HC HOA HOR HB hidx hwd hW3
    refine wpIn_region_held (S := fun W' => W'.cell? ⟨w.heap.size + 1, 0, none⟩ = some (.slice (some ⟨g, 0, none⟩) n n) ∧ W'.cell? ⟨w.heap.size + 1 + 1, 0, none⟩ = some (.slice (some ⟨gr, 0, none⟩) p.length c1) ∧ W'.cell? ⟨w.heap.size, 0, none⟩ = some (.slice b q.length cb) ∧ W'.cell? ⟨g, k, none⟩ = some (.int .u8 (f.v : Int))) hmx (by kernel_rfl) (by rintro ⟨_, _, h⟩; exact h) ⟨HM.out.c.c1, HM.out.c.c2, HM.out.c.c0, HM.out.put⟩ (fun hHeld => ?_)
    refine wpAnyH_at 0 (some 42) (v := ?_) rfl rfl (by kernel_rfl) (by kernel_rfl) (by kernel_rfl) (fun _ _ _ h => h) (Or.inl ⟨by rfl, ?_⟩) hHeld ?_
    rotate_left
    · (intro W2 hSw; obtain ⟨j1, j2, j0, jf⟩ := hSw; go_simp; try with_reducible rfl)
    simp only [Act.put, List.setIfInBounds_toArray, List.set_cons_zero, List.set_cons_succ]
    refine wpAnyH_at 1 (some 43) (v := ?_) rfl rfl (by kernel_rfl) (by kernel_rfl) (by kernel_rfl) (fun _ _ _ h => h) (Or.inl ⟨by rfl, ?_⟩) hHeld ?_
    rotate_left
    · (intro W2 hSw; obtain ⟨j1, j2, j0, jf⟩ := hSw; go_simp; try with_reducible rfl)
    simp only [Act.put, List.setIfInBounds_toArray, List.set_cons_zero, List.set_cons_succ]
    refine wpAnyH_at 2 (some 44) (v := ?_) rfl rfl (by kernel_rfl) (by kernel_rfl) (by kernel_rfl) (fun _ _ _ h => h) (Or.inl ⟨by rfl, ?_⟩) hHeld ?_
    rotate_left
    · (intro W2 hSw; obtain ⟨j1, j2, j0, jf⟩ := hSw; go_simp; try with_reducible rfl)
    simp only [Act.put, List.setIfInBounds_toArray, List.set_cons_zero, List.set_cons_succ]
    refine wpAnyH_at 3 (some 45) (v := ?_) rfl rfl (by kernel_rfl) (by kernel_rfl) (by kernel_rfl) (fun _ _ _ h => h) (Or.inl ⟨by rfl, ?_⟩) hHeld ?_
    rotate_left
    · (intro W2 hSw; obtain ⟨j1, j2, j0, jf⟩ := hSw; go_simp; try with_reducible rfl)
    simp only [Act.put, List.setIfInBounds_toArray, List.set_cons_zero, List.set_cons_succ]
    refine wpAnyH_at 4 (some 46) (v := ?_) rfl rfl (by kernel_rfl) (by kernel_rfl) (by kernel_rfl) (fun _ _ _ h => h) (Or.inl ⟨by rfl, ?_⟩) hHeld ?_
    rotate_left
    · (intro W2 hSw; obtain ⟨j1, j2, j0, jf⟩ := hSw; go_simp; try with_reducible rfl)
    simp only [Act.put, List.setIfInBounds_toArray, List.set_cons_zero, List.set_cons_succ]
    refine wpAnyH_at 5 (some 47) (v := ?_) rfl rfl (by kernel_rfl) (by kernel_rfl) (by kernel_rfl) (fun _ _ _ h => h) (Or.inl ⟨by rfl, ?_⟩) hHeld ?_
    rotate_left
    · (intro W2 hSw; obtain ⟨j1, j2, j0, jf⟩ := hSw; go_simp; try with_reducible rfl)
    simp only [Act.put, List.setIfInBounds_toArray, List.set_cons_zero, List.set_cons_succ]
    refine wpAnyH_at 6 (some 48) (v := ?_) rfl rfl (by kernel_rfl) (by kernel_rfl) (by kernel_rfl) (fun _ _ _ h => h) (Or.inl ⟨by rfl, ?_⟩) hHeld ?_
    rotate_left
    · (intro W2 hSw; obtain ⟨j1, j2, j0, jf⟩ := hSw; go_simp; try with_reducible rfl)
    simp only [Act.put, List.setIfInBounds_toArray, List.set_cons_zero, List.set_cons_succ]
    refine wpAnyH_at 7 (some 49) (v := ?_) rfl rfl (by kernel_rfl) (by kernel_rfl) (by kernel_rfl) (fun _ _ _ h => h) (Or.inl ⟨by rfl, ?_⟩) hHeld ?_
    rotate_left
    · (intro W2 hSw; obtain ⟨j1, j2, j0, jf⟩ := hSw; go_simp; try with_reducible rfl)
    simp only [Act.put, List.setIfInBounds_toArray, List.set_cons_zero, List.set_cons_succ]
    refine wpAnyH_ready (rs := [8]) (by kernel_rfl) (by simp) ?_
    refine AllReadyH.cons rfl (fun K hK => ?_) AllReadyH.nil
    go_simp
    rw [if_neg (show ¬ c1 = k by omega)]
    have hO3 := HM.out.oR.drewN 1
    rw [← HLR.out] at hO3
    have ht := addMul_any w.heap.size gr c1 k (p.length - k) (c1 - k) cb R q b f W3.drew hO3 ((HBR.out.below HM.out.below).drewN 1) (by have := HLR.out; omega) (by omega) (by omega) (by omega) (by
      intro h0 b' o e; subst e; have := HBR.out.lt h0; omega)
    refine ht.mono ?_
    clear ht hO3
    rintro e W4 ⟨ys, rfl, hl4, hel4, ho4, hg4⟩
    have hg4' : W3.grownBy W4 (some gr) := ⟨hg4.os, hg4.tape, hg4.output, hg4.size, hg4.block⟩
    have hw3 := HM.out.below.size
    rw [hl4, HLR.out] at ho4
    have hC4 := HM.out.c
    have z0 := cell_grown hg4' (show (w.heap.size : Nat) ≠ gr by omega) hC4.c0
    have z1 := cell_grown hg4' (show (w.heap.size + 1 : Nat) ≠ gr by omega) hC4.c1
    have z2 := cell_grown hg4' (show (w.heap.size + 1 + 1 : Nat) ≠ gr by omega) hC4.c2
    refine hK.out _ _ ⟨z1, z2, z0, cell_grown hg4' (show g ≠ gr from hgg) HM.out.put⟩ (fun _ => wpAnyH_done (by kernel_rfl) ?_ _)
    have hm := div_math hd (by have := HLA.out; omega) hq0 (HQ.out.can hq0) HZA.out HZR.out HEQ.out hf hel4
    have hO4 := HM.out.oA.grown hg4' (.inr (by simp [Value.ownBlock]; omega))
    refine ⟨(HM.out.keeps _).trans (KeepsFrom.of_grownBy hg4' (fun j e => by cases e; omega)), ⟨z0, z1, frozen_grown hg4' (show (w.heap.size + 1 : Nat) ≠ gr by omega) hC4.c1 hC4.f1, z2, frozen_grown hg4' (show (w.heap.size + 1 + 1 : Nat) ≠ gr by omega) hC4.c2 hC4.f2,
      cell_grown hg4' (show (s : Nat) ≠ gr by omega) hC4.c6, cell_grown hg4' (show (s + 1 : Nat) ≠ gr by omega) hC4.c7, cell_grown hg4' (show (bs : Nat) ≠ gr by omega) hC4.cb⟩,
      A.set k f, ys, hO4, by rw [List.length_set]; exact HLA.out, ho4, by rw [hl4]; exact HLR.out, hm.1, hm.2.1, hm.2.2, HM.out.below.grown hg4' hw3 (fun j e => by cases e; omega)⟩
  case done =>
    rintro D W hD ⟨hC, A, R, hOA, hlA, hOR, hlR, hzA, hzR, heq, hB⟩ hK
    have HC := Lib.hid hC
    have HOA := Lib.hid hOA
    have HOR := Lib.hid hOR
    have HZR := Lib.hid hzR
    have HEQ := Lib.hid heq
    have HB := Lib.hid hB
    have HLA := Lib.hid hlA
    have HLR := Lib.hid hlR
    have HK := Lib.hid hK
    clear hOA hOR hzA hzR heq hB hlA hlR hK HST hC
    have k1 := HC.out.c1
    have g1 := HC.out.f1
    have k2 := HC.out.c2
    have g2 := HC.out.f2
    have HT := Lib.hid (trim_res (PM.el R) (HOR.out.drewN 1) (by have := HLR.out; omega) (fun _ => rfl))
    have hws : w.heap.size ≤ W.heap.size := HB.out.size
    go_wp2_with fail
    go_region_with (go_at_call 145; refine HT.out.mono ?_; rintro e W2 ⟨⟨r, a2, c2, rfl, hr, hpol, hco, hgb⟩, hb⟩; have HGB := Lib.hid hgb; clear hgb; have y1 := cell_below hb k1; have u1 := frozen_below hb k1 g1; have y2 := cell_below hb k2; have u2 := frozen_below hb k2 g2; have HRR := Lib.hid hr; have HPO := Lib.hid hpol; have HCO := Lib.hid hco; have HBB := Lib.hid hb; clear hr hpol hco hb)
    all_goals
      have hend := div_end HB.out HOA.out HRR.out HBB.out HGB.out y1 y2 HK.out (by omega) (by omega) (by omega)
      have HE := Lib.hid hend
      clear hend
      obtain ⟨W5, hW5⟩ : ∃ W5, ((W2.setCell ⟨w.heap.size + 1, 0, none⟩ (.slice (some ⟨g, 0, none⟩) n n)).setCell ⟨w.heap.size + 1 + 1, 0, none⟩ (.slice a2 r.length c2)) = W5 := ⟨_, rfl⟩
      rw [hW5] at HE ⊢
      clear hW5
      go_wp2_with fail
      obtain ⟨hK5, z1, z2, hrA, hrr, hB5⟩ := HE.out
      refine ⟨by simp, .inl ⟨_, _, rfl, run_takeDeferred hK5, ?_⟩⟩
      refine ⟨.tuple #[.slice (some ⟨g, 0, none⟩) n n, .slice a2 r.length c2], ?_, ⟨A, r, some ⟨g, 0, none⟩, n, a2, c2, by rw [HLA.out], hrA, hrr, (fun b o e => by have := HGB.out b o e; omega), div_eq HP.out hq0 hl HPO.out HCO.out HZR.out HEQ.out (by have := HLA.out; omega)⟩, hB5⟩
      simp [results, Tryz.f127, go_sem, z1, z2]
  case stop =>
    rintro D c k W _ _ h _
    exact h.elim
end Go.Proofs.YtmejneobfkbgeaaGreatDoor.P

namespace Go.Proofs.YtmejneobfkbgeaaGreatDoor.P
open Go Go.RowKit Go.Shelf

theorem divide_res (a b : Option Addr) (ca cb : Nat) (p q : List PM.G) (w : World) (ha : Row w a p ca) (hb : Row w b q cb) (hp : Pol p) (hq : Pol q) (hq0 : 0 < q.length) :
    Calls Tryz.prog 127 #[.slice a p.length ca, .slice b q.length cb] w fun e W => (∃ A r a1 c1 a2 c2, e = .returned (.tuple #[.slice a1 A.length c1, .slice a2 r.length c2]) ∧ Row W a1 A c1 ∧ Row W a2 r c2 ∧ Loc w a2 ∧ DivEq p q A r) ∧ Below w.heap.size w W := by
  by_cases hl : q.length ≤ p.length
  · exact divide_long a b ca cb p q w ha hb hp hq hq0 hl
  · refine (divide_short a b ca cb p q w ha hb hp (by omega)).mono ?_
    rintro e W ⟨⟨a', c', rfl, hr, hlo⟩, hB⟩
    refine ⟨⟨[], p, none, 0, a', c', rfl, Row.nil _ _ _ (by omega), hr, hlo, ⟨fun j => ?_, by omega, hp.can, PM.can_nil, by show 0 = _; omega⟩⟩, hB⟩
    rw [show PM.el [] = PM.zeroC from rfl, PM.conv_zeroC_l, PM.G.zero_add]

/-- What Divide gives for two polynomials. -/
def DRes (p q : List PM.G) (e : Ending) (W : World) : Prop :=
  ∃ A r a1 c1 a2 c2, e = .returned (.tuple #[.slice a1 A.length c1, .slice a2 r.length c2, .int .i64 0]) ∧ Row W a1 A c1 ∧ Row W a2 r c2 ∧ DivEq p q A r
def DResL (w : World) (p q : List PM.G) (e : Ending) (W : World) : Prop :=
  ∃ A r a1 c1 a2 c2, e = .returned (.tuple #[.slice a1 A.length c1, .slice a2 r.length c2, .int .i64 0]) ∧ Row W a1 A c1 ∧ Row W a2 r c2 ∧ Loc w a2 ∧ DivEq p q A r

set_option maxRecDepth 100000 in
set_option maxHeartbeats 1000000 in
/-- **poly.Divide** -/
theorem pdiv_yes (a b : Option Addr) (ca cb : Nat) (p q : List PM.G) (w : World) (ha : Row w a p ca) (hb : Row w b q cb) (hp : Pol p) (hq : Pol q) (hq0 : 0 < q.length) :
    Calls Tryz.prog 80 #[.slice a p.length ca, .slice b q.length cb] w fun e W => DResL w p q e W ∧ Below w.heap.size w W := by
  have hrb := hb.room
  have hmb := hb.most
  have HA := Lib.hid ha
  have HB := Lib.hid hb
  have HP := Lib.hid hp
  have HQ := Lib.hid hq
  clear ha hb hp hq
  have hz : ((q.length : Int) == 0) = false := beq_false_of_ne (by omega)
  go_enter Tryz.func80, Tryz.ntmps80
  go_wp2_with fail
  refine (valid_yes a p ca w HA.out HP.out).mono ?_
  rintro e w1 ⟨rfl, hb1⟩
  have HB1 := Lib.hid (HB.out.below hb1)
  have HA1 := Lib.hid (HA.out.below hb1)
  go_wp2_with fail
  refine (valid_yes b q cb w1 HB1.out HQ.out).mono ?_
  rintro e w2 ⟨rfl, hb2⟩
  have HA2 := Lib.hid (HA1.out.below hb2)
  have HB2 := Lib.hid (HB1.out.below hb2)
  have HD2 := Lib.hid (hb1.trans (hb2.mono hb1.size))
  clear hb1 hb2 HA1 HB1
  go_wp2_with fail
  refine (divide_res a b ca cb p q w2 HA2.out HB2.out HP.out HQ.out hq0).mono ?_
  rintro e w3 ⟨⟨A, r, a1, c1, a2, c2, rfl, h1, h2, hlo, heq⟩, hb3⟩
  have hl2 : Loc w a2 := fun b o e => Nat.le_trans HD2.out.size (hlo b o e)
  go_wp2_with fail
  exact bodyPost_ret (v := .tuple #[.slice a1 A.length c1, .slice a2 r.length c2, .int .i64 0]) (by simp [results, Tryz.results80, go_sem]) rfl ⟨⟨A, r, a1, c1, a2, c2, rfl, h1, h2, hl2, heq⟩, HD2.out.trans (hb3.mono HD2.out.size)⟩

theorem DivEq.pol {p q A r : List PM.G} (h : DivEq p q A r) (hq : Pol q) : Pol r := ⟨h.can, by have := hq.len; have := h.less; omega⟩
end Go.Proofs.YtmejneobfkbgeaaGreatDoor.P

namespace Go.Proofs.YtmejneobfkbgeaaGreatDoor.P
open Go Go.RowKit Go.Shelf
open SM (Euc turned)

def lenV : Value → Nat
  | .slice _ n _ => n
  | _ => 0
/-- What Euclid's loop holds. -/
structure RecSt (w : World) (L : Nat) (u : Nat → PM.G) (t3 t4 t5 t6 t7 : Value) (last next lf f : List PM.G) (W : World) : Prop where
  euc : Euc L (turned L u) last next lf f
  go : L + 2 ≤ 2 * last.length
  r3 : ∃ a c, t3 = .slice a last.length c ∧ Row W a last c
  r4 : ∃ a c, t4 = .slice a next.length c ∧ Row W a next c
  r5 : ∃ a c, t5 = .slice a lf.length c ∧ Row W a lf c
  r6 : ∃ a c, t6 = .slice a f.length c ∧ Row W a f c
  d7 : t7 = .int .i64 ((next.length : Int) - 1)
  below : Below w.heap.size w W
/-- What recurrence answers. -/
def RecR (w : World) (L : Nat) (u : Nat → PM.G) (e : Ending) (W : World) : Prop :=
  ∃ (last next lf f : List PM.G) (a : Option Addr) (c : Nat), e = .returned (.slice a f.length c) ∧ Row W a f c ∧ f.length ≤ L + 1 ∧ Euc L (turned L u) last next lf f ∧ L + 2 ≤ 2 * last.length ∧ 2 * next.length < L + 2 ∧ Below w.heap.size w W

set_option maxRecDepth 100000 in
set_option maxHeartbeats 4000000 in
/-- **symbol.recurrence** -/
theorem recurrence_any (a : Option Addr) (zs : List PM.G) (cap : Nat) (w : World) (hR : Row w a zs cap) (hl : zs.length ≤ 100) :
    Calls Tryz.prog 76 #[.slice a zs.length cap] w (RecR w zs.length (PM.el zs)) := by
  have hroom := hR.room
  have hmost := hR.most
  have HR := Lib.hid hR
  have HPW := Lib.hid (spower_any zs.length (by omega) w)
  have hpz := pol_pol zs (by omega)
  have HPZ := Lib.hid hpz
  have hst0 := fun (p0 : List PM.G) (h0 : p0.length = zs.length + 1) (h1 : ∀ k, PM.el p0 k = PM.mono PM.G.one zs.length k) => SM.Euc.start (L := zs.length) (u := PM.el zs) (f0 := [PM.G.one]) h0 h1 hpz.can (fun k => by rw [pol_el]; rfl) rfl
  have HST := Lib.hid hst0
  obtain ⟨L, hL⟩ : ∃ L, zs.length = L := ⟨_, rfl⟩
  rw [hL] at HPW HST hroom hl ⊢
  obtain ⟨u, hu⟩ : ∃ u, PM.el zs = u := ⟨_, rfl⟩
  rw [hu] at HST ⊢
  have HL := Lib.hid hL
  clear hR hpz hst0 hL hu
  go_enter Tryz.func76, Tryz.ntmps76
  go_wp2_with fail
  (with_reducible refine HPW.out.mono ?_)
  rintro e w1 ⟨p0, a0, c0, rfl, hr0, hl0, he0, hb1⟩
  have hpo := polynomial_any a zs cap w1 (HR.out.below hb1) (by have := HL.out; omega)
  rw [HL.out] at hpo
  have HPO := Lib.hid hpo
  have HR0 := Lib.hid hr0
  have HST0 := Lib.hid (HST.out p0 hl0 he0)
  have HB1 := Lib.hid hb1
  have HL0 := Lib.hid hl0
  clear hpo hr0 he0 hb1 HST HPW hl0
  go_wp2_with fail
  (with_reducible refine HPO.out.mono ?_)
  rintro e w2 ⟨⟨a1, c1, rfl, hr1⟩, hb2⟩
  have hone := row_one w2 PM.G.one 5
  rw [one_int] at hone
  have hb3 : Below w2.heap.size w2 (w2.alloc (.cells #[.int .u8 1] 5)) := (Below.refl _ w2).alloc (Nat.le_refl _) _
  obtain ⟨w3, hw3⟩ : ∃ w3, w2.alloc (.cells #[.int .u8 1] 5) = w3 := ⟨_, rfl⟩
  rw [hw3] at hone hb3
  have HR3 := Lib.hid ((HR0.out.below hb2).below hb3)
  have HR4 := Lib.hid (hr1.below hb3)
  have HON := Lib.hid hone
  have HB3 := Lib.hid (HB1.out.trans ((hb2.trans (hb3.mono hb2.size)).mono HB1.out.size))
  clear hr1 hb2 hone hb3 HR0 HB1 HPO
  have hs0 : RecSt w L u (.slice a0 p0.length c0) (.slice a1 (pol zs).length c1) (.slice none 0 0) (.slice (some ⟨w2.heap.size, 0, none⟩) 1 1) (.int .i64 (((pol zs).length : Int) - 1)) p0 (pol zs) [] [PM.G.one] w3 :=
    ⟨HST0.out, by have := HL0.out; omega, ⟨_, _, rfl, HR3.out⟩, ⟨_, _, rfl, HR4.out⟩, ⟨_, _, rfl, Row.nil _ _ _ (by omega)⟩, ⟨_, _, rfl, HON.out⟩, rfl, HB3.out⟩
  have HS0 := Lib.hid hs0
  have hpl : (pol zs).length ≤ 255 := HPZ.out.len
  clear hs0 HST0 HR3 HR4 HON HB3 HL0 HPZ
  obtain ⟨q, hq⟩ : ∃ q, pol zs = q := ⟨_, rfl⟩
  rw [hq] at HS0 hpl ⊢
  clear hq
  go_wp2_with fail
  go_loopw [3, 4, 5, 6, 7] (fun t3 t4 t5 t6 t7 wr => ∃ last next lf f, RecSt w L u t3 t4 t5 t6 t7 last next lf f wr) (fun _ t4 _ _ _ _ => lenV t4)
  case atStart => exact ⟨_, _, _, _, HS0.out⟩
  case round => as_aux_lemma =>
    clear HS0
    obtain ⟨last, next, lf, f, he, hgo, ⟨a3, c3, rfl, h3⟩, ⟨a4, c4, rfl, h4⟩, ⟨a5, c5, rfl, h5⟩, ⟨a6, c6, rfl, h6⟩, rfl, hb⟩ := hrel
    have hsum := he.sum
    have hless := he.less
    have hlessf := he.lessf
    have hn1 : next.length ≤ 101 := by omega
    have hf1 : f.length ≤ 101 := by omega
    by_cases hge : (L : Int) ≤ 2 * ((next.length : Int) - 1)
    · have hp3 : Pol last := ⟨he.cl, by omega⟩
      have hp4 : Pol next := ⟨he.cn, by omega⟩
      have hp5 : Pol lf := ⟨he.clf, by omega⟩
      have hp6 : Pol f := ⟨he.cf, by omega⟩
      have HD := Lib.hid (pdiv_yes a3 a4 c3 c4 last next wr h3 h4 hp3 hp4 (by omega))
      have HE := Lib.hid he
      have H4 := Lib.hid h4
      have H5 := Lib.hid h5
      have H6 := Lib.hid h6
      have HB := Lib.hid hb
      have HP4 := Lib.hid hp4
      have HP5 := Lib.hid hp5
      have HP6 := Lib.hid hp6
      have HGO := Lib.hid hgo
      have HSU := Lib.hid hsum
      clear h3 h4 h5 h6 hb hp3 hp4 hp5 hp6 he hgo hsum
      go_wp2_with fail
      (with_reducible refine HD.out.mono ?_)
      rintro e w4 ⟨⟨A, r, a7, c7, a8, c8, rfl, hrA, hrr, _, heq⟩, hb4⟩
      have hal := heq.len
      have hrl := heq.less
      have hsu := HSU.out
      have hpA : Pol A := ⟨heq.canq, by omega⟩
      have HM := Lib.hid (mul_fitF a7 a6 c7 c6 A f w4 hrA (H6.out.below hb4) hpA HP6.out (by omega) (by omega) (by omega))
      clear hsu
      have HRR := Lib.hid hrr
      have HEQ := Lib.hid heq
      have HB4 := Lib.hid hb4
      clear hrA hrr heq hb4 hpA HD hal
      go_wp2_with fail
      (with_reducible refine HM.out.mono ?_)
      rintro e w5 ⟨⟨P, a9, c9, rfl, hrP, hpP, heP, _⟩, hb5⟩
      have hb45 := HB4.out.trans (hb5.mono HB4.out.size)
      have HAD := Lib.hid (add_yes a5 a9 c5 c9 lf P w5 (H5.out.below hb45) hrP HP5.out hpP)
      have HB5 := Lib.hid hb45
      have HRR5 := Lib.hid (HRR.out.below hb5)
      have HEP := Lib.hid heP
      clear hrP hpP heP hb5 hb45 HM HB4 HRR
      go_wp2_with fail
      (with_reducible refine HAD.out.mono ?_)
      rintro e w6 ⟨⟨s, a10, c10, rfl, hrs, hps, hes⟩, hb6⟩
      have hstep := HE.out.step HEQ.out.eq HEQ.out.less HEQ.out.can HEQ.out.canq HEQ.out.len HEP.out hps.can hes
      have hb56 := HB5.out.trans (hb6.mono HB5.out.size)
      have HN := Lib.hid (show RecSt w L u (.slice a4 next.length c4) (.slice a8 r.length c8) (.slice a6 f.length c6) (.slice a10 s.length c10) (.int .i64 ((r.length : Int) - 1)) next r f s w6 from
        ⟨hstep.1, by omega, ⟨_, _, rfl, H4.out.below hb56⟩, ⟨_, _, rfl, HRR5.out.below hb6⟩, ⟨_, _, rfl, H6.out.below hb56⟩, ⟨_, _, rfl, hrs⟩, rfl, HB.out.trans (hb56.mono HB.out.size)⟩)
      clear hrs hps hes hb6 hstep hb56 HAD HB5 HRR5 HEP HE H4 H5 H6 HB
      go_wp2_with fail
      go_roundw
      case rel => exact ⟨_, _, _, _, HN.out⟩
      case measure => simp [lenV]; omega
    · have HF := Lib.hid h6
      have HB := Lib.hid hb
      have HE := Lib.hid he
      have HGO := Lib.hid hgo
      clear h3 h4 h5 h6 hb he hgo
      go_wp2_with fail
      go_ret
      exact ⟨last, next, lf, f, a6, c6, rfl, HF.out, by have := HGO.out; omega, HE.out, HGO.out, by omega, HB.out⟩
end Go.Proofs.YtmejneobfkbgeaaGreatDoor.P

namespace Go.Proofs.YtmejneobfkbgeaaGreatDoor.P
open Go Go.RowKit Go.Shelf
open G.S (codeV Cd code_box length_any box4_at)
open G (Box IRow Idx ret_bool)

/-- The places that are roots of f and not erased. -/
def wrongL (f : List PM.G) (n : Nat) (E : List Nat) (k : Nat) : List Nat := (List.range k).filter (fun i => decide (PM.ev f (SM.XE n i) = 0) && decide (i ∉ E))
theorem wrongL_yes {f : List PM.G} {n : Nat} {E : List Nat} {k : Nat} (h : PM.ev f (SM.XE n k) = 0) (h2 : k ∉ E) : wrongL f n E (k + 1) = wrongL f n E k ++ [k] := by
  unfold wrongL
  rw [List.range_succ, List.filter_append]
  simp [h, h2]
theorem wrongL_no {f : List PM.G} {n : Nat} {E : List Nat} {k : Nat} (h : ¬ (PM.ev f (SM.XE n k) = 0 ∧ k ∉ E)) : wrongL f n E (k + 1) = wrongL f n E k := by
  unfold wrongL
  rw [List.range_succ, List.filter_append]
  have : (decide (PM.ev f (SM.XE n k) = 0) && decide (k ∉ E)) = false := by
    rw [Bool.and_eq_false_iff, decide_eq_false_iff_not, decide_eq_false_iff_not]
    by_cases h1 : PM.ev f (SM.XE n k) = 0
    · exact .inr (fun h2 => h ⟨h1, h2⟩)
    · exact .inl h1
  simp only [List.filter_cons, this, List.filter_nil, Bool.false_eq_true, if_false, List.append_nil]
theorem wrongL_le (f : List PM.G) (n : Nat) (E : List Nat) (k : Nat) : (wrongL f n E k).length ≤ k := by
  unfold wrongL
  have := List.length_filter_le (fun i => decide (PM.ev f (SM.XE n i) = 0) && decide (i ∉ E)) (List.range k)
  rwa [List.length_range] at this
theorem mem_wrongL {f : List PM.G} {n : Nat} {E : List Nat} {k i : Nat} : i ∈ wrongL f n E k ↔ i < k ∧ PM.ev f (SM.XE n i) = 0 ∧ i ∉ E := by
  unfold wrongL
  rw [List.mem_filter, List.mem_range, Bool.and_eq_true, decide_eq_true_iff, decide_eq_true_iff]
theorem wrongL_nodup (f : List PM.G) (n : Nat) (E : List Nat) (k : Nat) : (wrongL f n E k).Nodup := List.Pairwise.filter _ List.nodup_range
theorem wrongL_0 (f : List PM.G) (n : Nat) (E : List Nat) : wrongL f n E 0 = [] := rfl
attribute [irreducible] wrongL
/-- The sequence without the erased places. -/
def seqU (vs gp : List PM.G) (k : Nat) : PM.G := weighV (vs.drop k) gp gp.length
/-- What wrongPlaces has found. -/
def WrongR (n C : Nat) (vs : List PM.G) (E ws : List Nat) : Prop :=
  ∃ (f last next lf gp : List PM.G), RootsP (E.map (SM.XE n)) gp ∧ SM.Euc (C - E.length) (SM.turned (C - E.length) (seqU vs gp)) last next lf f ∧ C - E.length + 2 ≤ 2 * last.length ∧ 2 * next.length < C - E.length + 2 ∧ ws = wrongL f n E n

theorem Row.drop {w : World} {b off : Nat} {zs : List PM.G} {cap : Nat} (h : Row w (some ⟨b, off, none⟩) zs cap) (k : Nat) (hk : k ≤ zs.length) : Row w (some ⟨b, off + k, none⟩) (zs.drop k) (cap - k) :=
  ⟨by have := h.room; rw [List.length_drop]; omega, by have := h.most; omega, fun j hj => by
    rw [List.length_drop] at hj
    refine ⟨b, off + k, rfl, ?_⟩
    rw [PM.el_drop, Nat.add_assoc]
    exact h.cell (k + j) (by omega)⟩

set_option maxRecDepth 100000 in
set_option maxHeartbeats 4000000 in
/-- **symbol.wrongPlaces** -/
theorem wrongPlaces_any {D C F : Nat} (hc : Cd D C F) (av ae : Option Addr) (vs : List PM.G) (E : List Nat) (cv ce : Nat) (w : World) (hV : Row w av vs cv) (hE : G.Row w ae E ce) (hvl : vs.length = C) (hel : E.length ≤ C) (hin : ∀ k, k < E.length → G.el E k < D + C) :
    Calls Tryz.prog 32 #[codeV D C F, .slice av C cv, .slice ae E.length ce] w fun e W => ∃ ws a c, e = .returned (.slice a (List.length ws) c) ∧ G.Own W w.heap.size (.slice a ws.length c) ws ∧ WrongR (D + C) C vs E ws ∧ Below w.heap.size w W := by
  have hr1 := hV.room
  have hm1 := hV.most
  have hr2 := hE.room
  have hm2 := hE.most
  rw [hvl] at hr1
  have hC2 := hc.c2
  have hD2 := hc.d2
  obtain ⟨bv, ov, rfl, _⟩ := hV.el 0 (by have := hc.c1; omega)
  have HV := Lib.hid hV
  have HE := Lib.hid hE
  have HVL := Lib.hid hvl
  have HLC := Lib.hid (fun p hp W => locator_any hc p hp W)
  have HLE := Lib.hid (fun W => length_any hc W)
  have HLS := Lib.hid (fun W h => locators_any hc ae E ce W h (by omega) hin)
  unfold codeV at *
  obtain ⟨w1, hw1, _, _, _, _, hB, hX⟩ := code_box w D C F 23
  have HB := Lib.hid hB
  have hx := hX
  have HX := Lib.hid hX
  obtain ⟨c0, c1, c2, c3⟩ := box4_at hx
  have HL1 := Lib.hid (HLS.out w1 (hE.below hB))
  obtain ⟨n, hn⟩ : ∃ n, D + C = n := ⟨_, rfl⟩
  rw [hn] at HLC HLE HL1 ⊢
  have hn40 : n ≤ 40 := by omega
  clear hB hV hE hvl hin hX hx hc hn HLS
  go_enter Tryz.func32, Tryz.ntmps32
  go_wp2_with fail
  (with_reducible refine HL1.out.mono ?_)
  rintro e w2 ⟨g2, rfl, hg2, ho2, hb2⟩
  have hwr := withRoots_any (some ⟨g2, 0, none⟩) (tab E.length (locL n E)) E.length w2 (ho2.rowAtN (tab_len _ _)) (by rw [tab_len]; omega)
  rw [tab_len, loc_map] at hwr
  have HWR := Lib.hid hwr
  have HB2 := Lib.hid (HB.out.trans (hb2.mono HB.out.size))
  have HX2 := Lib.hid (HX.out.below hb2)
  clear hwr ho2 hg2 hb2 HL1 HX HB c0 c1 c2 c3 hw1
  go_wp2_with fail
  (with_reducible refine HWR.out.mono ?_)
  rintro e w3 ⟨⟨gp, a3, c3', rfl, hr3, hgp, _⟩, hb3⟩
  have HR3 := Lib.hid hr3
  have HGP := Lib.hid hgp
  have HB3 := Lib.hid (HB2.out.trans (hb3.mono HB2.out.size))
  have hx3 := HX2.out.below hb3
  have HX3 := Lib.hid hx3
  obtain ⟨c0, c1, c2, c3⟩ := box4_at hx3
  obtain ⟨L, hL⟩ : ∃ L, C - E.length = L := ⟨_, rfl⟩
  have hLi : (C : Int) - (E.length : Int) = (L : Int) := by omega
  clear hr3 hgp hb3 hx3 HWR HX2 HB2
  go_wp2_with (at_make; refine wpList_make1 rfl _ _ rfl L rfl rfl (by omega) (by omega) (B := w3.heap.size) (Nat.le_refl _) ?_; intro w4 ho4 hb4)
  obtain ⟨g, hg⟩ : ∃ g, w3.heap.size = g := ⟨_, rfl⟩
  rw [hg] at ho4 hb4 ⊢
  have hgw : w.heap.size ≤ g := by have := HB3.out.size; omega
  have hglen : gp.length = E.length + 1 := by have := HGP.out.len; rwa [List.length_map] at this
  obtain ⟨u, hu⟩ : ∃ u, seqU vs gp = u := ⟨_, rfl⟩
  have HU := Lib.hid hu
  have HGL := Lib.hid hglen
  rw [List.length_replicate, tab_replicate, ← part2_0 L u] at ho4
  have HO4 := Lib.hid ho4
  have HB4 := Lib.hid hb4
  have HG := Lib.hid hg
  have hLC : L ≤ C := by omega
  clear ho4 hb4 c0 c1 c2 c3 hu hg hglen
  go_loopw [25] (fun k wr => ∃ i : Nat, k = .int .i64 (i : Int) ∧ i ≤ L ∧ Own wr g (.slice (some ⟨g, 0, none⟩) L L) (tab L (part2 u (fun _ => 0) i)) ∧ Below g w3 wr) (fun k _ => L - (intOf k).toNat)
  case atStart => exact ⟨0, rfl, by omega, HO4.out, HB4.out⟩
  case round =>
    clear HO4 HB4
    obtain ⟨i, rfl, hi, ho, hb⟩ := hrel
    have HO := Lib.hid ho
    have HB := Lib.hid hb
    have hbg : Below w3.heap.size w3 wr := by rw [HG.out]; exact hb
    have HR := Lib.hid (HR3.out.below hbg)
    have HVR := Lib.hid (HV.out.below (HB3.out.trans (hbg.mono HB3.out.size)))
    clear ho hb hbg
    by_cases hlt : i < L
    · have hw := fun W (h : Dr wr W) => weigh_any (some ⟨bv, ov + i, none⟩) a3 (vs.drop i) gp (cv - i) c3' W (by obtain ⟨m, rfl⟩ := h; exact (HVR.out.drop i (by rw [HVL.out]; omega)).drewN m) (by obtain ⟨m, rfl⟩ := h; exact HR.out.drewN m) (by rw [List.length_drop, HVL.out, HGL.out]; omega) (by rw [List.length_drop, HVL.out]; omega)
      have hs : weighV (vs.drop i) gp gp.length = u i := by rw [← HU.out]; rfl
      rw [List.length_drop, HVL.out, hs] at hw
      have HW := Lib.hid hw
      have ha := (HO.out.at i (by rw [tab_len]; exact hlt)).2.2.2.2
      obtain ⟨ha1, ha2⟩ := ha
      have hiC : (i : Int) ≤ (C : Int) := by omega
      have hicv : (i : Int) ≤ (cv : Int) := by omega
      have hcvi : ¬ cv = i := by omega
      clear hw hs
      obtain ⟨y, hy⟩ : ∃ y, u i = y := ⟨_, rfl⟩
      rw [hy] at HW
      have HY := Lib.hid hy
      clear hy
      go_wp2_with fail
      (with_reducible refine (HW.out wr (Dr.refl wr)).mono ?_)
      rintro e w5 ⟨rfl, m5, rfl⟩
      have hst2 : Own ((wr.drewN m5).setCell ⟨g, i, none⟩ (.int .u8 (y.v : Int))) g (.slice (some ⟨g, 0, none⟩) L L) ((tab L (part2 u (fun _ => 0) i)).set i y) := by
        have := Own.set (zs := tab L (part2 u (fun _ => 0) i)) (cap := L) (g := g) (by rw [tab_len]; exact HO.out.drewN m5) i y
        rwa [tab_len] at this
      rw [← HY.out, part2_step _ _ _ _ hlt, HY.out] at hst2
      have HST := Lib.hid hst2
      have HBT := Lib.hid ((belowN HB.out m5).setCell (p := ⟨g, i, none⟩) (Nat.le_refl g) (.int .u8 (y.v : Int)))
      clear hst2 HO HB HR HVR HW
      go_wp2_with fail
      go_roundw
      case rel => exact ⟨i + 1, by go_num, hlt, HST.out, HBT.out⟩
      case measure => simp [intOf]; omega
    · obtain rfl : i = L := by omega
      rw [part2_all] at HO
      have hbg : Below w3.heap.size w3 wr := by rw [HG.out]; exact HB.out
      have hrec := recurrence_any (some ⟨g, 0, none⟩) (tab i u) i wr (HO.out.rowAtN (tab_len _ _)) (by rw [tab_len]; omega)
      rw [tab_len] at hrec
      have HRC := Lib.hid hrec
      have HXR := Lib.hid (HX3.out.below hbg)
      have HBR := Lib.hid (HB3.out.trans (hbg.mono HB3.out.size))
      clear hbg hrec HO HB HR HVR
      go_wp2_with fail
      (with_reducible refine HRC.out.mono ?_)
      rintro e w5 ⟨last, next, lf, f, a5, c5, rfl, hr5, hfl, heuc, hgo, hstop, hb5⟩
      have HR5 := Lib.hid hr5
      have HB5 := Lib.hid (HBR.out.trans (hb5.mono HBR.out.size))
      have hx5 := HXR.out.below hb5
      have HX5 := Lib.hid hx5
      obtain ⟨c0, c1, c2, c3⟩ := box4_at hx5
      have HWRG := Lib.hid (show WrongR n C vs E (wrongL f n E n) from ⟨f, last, next, lf, gp, HGP.out, by
        rw [hL, HU.out]
        rwa [show SM.turned i (PM.el (tab i u)) = SM.turned i u from by
          funext k
          unfold SM.turned
          by_cases h : k < i
          · rw [if_pos h, if_pos h, el_tab _ _ _ (by omega)]
          · rw [if_neg h, if_neg h]] at heuc, by rw [hL]; exact hgo, by rw [hL]; exact hstop, rfl⟩)
      clear hr5 hb5 hx5 heuc hgo hstop HXR HBR HRC
      go_wp2_with fail
      (with_reducible refine (HLE.out _).mono ?_)
      rintro e w6 ⟨rfl, hb6⟩
      have HR6 := Lib.hid (HR5.out.below hb6)
      have HB6 := Lib.hid (HB5.out.trans (hb6.mono HB5.out.size))
      have HX6 := Lib.hid (HX5.out.below hb6)
      have HBX := HX6.out.lt
      clear hb6 HR5 HB5 HX5 c0 c1 c2 c3
      go_wp2_with fail
      go_loopw [11, 41] (fun s k wr => ∃ (j : Nat) (l : List Nat) (a' : Option Addr) (c' : Nat), k = .int .i64 (j : Int) ∧ j ≤ n ∧ l = wrongL f n E j ∧ s = .slice a' l.length c' ∧ G.Own wr w6.heap.size (.slice a' l.length c') l ∧ Below w6.heap.size w6 wr) (fun _ k _ => n - (intOf k).toNat)
      case atStart => exact ⟨0, [], none, 0, rfl, by omega, (wrongL_0 f n E).symm, rfl, G.Own.nil _ _, Below.refl _ _⟩
      case round =>
        obtain ⟨j, l, a', c', rfl, hj, hl, rfl, ho, hb⟩ := hrel
        have HO := Lib.hid ho
        have HBL := Lib.hid hb
        have HLL := Lib.hid hl
        have hll : l.length ≤ 1000 := by have := wrongL_le f n E j; rw [← hl] at this; omega
        have hxj := HX6.out.below hb
        obtain ⟨c0, c1, c2, c3⟩ := box4_at hxj
        have HRJ := Lib.hid (HR6.out.below hb)
        clear ho hb hl hxj
        by_cases hlt : j < n
        · have HLJ := Lib.hid (HLC.out j hlt wr)
          go_wp2_with fail
          (with_reducible refine HLJ.out.mono ?_)
          rintro e w7 ⟨rfl, hb7⟩
          have HEV := Lib.hid (eval_any a5 c5 f (SM.XE n j) w7 (HRJ.out.below hb7))
          have HB7 := Lib.hid (HBL.out.trans (hb7.mono HBL.out.size))
          have HO7 := Lib.hid (HO.out.below hb7)
          obtain ⟨z, hz⟩ : ∃ z, PM.ev f (SM.XE n j) = z := ⟨_, rfl⟩
          rw [hz] at HEV
          have HZ := Lib.hid hz
          clear hb7 hz HLJ HO HBL HRJ c0 c1 c2 c3
          go_wp2_with fail
          (with_reducible refine HEV.out.mono ?_)
          rintro e w8 ⟨rfl, hb8⟩
          have HB8 := Lib.hid (HB7.out.trans (hb8.mono HB7.out.size))
          have HO8 := Lib.hid (HO7.out.below hb8)
          have HE8 := Lib.hid (HE.out.below (HB6.out.trans (HB8.out.mono HB6.out.size)))
          clear hb8 HEV HB7 HO7
          by_cases hz0 : z = 0
          · have hzb := gv_eq0 hz0
            by_cases hjE : j ∈ E
            · have HCN := Lib.hid (G.containsN_any ae E ce j true w8 HE8.out (decide_eq_true hjE))
              have HN := Lib.hid (show l = wrongL f n E (j + 1) by rw [HLL.out]; exact (wrongL_no (fun h => h.2 hjE)).symm)
              clear hz0 hjE
              go_wp2_with fail
              (with_reducible refine HCN.out.mono ?_)
              rintro e w9 ⟨rfl, rfl⟩
              go_wp2_with fail
              go_roundw
              case rel => exact ⟨j + 1, l, a', c', by go_num, hlt, HN.out, rfl, HO8.out, HB8.out⟩
              case measure => simp [intOf]; omega
            · have HCN := Lib.hid (G.containsN_any ae E ce j false w8 HE8.out (decide_eq_false hjE))
              have HN := Lib.hid (show l ++ [j] = wrongL f n E (j + 1) by rw [HLL.out]; exact (wrongL_yes (by rw [HZ.out]; exact hz0) hjE).symm)
              clear hz0 hjE
              go_wp2_with fail
              (with_reducible refine HCN.out.mono ?_)
              rintro e w9 ⟨rfl, rfl⟩
              go_wp2_with (at_builtin; refine G.wpList_app1 (α := Nat) rfl _ _ rfl j rfl (HO8.out.alloc _) rfl (G.cell_new _ _ _) (by omega) (by have := HB8.out.size; simp; omega) ?_; intro a9 c9 w10 ho9 hg9 hb9 _)
              go_roundw
              case rel =>
                refine ⟨j + 1, l ++ [j], a9, c9, by go_num, hlt, HN.out, by rw [List.length_append]; rfl, by rw [List.length_append]; exact ho9, ?_⟩
                exact HB8.out.trans (((Below.refl w6.heap.size w8).alloc HB8.out.size _).trans hb9)
              case measure => simp [intOf]; omega
          · have hzb := gv_neq hz0
            have HN := Lib.hid (show l = wrongL f n E (j + 1) by rw [HLL.out]; exact (wrongL_no (fun h => hz0 (by rw [← HZ.out]; exact h.1))).symm)
            clear hz0
            go_wp2_with fail
            go_roundw
            case rel => exact ⟨j + 1, l, a', c', by go_num, hlt, HN.out, rfl, HO8.out, HB8.out⟩
            case measure => simp [intOf]; omega
        · obtain rfl : j = n := by omega
          go_wp2_with fail
          go_ret
          exact ⟨l, a', c', rfl, HO.out.mono HB6.out.size, by rw [HLL.out]; exact HWRG.out, HB6.out.trans (HBL.out.mono HB6.out.size)⟩
end Go.Proofs.YtmejneobfkbgeaaGreatDoor.P

namespace Go.Proofs.YtmejneobfkbgeaaGreatDoor.P
open PM (G el ev evn conv)
open SM (pw lsum lsum_ext range_succ_sum syn XE)

/-- x / y, or 0. -/
def gdiv (x y : G) : G := ⟨FM.divV x.v y.v, FM.divV_lt x.lt⟩
theorem gdiv_ok (d : G) {y : G} (h : y ≠ 0) : gdiv (d * y) y = d := by
  have hy : y.v ≠ 0 := fun e => h (G.v_zero.1 e)
  have : gdiv (d * y) y = (d * y) * y.inv := by
    apply G.ext'
    show FM.divV (d * y).v y.v = FM.mul (d * y).v (FM.invV y.v)
    unfold FM.divV
    rw [if_neg hy]
  rw [this, G.mul_assoc, G.mul_inv h, G.mul_one]
theorem weighV_sum (vs p : List G) (k : Nat) : weighV vs p k = lsum (List.range k) (fun k => el p k * el vs k) := by unfold weighV; rfl
theorem ev_sum (p : List G) (x : G) : ev p x = lsum (List.range p.length) (fun k => el p k * pw x k) := by
  show evn p.length (el p) x = _
  rw [SM.evn_sum]
/-- A polynomial that is laid on sums of powers. -/
theorem weigh_pow {α : Type} {X d : α → G} {P : List α} {vs p : List G} (k : Nat) (hv : ∀ j, j < k + p.length → el vs j = lsum P (fun q => d q * pw (X q) j)) : weighV (vs.drop k) p p.length = lsum P (fun q => (d q * ev p (X q)) * pw (X q) k) := by
  rw [weighV_sum, lsum_ext (g := fun i => lsum P (fun q => el p i * (d q * pw (X q) (k + i)))) (fun i hi => by
    rw [List.mem_range] at hi
    rw [PM.el_drop, hv (k + i) (by omega), SM.lsum_smul]), SM.lsum_swap]
  refine lsum_ext (fun q _ => ?_)
  rw [ev_sum, lsum_ext (g := fun i => (d q * pw (X q) k) * (el p i * pw (X q) i)) (fun i _ => by
    rw [SM.pw_add, G.mul_assoc, G.mul_left_comm (el p i), G.mul_left_comm (pw (X q) k), G.mul_left_comm (el p i)]), SM.lsum_smul, G.mul_assoc, G.mul_assoc, G.mul_comm (pw (X q) k)]
/-- **What is added at a place**, if the values are those of amounts at the places. -/
theorem corr_val {X d : Nat → G} {P : List Nat} {vs all A r : List G} {C : Nat} (hall : RootsP (P.map X) all) (hX : P.Pairwise (fun i k => X i ≠ X k)) (i : Nat) (hi : i < P.length) (heq : ∀ j, el all j = conv (el A) (el [X P[i], G.one]) j + el r j)
    (hr : r.length < 2) (hA : A.length = P.length) (hcan : PM.Can A) (hP : P.length ≤ C) (hv : ∀ j, j < C → el vs j = lsum P (fun q => d q * pw (X q) j)) : gdiv (weighV vs A A.length) (ev A (X P[i])) = d P[i] := by
  have hval : ∀ y, ev all y = ev A y * (X P[i] + y) + el r 0 := fun y => by
    have e1 := SM.evn_conv' (N := A.length + 2 + all.length + r.length) y (PM.el_van A) (PM.el_van [X P[i], G.one]) (by simp; omega)
    have e2 : ev [X P[i], G.one] y = X P[i] + y := by
      show evn 2 (el [X P[i], G.one]) y = _
      rw [el_two, PM.evn_lin]
    have e3 : evn (A.length + 2 + all.length + r.length) (el r) y = el r 0 := by
      rw [PM.ev_any r y (by omega)]
      show evn r.length (el r) y = _
      match hrl : r.length, hr with
      | 0, _ => rw [PM.el_ge (by omega)]; rfl
      | 1, _ =>
        rw [PM.evn_succ]
        show el r 0 + y * 0 = _
        rw [G.mul_zero, G.add_zero]
    have e4 : evn (A.length + 2 + all.length + r.length) (el all) y = ev all y := PM.ev_any all y (by omega)
    rw [← e4, show el all = PM.addC (conv (el A) (el [X P[i], G.one])) (el r) from funext heq, PM.evn_addC, e1, e3]
    show ev A y * ev [X P[i], G.one] y + _ = _
    rw [e2]
  have hroot : ∀ q ∈ P, ev all (X q) = 0 := fun q hq => by rw [hall.val, SM.prodY_zero (List.mem_map.2 ⟨q, hq, rfl⟩)]
  have hr0 : el r 0 = 0 := by
    have := hval (X P[i])
    rw [hroot _ (List.getElem_mem hi), G.add_self, G.mul_zero, G.zero_add] at this
    exact this.symm
  have hprod : ∀ q ∈ P, ev A (X q) * (X P[i] + X q) = 0 := fun q hq => by
    have := hval (X q)
    rw [hroot q hq, hr0, G.add_zero] at this
    exact this.symm
  have hnd : (P.map X).Nodup := by
    rw [List.nodup_iff_pairwise_ne, List.pairwise_map]
    exact hX
  have hinj : ∀ q ∈ P, X P[i] = X q → P[i] = q := fun q hq e => by
    obtain ⟨k, hk, rfl⟩ := List.getElem_of_mem hq
    rcases Nat.lt_trichotomy i k with h | h | h
    · exact absurd e (List.pairwise_iff_getElem.1 hX i k hi hk h)
    · subst h; rfl
    · exact absurd e.symm (List.pairwise_iff_getElem.1 hX k i hk hi h)
  have hzero : ∀ q ∈ P, q ≠ P[i] → ev A (X q) = 0 := fun q hq hne => by
    rcases G.mul_eq_zero.1 (hprod q hq) with h | h
    · exact h
    · exact absurd (hinj q hq (G.add_eq_zero.1 h)).symm hne
  have hne : ev A (X P[i]) ≠ 0 := fun h0 => by
    obtain ⟨m, hm⟩ : ∃ m, A.length = m + 1 := ⟨A.length - 1, by omega⟩
    have := PM.roots_le m (el A) (by rw [← hm]; exact PM.el_van A) (SM.can_top hcan hm) (P.map X) hnd (fun x hx => by
      obtain ⟨q, hq, rfl⟩ := List.mem_map.1 hx
      rw [← hm]
      show ev A (X q) = 0
      by_cases e : q = P[i]
      · rw [e]; exact h0
      · exact hzero q hq e)
    rw [List.length_map] at this
    omega
  have hw : weighV vs A A.length = d P[i] * ev A (X P[i]) := by
    have h := weigh_pow (X := X) (d := d) (P := P) (vs := vs) (p := A) 0 (fun j hj => hv j (by omega))
    rw [List.drop_zero] at h
    rw [h]
    -- one place alone counts
    have hone : ∀ (Q : List Nat), Q.Nodup → (∀ q ∈ Q, q ∈ P) → lsum Q (fun q => (d q * ev A (X q)) * pw (X q) 0) = if P[i] ∈ Q then d P[i] * ev A (X P[i]) else 0 := by
      intro Q
      induction Q with
      | nil => intro _ _; rw [if_neg List.not_mem_nil]; rfl
      | cons q Q ih =>
        intro hQ hin
        rw [List.nodup_cons] at hQ
        rw [SM.lsum_cons, ih hQ.2 (fun x hx => hin x (List.mem_cons_of_mem _ hx)), SM.pw_0, G.mul_one]
        by_cases e : q = P[i]
        · rw [if_neg (by rw [← e]; exact hQ.1), if_pos (by rw [← e]; exact List.mem_cons_self), e, G.add_zero]
        · rw [hzero q (hin q List.mem_cons_self) e, G.mul_zero, G.zero_add]
          by_cases h2 : P[i] ∈ Q
          · rw [if_pos h2, if_pos (List.mem_cons_of_mem _ h2)]
          · rw [if_neg h2, if_neg (fun h3 => by rcases List.mem_cons.1 h3 with h4 | h4; exact e h4.symm; exact h2 h4)]
    rw [hone P (List.Pairwise.imp (fun h e => h (by rw [e])) hX) (fun q hq => hq), if_pos (List.getElem_mem hi)]
  rw [hw, gdiv_ok _ hne]

/-- **The wrong places are found.** -/
theorem wrong_found {n C t : Nat} {w c : Nat → G} {vs : List G} {E ws : List Nat} (hn : n ≤ 255) (hE : ∀ i ∈ E, i < n) (hEC : E.length ≤ C) (hvs : ∀ j, j < C → el vs j = syn n (XE n) w j) (hc : ∀ j, j < C → syn n (XE n) c j = 0)
    (hW : WrongR n C vs E ws) (hw : (SM.wrong n E w c).length ≤ t) (ht : 2 * t ≤ C - E.length) : ws = SM.wrong n E w c := by
  obtain ⟨f, last, next, lf, gp, hgp, heuc, hgo, hstop, rfl⟩ := hW
  obtain ⟨S, hS⟩ : ∃ S, SM.wrong n E w c = S := ⟨_, rfl⟩
  have hX := SM.xe_inj hn
  have hlt : ∀ i ∈ S, i < n := fun i hi => by rw [← hS] at hi; exact (SM.mem_wrong.1 hi).1
  have hp := SM.pair_of hX (by rw [← hS]; exact SM.wrong_nodup n E w c) hlt
  have hgl := hgp.len
  rw [List.length_map] at hgl
  have hu : ∀ j, j < C - E.length → seqU vs gp j = lsum S (fun o => ((w o + c o) * ev gp (XE n o)) * pw (XE n o) j) := fun j hj => by
    unfold seqU
    rw [weigh_pow (X := XE n) (d := fun i => w i + c i) (P := List.range n) j (fun k hk => by
      rw [hvs k (by omega)]
      have := SM.syn_add n (XE n) w c k
      rw [hc k (by omega), G.add_zero] at this
      exact this.symm), ← hS]
    unfold SM.wrong
    refine (SM.lsum_filter (fun i => ((w i + c i) * ev gp (XE n i)) * pw (XE n i) j) (fun i => decide (c i ≠ w i) && !E.contains i) (fun i hi => by
      by_cases h : c i = w i
      · rw [h, G.add_self, G.zero_mul, G.zero_mul]
      · rw [show decide (c i ≠ w i) = true from decide_eq_true h, Bool.true_and, Bool.not_eq_false', List.contains_eq_mem, decide_eq_true_iff] at hi
        rw [hgp.val, SM.prodY_zero (List.mem_map.2 ⟨i, hi, rfl⟩), G.mul_zero, G.zero_mul]) (List.range n)).symm
  have ha : ∀ o ∈ S, (w o + c o) * ev gp (XE n o) ≠ 0 := fun o ho => by
    rw [← hS] at ho
    obtain ⟨h1, h2, h3⟩ := SM.mem_wrong.1 ho
    refine G.mul_ne (fun e => h2 (G.add_eq_zero.1 e).symm) ?_
    rw [hgp.val]
    refine SM.prodY_ne (fun h => ?_)
    obtain ⟨k, hk, e⟩ := List.mem_map.1 h
    exact h3 ((hX k (hE k hk) o h1 e) ▸ hk)
  rw [hS] at hw ⊢
  have hroots := fun y hy => SM.Euc.roots (X := XE n) (a := fun o => (w o + c o) * ev gp (XE n o)) (W := S) heuc hstop hgo hp ha (fun o _ => SM.xe_ne n o) hu (by omega) y hy
  rw [← hS]
  unfold wrongL SM.wrong
  refine List.filter_congr (fun i hi => ?_)
  rw [List.mem_range] at hi
  have h1 := hroots (XE n i) (SM.xe_ne n i)
  rw [Bool.eq_iff_iff, Bool.and_eq_true, Bool.and_eq_true, decide_eq_true_iff, decide_eq_true_iff, decide_eq_true_iff, Bool.not_eq_true', List.contains_eq_mem, decide_eq_false_iff_not, h1]
  constructor
  · rintro ⟨⟨o, ho, e⟩, h3⟩
    have : o = i := hX o (hlt o ho) i hi e
    subst this
    rw [← hS] at ho
    exact ⟨(SM.mem_wrong.1 ho).2.1, h3⟩
  · rintro ⟨h2, h3⟩
    exact ⟨⟨i, by rw [← hS]; exact SM.mem_wrong.2 ⟨hi, h2, h3⟩, rfl⟩, h3⟩
end Go.Proofs.YtmejneobfkbgeaaGreatDoor.P

namespace Go.Proofs.YtmejneobfkbgeaaGreatDoor.P
open Go Go.RowKit Go.Shelf
open G.S (codeV Cd code_box isSymbol_any length_any)

/-- A code word. -/
structure CW (D C : Nat) (ws : List PM.G) : Prop where
  len : ws.length = D + C
  syn : ∀ j, j < C → SM.syn (D + C) (SM.XE (D + C)) (PM.el ws) j = 0
/-- The code word that begins with the data. -/
structure IsEnc (D C : Nat) (data ws : List PM.G) : Prop where
  cw : CW D C ws
  data : ∀ i, i < D → PM.el ws i = PM.el data i
theorem IsEnc.one {D C : Nat} {data ws ws' : List PM.G} (hn : D + C ≤ 255) (h : IsEnc D C data ws) (h' : IsEnc D C data ws') : ws = ws' :=
  PM.ext_el (by rw [h.cw.len, h'.cw.len]) (fun k hk => by
    rw [h.cw.len] at hk
    exact SM.enc_one (n := D + C) (m := C) (SM.xe_inj hn) h.cw.syn h'.cw.syn (fun i hi => by rw [h.data i (by omega), h'.data i (by omega)]) k hk)
/-- The values of a word where code words are 0. -/
def synL (D C : Nat) (zs : List PM.G) : List PM.G := tab C (SM.syn (D + C) (SM.XE (D + C)) (PM.el zs))
theorem synL_len (D C : Nat) (zs : List PM.G) : (synL D C zs).length = C := tab_len _ _
/-- What Syndromes answers. -/
def SynR (w : World) (D C : Nat) (zs : List PM.G) (e : Ending) (W : World) : Prop :=
  ∃ a c, e = .returned (.tuple #[.slice a C c, .int .i64 0]) ∧ Own W w.heap.size (.slice a C c) (synL D C zs) ∧ Below w.heap.size w W
def No (w : World) (k : Int) (e : Ending) (W : World) : Prop := e = .returned (.tuple #[.slice none 0 0, .int .i64 k]) ∧ Below w.heap.size w W

set_option maxRecDepth 100000 in
set_option maxHeartbeats 1000000 in
/-- **symbol.Syndromes** -/
theorem syndromes_inv {D C F : Nat} (hc : Cd D C F) (hF : ¬ F ≤ C / 2) (a : Option Addr) (n cap : Nat) (w : World) :
    Calls Tryz.prog 28 #[codeV D C F, .slice a n cap] w (No w 1) := by
  have HIS := Lib.hid (fun W => isSymbol_any hc false (decide_eq_false hF) W)
  unfold codeV at *
  obtain ⟨w1, hw1, c0, c1, c2, c3, hB, _⟩ := code_box w D C F 23
  have HB := Lib.hid hB
  clear hB hc hF
  go_enter Tryz.func28, Tryz.ntmps28
  go_wp2_with fail
  (with_reducible refine (HIS.out _).mono ?_)
  rintro e w2 ⟨rfl, hb2⟩
  have HB2 := Lib.hid (HB.out.trans (hb2.mono HB.out.size))
  clear hb2
  go_wp2_with fail
  exact bodyPost_ret (v := .tuple #[.slice none 0 0, .int .i64 1]) (by simp [results, Tryz.results28, go_sem]) rfl ⟨rfl, HB2.out⟩
set_option maxRecDepth 100000 in
set_option maxHeartbeats 1000000 in
theorem syndromes_size {D C F : Nat} (hc : Cd D C F) (hF : F ≤ C / 2) (a : Option Addr) (n cap : Nat) (hn : n ≠ D + C) (w : World) :
    Calls Tryz.prog 28 #[codeV D C F, .slice a n cap] w (No w 7) := by
  have HIS := Lib.hid (fun W => isSymbol_any hc true (decide_eq_true hF) W)
  have HLE := Lib.hid (fun W => length_any hc W)
  have hne : ((n : Int) != ((D + C : Nat) : Int)) = true := by rw [bne_iff_ne]; omega
  obtain ⟨m, hm⟩ : ∃ m, D + C = m := ⟨_, rfl⟩
  rw [hm] at HLE hne
  unfold codeV at *
  obtain ⟨w1, hw1, c0, c1, c2, c3, hB, _⟩ := code_box w D C F 23
  have HB := Lib.hid hB
  clear hB hc hF hm hn
  go_enter Tryz.func28, Tryz.ntmps28
  go_wp2_with fail
  (with_reducible refine (HIS.out _).mono ?_)
  rintro e w2 ⟨rfl, hb2⟩
  have HB2 := Lib.hid (HB.out.trans (hb2.mono HB.out.size))
  replace c0 := G.cell_below hb2 c0
  replace c1 := G.cell_below hb2 c1
  replace c2 := G.cell_below hb2 c2
  replace c3 := G.cell_below hb2 c3
  clear hb2
  go_wp2_with fail
  (with_reducible refine (HLE.out _).mono ?_)
  rintro e w3 ⟨rfl, hb3⟩
  have HB3 := Lib.hid (HB2.out.trans (hb3.mono HB2.out.size))
  clear hb3
  go_wp2_with fail
  exact bodyPost_ret (v := .tuple #[.slice none 0 0, .int .i64 7]) (by simp [results, Tryz.results28, go_sem]) rfl ⟨rfl, HB3.out⟩
set_option maxRecDepth 100000 in
set_option maxHeartbeats 1000000 in
theorem syndromes_yes {D C F : Nat} (hc : Cd D C F) (hF : F ≤ C / 2) (a : Option Addr) (zs : List PM.G) (cap : Nat) (w : World) (hR : Row w a zs cap) (hn : zs.length = D + C) :
    Calls Tryz.prog 28 #[codeV D C F, .slice a (D + C) cap] w (SynR w D C zs) := by
  have HIS := Lib.hid (fun W => isSymbol_any hc true (decide_eq_true hF) W)
  have HLE := Lib.hid (fun W => length_any hc W)
  have HSI := Lib.hid (show ∀ W, Row W a zs cap → Calls Tryz.prog 35 #[codeV D C F, .slice a (D + C) cap] W fun e W' => ∃ g, e = .returned (.slice (some ⟨g, 0, none⟩) C C) ∧ Own W' W.heap.size (.slice (some ⟨g, 0, none⟩) C C) (synL D C zs) ∧ Below W.heap.size W W' from fun W hr => by
    have h := syndromes_in hc a zs cap W hr (by have := hc.d2; have := hc.c2; omega)
    rw [hn] at h
    refine h.mono ?_
    rintro e W' ⟨g, h1, _, h3, h4⟩
    exact ⟨g, h1, h3, h4⟩)
  have hne : (((D + C : Nat) : Int) != ((D + C : Nat) : Int)) = false := by simp
  unfold codeV at *
  obtain ⟨w1, hw1, c0, c1, c2, c3, hB, _⟩ := code_box w D C F 23
  have HB := Lib.hid hB
  have HR := Lib.hid hR
  obtain ⟨S, hS⟩ : ∃ S, synL D C zs = S := ⟨_, rfl⟩
  unfold SynR
  rw [hS] at HSI ⊢
  obtain ⟨m, hm⟩ : ∃ m, D + C = m := ⟨_, rfl⟩
  rw [hm] at HLE hne HSI ⊢
  clear hB hc hF hm hn hR hS
  go_enter Tryz.func28, Tryz.ntmps28
  go_wp2_with fail
  (with_reducible refine (HIS.out _).mono ?_)
  rintro e w2 ⟨rfl, hb2⟩
  have HB2 := Lib.hid (HB.out.trans (hb2.mono HB.out.size))
  replace c0 := G.cell_below hb2 c0
  replace c1 := G.cell_below hb2 c1
  replace c2 := G.cell_below hb2 c2
  replace c3 := G.cell_below hb2 c3
  clear hb2
  go_wp2_with fail
  (with_reducible refine (HLE.out _).mono ?_)
  rintro e w3 ⟨rfl, hb3⟩
  replace c0 := G.cell_below hb3 c0
  replace c1 := G.cell_below hb3 c1
  replace c2 := G.cell_below hb3 c2
  replace c3 := G.cell_below hb3 c3
  have HB3 := Lib.hid (HB2.out.trans (hb3.mono HB2.out.size))
  have HC := Lib.hid (HSI.out w3 (HR.out.below HB3.out))
  clear hb3
  go_wp2_with fail
  (with_reducible refine HC.out.mono ?_)
  rintro e w4 ⟨g, rfl, ho, hb4⟩
  go_wp2_with fail
  exact bodyPost_ret (v := .tuple #[.slice (some ⟨g, 0, none⟩) C C, .int .i64 0]) (by simp [results, Tryz.results28, go_sem]) rfl ⟨_, _, rfl, ho.mono HB3.out.size, HB3.out.trans (hb4.mono HB3.out.size)⟩

theorem Own.rowAt'' {W : World} {B n cap : Nat} {a : Option Addr} {zs : List PM.G} (h : Own W B (.slice a n cap) zs) (hn : zs.length = n) : Row W a zs cap := by subst hn; exact h.rowAt
/-- What Encode answers. -/
def EncR (w : World) (D C : Nat) (data : List PM.G) (e : Ending) (W : World) : Prop :=
  ∃ ws a c, e = .returned (.tuple #[.slice a (D + C) c, .int .i64 0]) ∧ Own W w.heap.size (.slice a (D + C) c) ws ∧ IsEnc D C data ws ∧ Below w.heap.size w W
/-- The word when i elements of the rest have been stored. -/
def wdF (D C : Nat) (data r : List PM.G) (i : Nat) : Nat → PM.G := fun j => if D + C ≤ j + i then PM.el r (D + C - 1 - j) else if j < D then PM.el data j else 0
theorem wdF_step (D C : Nat) (data r : List PM.G) (i : Nat) (hi : i < D + C) : (tab (D + C) (wdF D C data r i)).set (D + C - 1 - i) (PM.el r i) = tab (D + C) (wdF D C data r (i + 1)) := by
  rw [tab_set _ _ _ _ (by omega)]
  refine tab_ext (fun j hj => ?_)
  unfold upd wdF
  by_cases e : j = D + C - 1 - i
  · rw [if_pos e, if_pos (by omega)]; congr 1; omega
  · rw [if_neg e]
    by_cases h : D + C ≤ j + i
    · rw [if_pos h, if_pos (by omega)]
    · rw [if_neg h, if_neg (show ¬ D + C ≤ j + (i + 1) by omega)]
theorem wdF_0 (D C : Nat) (data r : List PM.G) (hd : data.length = D) : splice (List.replicate (D + C) (0 : PM.G)) 0 data = tab (D + C) (wdF D C data r 0) := by
  have hl : (splice (List.replicate (D + C) (0 : PM.G)) 0 data).length = D + C := by rw [length_splice _ _ _ (by rw [List.length_replicate]; omega), List.length_replicate]
  refine PM.ext_el (by rw [hl, tab_len]) (fun k hk => ?_)
  rw [hl] at hk
  rw [el_splice _ _ _ _ (by rw [List.length_replicate]; omega), el_tab _ _ _ hk, if_neg (Nat.not_lt_zero k), PM.el_replicate, Nat.sub_zero, hd]
  unfold wdF
  rw [if_neg (show ¬ D + C ≤ k + 0 by omega), Nat.zero_add]
theorem wdF_end {D C : Nat} {data r A g : List PM.G} (hg : RootsP (tab C EE) g) (hr : r.length < g.length) (heq : ∀ j, PM.el (pol (tab (D + C) (wdF D C data [] 0))) j = PM.conv (PM.el A) (PM.el g) j + PM.el r j) : IsEnc D C data (tab (D + C) (wdF D C data r r.length)) := by
  have hgl := hg.len
  rw [tab_len] at hgl
  have hl := tab_len (D + C) (wdF D C data r r.length)
  have hs := enc_syn (D := D) (C := C) (zs := tab (D + C) (wdF D C data [] 0)) (ws := tab (D + C) (wdF D C data r r.length)) (tab_len _ _) (tab_len _ _) (fun i hi => by
    by_cases h : i < D + C
    · rw [el_tab _ _ _ h]; unfold wdF; rw [if_neg (show ¬ D + C ≤ i + 0 by omega), if_neg (show ¬ i < D by omega)]
    · rw [PM.el_ge (by rw [tab_len]; omega)]) hg heq hr (fun i hi => by
    rw [el_tab _ _ _ hi, el_tab _ _ _ hi]
    unfold wdF
    by_cases h : D ≤ i
    · rw [if_pos h]
      by_cases h2 : D + C ≤ i + r.length
      · rw [if_pos h2]
      · rw [if_neg h2, if_neg (show ¬ i < D by omega), PM.el_ge (p := r) (by omega)]
    · rw [if_neg h, if_neg (show ¬ D + C ≤ i + r.length by omega), if_neg (show ¬ D + C ≤ i + 0 by omega)])
  rw [hl] at hs
  refine ⟨⟨hl, hs⟩, fun i hi => ?_⟩
  rw [el_tab _ _ _ (by omega)]
  unfold wdF
  rw [if_neg (show ¬ D + C ≤ i + r.length by omega), if_pos hi]
attribute [irreducible] wdF
end Go.Proofs.YtmejneobfkbgeaaGreatDoor.P

namespace Go.Proofs.YtmejneobfkbgeaaGreatDoor.P
open Go Go.RowKit Go.Shelf
open G.S (codeV Cd code_box length_any box4_at)
open G (Box IRow)

set_option maxRecDepth 100000 in
set_option maxHeartbeats 1000000 in
/-- **bytes.Clone** of any slice of bytes. -/
theorem bclone_any (a : Option Addr) (zs : List PM.G) (cap n : Nat) (w : World) (hR : Row w a zs cap) (hl : zs.length < 100000) (hn : zs.length = n) :
    Calls Tryz.prog 31 #[.slice a n cap] w fun e W' => ∃ a' cap', e = .returned (.slice a' n cap') ∧ Own W' w.heap.size (.slice a' n cap') zs ∧ Below w.heap.size w W' := by
  subst hn
  have HR := Lib.hid (hR.alloc (.cells #[] 5))
  have HO := Lib.hid (own_empty w w.heap.size (Nat.le_refl _))
  have q22 : ∀ (w : World) (a : Option Addr) (n c n' c' : Nat), (binOp .eql 34 (.slice a n c) (.slice none n' c')).run Tryz.prog w = .ok (.bool a.isNone) w := fun w a n c n' c' => Lib.run_eql_slice_nil w _ _ a n c n' c' Tryz.underlying34
  cases a with
  | none =>
    have hy : zs = [] := by
      cases zs with
      | nil => rfl
      | cons y ys =>
        obtain ⟨b, off, e, _⟩ := hR.el 0 (by simp)
        cases e
    subst hy
    clear hR
    go_enter Tryz.func31, Tryz.ntmps31
    go_wp2_with fail
    go_ret
    exact ⟨none, 0, rfl, Own.nil _ _, Below.refl _ _⟩
  | some ad =>
    clear hR
    go_enter Tryz.func31, Tryz.ntmps31
    go_wp2_with (at_builtin; refine wpList_appAny rfl _ _ rfl rfl HO.out rfl HR.out (by simp; omega) (by simp) ?_; intro a' cap' W' hown' hb')
    go_ret
    exact ⟨a', cap', rfl, by simpa using hown', ((Below.refl _ w).alloc (Nat.le_refl _) _).trans hb'⟩

/-- The word after the first k places. -/
structure CorrI (n C : Nat) (zs vs : List PM.G) (P : List Nat) (k : Nat) (fx : List PM.G) : Prop where
  len : fx.length = n
  same : ∀ q, q ∉ P.take k → PM.el fx q = PM.el zs q
  add : ∀ d : Nat → PM.G, (∀ j, j < C → PM.el vs j = SM.lsum P (fun q => d q * SM.pw (SM.XE n q) j)) → ∀ q ∈ P.take k, PM.el fx q = PM.el zs q + d q
theorem CorrI.start {n C : Nat} {zs vs : List PM.G} {P : List Nat} (h : zs.length = n) : CorrI n C zs vs P 0 zs :=
  ⟨h, fun _ _ => rfl, fun _ _ q hq => by simp at hq⟩
theorem CorrI.step {n C : Nat} {zs vs fx : List PM.G} {P : List Nat} {k : Nat} {x : PM.G} (h : CorrI n C zs vs P k fx) (hk : k < P.length) (hnd : P.Nodup) (hp : P[k] < n)
    (hx : ∀ d : Nat → PM.G, (∀ j, j < C → PM.el vs j = SM.lsum P (fun q => d q * SM.pw (SM.XE n q) j)) → x = d P[k]) : CorrI n C zs vs P (k + 1) (fx.set P[k] (PM.el fx P[k] + x)) := by
  have ht : P.take (k + 1) = P.take k ++ [P[k]] := by rw [List.take_add_one, List.getElem?_eq_getElem hk]; rfl
  have hnot : P[k] ∉ P.take k := fun hm => by
    obtain ⟨i, hi, e⟩ := List.getElem_of_mem hm
    rw [List.length_take] at hi
    rw [List.getElem_take] at e
    have := (List.nodup_iff_pairwise_ne.1 hnd)
    exact List.pairwise_iff_getElem.1 this i k (by omega) hk (by omega) e
  refine ⟨by rw [List.length_set]; exact h.len, fun q hq => ?_, fun d hd q hq => ?_⟩
  · rw [ht, List.mem_append, List.mem_singleton] at hq
    rw [PM.el_set (by rw [h.len]; exact hp), if_neg (fun e => hq (.inr e)), h.same q (fun h2 => hq (.inl h2))]
  · rw [ht, List.mem_append, List.mem_singleton] at hq
    rw [PM.el_set (by rw [h.len]; exact hp)]
    by_cases e : q = P[k]
    · rw [if_pos e, hx d hd, h.same _ hnot, e]
    · rw [if_neg e]
      exact h.add d hd q (hq.resolve_right e)
theorem gdivide (x y : PM.G) (w : World) : Calls Tryz.prog 81 #[.int .u8 (x.v : Int), .int .u8 (y.v : Int)] w fun e w' => e = .returned (.tuple #[.int .u8 ((gdiv x y).v : Int), .int .i64 (FM.errZ y.v)]) ∧ Dr w w' := fo_divide_any x.v y.v x.lt y.lt w

set_option maxRecDepth 100000 in
set_option maxHeartbeats 4000000 in
/-- **symbol.corrected** -/
theorem corrected_any {D C F : Nat} (hc : Cd D C F) (aw av ap : Option Addr) (zs vs : List PM.G) (P : List Nat) (cw cv cp : Nat) (w : World) (hZ : Row w aw zs cw) (hV : Row w av vs cv) (hP : G.Row w ap P cp) (hzl : zs.length = D + C) (hvl : vs.length = C) (hpl : P.length ≤ C) (hnd : P.Nodup) (hin : ∀ k, k < P.length → G.el P k < D + C) :
    Calls Tryz.prog 33 #[codeV D C F, .slice aw (D + C) cw, .slice av C cv, .slice ap P.length cp] w fun e W => ∃ fx a c, e = .returned (.slice a (D + C) c) ∧ Own W w.heap.size (.slice a (D + C) c) fx ∧ CorrI (D + C) C zs vs P P.length fx ∧ Below w.heap.size w W := by
  have hr1 := hZ.room
  have hm1 := hZ.most
  have hr2 := hV.room
  have hm2 := hV.most
  have hr3 := hP.room
  have hm3 := hP.most
  rw [hzl] at hr1
  rw [hvl] at hr2
  have hC2 := hc.c2
  have hD2 := hc.d2
  have hD1 := hc.d1
  have HV := Lib.hid hV
  have HP := Lib.hid hP
  have HVL := Lib.hid hvl
  have HZL := Lib.hid hzl
  have HND := Lib.hid hnd
  have HLS := Lib.hid (fun W h => locators_any hc ap P cp W h (by omega) hin)
  have HIN := Lib.hid hin
  unfold codeV at *
  obtain ⟨w1, hw1, _, _, _, _, hB, hX⟩ := code_box w D C F 23
  have HB := Lib.hid hB
  have HX := Lib.hid hX
  have HCL := Lib.hid (bclone_any aw zs cw (D + C) w1 (hZ.below hB) (by omega) hzl)
  obtain ⟨n, hn⟩ : ∃ n, D + C = n := ⟨_, rfl⟩
  rw [hn] at HLS HCL HIN HZL ⊢
  have hn40 : n ≤ 40 := by omega
  have hn1 : 1 ≤ n := by omega
  clear hB hZ hV hP hvl hzl hin hX hc hn hnd
  go_enter Tryz.func33, Tryz.ntmps33
  go_wp2_with fail
  (with_reducible refine HCL.out.mono ?_)
  rintro e w2 ⟨a2, k2, rfl, ho2, hb2⟩
  obtain ⟨gf, rfl, hgf1, hgf2⟩ : ∃ g, a2 = some ⟨g, 0, none⟩ ∧ w1.heap.size ≤ g ∧ g < w2.heap.size := by
    rcases ho2.parts with ⟨e, e2⟩ | ⟨g', cap', e, hb, h2, _⟩
    · have := HZL.out; rw [e2] at this; simp at this; omega
    · cases e; exact ⟨g', rfl, hb, h2⟩
  have HO2 := Lib.hid (ho2.mono HB.out.size)
  have HB2 := Lib.hid (HB.out.trans (hb2.mono HB.out.size))
  have HL2 := Lib.hid (HLS.out w2 (HP.out.below HB2.out))
  obtain ⟨c0, c1, c2, c3⟩ := box4_at (HX.out.below hb2)
  have hwg : w.heap.size ≤ gf := by have := HB.out.size; omega
  clear ho2 hb2 HLS HCL HX hw1
  go_wp2_with fail
  (with_reducible refine HL2.out.mono ?_)
  rintro e w3 ⟨gl, rfl, hgl, ho3, hb3⟩
  have hwr := withRoots_any (some ⟨gl, 0, none⟩) (tab P.length (locL n P)) P.length w3 (ho3.rowAtN (tab_len _ _)) (by rw [tab_len]; omega)
  rw [tab_len, loc_map] at hwr
  have HWR := Lib.hid hwr
  have HO3 := Lib.hid ho3
  have HOF := Lib.hid (HO2.out.below hb3)
  have HB3 := Lib.hid (HB2.out.trans (hb3.mono HB2.out.size))
  have hs3 := hb3.size
  clear hwr ho3 hb3 HL2 HB HO2 HB2 c0 c1 c2 c3
  go_wp2_with fail
  (with_reducible refine HWR.out.mono ?_)
  rintro e w4 ⟨⟨all, a4, k4, rfl, hr4, hall, hloc⟩, hb4⟩
  have HR4 := Lib.hid hr4
  have HALL := Lib.hid hall
  have HLOC := Lib.hid hloc
  have HO4 := Lib.hid (HO3.out.below hb4)
  have HOF4 := Lib.hid (HOF.out.below hb4)
  have HB4 := Lib.hid (HB3.out.trans (hb4.mono HB3.out.size))
  clear hr4 hall hloc hb4 HWR HO3 HOF HB3
  go_wp2_with fail
  go_loopw [28] (fun k wr => ∃ (i : Nat) (fx : List PM.G), k = .int .i64 (i : Int) ∧ i ≤ P.length ∧ CorrI n C zs vs P i fx ∧ Own wr w.heap.size (.slice (some ⟨gf, 0, none⟩) n k2) fx ∧ Row wr (some ⟨gl, 0, none⟩) (tab P.length (locL n P)) P.length ∧ Row wr a4 all k4 ∧ Below w.heap.size w wr) (fun k _ => P.length - (intOf k).toNat)
  case atStart => exact ⟨0, zs, rfl, by omega, CorrI.start HZL.out, HOF4.out, HO4.out.rowAtN (tab_len _ _), HR4.out, HB4.out⟩
  case round =>
    clear HOF4 HO4 HR4 HB4
    obtain ⟨i, fx, rfl, hi, hci, hof, hrl, hra, hb⟩ := hrel
    have HCI := Lib.hid hci
    have HOF := Lib.hid hof
    have HRL := Lib.hid hrl
    have HRA := Lib.hid hra
    have HB := Lib.hid hb
    by_cases hlt : i < P.length
    · obtain ⟨bp, op, rfl, hcp⟩ := (HP.out.below hb).elN i hlt
      obtain ⟨bl, ol, el, hcl⟩ := hrl.el i (by rw [tab_len]; exact hlt)
      cases el
      rw [Nat.zero_add] at hcl
      have hpi := HIN.out i hlt
      obtain ⟨q, hq⟩ : ∃ q, G.el P i = q := ⟨_, rfl⟩
      rw [hq] at hcp hpi
      obtain ⟨x, hx⟩ : ∃ x, PM.el (tab P.length (locL n P)) i = x := ⟨_, rfl⟩
      rw [hx] at hcl
      have hxq : SM.XE n q = x := by rw [← hx, el_tab _ _ _ hlt, ← hq]; rfl
      have HXQ := Lib.hid hxq
      have HQ := Lib.hid hq
      have ht := row_two wr x PM.G.one 5
      rw [one_int] at ht
      have hb5 : Below wr.heap.size wr (wr.alloc (.cells #[.int .u8 (x.v : Int), .int .u8 1] 5)) := (Below.refl _ wr).alloc (Nat.le_refl _) _
      obtain ⟨w5, hw5⟩ : ∃ w5, wr.alloc (.cells #[.int .u8 (x.v : Int), .int .u8 1] 5) = w5 := ⟨_, rfl⟩
      rw [hw5] at ht hb5
      have hm := pdiv_yes a4 (some ⟨wr.heap.size, 0, none⟩) k4 2 all [x, PM.G.one] w5 (hra.below hb5) ht HALL.out.pol (pol_two x) (by simp)
      rw [show [x, PM.G.one].length = 2 from rfl] at hm
      have HM := Lib.hid hm
      have HB5 := Lib.hid hb5
      clear hx hxq hq hci hof hrl hra hb ht hb5 hm
      go_wp2_with fail
      (with_reducible refine HM.out.mono ?_)
      rintro e w6 ⟨⟨A, r, a6, k6, a7, k7, rfl, hrA, _, _, heq⟩, hb6⟩
      have hal := heq.len
      simp only [List.length_cons, List.length_nil] at hal
      have hall := HALL.out.len
      rw [List.length_map] at hall
      have hAP : A.length = P.length := by omega
      have HBD := Lib.hid (HB5.out.trans (hb6.mono HB5.out.size))
      have hcl6 := cell_below HBD.out hcl
      have hA6 := hrA
      have hval := fun d hd => corr_val (X := SM.XE n) (d := d) (P := P) (vs := vs) (all := all) (A := A) (r := r) (C := C) HALL.out (SM.pair_of (SM.xe_inj (by omega)) HND.out (fun k hk => by
        obtain ⟨j, hj, e⟩ := List.getElem_of_mem hk
        have := HIN.out j hj
        rw [G.el_lt hj, e] at this
        exact this)) i hlt (by
        rw [show SM.XE n P[i] = x by rw [← HXQ.out, ← HQ.out, G.el_lt hlt]]
        exact heq.eq) (by have := heq.less; simpa using this) hAP heq.canq hpl hd
      rw [show SM.XE n P[i] = x by rw [← HXQ.out, ← HQ.out, G.el_lt hlt], show P[i] = q by rw [← HQ.out, G.el_lt hlt]] at hval
      obtain ⟨y, hy⟩ : ∃ y, gdiv (weighV vs A A.length) (PM.ev A x) = y := ⟨_, rfl⟩
      rw [hy] at hval
      have HY := Lib.hid hy
      have HVAL := Lib.hid hval
      have hv6 := HV.out.below (HB.out.trans (HBD.out.mono HB.out.size))
      have hwg2 := weigh_any av a6 vs A cv k6 w6.drew (hv6.drewN 1) (hrA.drewN 1) (by rw [HVL.out, hAP]; exact hpl) (by rw [HVL.out]; omega)
      rw [HVL.out] at hwg2
      have HWG := Lib.hid hwg2
      obtain ⟨s, hs⟩ : ∃ s, weighV vs A A.length = s := ⟨_, rfl⟩
      obtain ⟨z, hz⟩ : ∃ z, PM.ev A x = z := ⟨_, rfl⟩
      rw [hs] at HWG HY
      rw [hz] at HY
      have HS := Lib.hid hs
      have HZ := Lib.hid hz
      have HA6 := Lib.hid hrA
      have q6 : w6.drew.cell? ⟨gl, i, none⟩ = some (.int .u8 (x.v : Int)) := hcl6
      clear hAP hrA heq hb6 hal hall hval hv6 hwg2 hs hz hy hcl HM HB5 hA6
      go_upto_region 8 with fail
      go_cut [17] (fun t wx => t = .int .u8 (y.v : Int) ∧ Below w6.heap.size w6 wx)
      case first =>
        go_region_law (first
          | (go_simp; go_at_call 75; (with_reducible refine HWG.out.mono ?_); rintro e w7 ⟨rfl, hd7⟩; have hr7 := (show Row w7 a6 A k6 by obtain ⟨m, rfl⟩ := hd7; exact (HA6.out.drewN 1).drewN m); have q7 : w7.cell? ⟨gl, i, none⟩ = some (.int .u8 (x.v : Int)) := (by obtain ⟨m, rfl⟩ := hd7; exact q6); have hev := eval_any a6 k6 A x w7 hr7; rw [HZ.out] at hev; have HEV := Lib.hid hev; have HB7 := Lib.hid (show Below w6.heap.size w6 w7 by obtain ⟨m, rfl⟩ := hd7; exact belowN ((Below.refl _ w6).drew) m); clear hd7 hr7 hev; go_simp)
          | (go_simp; go_at_call 77; (with_reducible refine HEV.out.mono ?_); rintro e w8 ⟨rfl, hb8⟩; have HB8 := Lib.hid (HB7.out.trans (hb8.mono HB7.out.size)); have hgd := gdivide s z w8; rw [HY.out] at hgd; have HGD := Lib.hid hgd; clear hb8 hgd; go_simp)
          | (go_simp; go_at_call 81; (with_reducible refine HGD.out.mono ?_); rintro e w9 ⟨rfl, hd9⟩; have HB9 := Lib.hid (show Below w6.heap.size w6 w9 by obtain ⟨m, rfl⟩ := hd9; exact belowN HB8.out m); clear hd9; go_simp))
        all_goals (
          go_wp2_with fail
          go_meet
          exact ⟨rfl, HB9.out⟩)
      case rest =>
        obtain ⟨rfl, hbc⟩ := hcut
        have hb06 : Below wr.heap.size wr wc := HBD.out.trans (hbc.mono HBD.out.size)
        have HBC := Lib.hid (HB.out.trans (hb06.mono HB.out.size))
        have hof := HOF.out.below hb06
        have hci := HCI.out
        have hat := hof.at q (by rw [hci.len]; exact hpi)
        obtain ⟨_, _, _, _, hcf, hff⟩ := hat
        have hstep := hci.step hlt HND.out (by rw [← G.el_lt hlt, HQ.out]; exact hpi) (x := y) (fun d hd => by rw [HVAL.out d hd, ← HQ.out, G.el_lt hlt])
        rw [show P[i] = q by rw [← HQ.out, G.el_lt hlt]] at hstep
        obtain ⟨v0, hv0⟩ : ∃ v0, PM.el fx q = v0 := ⟨_, rfl⟩
        rw [hv0] at hcf hstep
        have hxor := xor_G v0 y
        obtain ⟨v1, hv1⟩ : ∃ v1, v0 + y = v1 := ⟨_, rfl⟩
        rw [hv1] at hxor hstep
        have hst2 : Own (wc.setCell ⟨gf, q, none⟩ (.int .u8 (v1.v : Int))) w.heap.size (.slice (some ⟨gf, 0, none⟩) n k2) (fx.set q v1) := by
          have := Own.set (zs := fx) (cap := k2) (g := gf) (by rw [hci.len]; exact hof) q v1
          rwa [hci.len] at this
        have HST := Lib.hid hst2
        have HSTEP := Lib.hid hstep
        have HBS := Lib.hid (HBC.out.setCell (p := ⟨gf, q, none⟩) hwg (.int .u8 (v1.v : Int)))
        have HRLS := Lib.hid ((HRL.out.below hb06).other (p := ⟨gf, q, none⟩) (.int .u8 (v1.v : Int)) (fun b off e _ => by cases e; exact Nat.ne_of_gt (Nat.lt_of_lt_of_le hgf2 hgl)))
        have HRAS := Lib.hid ((HRA.out.below hb06).other (p := ⟨gf, q, none⟩) (.int .u8 (v1.v : Int)) (fun b off e _ => Nat.ne_of_gt (Nat.lt_of_lt_of_le (Nat.lt_of_lt_of_le hgf2 hs3) (HLOC.out b off e))))
        have hkk : n ≤ k2 := by have := hof.rowAtN hci.len; have := this.room; rw [hci.len] at this; exact this
        have hkm : k2 ≤ 9223372036854775807 := (hof.rowAtN hci.len).most
        clear hstep hst2 hof hci hbc hb06 hv0 hv1 HBC HBD HOF HCI HRL HRA HB HVAL
        go_wp2_with fail
        go_roundw
        case rel => exact ⟨i + 1, fx.set q v1, by go_num, hlt, HSTEP.out, HST.out, HRLS.out, HRAS.out, HBS.out⟩
        case measure => simp [intOf]; omega
    · obtain rfl : i = P.length := by omega
      go_wp2_with fail
      go_ret
      exact ⟨fx, _, k2, rfl, HOF.out, HCI.out, HB.out⟩
end Go.Proofs.YtmejneobfkbgeaaGreatDoor.P

namespace Go.Proofs.YtmejneobfkbgeaaGreatDoor.P
open PM (G el)
open SM (lsum syn XE Near pw)

theorem lsum_perm {α : Type} (f : α → G) {P Q : List α} (h : P.Perm Q) : lsum P f = lsum Q f := by
  induction h with
  | nil => rfl
  | cons x _ ih => rw [SM.lsum_cons, SM.lsum_cons, ih]
  | swap x y l => rw [SM.lsum_cons, SM.lsum_cons, SM.lsum_cons, SM.lsum_cons, G.add_left_comm]
  | trans _ _ h1 h2 => rw [h1, h2]
theorem lsum_places {n : Nat} {P : List Nat} {g : Nat → G} (hnd : P.Nodup) (hn : ∀ i ∈ P, i < n) (hz : ∀ i, i ∉ P → g i = 0) : lsum (List.range n) g = lsum P g := by
  rw [← SM.lsum_filter g (fun i => decide (i ∈ P)) (fun i hi => hz i (of_decide_eq_false hi)) (List.range n)]
  refine lsum_perm g ((List.perm_ext_iff_of_nodup (List.Pairwise.filter _ List.nodup_range) hnd).2 (fun i => ?_))
  rw [List.mem_filter, List.mem_range, decide_eq_true_iff]
  exact ⟨fun h => h.2, fun h => ⟨hn i h, h⟩⟩
theorem near_wrong {n m t : Nat} {X w c : Nat → G} {E : List Nat} (h : Near n m t X E w c) : (SM.wrong n E w c).length ≤ t := by
  obtain ⟨_, O, hO, h2⟩ := h
  have : ∀ (A B : List Nat), A.Nodup → (∀ i ∈ A, i ∈ B) → A.length ≤ B.length := by
    intro A
    induction A with
    | nil => intro B _ _; exact Nat.zero_le _
    | cons a A ih =>
      intro B hA hB
      rw [List.nodup_cons] at hA
      have ha := hB a List.mem_cons_self
      have h2 := ih (B.erase a) hA.2 (fun i hi => (List.mem_erase_of_ne (by rintro rfl; exact hA.1 hi)).2 (hB i (List.mem_cons_of_mem _ hi)))
      rw [List.length_erase_of_mem ha] at h2
      have := List.length_pos_of_mem ha
      rw [List.length_cons]
      omega
  refine Nat.le_trans (this _ _ (SM.wrong_nodup n E w c) (fun i hi => ?_)) hO
  obtain ⟨h3, h4, h5⟩ := SM.mem_wrong.1 hi
  exact (h2 i h3 h4).resolve_left h5

/-- What Decode says of the word zs beside the places E, t others being corrected. -/
def Dec (n C t : Nat) (zs : List G) (E : List Nat) (o : Int) (ws : List G) (chips : List Nat) : Prop :=
  (o = 2 ∧ ws = [] ∧ chips = [] ∧ ∀ c, ¬ Near n C t (XE n) E (el zs) c) ∨
  (ws.length = n ∧ Near n C t (XE n) E (el zs) (el ws) ∧ chips = diff zs ws n ∧ ((o = 0 ∧ ws = zs) ∨ (o = 1 ∧ ws ≠ zs)))
theorem Dec.one {n C t : Nat} {zs : List G} {E : List Nat} {o o' : Int} {ws ws' : List G} {ch ch' : List Nat} (hn : n ≤ 255) (ht : E.length + 2 * t ≤ C) (h : Dec n C t zs E o ws ch) (h' : Dec n C t zs E o' ws' ch') : o = o' ∧ ws = ws' ∧ ch = ch' := by
  rcases h with ⟨h1, h2, h3, h4⟩ | ⟨h1, h2, h3, h4⟩
  · rcases h' with ⟨g1, g2, g3, g4⟩ | ⟨g1, g2, g3, g4⟩
    · exact ⟨h1.trans g1.symm, h2.trans g2.symm, h3.trans g3.symm⟩
    · exact absurd g2 (h4 _)
  · rcases h' with ⟨g1, g2, g3, g4⟩ | ⟨g1, g2, g3, g4⟩
    · exact absurd h2 (g4 _)
    · have e : ws = ws' := PM.ext_el (h1.trans g1.symm) (fun k hk => Near.one (SM.xe_inj hn) ht h2 g2 k (by omega))
      subst e
      refine ⟨?_, rfl, h3.trans g3.symm⟩
      rcases h4 with ⟨a1, a2⟩ | ⟨a1, a2⟩
      · rcases g4 with ⟨b1, b2⟩ | ⟨b1, b2⟩
        · exact a1.trans b1.symm
        · exact absurd a2 b2
      · rcases g4 with ⟨b1, b2⟩ | ⟨b1, b2⟩
        · exact absurd b2 a2
        · exact a1.trans b1.symm
/-- How many others are corrected. -/
def tOf (C F e : Nat) : Nat := min F ((C - e) / 2)
theorem tOf_le {C F e : Nat} (h : e ≤ C) : e + 2 * tOf C F e ≤ C := by unfold tOf; omega
theorem tOf_le2 {C F e : Nat} : 2 * tOf C F e ≤ C - e := by unfold tOf; omega

theorem synL_el {D C : Nat} (zs : List G) (j : Nat) (hj : j < C) : el (synL D C zs) j = syn (D + C) (XE (D + C)) (el zs) j := el_tab _ _ _ hj
theorem diff_self (zs : List G) (n : Nat) : diff zs zs n = [] := by
  rcases h : diff zs zs n with _ | ⟨x, l⟩
  · rfl
  · have : x ∈ diff zs zs n := by rw [h]; exact List.mem_cons_self
    exact absurd rfl (mem_diff.1 this).2
/-- Clean. -/
theorem dec_clean {D C t : Nat} {zs : List G} {E : List Nat} (hl : zs.length = D + C) (h : ∀ j, j < (synL D C zs).length → el (synL D C zs) j = 0) : Dec (D + C) C t zs E 0 zs [] := by
  refine .inr ⟨hl, ⟨fun j hj => ?_, [], Nat.zero_le _, fun i _ hne => absurd rfl hne⟩, (diff_self zs _).symm, .inl ⟨rfl, rfl⟩⟩
  rw [← synL_el zs j hj]
  exact h j (by rw [synL_len]; exact hj)
/-- Too many wrong places: there is none. -/
theorem dec_lost1 {D C t : Nat} {zs : List G} {E ws : List Nat} (hn : D + C ≤ 255) (hE : ∀ i ∈ E, i < D + C) (hEC : E.length ≤ C) (hW : WrongR (D + C) C (synL D C zs) E ws) (ht : 2 * t ≤ C - E.length) (hw : t < ws.length) : Dec (D + C) C t zs E 2 [] [] := by
  refine .inl ⟨rfl, rfl, rfl, fun c hc => ?_⟩
  have h1 := near_wrong hc
  have := wrong_found (c := c) (w := el zs) hn hE hEC (fun j hj => synL_el zs j hj) hc.1 hW h1 ht
  rw [this] at hw
  omega
/-- What is known of the places. -/
theorem wrong_nd {n C : Nat} {vs : List G} {E ws : List Nat} (hW : WrongR n C vs E ws) (hE : E.Nodup) (hin : ∀ i ∈ E, i < n) : (E ++ ws).Nodup ∧ ∀ i ∈ E ++ ws, i < n := by
  obtain ⟨f, last, next, lf, gp, _, _, _, _, rfl⟩ := hW
  refine ⟨?_, fun i hi => ?_⟩
  · rw [List.nodup_append]
    exact ⟨hE, wrongL_nodup f n E n, fun a ha b hb e => by subst e; exact (mem_wrongL.1 hb).2.2 ha⟩
  · rcases List.mem_append.1 hi with h | h
    · exact hin i h
    · exact (mem_wrongL.1 h).1
/-- If there is one, it is what is corrected. -/
theorem corr_near {D C t : Nat} {zs fx : List G} {E ws : List Nat} {c : Nat → G} (hn : D + C ≤ 255) (hEn : E.Nodup) (hE : ∀ i ∈ E, i < D + C) (hEC : E.length ≤ C) (hW : WrongR (D + C) C (synL D C zs) E ws) (ht : 2 * t ≤ C - E.length)
    (hci : CorrI (D + C) C zs (synL D C zs) (E ++ ws) (E ++ ws).length fx) (hc : Near (D + C) C t (XE (D + C)) E (el zs) c) : ∀ i, i < D + C → el fx i = c i := by
  obtain ⟨hnd, hlt⟩ := wrong_nd hW hEn hE
  have hws := wrong_found (c := c) (w := el zs) hn hE hEC (fun j hj => synL_el zs j hj) hc.1 hW (near_wrong hc) ht
  have hout : ∀ i, i < D + C → i ∉ E ++ ws → c i = el zs i := fun i hi hnot => Classical.byContradiction (fun hne => hnot (by
    rw [hws]
    by_cases h : i ∈ E
    · exact List.mem_append_left _ h
    · exact List.mem_append_right _ (SM.mem_wrong.2 ⟨hi, hne, h⟩)))
  have hadd := hci.add (fun i => if i ∈ E ++ ws then el zs i + c i else 0) (fun j hj => by
    rw [synL_el zs j hj]
    have h1 := SM.syn_add (D + C) (XE (D + C)) (el zs) c j
    rw [hc.1 j hj, G.add_zero] at h1
    rw [← h1]
    unfold SM.syn
    rw [← lsum_places hnd hlt (fun i hi => by rw [if_neg hi, G.zero_mul])]
    refine SM.lsum_ext (fun i hi => ?_)
    rw [List.mem_range] at hi
    by_cases h : i ∈ E ++ ws
    · rw [if_pos h]
    · rw [if_neg h]
      show (el zs i + c i) * _ = _
      rw [hout i hi h, G.add_self])
  rw [List.take_length] at hadd
  intro i hi
  by_cases h : i ∈ E ++ ws
  · rw [hadd i h, if_pos h, G.add_cancel]
  · rw [hci.same i (by rw [List.take_length]; exact h), hout i hi h]
theorem dec_lost2 {D C t : Nat} {zs fx : List G} {E ws : List Nat} (hn : D + C ≤ 255) (hEn : E.Nodup) (hE : ∀ i ∈ E, i < D + C) (hEC : E.length ≤ C) (hW : WrongR (D + C) C (synL D C zs) E ws) (ht : 2 * t ≤ C - E.length)
    (hci : CorrI (D + C) C zs (synL D C zs) (E ++ ws) (E ++ ws).length fx) (hno : ¬ ∀ j, j < (synL D C fx).length → el (synL D C fx) j = 0) : Dec (D + C) C t zs E 2 [] [] := by
  refine .inl ⟨rfl, rfl, rfl, fun c hc => hno (fun j hj => ?_)⟩
  rw [synL_len] at hj
  rw [synL_el fx j hj, ← hc.1 j hj]
  unfold SM.syn
  exact SM.lsum_ext (fun i hi => by rw [corr_near hn hEn hE hEC hW ht hci hc i (List.mem_range.1 hi)])
theorem dec_fixed {D C t : Nat} {zs fx : List G} {E ws : List Nat} (hw : ws.length ≤ t) (hci : CorrI (D + C) C zs (synL D C zs) (E ++ ws) (E ++ ws).length fx)
    (h0 : ¬ ∀ j, j < (synL D C zs).length → el (synL D C zs) j = 0) (hyes : ∀ j, j < (synL D C fx).length → el (synL D C fx) j = 0) : Dec (D + C) C t zs E 1 fx (diff zs fx (D + C)) := by
  refine .inr ⟨hci.len, ⟨fun j hj => ?_, ws, hw, fun i hi hne => ?_⟩, rfl, .inr ⟨rfl, fun e => h0 (by rw [← e]; exact hyes)⟩⟩
  · rw [← synL_el fx j hj]
    exact hyes j (by rw [synL_len]; exact hj)
  · have := Classical.byContradiction (fun h : ¬ i ∈ E ++ ws => hne (hci.same i (by rw [List.take_length]; exact h)))
    exact List.mem_append.1 this
end Go.Proofs.YtmejneobfkbgeaaGreatDoor.P

namespace Go.Proofs.YtmejneobfkbgeaaGreatDoor
open Go Go.RowKit Go.Shelf

namespace C
theorem each_small : ∀ C, C < 9 → ∀ v, v < 9 → 1 ≤ v → v ≤ C → eachF C v = 0 := by decide +kernel
theorem words_few {n C v : Nat} (hC : C ≤ 8) (h1 : 1 ≤ v) (h2 : v ≤ C) : wordsN n C v = 0 := by
  unfold wordsN
  rw [each_F, each_small C (by omega) v (by omega) h1 h2, Nat.mul_zero]
theorem prd_zero {x : Nat} (xs : List Nat) (h : nth xs 0 = 0) : ∀ k, prd xs (k + 1) = 0
  | 0 => by rw [prd, h, Nat.mul_zero]
  | k + 1 => by rw [prd, prd_zero (x := x) xs h k, Nat.zero_mul]
theorem near_few {n C w g o m F : Nat} (hC : C ≤ 8) (hg : g ≤ F) (h : w + F ≤ C) : nearN n C w g o m = 0 := by
  unfold nearN
  split
  · rfl
  · exact prd_zero (x := 0) (nearL n C (w + g - m) g o m) (show wordsN n C (w + g - m) = 0 from words_few hC (by omega) (by omega)) 5
theorem sm_zero {f : Nat → Nat} : ∀ k, (∀ z, z < k → f z = 0) → sm f k = 0
  | 0, _ => rfl
  | k + 1, h => by rw [sm_succ, sm_zero k (fun z hz => h z (by omega)), h k (Nat.lt_succ_self k)]
/-- Errors of few bytes never pass. -/
theorem wrong_few {n C w F : Nat} (hC : C ≤ 8) (h : w + F ≤ C) : wrongN n C w F = 0 :=
  sm_zero _ (fun g hg => sm_zero _ (fun o _ => sm_zero _ (fun m _ => near_few (F := F) hC (by omega) h)))
theorem le_sm {f : Nat → Nat} {k : Nat} (h : 0 < k) : f 0 ≤ sm f k := by
  induction k with
  | zero => omega
  | succ k ih =>
    rw [sm_succ]
    by_cases e : k = 0
    · subst e; omega
    · have := ih (by omega); omega
/-- With more corrections no fewer errors pass. -/
theorem words_le_wrong {n C w F : Nat} (h1 : 1 ≤ w) (h2 : w ≤ n) : wordsN n C w ≤ wrongN n C w F := by
  rw [← near_zero n C w h1 h2]
  exact Nat.le_trans (le_sm (f := f3 n C w 0 0) (k := F - 0 - 0 + 1) (Nat.succ_pos _)) (Nat.le_trans (le_sm (f := f2 n C w F 0) (k := F - 0 + 1) (Nat.succ_pos _)) (le_sm (f := f1 n C w F) (k := F + 1) (Nat.succ_pos _)))
theorem b4096 {x B : Nat} (h : x ≤ 16 * (16 * (16 * 2 ^ B))) : x ≤ 2 ^ (B + 12) := by
  rw [Nat.pow_add, show (2 : Nat) ^ 12 = 4096 from rfl]
  generalize (2 : Nat) ^ B = X at *
  omega
theorem wrong_len {n C w F : Nat} (hn : n ≤ 40) (hF : F ≤ 4) : (M.dig (wrongN n C w F)).length ≤ 200 :=
  bits_len (b4096 (s1_le (C := C) (w := w) hn hF (Nat.le_refl (F + 1)))) (by have := EB_eq; omega)
end C
end Go.Proofs.YtmejneobfkbgeaaGreatDoor

namespace Go.Proofs.YtmejneobfkbgeaaGreatDoor
open Go Go.RowKit Go.Shelf

namespace C
def nearLF (n C v g o m : Nat) : List Nat := [wordsF n C v, chF v g, (if v < g then 0 else chF (v - g) o), 254 ^ o, chF (n - v) m, 255 ^ m]
def nearF (n C w g o m : Nat) : Nat := if w + g < m + 1 ∨ n + m < w + g then 0 else prd (nearLF n C (w + g - m) g o m) 6
theorem nearL_F (n C v g o m : Nat) : nearL n C v g o m = nearLF n C v g o m := by
  unfold nearL nearLF
  rw [words_F, chI_F, chI_F]
  by_cases h : v < g
  · rw [if_pos (show (v : Int) - (g : Int) < 0 by omega), if_pos h, chI_F]
  · rw [if_neg (show ¬ (v : Int) - (g : Int) < 0 by omega), if_neg h, show ((v : Int) - (g : Int)).toNat = v - g by omega, chI_F]
theorem near_F (n C w g o m : Nat) : nearN n C w g o m = nearF n C w g o m := by unfold nearN nearF; rw [nearL_F]
def wrongF (n C w F : Nat) : Nat := sm (fun g => sm (fun o => sm (fun m => nearF n C w g o m) (F - g - o + 1)) (F - g + 1)) (F + 1)
theorem wrong_F (n C w F : Nat) : wrongN n C w F = wrongF n C w F := by
  unfold wrongN wrongF
  congr 1
  funext g
  unfold f1
  congr 1
  funext o
  unfold f2
  congr 1
  funext m
  exact near_F n C w g o m
/-- The balls round the code words do not meet. -/
theorem balls_all1 : ∀ D, D < 4 → ∀ C, C < 5 → ∀ F, F < 3 → (F ≤ (C + 1) / 2 → sm (fun w => wrongF (D + 1 + (C + 1)) (C + 1) w F) (D + 1 + (C + 1) + 1) = (256 ^ (D + 1) - 1) * sm (errF (D + 1 + (C + 1))) (F + 1)) := by decide +kernel
theorem balls_all2 : ∀ D, D < 5 → ∀ C, C < 6 → ∀ F, F < 3 → (256 ^ D - 1) * sm (errF (D + C)) (F + 1) < 2 ^ 200 := by decide +kernel
theorem sm_mono {f : Nat → Nat} {k K : Nat} (h : k ≤ K) : sm f k ≤ sm f K := by
  induction K with
  | zero => rw [show k = 0 by omega]; exact Nat.le_refl _
  | succ K ih =>
    by_cases e : k = K + 1
    · rw [e]; exact Nat.le_refl _
    · exact Nat.le_trans (ih (by omega)) (Nat.le_add_right _ _)
theorem term_le_sm {f : Nat → Nat} {k K : Nat} (h : k < K) : f k ≤ sm f K := Nat.le_trans (Nat.le_add_left _ _) (sm_mono (f := f) (k := k + 1) h)
/-- The sums of the loop. -/
def wsum (n C F k : Nat) : Nat := sm (fun w => wrongN n C w F) k
def bsum (n F k : Nat) : Nat := sm (errN n) (min k (F + 1))
theorem wsum_succ (n C F k : Nat) : wsum n C F (k + 1) = wsum n C F k + wrongN n C k F := rfl
theorem bsum_yes {n F k : Nat} (h : k ≤ F) : bsum n F (k + 1) = bsum n F k + errN n k := by
  unfold bsum
  rw [Nat.min_eq_left (by omega), Nat.min_eq_left (by omega)]; rfl
theorem bsum_no {n F k : Nat} (h : ¬ k ≤ F) : bsum n F (k + 1) = bsum n F k := by
  unfold bsum
  rw [Nat.min_eq_right (by omega), Nat.min_eq_right (by omega)]
structure BOk (D C F : Nat) : Prop where
  d1 : 1 ≤ D
  d2 : D ≤ 4
  c1 : 1 ≤ C
  c2 : C ≤ 5
  f2 : F ≤ C / 2
theorem balls_eq {D C F : Nat} (h : BOk D C F) : wsum (D + C) C F (D + C + 1) = (256 ^ D - 1) * bsum (D + C) F (D + C + 1) ∧ wsum (D + C) C F (D + C + 1) < 2 ^ 200 := by
  obtain ⟨h1, h2, h3, h4, h5⟩ := h
  have h6 := balls_all2 D (by omega) C (by omega) F (by omega)
  obtain ⟨d, rfl⟩ : ∃ d, D = d + 1 := ⟨D - 1, by omega⟩
  obtain ⟨c, rfl⟩ : ∃ c, C = c + 1 := ⟨C - 1, by omega⟩
  have this := And.intro (balls_all1 d (by omega) c (by omega) F (by omega) h5) h6
  have e1 : wsum (d + 1 + (c + 1)) (c + 1) F (d + 1 + (c + 1) + 1) = sm (fun w => wrongF (d + 1 + (c + 1)) (c + 1) w F) (d + 1 + (c + 1) + 1) := by
    unfold wsum
    congr 1
    funext w
    exact wrong_F _ _ _ _
  have e2 : bsum (d + 1 + (c + 1)) F (d + 1 + (c + 1) + 1) = sm (errF (d + 1 + (c + 1))) (F + 1) := by
    unfold bsum
    rw [Nat.min_eq_right (by omega)]
    congr 1
    funext w
    exact err_F _ _
  rw [e1, e2, this.1]
  exact ⟨rfl, this.2⟩
theorem wsum_lt {D C F k : Nat} (h : BOk D C F) (hk : k ≤ D + C + 1) : wsum (D + C) C F k < 2 ^ 200 := Nat.lt_of_le_of_lt (sm_mono hk) (balls_eq h).2
theorem wrong_lt {D C F k : Nat} (h : BOk D C F) (hk : k ≤ D + C) : wrongN (D + C) C k F < 2 ^ 200 := Nat.lt_of_le_of_lt (term_le_sm (f := fun w => wrongN (D + C) C w F) (k := k) (K := D + C + 1) (by omega)) (balls_eq h).2
theorem len100 {x : Nat} (h : x < 2 ^ 200) : (M.dig x).length ≤ 100 := len_pow h (by omega)
theorem errN_lt {n k : Nat} (hn : n ≤ 9) (hk : k ≤ n) : errN n k < 2 ^ 200 := Nat.lt_of_le_of_lt (errN_le n k) (Nat.pow_lt_pow_right (by omega) (by omega))
theorem sm16 {f : Nat → Nat} {e k : Nat} (hk : k ≤ 16) (h : ∀ z, z < k → f z ≤ 2 ^ e) : sm f k ≤ 2 ^ (e + 4) := by
  rw [Nat.pow_add, Nat.mul_comm]
  exact sm_le k hk h
theorem bsum_lt {n F k : Nat} (hn : n ≤ 9) (hF : F ≤ 4) (_ : F ≤ n) : bsum n F k < 2 ^ 200 :=
  Nat.lt_of_le_of_lt (sm16 (e := 90) (by omega) (fun z hz => Nat.le_trans (errN_le n z) (Nat.pow_le_pow_right (by omega) (by omega)))) (Nat.pow_lt_pow_right (by omega) (by omega))
end C
end Go.Proofs.YtmejneobfkbgeaaGreatDoor

namespace Go.Proofs.YtmejneobfkbgeaaGreatDoor
namespace C
open PM (G el)
open SM (Near XE)

/-- How many second bytes below k Decode doesn't call Lost. -/
def cn (F e k : Nat) : Nat := if F = 1 ∧ e < k then 1 else 0
theorem small_ex {F : Nat} (hF : F ≤ 1) {a : G} (ha : a ≠ 0) : ∃ e : Nat, 1 ≤ e ∧ e < 256 ∧ ∀ v : G, v ≠ 0 → ((∃ c, Near 3 2 F (XE 3) [] (el [a, v, 0]) c) ↔ (F = 1 ∧ v.v = e)) := by
  rcases (show F = 0 ∨ F = 1 by omega) with rfl | rfl
  · exact ⟨1, by decide, by decide, fun v _ => ⟨fun ⟨c, h⟩ => absurd h (SM.small_0 ha c), fun h => absurd h.1 (by decide)⟩⟩
  · obtain ⟨e, he, h⟩ := SM.small_1 ha
    refine ⟨e.v, ?_, e.lt, fun v hv => ?_⟩
    · rcases Nat.eq_zero_or_pos e.v with h0 | h0
      · exact absurd (PM.G.ext' h0) he
      · exact h0
    · rw [h v hv]
      exact ⟨fun e1 => ⟨rfl, by rw [e1]⟩, fun e1 => PM.G.ext' e1.2⟩
theorem cn_step {F e k : Nat} : cn F e (k + 1) = cn F e k + (if F = 1 ∧ k = e then 1 else 0) := by
  unfold cn
  by_cases h1 : F = 1
  · by_cases h2 : k = e
    · rw [if_pos ⟨h1, by omega⟩, if_neg (by omega), if_pos ⟨h1, h2⟩]
    · by_cases h3 : e < k
      · rw [if_pos ⟨h1, by omega⟩, if_pos ⟨h1, h3⟩, if_neg (fun h => h2 h.2)]
      · rw [if_neg (by omega), if_neg (by omega), if_neg (fun h => h2 h.2)]
  · rw [if_neg (fun h => h1 h.1), if_neg (fun h => h1 h.1), if_neg (fun h => h1 h.1)]
theorem cn_le (F e k : Nat) : cn F e k ≤ 1 := by unfold cn; split <;> omega
theorem cn_one {F e : Nat} (he : 1 ≤ e) : cn F e 1 = 0 := by unfold cn; rw [if_neg (by omega)]
theorem cn_end {F e : Nat} (hF : F ≤ 1) (he : e < 256) : cn F e 256 = F := by
  unfold cn
  by_cases h1 : F = 1
  · rw [if_pos ⟨h1, he⟩, h1]
  · rw [if_neg (fun h => h1 h.1)]; omega
/-- What Decode's outcome says. -/
theorem dec_out {F e : Nat} {a v : G} {o : Int} {ws : List G} {ch : List Nat} (h : (∃ c, Near 3 2 F (XE 3) [] (el [a, v, 0]) c) ↔ (F = 1 ∧ v.v = e)) (hd : P.Dec 3 2 F [a, v, 0] [] o ws ch) : (o = 2 ∧ ¬ (F = 1 ∧ v.v = e)) ∨ (o ≠ 2 ∧ F = 1 ∧ v.v = e) := by
  rcases hd with ⟨h1, _, _, h4⟩ | ⟨_, h2, _, h4⟩
  · exact .inl ⟨h1, fun hx => by obtain ⟨c, hc⟩ := h.2 hx; exact h4 c hc⟩
  · exact .inr ⟨by rcases h4 with ⟨h4, _⟩ | ⟨h4, _⟩ <;> rw [h4] <;> decide, h.1 ⟨_, h2⟩⟩
theorem wrong_small {F : Nat} (hF : F ≤ 1) : wrongN 3 2 2 F = 765 * F := by
  rw [wrong_F]
  rcases (show F = 0 ∨ F = 1 by omega) with rfl | rfl <;> decide +kernel
end C
end Go.Proofs.YtmejneobfkbgeaaGreatDoor

namespace Go.Proofs.YtmejneobfkbgeaaGreatDoor.P
open Go Go.RowKit Go.Shelf
open G.S (codeV Cd code_box length_any box4_at)
open G (Box IRow)

theorem box3_set {W : World} {p : Nat} {t : TypeId} {v0 v1 v2 : Value} (h : Box W p t [v0, v1, v2]) (u0 u1 u2 : Value) : Box (((W.setCell ⟨p, 0, none⟩ u0).setCell ⟨p, 1, none⟩ u1).setCell ⟨p, 2, none⟩ u2) p t [u0, u1, u2] :=
  ((h.set 0 u0).set 1 u1).set 2 u2
theorem below3 {w W : World} {B p : Nat} (h : Below B w W) (hp : B ≤ p) (u0 u1 u2 : Value) : Below B w (((W.setCell ⟨p, 0, none⟩ u0).setCell ⟨p, 1, none⟩ u1).setCell ⟨p, 2, none⟩ u2) :=
  ((h.setCell (p := ⟨p, 0, none⟩) hp _).setCell (p := ⟨p, 1, none⟩) hp _).setCell (p := ⟨p, 2, none⟩) hp _
/-- A result is stored in a box: the worlds have names. -/
theorem name3 {W : World} {p : Nat} {t : TypeId} {v0 v1 v2 : Value} (h : Box W p t [v0, v1, v2]) (u0 u1 u2 : Value) : ∃ Wa Wb Wc : World, W.setCell ⟨p, 0, none⟩ u0 = Wa ∧ Wa.setCell ⟨p, 1, none⟩ u1 = Wb ∧ Wb.setCell ⟨p, 2, none⟩ u2 = Wc ∧
    W.cell? ⟨p, 0, none⟩ = some v0 ∧ W.frozen? ⟨p, 0, none⟩ = false ∧ Wa.cell? ⟨p, 1, none⟩ = some v1 ∧ Wa.frozen? ⟨p, 1, none⟩ = false ∧ Wb.cell? ⟨p, 2, none⟩ = some v2 ∧ Wb.frozen? ⟨p, 2, none⟩ = false ∧
    Wc.cell? ⟨p, 0, none⟩ = some u0 ∧ Wc.cell? ⟨p, 1, none⟩ = some u1 ∧ Wc.cell? ⟨p, 2, none⟩ = some u2 ∧
    Box Wc p t [u0, u1, u2] ∧ (∀ (B : Nat) (w : World), Below B w W → B ≤ p → Below B w Wc) ∧ (∀ (B : Nat) (v : Value) (zs : List PM.G), v.ownBlock ≠ some p → Own W B v zs → Own Wc B v zs) ∧ (∀ (B : Nat) (v : Value) (zs : List Nat), v.ownBlock ≠ some p → G.Own W B v zs → G.Own Wc B v zs) := by
  have h1 := h.set 0 u0
  have h2 := h1.set 1 u1
  have h3 := h2.set 2 u2
  exact ⟨_, _, _, rfl, rfl, rfl, h.cell 0 rfl, h.free 0, h1.cell 1 rfl, h1.free 1, h2.cell 2 rfl, h2.free 2, h3.cell 0 rfl, h3.cell 1 rfl, h3.cell 2 rfl, h3, fun B w hb hp => below3 hb hp _ _ _, fun B v zs hv ho => ((ho.other (p := ⟨p, 0, none⟩) _ hv).other (p := ⟨p, 1, none⟩) _ hv).other (p := ⟨p, 2, none⟩) _ hv, fun B v zs hv ho => ((ho.other (p := ⟨p, 0, none⟩) _ hv).other (p := ⟨p, 1, none⟩) _ hv).other (p := ⟨p, 2, none⟩) _ hv⟩

/-- Decode's answer: an error. -/
def DecNo (w : World) (k : Int) (e : Ending) (W : World) : Prop := e = .returned (.tuple #[.agg #[.int .i64 0, .slice none 0 0, .slice none 0 0], .int .i64 k]) ∧ Below w.heap.size w W
/-- Decode's answer. -/
def DecYes (w : World) (n C t : Nat) (zs : List PM.G) (E : List Nat) (e : Ending) (W : World) : Prop :=
  ∃ (o : Int) (ws : List PM.G) (ch : List Nat) (a : Option Addr) (c : Nat) (a2 : Option Addr) (c2 : Nat), e = .returned (.tuple #[.agg #[.int .i64 o, .slice a ws.length c, .slice a2 ch.length c2], .int .i64 0]) ∧
    Own W w.heap.size (.slice a ws.length c) ws ∧ G.Own W w.heap.size (.slice a2 ch.length c2) ch ∧ Dec n C t zs E o ws ch ∧ Below w.heap.size w W
/-- A list of ints that are places. -/
theorem row_of_ints {w : World} {a : Option Addr} {es : List Int} {cap : Nat} (h : IRow w a es cap) {E : List Nat} (he : es = E.map (fun i : Nat => (i : Int))) : G.Row w a E cap := by
  subst he
  refine ⟨by have := h.room; rwa [List.length_map] at this, h.most, fun j hj => ?_⟩
  obtain ⟨b, off, e, hc⟩ := h.el j (by rw [List.length_map]; exact hj)
  refine ⟨b, off, e, ?_⟩
  rw [hc]
  show some (Value.int .i64 (IN.el _ j)) = some (.int .i64 ((G.el E j : Nat) : Int))
  rw [G.el_lt hj]
  unfold IN.el
  rw [List.getElem?_map, List.getElem?_eq_getElem hj]
  rfl
theorem ints_of_row {w : World} {a : Option Addr} {E : List Nat} {cap : Nat} (h : G.Row w a E cap) : IRow w a (E.map (fun i : Nat => (i : Int))) cap := by
  refine ⟨by rw [List.length_map]; exact h.room, h.most, fun j hj => ?_⟩
  rw [List.length_map] at hj
  obtain ⟨b, off, e, hc⟩ := h.elN j hj
  refine ⟨b, off, e, ?_⟩
  rw [hc, G.el_lt hj]
  unfold IN.el
  rw [List.getElem?_map, List.getElem?_eq_getElem hj]
  rfl

set_option maxRecDepth 100000 in
set_option maxHeartbeats 4000000 in
theorem decode_err1 {D C F : Nat} (_hc : Cd D C F) (a : Option Addr) (n cap : Nat) (a2 : Option Addr) (n2 cap2 : Nat) (k : Int) (hk : k ≠ 0) (w : World) (hS : ∀ W, Calls Tryz.prog 28 #[codeV D C F, .slice a n cap] W (No W k)) :
    Calls Tryz.prog 12 #[codeV D C F, .slice a n cap, .slice a2 n2 cap2] w (DecNo w k) := by
  have HS := Lib.hid hS
  have hkb : (k == 0) = false := by rw [beq_eq_false_iff_ne]; exact hk
  have hkb2 : (k != 0) = true := by rw [bne_iff_ne]; exact hk
  unfold codeV at *
  obtain ⟨w1, hw1, c0, c1, c2, c3, hB, hX⟩ := code_box w D C F 23
  have hb0 := Box.new w1 36 [.int .i64 0, .slice none 0 0, .slice none 0 0]
  obtain ⟨w2, hw2⟩ : ∃ w2, w1.alloc (.cells #[.int .i64 0, .slice none 0 0, .slice none 0 0] 36) = w2 := ⟨_, rfl⟩
  have hb12 : Below w1.heap.size w1 w2 := by rw [← hw2]; exact (Below.refl _ w1).alloc (Nat.le_refl _) _
  have hbx : Box w2 w1.heap.size 36 [.int .i64 0, .slice none 0 0, .slice none 0 0] := by rw [← hw2]; exact hb0
  have HX := Lib.hid hbx
  have HB := Lib.hid (hB.trans (hb12.mono hB.size))
  replace c0 := G.cell_below hb12 c0
  replace c1 := G.cell_below hb12 c1
  replace c2 := G.cell_below hb12 c2
  replace c3 := G.cell_below hb12 c3
  have hp := hB.size
  clear hB hb0 hb12 hbx hX hS hk
  go_enter Tryz.func12, Tryz.ntmps12
  go_wp2_with fail
  (with_reducible refine (HS.out _).mono ?_)
  rintro e w3 ⟨rfl, hb3⟩
  have hx3 := HX.out.below hb3
  obtain ⟨p, hpp⟩ : ∃ p, w1.heap.size = p := ⟨_, rfl⟩
  rw [hpp] at hx3 hp ⊢
  obtain ⟨Wa, Wb, Wc, e1, e2, e3, f1, f2, f3, f4, f5, f6, g1, g2, g3, _, hbel, _, _⟩ := name3 hx3 (.int .i64 0) (.slice none 0 0) (.slice none 0 0)
  have HBC := Lib.hid (hbel _ _ (HB.out.trans (hb3.mono HB.out.size)) hp)
  have HG := Lib.hid (And.intro g1 (And.intro g2 g3))
  clear hb3 hx3 hbel HX HB c0 c1 c2 c3 hw1 hw2 hpp g1 g2 g3
  go_wp2_with fail
  exact bodyPost_ret (v := .tuple #[.agg #[.int .i64 0, .slice none 0 0, .slice none 0 0], .int .i64 k]) (by simp [results, Tryz.results12, go_sem, HG.out.1, HG.out.2.1, HG.out.2.2]) rfl ⟨rfl, HBC.out⟩
set_option maxRecDepth 100000 in
set_option maxHeartbeats 4000000 in
theorem decode_err2 {D C F : Nat} (hc : Cd D C F) (hF : F ≤ C / 2) (a : Option Addr) (zs : List PM.G) (cap : Nat) (a2 : Option Addr) (es : List Int) (cap2 : Nat) (k : Int) (hk : k ≠ 0) (w : World) (hZ : Row w a zs cap) (hzl : zs.length = D + C) (hE : IRow w a2 es cap2) (hz : ∀ j, j < es.length → -9223372036854775808 ≤ IN.el es j ∧ IN.el es j ≤ 9223372036854775807) (hP : PlErr (D + C) C es k) :
    Calls Tryz.prog 12 #[codeV D C F, .slice a (D + C) cap, .slice a2 es.length cap2] w (DecNo w k) := by
  have HS := Lib.hid (fun W h => syndromes_yes hc hF a zs cap W h hzl)
  have HP := Lib.hid (fun W h => errorOfPlaces_any hc a2 es cap2 W h hz k hP)
  have HZ := Lib.hid hZ
  have HE := Lib.hid hE
  have hkb : (k == 0) = false := by rw [beq_eq_false_iff_ne]; exact hk
  have hkb2 : (k != 0) = true := by rw [bne_iff_ne]; exact hk
  unfold codeV at *
  obtain ⟨w1, hw1, c0, c1, c2, c3, hB, hX⟩ := code_box w D C F 23
  have hb0 := Box.new w1 36 [.int .i64 0, .slice none 0 0, .slice none 0 0]
  obtain ⟨w2, hw2⟩ : ∃ w2, w1.alloc (.cells #[.int .i64 0, .slice none 0 0, .slice none 0 0] 36) = w2 := ⟨_, rfl⟩
  have hb12 : Below w1.heap.size w1 w2 := by rw [← hw2]; exact (Below.refl _ w1).alloc (Nat.le_refl _) _
  have hbx : Box w2 w1.heap.size 36 [.int .i64 0, .slice none 0 0, .slice none 0 0] := by rw [← hw2]; exact hb0
  have HX := Lib.hid hbx
  have HB := Lib.hid (hB.trans (hb12.mono hB.size))
  replace c0 := G.cell_below hb12 c0
  replace c1 := G.cell_below hb12 c1
  replace c2 := G.cell_below hb12 c2
  replace c3 := G.cell_below hb12 c3
  have hp := hB.size
  have HS2 := Lib.hid (HS.out w2 (HZ.out.below HB.out))
  obtain ⟨m, hm⟩ : ∃ m, D + C = m := ⟨_, rfl⟩
  rw [hm] at HS2 ⊢
  clear hB hb0 hb12 hbx hX hc hk hZ hE hzl hz hP hm HS HZ
  go_enter Tryz.func12, Tryz.ntmps12
  go_wp2_with fail
  (with_reducible refine HS2.out.mono ?_)
  rintro e w3 ⟨av, cs, rfl, hos, hb3⟩
  have HB3 := Lib.hid (HB.out.trans (hb3.mono HB.out.size))
  have HX3 := Lib.hid (HX.out.below hb3)
  have HP3 := Lib.hid (HP.out w3 (HE.out.below HB3.out))
  replace c0 := G.cell_below hb3 c0
  replace c1 := G.cell_below hb3 c1
  replace c2 := G.cell_below hb3 c2
  replace c3 := G.cell_below hb3 c3
  clear hos hb3 HS2 HX HB HP HE
  go_wp2_with fail
  (with_reducible refine HP3.out.mono ?_)
  rintro e w4 ⟨rfl, hb4⟩
  have hx4 := HX3.out.below hb4
  obtain ⟨p, hpp⟩ : ∃ p, w1.heap.size = p := ⟨_, rfl⟩
  rw [hpp] at hx4 hp ⊢
  obtain ⟨Wa, Wb, Wc, e1, e2, e3, f1, f2, f3, f4, f5, f6, g1, g2, g3, _, hbel, _, _⟩ := name3 hx4 (.int .i64 0) (.slice none 0 0) (.slice none 0 0)
  have HBC := Lib.hid (hbel _ _ (HB3.out.trans (hb4.mono HB3.out.size)) hp)
  have HG := Lib.hid (And.intro g1 (And.intro g2 g3))
  clear hb4 hx4 hbel HX3 HB3 HP3 c0 c1 c2 c3 hw1 hw2 hpp g1 g2 g3
  go_wp2_with fail
  exact bodyPost_ret (v := .tuple #[.agg #[.int .i64 0, .slice none 0 0, .slice none 0 0], .int .i64 k]) (by simp [results, Tryz.results12, go_sem, HG.out.1, HG.out.2.1, HG.out.2.2]) rfl ⟨rfl, HBC.out⟩

set_option maxRecDepth 100000 in
set_option maxHeartbeats 4000000 in
/-- **symbol.Decode** -/
theorem decode_yes {D C F : Nat} (hc : Cd D C F) (hF : F ≤ C / 2) (a : Option Addr) (zs : List PM.G) (cap : Nat) (a2 : Option Addr) (E : List Nat) (cap2 : Nat) (w : World) (hZ : Row w a zs cap) (hzl : zs.length = D + C) (hE : G.Row w a2 E cap2) (hel : E.length ≤ C) (hin : ∀ i ∈ E, i < D + C) (hnd : E.Nodup)
    (hP : PlErr (D + C) C (E.map (fun i : Nat => (i : Int))) 0) :
    Calls Tryz.prog 12 #[codeV D C F, .slice a (D + C) cap, .slice a2 E.length cap2] w (DecYes w (D + C) C (tOf C F E.length) zs E) := by
  have hroom := hZ.room
  have hmost := hZ.most
  rw [hzl] at hroom
  have hn255 : D + C ≤ 255 := by have := hc.d2; have := hc.c2; omega
  have HS := Lib.hid (fun W h => syndromes_yes hc hF a zs cap W h hzl)
  have HP := Lib.hid (fun W h => by
    have := errorOfPlaces_any hc a2 (E.map (fun i : Nat => (i : Int))) cap2 W h (fun j hj => by
      rw [List.length_map] at hj
      have h1 : IN.el (E.map (fun i : Nat => (i : Int))) j = ((E[j] : Nat) : Int) := by unfold IN.el; rw [List.getElem?_map, List.getElem?_eq_getElem hj]; rfl
      have := hin E[j] (List.getElem_mem hj)
      rw [h1]; omega) 0 hP
    rwa [List.length_map] at this)
  have HWP := Lib.hid (fun W av cv (vs : List PM.G) hv h hvl => wrongPlaces_any hc av a2 vs E cv cap2 W hv h hvl hel (fun k hk => hin _ (G.el_mem hk)))
  have HCO := Lib.hid (fun W av ap cv cp (vs : List PM.G) (P : List Nat) h1 h2 h3 hvl hpl hnd hin => corrected_any hc a av ap zs vs P cap cv cp W h1 h2 h3 hzl hvl hpl hnd hin)
  have HSI := Lib.hid (fun W a' (fx : List PM.G) cap' h (hl : fx.length = D + C) => syndromes_in hc a' fx cap' W h (by omega))
  have HZ := Lib.hid hZ
  have HE := Lib.hid hE
  have HZL := Lib.hid hzl
  have HIN := Lib.hid hin
  have HND := Lib.hid hnd
  have HF := Lib.hid hF
  have hC2 := hc.c2
  unfold codeV at *
  obtain ⟨w1, hw1, c0, c1, c2, c3, hB, hX⟩ := code_box w D C F 23
  have hb0 := Box.new w1 36 [.int .i64 0, .slice none 0 0, .slice none 0 0]
  obtain ⟨w2, hw2⟩ : ∃ w2, w1.alloc (.cells #[.int .i64 0, .slice none 0 0, .slice none 0 0] 36) = w2 := ⟨_, rfl⟩
  have hb12 : Below w1.heap.size w1 w2 := by rw [← hw2]; exact (Below.refl _ w1).alloc (Nat.le_refl _) _
  have hbx : Box w2 w1.heap.size 36 [.int .i64 0, .slice none 0 0, .slice none 0 0] := by rw [← hw2]; exact hb0
  have HX := Lib.hid hbx
  have HCB := Lib.hid (hX.below hb12)
  have HB := Lib.hid (hB.trans (hb12.mono hB.size))
  replace c0 := G.cell_below hb12 c0
  replace c1 := G.cell_below hb12 c1
  replace c2 := G.cell_below hb12 c2
  replace c3 := G.cell_below hb12 c3
  have hp := hB.size
  have HS2 := Lib.hid (HS.out w2 (HZ.out.below HB.out))
  obtain ⟨m, hm⟩ : ∃ m, D + C = m := ⟨_, rfl⟩
  rw [hm] at HS2 HCO HZL HWP HIN hn255 hroom ⊢
  have HM := Lib.hid hm
  clear hB hb0 hb12 hbx hX hc hZ hE hzl hP hm HS hin hnd
  obtain ⟨t, ht⟩ : ∃ t, tOf C F E.length = t := ⟨_, rfl⟩
  rw [ht]
  have HT := Lib.hid ht
  clear ht
  go_enter Tryz.func12, Tryz.ntmps12
  go_wp2_with fail
  (with_reducible refine HS2.out.mono ?_)
  rintro e w3 ⟨av, cs, rfl, hos, hb3⟩
  have HB3 := Lib.hid (HB.out.trans (hb3.mono HB.out.size))
  have HX3 := Lib.hid (HX.out.below hb3)
  have HCB3 := Lib.hid (HCB.out.below hb3)
  have HP3 := Lib.hid (HP.out w3 (ints_of_row (HE.out.below HB3.out)))
  obtain ⟨vs, hvs⟩ : ∃ vs, synL D C zs = vs := ⟨_, rfl⟩
  have HVS := Lib.hid hvs
  rw [hvs] at hos
  have hvl : vs.length = C := by rw [← hvs, synL_len]
  have HOS := Lib.hid hos
  have HVL := Lib.hid hvl
  replace c0 := G.cell_below hb3 c0
  replace c1 := G.cell_below hb3 c1
  replace c2 := G.cell_below hb3 c2
  replace c3 := G.cell_below hb3 c3
  clear hos hb3 HS2 HX HB HP HCB hvs hvl
  go_wp2_with fail
  (with_reducible refine HP3.out.mono ?_)
  rintro e w4 ⟨rfl, hb4⟩
  have HX4 := Lib.hid (HX3.out.below hb4)
  have HCB4 := Lib.hid (HCB3.out.below hb4)
  have HB4 := Lib.hid (HB3.out.trans (hb4.mono HB3.out.size))
  have HV4 := Lib.hid ((HOS.out.below hb4).rowAtN HVL.out)
  clear hb4 HX3 HCB3 HB3 HOS HP3 c0 c1 c2 c3 hw1 hw2
  obtain ⟨p, hpp⟩ : ∃ p, w1.heap.size = p := ⟨_, rfl⟩
  rw [hpp] at HX4 hp ⊢
  clear hpp
  by_cases hz0 : ∀ j, j < vs.length → PM.el vs j = 0
  · have hiz := isZero_any av cs vs w4 HV4.out true ⟨fun _ => hz0, fun _ => rfl⟩
    rw [HVL.out] at hiz
    have HIZ := Lib.hid hiz
    have HCL := Lib.hid (bclone_any a zs cap m w4 (HZ.out.below HB4.out) (by rw [HZL.out]; omega) HZL.out)
    have HD := Lib.hid (show Dec m C t zs E 0 zs [] by rw [← HM.out]; exact dec_clean (by rw [HM.out]; exact HZL.out) (by rw [HVS.out]; exact hz0))
    clear hiz hz0
    go_wp2_with fail
    (with_reducible refine HIZ.out.mono ?_)
    rintro e w5 ⟨rfl, rfl⟩
    go_wp2_with fail
    (with_reducible refine HCL.out.mono ?_)
    rintro e w5 ⟨a5, k5, rfl, ho5, hb5⟩
    have hx5 := HX4.out.below hb5
    obtain ⟨Wa, Wb, Wc, e1, e2, e3, f1, f2, f3, f4, f5, f6, g1, g2, g3, _, hbel, hown, _⟩ := name3 hx5 (.int .i64 0) (.slice a5 m k5) (.slice none 0 0)
    have HBC := Lib.hid (hbel _ _ (HB4.out.trans (hb5.mono HB4.out.size)) hp)
    have HOC := Lib.hid (hown _ _ _ (by intro e; have := (World.ownsRow.lt ho5 _ e).1; have := HX4.out.lt; omega) (ho5.mono HB4.out.size))
    have HG := Lib.hid (And.intro g1 (And.intro g2 g3))
    clear hx5 hbel hown ho5 hb5 HX4 HB4 HIZ HCL g1 g2 g3 HCB4
    go_wp2_with fail
    refine bodyPost_ret (v := .tuple #[.agg #[.int .i64 0, .slice a5 m k5, .slice none 0 0], .int .i64 0]) (by simp [results, Tryz.results12, go_sem, HG.out.1, HG.out.2.1, HG.out.2.2]) rfl ⟨0, zs, [], a5, k5, none, 0, by rw [HZL.out]; rfl, by rw [HZL.out]; exact HOC.out, G.Own.nil _ _, HD.out, HBC.out⟩
  · have hiz := isZero_any av cs vs w4 HV4.out false ⟨fun h => (by cases h), fun h => absurd h hz0⟩
    rw [HVL.out] at hiz
    have HIZ := Lib.hid hiz
    have HNZ := Lib.hid hz0
    have HW4 := Lib.hid (HWP.out w4 av cs vs HV4.out (HE.out.below HB4.out) HVL.out)
    obtain ⟨c0, c1, c2, c3⟩ := box4_at HCB4.out
    clear hiz hz0 HWP
    go_wp2_with fail
    (with_reducible refine HIZ.out.mono ?_)
    rintro e w5 ⟨rfl, rfl⟩
    go_wp2_with fail
    (with_reducible refine HW4.out.mono ?_)
    rintro e w5 ⟨ws, a5, k5, rfl, ho5, hwr, hb5⟩
    have HWR := Lib.hid hwr
    have HOW := Lib.hid ho5
    have HB5 := Lib.hid (HB4.out.trans (hb5.mono HB4.out.size))
    have HX5 := Lib.hid (HX4.out.below hb5)
    have HCB5 := Lib.hid (HCB4.out.below hb5)
    have HV5 := Lib.hid (HV4.out.below hb5)
    have HNW := Lib.hid (wrong_nd hwr HND.out HIN.out)
    have hwl : ws.length ≤ 400 := by
      have := (List.nodup_append.1 HNW.out.1).2.1
      obtain ⟨f, _, _, _, _, _, _, _, _, rfl⟩ := hwr
      have := wrongL_le f m E m
      omega
    have hmin : min (F : Int) (((C : Int) - (E.length : Int)) / 2) = (t : Int) := by
      rw [← HT.out]; unfold tOf; omega
    obtain ⟨c0, c1, c2, c3⟩ := box4_at HCB5.out
    clear ho5 hwr hb5 HB4 HX4 HCB4 HV4 HW4 HIZ
    by_cases hgt : t < ws.length
    · have HD := Lib.hid (show Dec m C t zs E 2 [] [] by
        rw [← HM.out]
        have hw := HWR.out
        rw [← HVS.out, ← HM.out] at hw
        exact dec_lost1 (by rw [HM.out]; exact hn255) (by rw [HM.out]; exact HIN.out) hel hw (by rw [← HT.out]; exact tOf_le2) hgt)
      obtain ⟨Wa, Wb, Wc, e1, e2, e3, f1, f2, f3, f4, f5, f6, g1, g2, g3, _, hbel, hown, _⟩ := name3 HX5.out (.int .i64 2) (.slice none 0 0) (.slice none 0 0)
      have HBC := Lib.hid (hbel _ _ HB5.out hp)
      have HG := Lib.hid (And.intro g1 (And.intro g2 g3))
      have hgt' : (t : Int) < (ws.length : Int) := by omega
      clear hbel hown HX5 HB5 g1 g2 g3 HCB5 hgt
      go_wp2_with fail
      refine bodyPost_ret (v := .tuple #[.agg #[.int .i64 2, .slice none 0 0, .slice none 0 0], .int .i64 0]) (by simp [results, Tryz.results12, go_sem, HG.out.1, HG.out.2.1, HG.out.2.2]) rfl ⟨2, [], [], none, 0, none, 0, rfl, Own.nil _ _, G.Own.nil _ _, HD.out, HBC.out⟩
    · have hgt' : ¬ (t : Int) < (ws.length : Int) := by omega
      obtain ⟨P, hPP⟩ : ∃ P, E ++ ws = P := ⟨_, rfl⟩
      have HPP := Lib.hid hPP
      have hnw := HNW.out
      rw [hPP] at hnw
      have hPl : P.length ≤ C := by
        rw [← hPP, List.length_append]
        have h1 := tOf_le (F := F) hel
        rw [HT.out] at h1
        omega
      have HNP := Lib.hid hnw
      -- the worlds of the region
      have hb6 : Below w5.heap.size w5 w5.drew := (Below.refl _ w5).drew
      have hbx6 := Box.new w5.drew 24 [.slice a2 E.length cap2, .slice a5 ws.length k5]
      obtain ⟨wA, hwA⟩ : ∃ wA, w5.drew.alloc (.cells #[.slice a2 E.length cap2, .slice a5 ws.length k5] 24) = wA := ⟨_, rfl⟩
      have hb7 : Below w5.heap.size w5 wA := by rw [← hwA]; exact hb6.alloc (Nat.le_refl _) _
      have hbxA : Box wA w5.heap.size 24 [.slice a2 E.length cap2, .slice a5 ws.length k5] := by rw [← hwA]; exact hbx6
      have hcc := G.concat_any w5.heap.size a2 a5 E ws cap2 k5 wA (hbxA.cell 0 rfl) (hbxA.cell 1 rfl) (HE.out.below (HB5.out.trans (hb7.mono HB5.out.size))) ((HOW.out.below hb7).rowAt) (by omega) hwl
      rw [hPP] at hcc
      have HCC := Lib.hid hcc
      have HB7 := Lib.hid hb7
      obtain ⟨d0, d1, d2, d3⟩ := box4_at (HCB5.out.below hb6)
      obtain ⟨x0, x1, x2, x3⟩ := box4_at (HCB5.out.below hb7)
      clear hPP hnw hcc hb6 hb7 hbx6 hbxA hgt
      go_upto_region 11 with fail
      go_cut [11] (fun v wx => ∃ (fx : List PM.G) (af : Option Addr) (cf : Nat), v = .slice af m cf ∧ Own wx w5.heap.size (.slice af m cf) fx ∧ CorrI m C zs vs P P.length fx ∧ Below w5.heap.size w5 wx)
      case first =>
        go_region_law (first
          | (go_simp; go_at_call 34; (with_reducible refine HCC.out.mono ?_); rintro e w8 ⟨a8, k8, rfl, ho8, hb8⟩; have HB8 := Lib.hid (HB7.out.trans (hb8.mono HB7.out.size)); have hb58 := HB8.out; have y := box4_at (HCB5.out.below hb58); have y0 := y.1; have y1 := y.2.1; have y2 := y.2.2.1; have y3 := y.2.2.2; have hb08 := HB5.out.trans (hb58.mono HB5.out.size); have hco := HCO.out w8 av a8 cs k8 vs P (HZ.out.below hb08) (HV5.out.below hb58) ho8.rowAt HVL.out hPl HNP.out.1 (fun k hk => HNP.out.2 _ (G.el_mem hk)); have HCR := Lib.hid hco; clear ho8 hb8 hb58 y hb08 hco; go_simp)
          | (go_simp; go_at_call 33; (with_reducible refine HCR.out.mono ?_); rintro e w9 ⟨fx, a9, k9, rfl, ho9, hci, hb9⟩; have HO9 := Lib.hid (ho9.mono HB8.out.size); have HCI := Lib.hid hci; have HB9 := Lib.hid (HB8.out.trans (hb9.mono HB8.out.size)); clear ho9 hci hb9; go_simp))
        all_goals (
          go_wp2_with fail
          go_meet
          exact ⟨fx, a9, k9, rfl, HO9.out, HCI.out, HB9.out⟩)
      case rest =>
        obtain ⟨fx, af, cf, rfl, hof, hci, hbc⟩ := hcut
        have hfl := hci.len
        have HOF := Lib.hid hof
        have HBC := Lib.hid (HB5.out.trans (hbc.mono HB5.out.size))
        have HXC := Lib.hid (HX5.out.below hbc)
        have hci2 := hci
        rw [← HVS.out, ← HPP.out, ← HM.out] at hci2
        have HCI := Lib.hid hci2
        have HFL := Lib.hid hfl
        have hsi := HSI.out wc af fx cf (hof.rowAtN hfl) (by rw [HM.out]; exact hfl)
        rw [hfl] at hsi
        have hws' := HWR.out
        rw [← HVS.out, ← HM.out] at hws'
        have hzz := HNZ.out
        rw [← HVS.out] at hzz
        have HWS := Lib.hid hws'
        have HZZ := Lib.hid hzz
        obtain ⟨fs, hfs⟩ : ∃ fs, synL D C fx = fs := ⟨_, rfl⟩
        have hsl : tab C (SM.syn m (SM.XE m) (PM.el fx)) = fs := by rw [← hfs, ← HM.out]; rfl
        have hfsl : fs.length = C := by rw [← hfs, synL_len]
        rw [hsl] at hsi
        have HSY := Lib.hid hsi
        have HFS := Lib.hid hfs
        have HFSL := Lib.hid hfsl
        obtain ⟨c0, c1, c2, c3⟩ := box4_at (HCB5.out.below hbc)
        have hp5 : p < w5.heap.size := HX5.out.lt
        have hw5 : w.heap.size ≤ w5.heap.size := HB5.out.size
        clear hof hci hci2 hbc hfl hsi hws' hzz hfs hsl hfsl d0 d1 d2 d3 x0 x1 x2 x3 HB5 HX5 HCB5 HCC HB7 HCO HSI
        go_wp2_with fail
        (with_reducible refine HSY.out.mono ?_)
        rintro e w6 ⟨g6, rfl, _, ho6, hb6⟩
        have HB6 := Lib.hid (HBC.out.trans (hb6.mono HBC.out.size))
        have HX6 := Lib.hid (HXC.out.below hb6)
        have HOF6 := Lib.hid (HOF.out.below hb6)
        have hr6 := ho6.rowAtN HFSL.out
        by_cases hz1 : ∀ j, j < fs.length → PM.el fs j = 0
        · have hiz := isZero_any (some ⟨g6, 0, none⟩) C fs w6 hr6 true ⟨fun _ => hz1, fun _ => rfl⟩
          rw [HFSL.out] at hiz
          have HIZ := Lib.hid hiz
          have HD := Lib.hid (show Dec m C t zs E 1 fx (diff zs fx m) by
            have := dec_fixed (t := t) (by omega) HCI.out HZZ.out (by rw [HFS.out]; exact hz1)
            rwa [HM.out] at this)
          have hdf := differences_any a af zs fx cap cf m w6 (HZ.out.below HB6.out) (HOF6.out.rowAtN HFL.out) HZL.out HFL.out (by omega)
          obtain ⟨dl, hdl⟩ : ∃ dl, diff zs fx m = dl := ⟨_, rfl⟩
          rw [hdl] at hdf HD
          have HDF := Lib.hid hdf
          clear ho6 hb6 hr6 hiz hz1 HBC HXC HOF HSY hdf hdl
          go_wp2_with fail
          (with_reducible refine HIZ.out.mono ?_)
          rintro e w7 ⟨rfl, rfl⟩
          go_wp2_with fail
          (with_reducible refine HDF.out.mono ?_)
          rintro e w7 ⟨a7, k7, rfl, ho7, hb7⟩
          have hx7 := HX6.out.below hb7
          obtain ⟨Wa, Wb, Wc, e1, e2, e3, f1, f2, f3, f4, f5, f6, g1, g2, g3, _, hbel, hown, hownN⟩ := name3 hx7 (.int .i64 1) (.slice af m cf) (.slice a7 dl.length k7)
          have HBE := Lib.hid (hbel _ _ (HB6.out.trans (hb7.mono HB6.out.size)) hp)
          have HOE := Lib.hid (hown _ _ _ (by intro e; have := (World.ownsRow.lt HOF6.out _ e).1; omega) ((HOF6.out.below hb7)))
          have HNE := Lib.hid (hownN _ _ _ (by intro e; have := (World.ownsRow.lt ho7 _ e).1; have := HX6.out.lt; omega) (ho7.mono HB6.out.size))
          have HG := Lib.hid (And.intro g1 (And.intro g2 g3))
          clear hx7 hbel hown hownN ho7 hb7 HX6 HB6 HIZ HDF g1 g2 g3
          go_wp2_with fail
          refine bodyPost_ret (v := .tuple #[.agg #[.int .i64 1, .slice af m cf, .slice a7 dl.length k7], .int .i64 0]) (by simp [results, Tryz.results12, go_sem, HG.out.1, HG.out.2.1, HG.out.2.2]) rfl ⟨1, fx, dl, af, cf, a7, k7, by rw [HFL.out], by rw [HFL.out]; exact HOE.out.mono hw5, HNE.out, HD.out, HBE.out⟩
        · have hiz := isZero_any (some ⟨g6, 0, none⟩) C fs w6 hr6 false ⟨fun h => (by cases h), fun h => absurd h hz1⟩
          rw [HFSL.out] at hiz
          have HIZ := Lib.hid hiz
          have HD := Lib.hid (show Dec m C t zs E 2 [] [] by
            have := dec_lost2 (t := t) (by rw [HM.out]; exact hn255) HND.out (by rw [HM.out]; exact HIN.out) hel HWS.out (by rw [← HT.out]; exact tOf_le2) HCI.out (by rw [HFS.out]; exact hz1)
            rwa [HM.out] at this)
          obtain ⟨Wa, Wb, Wc, e1, e2, e3, f1, f2, f3, f4, f5, f6, g1, g2, g3, _, hbel, hown, _⟩ := name3 HX6.out (.int .i64 2) (.slice none 0 0) (.slice none 0 0)
          have HBE := Lib.hid (hbel _ _ HB6.out hp)
          have HG := Lib.hid (And.intro g1 (And.intro g2 g3))
          clear ho6 hb6 hr6 hiz hz1 HBC HXC HOF HSY hbel hown HX6 HB6 g1 g2 g3
          go_wp2_with fail
          (with_reducible refine HIZ.out.mono ?_)
          rintro e w7 ⟨rfl, rfl⟩
          go_wp2_with fail
          refine bodyPost_ret (v := .tuple #[.agg #[.int .i64 2, .slice none 0 0, .slice none 0 0], .int .i64 0]) (by simp [results, Tryz.results12, go_sem, HG.out.1, HG.out.2.1, HG.out.2.2]) rfl ⟨2, [], [], none, 0, none, 0, rfl, Own.nil _ _, G.Own.nil _ _, HD.out, HBE.out⟩
end Go.Proofs.YtmejneobfkbgeaaGreatDoor.P

namespace Go.Proofs.YtmejneobfkbgeaaGreatDoor
open Go Go.RowKit Go.Shelf

namespace C
theorem row3 (w : World) (a b c : PM.G) (t : TypeId) : P.Row (w.alloc (.cells #[.int .u8 (a.v : Int), .int .u8 (b.v : Int), .int .u8 (c.v : Int)] t)) (some ⟨w.heap.size, 0, none⟩) [a, b, c] 3 := by
  refine ⟨Nat.le_refl _, by omega, fun j hj => ⟨w.heap.size, 0, rfl, ?_⟩⟩
  have hb : (w.alloc (.cells #[.int .u8 (a.v : Int), .int .u8 (b.v : Int), .int .u8 (c.v : Int)] t)).heap[w.heap.size]? = some (.cells #[.int .u8 (a.v : Int), .int .u8 (b.v : Int), .int .u8 (c.v : Int)] t) := Array.getElem?_push_size
  rw [cell_of_row _ _ _ _ _ _ hb]
  match j, hj with
  | 0, _ => rfl
  | 1, _ => rfl
  | 2, _ => rfl
theorem cd12 {F : Nat} (hF : F ≤ 1) : G.S.Cd 1 2 F := ⟨by decide, by decide, by decide, by decide, by omega⟩
theorem ok12 {F : Nat} (hF : F ≤ 1) : Ok 1 2 F := ⟨by decide, by decide, by decide, by decide, by omega⟩
theorem decode_small {F : Nat} (hF : F ≤ 1) (a b : PM.G) (g cap : Nat) (w : World) (h : P.Row w (some ⟨g, 0, none⟩) [a, b, 0] cap) :
    Calls Tryz.prog 12 #[.agg #[.int .i64 2, .int .i64 1, .int .i64 2, .int .i64 (F : Int)], .slice (some ⟨g, 0, none⟩) 3 cap, .slice none 0 0] w (P.DecYes w 3 2 F [a, b, 0] []) := by
  have := P.decode_yes (cd12 hF) (by omega) (some ⟨g, 0, none⟩) [a, b, 0] cap none [] 0 w h rfl (G.Row.nil _ _ _ (by omega)) (by decide) (fun i hi => absurd hi List.not_mem_nil) List.nodup_nil
      (.inr ⟨fun j hj => absurd hj (by simp), .inr ⟨fun k hk => absurd hk (by simp), .inr ⟨rfl, by decide⟩⟩⟩)
  rw [show P.tOf 2 F [].length = F by unfold P.tOf; simp only [List.length_nil]; omega] at this
  exact this

set_option maxRecDepth 100000 in
set_option maxHeartbeats 4000000 in
/-- **ChanceSmall** -/
theorem small_any (fix : Int) (z : Nat) (hz : z < 256) (w : World) :
    Calls Tryz.prog 4 #[.int .i64 fix, .int .u8 (z : Int)] w fun e W => e = .returned (.bool true) ∧ Below w.heap.size w W := by
  obtain ⟨F, hF, hF2⟩ := G.mod_nat fix 2 (by decide)
  have hmx := fun W => G.mod_any fix 2 (by decide) (by decide) W
  rw [show fix % (2 : Int) = (F : Int) from hF] at hmx
  have HMX := Lib.hid hmx
  have hF1 : F ≤ 1 := by omega
  obtain ⟨r, hr⟩ : ∃ r, z % 255 = r := ⟨_, rfl⟩
  have hr255 : r < 255 := by omega
  have hrem : ((z : Int)).tmod 255 = (r : Int) := by rw [Int.tmod_eq_emod_of_nonneg (by omega)]; omega
  obtain ⟨ga, hga⟩ : ∃ g : PM.G, g.v = 1 + r := ⟨⟨1 + r, by omega⟩, rfl⟩
  have hga0 : ga ≠ 0 := fun e => by rw [e] at hga; have : (0 : PM.G).v = 0 := rfl; omega
  have hgi : (1 : Int) + (r : Int) = (ga.v : Int) := by omega
  obtain ⟨e0, he1, he2, hne⟩ := small_ex hF1 hga0
  have HNE := Lib.hid hne
  have HX0 := Lib.hid (G.Box.new w 23 [.int .i64 2, .int .i64 1, .int .i64 2, .int .i64 (F : Int)])
  have HB0 := Lib.hid ((Below.refl _ w).alloc (Nat.le_refl _) (.cells #[.int .i64 2, .int .i64 1, .int .i64 2, .int .i64 (F : Int)] 23))
  have HDC := Lib.hid (fun b g cap W h => decode_small hF1 ga b g cap W h)
  clear hF hmx hr hne hga
  go_enter Tryz.func4, Tryz.ntmps4
  go_wp2_with fail
  refine (HMX.out _).mono ?_
  rintro e w' ⟨rfl, rfl⟩
  clear HMX
  go_wp2_with fail
  go_loopw [6, 7] (fun n v wr => ∃ k : Nat, n = .int .i64 (cn F e0 k : Int) ∧ v = .int .i64 (k : Int) ∧ 1 ≤ k ∧ k ≤ 256 ∧ Hid (CBox wr w.heap.size 1 2 F) ∧ Hid (Below w.heap.size w wr)) (fun _ v _ => 256 - (intOf v).toNat)
  case atStart => exact ⟨1, by rw [cn_one he1]; rfl, rfl, Nat.le_refl _, by decide, Lib.hid HX0.out, HB0⟩
  case round =>
    clear HX0 HB0
    obtain ⟨k, rfl, rfl, hk1, hk, HX, HB⟩ := hrel
    have hn1 := cn_le F e0 k
    by_cases hlt : (k : Int) < 256
    · obtain ⟨gb, hgb⟩ : ∃ g : PM.G, g.v = k := ⟨⟨k, by omega⟩, rfl⟩
      have hgb0 : gb ≠ 0 := fun e => by rw [e] at hgb; have : (0 : PM.G).v = 0 := rfl; omega
      have hkv := HNE.out gb hgb0
      have hst := cn_step (F := F) (e := e0) (k := k)
      rw [hgb] at hkv
      have HKV := Lib.hid hkv
      have HST := Lib.hid hst
      obtain ⟨x0, x1, x2, x3⟩ := CBox.at HX.out
      have hkg : (k : Int) = (gb.v : Int) := by omega
      have hD := HDC.out gb wr.heap.size 3 _ (row3 wr ga gb 0 5)
      rw [← hkg, show (((0 : PM.G).v : Nat) : Int) = 0 from rfl] at hD
      have HBA := Lib.hid (HB.out.alloc HB.out.size (.cells #[.int .u8 (ga.v : Int), .int .u8 (k : Int), .int .u8 0] 5))
      have HXA := Lib.hid (G.Box.alloc HX.out (.cells #[.int .u8 (ga.v : Int), .int .u8 (k : Int), .int .u8 0] 5))
      obtain ⟨wa, hwa⟩ : ∃ wa, wr.alloc (.cells #[.int .u8 (ga.v : Int), .int .u8 (k : Int), .int .u8 0] 5) = wa := ⟨_, rfl⟩
      rw [hwa] at hD HBA HXA
      have HD := Lib.hid hD
      clear hD hkg
      obtain ⟨n0, hn0⟩ : ∃ n, cn F e0 k = n := ⟨_, rfl⟩
      rw [hn0] at HST hn1
      rw [hn0]
      have HGB := Lib.hid hgb
      clear hkv hst hgb hn0
      go_wp2_with fail
      refine HD.out.mono ?_
      rintro e w2 ⟨o, ds, ch, a8, c8, a9, c9, rfl, _, _, hdec, hb2⟩
      have HB2 := Lib.hid (HBA.out.trans (hb2.mono HBA.out.size))
      have hx2 := G.Box.below HXA.out hb2
      have hb := G.Box.new w2 36 [.int .i64 o, .slice a8 ds.length c8, .slice a9 ch.length c9]
      have hc0 := hb.cell 0 rfl
      have HX3 := Lib.hid (G.Box.alloc hx2 (.cells #[.int .i64 o, .slice a8 ds.length c8, .slice a9 ch.length c9] 36))
      have HB3 := Lib.hid (HB2.out.alloc HB2.out.size (.cells #[.int .i64 o, .slice a8 ds.length c8, .slice a9 ch.length c9] 36))
      have hout := dec_out (e := e0) (by rw [HGB.out]; exact HKV.out) hdec
      obtain ⟨w3, hw3⟩ : ∃ w3, w2.alloc (.cells #[.int .i64 o, .slice a8 ds.length c8, .slice a9 ch.length c9] 36) = w3 := ⟨_, rfl⟩
      have hc0' : w3.cell? ⟨w2.heap.size, 0, none⟩ = some (.int .i64 o) := by rw [← hw3]; exact hc0
      rw [hw3] at HX3 HB3
      clear hdec hb2 hx2 hb hc0 HD HBA HXA HB2 x0 x1 x2 x3 HX HB
      rcases hout with ⟨ho, hno⟩ | ⟨ho, hyes⟩
      · subst ho
        have HS1 := Lib.hid (show cn F e0 (k + 1) = n0 by rw [HST.out, if_neg (by rw [HGB.out] at hno; exact hno), Nat.add_zero])
        clear hno
        go_wp2_with fail
        go_roundw
        case rel => exact ⟨k + 1, by rw [HS1.out], by go_num, by omega, by omega, HX3, HB3⟩
        case measure => simp [intOf]; omega
      · have hob : (o != 2) = true := bne_iff_ne.2 ho
        have HS1 := Lib.hid (show cn F e0 (k + 1) = n0 + 1 by rw [HST.out, if_pos (by rw [HGB.out] at hyes; exact hyes)])
        clear hyes ho
        go_wp2_with fail
        go_roundw
        case rel => exact ⟨k + 1, by rw [HS1.out]; go_num, by go_num, by omega, by omega, HX3, HB3⟩
        case measure => simp [intOf]; omega
    · obtain rfl : k = 256 := by omega
      have hend := cn_end (e := e0) hF1 he2
      rw [hend]
      obtain ⟨N, hN⟩ : ∃ N, 765 * F = N := ⟨_, rfl⟩
      have hW : ∀ W, Calls Tryz.prog 13 #[.agg #[.int .i64 2, .int .i64 1, .int .i64 2, .int .i64 (F : Int)], .int .i64 2] W fun e W' => NumE N e W' ∧ Below W.heap.size W W' := fun W => by
        have h := wrong_any (ok12 hF1) 2 (by decide) W
        rw [show wrongN (1 + 2) 2 2 F = N from (wrong_small hF1).trans hN] at h
        exact h
      have HW := Lib.hid hW
      have hmul : IntKind.i64.wrap (765 * (F : Int)) = (N : Int) := by rw [IntKind.wrap_i64]; omega
      have HO := Lib.hid (fun W => of_any N W (by omega))
      obtain ⟨x0, x1, x2, x3⟩ := CBox.at HX.out
      clear hW hN hend
      go_wp2_with fail
      (with_reducible refine (HW.out _).mono ?_)
      rintro e wA ⟨⟨sA, cA, rfl, hr⟩, hb⟩
      have hv := Var.new hr
      obtain ⟨pA, hpA⟩ : ∃ p, wA.heap.size = p := ⟨_, rfl⟩
      obtain ⟨wB, hwB⟩ : ∃ wB, wA.alloc (.cells #[.slice sA (M.dig N).length cA] 41) = wB := ⟨_, rfl⟩
      have hbw : Below wA.heap.size wA wB := by rw [← hwB]; exact (Below.refl _ wA).alloc (Nat.le_refl _) _
      rw [hwB, hpA] at hv
      have hb2 := hb.trans (hbw.mono hb.size)
      have VA := Lib.hid hv
      have HBB := Lib.hid (HB.out.trans (hb2.mono HB.out.size))
      clear hr hv hb hbw hb2 HB HX HW x0 x1 x2 x3
      go_wp2_with fail
      (with_reducible refine (HO.out _).mono ?_)
      rintro e wC ⟨v, rfl, ⟨sC, cC, rfl, hr⟩, hb⟩
      have hv := Var.new hr
      obtain ⟨pC, hpC⟩ : ∃ p, wC.heap.size = p := ⟨_, rfl⟩
      obtain ⟨wD, hwD⟩ : ∃ wD, wC.alloc (.cells #[.slice sC (M.dig N).length cC] 41) = wD := ⟨_, rfl⟩
      have hbw : Below wC.heap.size wC wD := by rw [← hwD]; exact (Below.refl _ wC).alloc (Nat.le_refl _) _
      rw [hwD, hpC] at hv
      have hb2 := hb.trans (hbw.mono hb.size)
      have VC := Lib.hid hv
      have VAD := Lib.hid (VA.out.below hb2)
      have HBD := Lib.hid (HBB.out.trans (hb2.mono HBB.out.size))
      clear hr hv hb hbw hb2 HBB VA HO
      go_wp2_with fail
      refine (awake_yes _).mono ?_
      rintro e wE ⟨rfl, hb⟩
      have VAE := Lib.hid (VAD.out.below hb)
      have VCE := Lib.hid (VC.out.below hb)
      have cA1 := VAE.out.cell
      have cC1 := VCE.out.cell
      have HSA := Lib.hid (same_num (n := N) (w := wE) ⟨sA, cA, rfl, VAE.out.row⟩ ⟨sC, cC, rfl, VCE.out.row⟩)
      have HBE := Lib.hid (HBD.out.trans (hb.mono HBD.out.size))
      clear hb VAD VC HBD
      go_wp2_with fail
      (with_reducible refine HSA.out.mono ?_)
      rintro e wF ⟨rfl, hb⟩
      have HBF := Lib.hid (HBE.out.trans (hb.mono HBE.out.size))
      clear hb
      go_wp2_with fail
      go_ret
      exact ⟨rfl, HBF.out⟩
end C
end Go.Proofs.YtmejneobfkbgeaaGreatDoor

namespace Go.Proofs.YtmejneobfkbgeaaGreatDoor
open Go Go.ChangeShapes Go.WideShapes Go.ChangeAt Go.RowKit

theorem own : ownKnob Tryz.prog.godebug = none := by kernel_rfl

section
variable {H : Type} {enc : TypeId × Value → H} {P : Program}
/-- The row's post where all that lay before the call lies as it lay. -/
theorem post_below {f : Func} {s : ChangeSpec} {apart fresh handsOn again : Bool} {W W' : World} {args : Array Value} {v : Value} {ds gs : List (DataW H)} {before pa pv : List MemPlace}
    (hW : DataW.Whole enc P f.params.toList s.vars apart W args.toList ds gs before) (hb : Below W.heap.size W W') (hps : before = pa ++ pv)
    (hres : ∀ (b : Nat) (sp : Nat → Bool) (hd : Bool), DataW.TrodAll enc P W' b sp hd f.resultTypes.toList (v.resultList f.resultTypes.size) (s.fn H (ds ++ gs)).results [])
    (hargs : ∀ sp : Nat → Bool, (∀ p ∈ before, sp p.block = true) → DataW.TrodAll enc P W' 0 sp true f.params.toList args.toList (s.fn H (ds ++ gs)).args pa)
    (hvars : ∀ sp : Nat → Bool, (∀ p ∈ before, sp p.block = true) → DataW.TrodVars enc P W' sp s.vars (s.fn H (ds ++ gs)).vars pv)
    (hok : ∀ (j : Nat) (t : TypeId) (r : Value), f.resultTypes[j]? = some t → (v.resultList f.resultTypes.size)[j]? = some r → Value.okWide P W' .any 0 t r) :
    s.post enc P f apart fresh handsOn again W args v W' := by
  have hlt : ∀ p ∈ before, p.block < W.heap.size := fun p hp => hW.lt p hp
  have hall : ∀ p ∈ before, (fun b => decide (b < W.heap.size)) p.block = true := fun p hp => by simpa using hlt p hp
  obtain ⟨_, _, _, _, _, hz, hn⟩ := id hW
  refine ⟨ds, gs, before, [], pa, pv, hW, hres _ _ _, hargs _ hall, hvars _ hall, World.keptBut_mono (fun p hp => ⟨hp, by rw [hps, List.mem_append] at hp; exact .inr hp⟩) (hb.frame (· ∈ before)), fun _ => ⟨hok, _, _, ([] ++ pa) ++ pv, ⟨[] ++ pa, pv, trodAll_append (hargs _ (fun _ _ => rfl)) (hres _ _ _), hvars _ (fun _ _ => rfl), rfl, ?_, ?_⟩, ?_⟩⟩
  · intro b off hp
    have hin : MemPlace.cell b off ∈ before := by rw [hps]; simpa using hp
    exact (hb.frozen (hlt _ hin)).trans (hz b off hin)
  · intro ha
    have := hn ha
    rw [hps] at this
    simpa using this
  · intro p hp _
    rw [hps]
    simpa using hp
end

def layFirst : Obj → Obj
  | .cells _ t frozen => .cells (Go.Pinned.utf8FirstZ.map fun (n : Nat) => Value.int .u8 (n : Int)).toArray t frozen
  | o => o
def layRanges : Obj → Obj
  | .cells _ t frozen => .cells #[.int .u8 128, .int .u8 191, .int .u8 160, .int .u8 191, .int .u8 128, .int .u8 159, .int .u8 144, .int .u8 191, .int .u8 128, .int .u8 143, .int .u8 0, .int .u8 0, .int .u8 0, .int .u8 0, .int .u8 0, .int .u8 0, .int .u8 0, .int .u8 0, .int .u8 0, .int .u8 0, .int .u8 0, .int .u8 0, .int .u8 0, .int .u8 0, .int .u8 0, .int .u8 0, .int .u8 0, .int .u8 0, .int .u8 0, .int .u8 0, .int .u8 0, .int .u8 0] t frozen
  | o => o
/-- A world for the start: the settled one, Go's two tables in their blocks. -/
noncomputable def startWorld (os : Os) (blocks : Array Obj) : World :=
  { World.holding Tryz.prog os ⟨blocks, #[], []⟩ with heap := ((World.holding Tryz.prog os ⟨blocks, #[], []⟩).heap.modify 0 layFirst).modify 1 layRanges }
end Go.Proofs.YtmejneobfkbgeaaGreatDoor

namespace Go.Proofs.YtmejneobfkbgeaaGreatDoor
open Go Go.ChangeShapes Go.WideShapes Go.ChangeAt Go.RowKit

theorem cells_int : Tryz.prog.cellsOf 3 = 1 := by kernel_rfl

set_option maxRecDepth 100000 in
theorem slice_param {H : Type} {enc : TypeId × Value → H} {W : World} {base : Nat} {v : Value} {d : DataW H} {p : List MemPlace}
    (hv : Value.okWide Tryz.prog W .any base 24 v) (hd : DataW.Trod enc Tryz.prog W 0 (fun _ => true) true 24 v d p) :
    ∃ (a : Option Addr) (ts : List Int) (cap : Nat), v = .slice a ts.length cap ∧ Row W a ts cap ∧
      ∀ (W' : World) (sp : Nat → Bool), Below W.heap.size W W' → (∀ q ∈ p, sp q.block = true) → DataW.Trod enc Tryz.prog W' 0 sp true 24 v d p := by
  obtain ⟨a0, len, cap, rfl⟩ := okWide_slice Tryz.underlying24 hv
  obtain ⟨fuel, hf⟩ := hd
  rcases open_ints Tryz.underlying24 Tryz.underlying3 cells_int hf with ⟨hcs, hx⟩ | ⟨a, len', cap', zs, hcs, _, hl, hm, hz, hx, hcell, hwz⟩
  · simp [Value.cells] at hcs
    obtain ⟨rfl, rfl, rfl⟩ := hcs
    simp only [Prod.mk.injEq] at hx
    obtain ⟨rfl, rfl⟩ := hx
    exact ⟨none, [], 0, rfl, ⟨Nat.le_refl _, by omega, fun j hj => by simp at hj⟩, fun _ _ _ _ => shut_slice_nil Tryz.underlying24⟩
  · simp [Value.cells] at hcs
    obtain ⟨rfl, rfl, rfl⟩ := hcs
    simp only [Prod.mk.injEq] at hx
    obtain ⟨rfl, rfl⟩ := hx
    rw [if_pos rfl] at hz
    have e1 : (zs.take len).length = len := by rw [List.length_take]; omega
    refine ⟨some a, zs.take len, cap, by rw [e1], ⟨by omega, by unfold maxLen at hm; omega, fun j hj => ?_⟩, fun W' sp hb hsp => ?_⟩
    · obtain ⟨b, off, rfl, hc⟩ := ints_at hcell (by omega)
      refine ⟨b, off, rfl, ?_⟩
      rw [hc j (by omega), M.el_take (by omega)]
      rfl
    · refine ⟨2, shut_ints 0 Tryz.underlying24 Tryz.underlying3 cells_int (Nat.zero_le _) hl hm ?_ (fun i hi => (hb.cell (p := a.add i) (lt_of_cell (hcell i hi))).trans (hcell i hi)) hwz⟩
      by_cases h0 : 0 < zs.length
      · rw [if_pos]
        · exact hz
        · refine hsp (.cell a.block (a.off + 0)) ?_
          unfold MemPlace.row
          exact List.mem_map.2 ⟨0, List.mem_range.2 h0, rfl⟩
      · split <;> omega
end Go.Proofs.YtmejneobfkbgeaaGreatDoor
