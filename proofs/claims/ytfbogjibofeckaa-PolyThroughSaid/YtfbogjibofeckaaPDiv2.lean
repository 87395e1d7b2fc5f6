/- poly.divide of a polynomial that is no shorter. -/
import Derived.Deep.CutBlock
import Derived.Deep.DeepCutAuto
import Derived.Test.YtfbogjibofeckaaPDiv
namespace Go.Proofs.Ytfbogjibofeckaa.P
open Go Go.RowKit Go.Shelf
attribute [local go_sem] Oper.semAt_some

/-- The cells of divide. -/
structure DivC (w : World) (s g gr bs n m cr cb : Nat) (b : Option Addr) (q : List PM.G) (W : World) : Prop where
  c0 : W.cell? ⟨w.heap.size, 0, none⟩ = some (.slice b q.length cb)
  c1 : W.cell? ⟨w.heap.size + 1, 0, none⟩ = some (.slice (some ⟨g, 0, none⟩) n n)
  f1 : W.frozen? ⟨w.heap.size + 1, 0, none⟩ = false
  c2 : W.cell? ⟨w.heap.size + 1 + 1, 0, none⟩ = some (.slice (some ⟨gr, 0, none⟩) m cr)
  f2 : W.frozen? ⟨w.heap.size + 1 + 1, 0, none⟩ = false
  c6 : W.cell? ⟨s, 0, none⟩ = some (.int .i64 ((q.length : Int) - 1))
  c7 : W.cell? ⟨s + 1, 0, none⟩ = some (.int .u8 ((PM.el q (q.length - 1)).inv.v : Int))
  cb : W.cell? ⟨bs, 0, none⟩ = some (.slice (some ⟨g, 0, none⟩) n n)
/-- The cells before there is a quotient. -/
structure DivC0 (w : World) (s gr m cr cb : Nat) (b : Option Addr) (q : List PM.G) (W : World) : Prop where
  c0 : W.cell? ⟨w.heap.size, 0, none⟩ = some (.slice b q.length cb)
  c1 : W.cell? ⟨w.heap.size + 1, 0, none⟩ = some (.slice none 0 0)
  f1 : W.frozen? ⟨w.heap.size + 1, 0, none⟩ = false
  c2 : W.cell? ⟨w.heap.size + 1 + 1, 0, none⟩ = some (.slice (some ⟨gr, 0, none⟩) m cr)
  f2 : W.frozen? ⟨w.heap.size + 1 + 1, 0, none⟩ = false
  c6 : W.cell? ⟨s, 0, none⟩ = some (.int .i64 ((q.length : Int) - 1))
theorem DivC0.alloc {w W : World} {s gr m cr cb : Nat} {b : Option Addr} {q : List PM.G} (h : DivC0 w s gr m cr cb b q W) (o : Obj) : DivC0 w s gr m cr cb b q (W.alloc o) :=
  ⟨cell_later _ h.c0, cell_later _ h.c1, frozen_later _ h.c1 h.f1, cell_later _ h.c2, frozen_later _ h.c2 h.f2, cell_later _ h.c6⟩
theorem DivC0.below {w W W' : World} {s gr m cr cb : Nat} {b : Option Addr} {q : List PM.G} (h : DivC0 w s gr m cr cb b q W) (hb : Below W.heap.size W W') : DivC0 w s gr m cr cb b q W' :=
  ⟨cell_below hb h.c0, cell_below hb h.c1, frozen_below hb h.c1 h.f1, cell_below hb h.c2, frozen_below hb h.c2 h.f2, cell_below hb h.c6⟩
/-- What holds in divide's loop when k elements are still to come. -/
def DivI (w : World) (s g gr bs n m cr cb : Nat) (b : Option Addr) (p q : List PM.G) (k : Nat) (W : World) : Prop :=
  DivC w s g gr bs n m cr cb b q W ∧
  ∃ A R : List PM.G, Own W w.heap.size (.slice (some ⟨g, 0, none⟩) n n) A ∧ A.length = n ∧ Own W w.heap.size (.slice (some ⟨gr, 0, none⟩) m cr) R ∧ R.length = m ∧ (∀ j, j < k → PM.el A j = 0) ∧
    (∀ j, k + (q.length - 1) ≤ j → PM.el R j = 0) ∧ (∀ j, PM.el p j = PM.conv (PM.el A) (PM.el q) j + PM.el R j) ∧ Below w.heap.size w W
theorem divI_own {w : World} {s g gr bs n m cr cb : Nat} {b : Option Addr} {p q : List PM.G} {B0 : Nat} (hB0 : w.heap.size ≤ B0) : OwnFrom B0 (DivI w s g gr bs n m cr cb b p q) := by
  refine OwnFrom.and (Own.from (fun _ _ _ _ hs hg hr => ⟨cell_kept hs.c0 hg hr, cell_kept hs.c1 hg hr, (frozen_kept hs.c1 hg hr).trans hs.f1, cell_kept hs.c2 hg hr, (frozen_kept hs.c2 hg hr).trans hs.f2, cell_kept hs.c6 hg hr, cell_kept hs.c7 hg hr, cell_kept hs.cb hg hr⟩) _) ?_
  rintro k W W' row ⟨A, R, h1, h2, h3, h4, h5, h6, h7, h8⟩ hg hr
  exact ⟨A, R, ownFrom_own (B0 := B0) (fun (_ : Unit) => A) () _ _ _ h1 hg hr, h2, ownFrom_own (B0 := B0) (fun (_ : Unit) => R) () _ _ _ h3 hg hr, h4, h5, h6, h7, ownFrom_below (β := Unit) (Nat.le_refl _) hB0 () _ _ _ h8 hg hr⟩

theorem divI_start {w w8 w9 : World} {s gr n cr cb : Nat} {b : Option Addr} {p q : List PM.G} (hC8 : DivC0 w s gr p.length cr cb b q w8) (h87 : w8.cell? ⟨s + 1, 0, none⟩ = some (.int .u8 ((PM.el q (q.length - 1)).inv.v : Int)))
    (hs8 : w8.heap.size = s + 1 + 1) (hB8 : Below w.heap.size w w8) (hO8 : Own w8 (w.heap.size + 3) (.slice (some ⟨gr, 0, none⟩) p.length cr) p)
    (hO9 : Own w9 (s + 1 + 1) (.slice (some ⟨s + 1 + 1, 0, none⟩) (List.replicate n (0 : PM.G)).length n) (List.replicate n 0)) (hB9 : Below (s + 1 + 1) w8 w9) (hgr : w.heap.size + 3 ≤ gr) (hgr2 : gr < s) (hq0 : 0 < q.length) (hl : q.length ≤ p.length)
    (hn : p.length - (q.length - 1) = n) :
    DivI w s (s + 1 + 1) gr w9.heap.size n p.length cr cb b p q n ((w9.setCell ⟨w.heap.size + 1, 0, none⟩ (.slice (some ⟨s + 1 + 1, 0, none⟩) n n)).alloc (.cells #[.slice (some ⟨s + 1 + 1, 0, none⟩) n n] 22)) := by
  have hb9 : Below w8.heap.size w8 w9 := by rw [hs8]; exact hB9
  have hs9 := hb9.size
  have hC9 := hC8.below hb9
  have h97 := cell_below hb9 h87
  have hsz : (w9.setCell ⟨w.heap.size + 1, 0, none⟩ (.slice (some ⟨s + 1 + 1, 0, none⟩) n n)).heap.size = w9.heap.size := by simp [World.setCell]
  have hB10 := (hB8.trans (hb9.mono hB8.size)).setCell (p := ⟨w.heap.size + 1, 0, none⟩) (by simp) (.slice (some ⟨s + 1 + 1, 0, none⟩) n n)
  rw [List.length_replicate] at hO9
  refine ⟨⟨cell_later _ ((cell_other _ (by simp)).trans hC9.c0), cell_later _ (World.cell?_setCell_same' _ _ _ (by rw [hC9.c1]; rfl)), ?_, cell_later _ ((cell_other _ (by simp)).trans hC9.c2), ?_, cell_later _ ((cell_other _ (by simp <;> omega)).trans hC9.c6), cell_later _ ((cell_other _ (by simp <;> omega)).trans h97), ?_⟩,
    List.replicate n 0, p, ((hO9.setBelow (p := ⟨w.heap.size + 1, 0, none⟩) (by simp <;> omega) _).alloc _).mono (by omega), List.length_replicate, (((hO8.below hb9).setBelow (p := ⟨w.heap.size + 1, 0, none⟩) (by simp <;> omega) _).alloc _).mono (by omega), rfl, fun j _ => PM.el_replicate n j,
    fun j hj => PM.el_ge (by omega), fun j => ?_, hB10.alloc (by rw [hsz]; omega) _⟩
  · exact frozen_later _ (World.cell?_setCell_same' _ _ _ (by rw [hC9.c1]; rfl)) ((World.frozen?_setCell _ _ _ _).trans hC9.f1)
  · exact frozen_later _ ((cell_other _ (by simp)).trans hC9.c2) ((World.frozen?_setCell _ _ _ _).trans hC9.f2)
  · rw [← hsz]; exact cell_new _ _ _
  · rw [show PM.el (List.replicate n (0 : PM.G)) = PM.zeroC from funext (PM.el_replicate n), PM.conv_zeroC_l, PM.G.zero_add]
/-- Quotient and rest. -/
structure DivEq (p q A r : List PM.G) : Prop where
  eq : ∀ j, PM.el p j = PM.conv (PM.el A) (PM.el q) j + PM.el r j
  less : r.length < q.length
  can : PM.Can r
  canq : PM.Can A
  len : A.length = p.length + 1 - q.length

theorem div_math {p q A R ys : List PM.G} {k d : Nat} {f : PM.G} (hd : k + (q.length - 1) = d) (hk : k < A.length) (hq0 : 0 < q.length) (ht : PM.el q (q.length - 1) ≠ 0) (hzA : ∀ j, j < k + 1 → PM.el A j = 0)
    (hzR : ∀ j, k + 1 + (q.length - 1) ≤ j → PM.el R j = 0) (heq : ∀ j, PM.el p j = PM.conv (PM.el A) (PM.el q) j + PM.el R j) (hf : PM.el R d * (PM.el q (q.length - 1)).inv = f)
    (hy : ∀ j, PM.el ys j = PM.el R j + if j < k then 0 else f * PM.el q (j - k)) :
    (∀ j, j < k → PM.el (A.set k f) j = 0) ∧ (∀ j, k + (q.length - 1) ≤ j → PM.el ys j = 0) ∧ ∀ j, PM.el p j = PM.conv (PM.el (A.set k f)) (PM.el q) j + PM.el ys j := by
  refine ⟨fun j hj => ?_, fun j hj => ?_, fun j => ?_⟩
  · rw [PM.el_set hk, if_neg (by omega)]; exact hzA j (by omega)
  · rw [hy, if_neg (by omega)]
    by_cases e : j = d
    · subst e
      rw [show j - k = q.length - 1 by omega, ← hf, PM.G.mul_assoc, PM.G.mul_comm (PM.G.inv _), PM.G.mul_inv ht, PM.G.mul_one, PM.G.add_self]
    · rw [hzR j (by omega), PM.el_ge (p := q) (by omega), PM.G.mul_zero, PM.G.add_zero]
  · rw [PM.conv_put (PM.el A) (PM.el (A.set k f)) (PM.el q) f k (hzA k (by omega)) (fun i => PM.el_set hk f i), hy, heq]
    generalize PM.conv (PM.el A) (PM.el q) j = u, PM.el R j = v, (if j < k then (0 : PM.G) else f * PM.el q (j - k)) = t
    rw [PM.G.add_comm v t, PM.G.add_assoc, ← PM.G.add_assoc t t, PM.G.add_self, PM.G.zero_add]
theorem div_eq {p q A R r : List PM.G} (hp : Pol p) (hq0 : 0 < q.length) (hl : q.length ≤ p.length) (hr : Pol r) (hco : ∀ k, PM.el r k = PM.el R k) (hz : ∀ j, 0 + (q.length - 1) ≤ j → PM.el R j = 0)
    (heq : ∀ j, PM.el p j = PM.conv (PM.el A) (PM.el q) j + PM.el R j) (hA : A.length = p.length + 1 - q.length) : DivEq p q A r := by
  have hlr : r.length ≤ q.length - 1 := PM.can_len hr.can (fun k hk => by rw [hco]; exact hz k (by omega))
  refine ⟨fun j => by rw [hco]; exact heq j, by omega, hr.can, fun h0 => ?_, hA⟩
  have ht := (PM.conv_top (PM.el A) (PM.el q) (A.length - 1) (q.length - 1) (by rw [show A.length - 1 + 1 = A.length by omega]; exact PM.el_van A) (by rw [show q.length - 1 + 1 = q.length by omega]; exact PM.el_van q)).1
  have hp' := heq (p.length - 1)
  rw [hz (p.length - 1) (by omega), PM.G.add_zero, show p.length - 1 = A.length - 1 + (q.length - 1) by omega, ht] at hp'
  intro e
  rw [e, PM.G.zero_mul] at hp'
  exact hp.can (by omega) (by rw [show p.length - 1 = A.length - 1 + (q.length - 1) by omega]; exact hp')
theorem div_end {w W W2 : World} {g gr n m cr c2 D : Nat} {a2 : Option Addr} {A r : List PM.G} (hB : Below w.heap.size w W) (hA : Own W w.heap.size (.slice (some ⟨g, 0, none⟩) n n) A) (hr : Row W2 a2 r c2) (hb : Below (W.drewN 1).heap.size (W.drewN 1) W2)
    (hgb : ∀ b o, a2 = some ⟨b, o, none⟩ → b = gr) (y1 : W2.cell? ⟨w.heap.size + 1, 0, none⟩ = some (.slice (some ⟨g, 0, none⟩) n n)) (y2 : W2.cell? ⟨w.heap.size + 1 + 1, 0, none⟩ = some (.slice (some ⟨gr, 0, none⟩) m cr))
    (hK : W.heap[D]? = some (.deferred (some []))) (hgr : w.heap.size + 3 ≤ gr) (hD : gr < D) (hg : gr < g) :
    let W5 := ((W2.setCell ⟨w.heap.size + 1, 0, none⟩ (.slice (some ⟨g, 0, none⟩) n n)).setCell ⟨w.heap.size + 1 + 1, 0, none⟩ (.slice a2 r.length c2))
    W5.heap[D]? = some (.deferred (some [])) ∧ (W5.putObj D (.deferred none)).cell? ⟨w.heap.size + 1, 0, none⟩ = some (.slice (some ⟨g, 0, none⟩) n n) ∧ (W5.putObj D (.deferred none)).cell? ⟨w.heap.size + 1 + 1, 0, none⟩ = some (.slice a2 r.length c2) ∧
      Row (W5.putObj D (.deferred none)) (some ⟨g, 0, none⟩) A n ∧ Row (W5.putObj D (.deferred none)) a2 r c2 ∧ Below w.heap.size w (W5.putObj D (.deferred none)) := by
  intro W5
  have hDl : D < W.heap.size := (Array.getElem?_eq_some_iff.1 hK).1
  have hK2 : W2.heap[D]? = some (.deferred (some [])) := (hb.block D hDl).trans hK
  have hK5 : W5.heap[D]? = some (.deferred (some [])) := (Below.heap_setCell _ _ _ D (by simp <;> omega)).trans ((Below.heap_setCell _ _ _ D (by simp <;> omega)).trans hK2)
  have hg5 := grownBy_putObj' W5 D (.deferred none)
  have hA2 : Own W2 w.heap.size (.slice (some ⟨g, 0, none⟩) n n) A := (hA.drewN 1).below hb
  have hA5 : Own W5 w.heap.size (.slice (some ⟨g, 0, none⟩) n n) A := (hA2.other _ (by simp [Value.ownBlock] <;> omega)).other _ (by simp [Value.ownBlock] <;> omega)
  have hr5 : Row W5 a2 r c2 := (hr.grown (grown_set (World.grownBy.refl W2 (some (w.heap.size + 1))) 0 _) (fun b o e => by have := hgb b o e; intro h; cases h; omega)).grown (grown_set (World.grownBy.refl _ (some (w.heap.size + 1 + 1))) 0 _) (fun b o e => by have := hgb b o e; intro h; cases h; omega)
  have hB5 : Below w.heap.size w W5 := (((belowN hB 1).trans (hb.mono hB.size)).setCell (p := ⟨w.heap.size + 1, 0, none⟩) (by simp) _).setCell (p := ⟨w.heap.size + 1 + 1, 0, none⟩) (by simp <;> omega) _
  have hA6 := ownFrom_own (B0 := 0) (fun (_ : Unit) => A) () _ _ _ hA5 hg5 (fun r e => by cases e; exact ⟨Nat.zero_le _, _, hK5, rfl⟩)
  have hl := hA6.len
  refine ⟨hK5, cell_kept ((cell_other _ (by simp)).trans (World.cell?_setCell_same' _ _ _ (by rw [y1]; rfl))) hg5 (fun r e => by cases e; exact ⟨_, hK5, rfl⟩),
    cell_kept (World.cell?_setCell_same' _ _ _ (by rw [(cell_other _ (by simp)).trans y2]; rfl)) hg5 (fun r e => by cases e; exact ⟨_, hK5, rfl⟩),
    (show Own _ w.heap.size (.slice (some ⟨g, 0, none⟩) A.length n) A by rw [← hl]; exact hA6).rowAt, hr5.grown hg5 (fun b o e => by have := hgb b o e; intro h; cases h; omega), ?_⟩
  exact hB5.trans (belowK_b (w := w) (Nat.le_refl _) W5 D _ _ (by have := hB.size; omega) hK5 rfl rfl)
/-- What lies in memory when an element of the quotient has been stored. -/
structure DivM (w W W3 : World) (s g gr bs n m cr cb : Nat) (b : Option Addr) (q A R : List PM.G) (f : PM.G) (k : Nat) : Prop where
  c : DivC w s g gr bs n m cr cb b q W3
  oA : Own W3 w.heap.size (.slice (some ⟨g, 0, none⟩) n n) (A.set k f)
  oR : Own W3 w.heap.size (.slice (some ⟨gr, 0, none⟩) m cr) R
  below : Below w.heap.size w W3
  keeps : ∀ B0, KeepsFrom B0 W W3
  put : W3.cell? ⟨g, k, none⟩ = some (.int .u8 (f.v : Int))
theorem div_mid {w W : World} {s g gr bs n m cr cb k : Nat} {b : Option Addr} {q A R : List PM.G} (hC : DivC w s g gr bs n m cr cb b q W) (hA : Own W w.heap.size (.slice (some ⟨g, 0, none⟩) n n) A)
    (hR : Own W w.heap.size (.slice (some ⟨gr, 0, none⟩) m cr) R) (hB : Below w.heap.size w W) (hl : A.length = n) (hk : k < n) (hgg : g ≠ gr) (hs9 : g ≤ bs) (hg : s + 1 + 1 = g) (hgr1 : w.heap.size + 3 ≤ gr) (hgr2 : gr < s) {f : PM.G} (m2 : Nat) (W3 : World)
    (h3 : (W.drewN m2).setCell ⟨g, k, none⟩ (.int .u8 (f.v : Int)) = W3) : DivM w W W3 s g gr bs n m cr cb b q A R f k := by
  subst h3
  have hx := hA.at k (by omega)
  have hAl : Own W w.heap.size (.slice (some ⟨g, 0, none⟩) A.length n) A := by rw [hl]; exact hA
  have hA2 := (hAl.drewN m2).set k f
  rw [hl] at hA2
  have hbs : bs ≠ g := by
    intro e
    subst e
    have h0 := hC.cb
    have h1 := (hA.at 0 (by omega)).2.2.2.2.1
    rw [h1] at h0
    cases h0
  refine ⟨⟨(cell_other _ (by simp <;> omega)).trans hC.c0, (cell_other _ (by simp <;> omega)).trans hC.c1, (World.frozen?_setCell _ _ _ _).trans hC.f1, (cell_other _ (by simp <;> omega)).trans hC.c2, (World.frozen?_setCell _ _ _ _).trans hC.f2,
    (cell_other _ (by simp <;> omega)).trans hC.c6, (cell_other _ (by simp <;> omega)).trans hC.c7, (cell_other _ (by simp <;> omega)).trans hC.cb⟩, hA2, (hR.drewN m2).other _ (by simp [Value.ownBlock] <;> omega),
    (belowN hB m2).setCell (p := ⟨g, k, none⟩) (by simp <;> omega) _, fun B0 => ?_, World.cell?_setCell_same' _ _ _ (by rw [show (W.drewN m2).cell? ⟨g, k, none⟩ = _ from hx.2.2.2.2.1]; rfl)⟩
  exact (KeepsOthers.from (W := W) (W' := W.drewN m2) ⟨Nat.le_refl _, fun _ _ h _ => h⟩ _).trans ((KeepsOthers.setCell _ _ _).from _)

set_option maxRecDepth 100000 in
set_option maxHeartbeats 1000000 in
theorem divide_long (a b : Option Addr) (ca cb : Nat) (p q : List PM.G) (w : World) (ha : Row w a p ca) (hb : Row w b q cb) (hp : Pol p) (hq : Pol q) (hq0 : 0 < q.length) (hl : q.length ≤ p.length) :
    Calls Try.prog 47 #[.slice a p.length ca, .slice b q.length cb] w fun e W => (∃ A r a1 c1 a2 c2, e = .returned (.tuple #[.slice a1 A.length c1, .slice a2 r.length c2]) ∧ Row W a1 A c1 ∧ Row W a2 r c2 ∧ DivEq p q A r) ∧ Below w.heap.size w W := by
  have hra := ha.room
  have hma := ha.most
  have hrb := hb.room
  have hmb := hb.most
  have hlp := hp.len
  have HP := Lib.hid hp
  have HQ := Lib.hid hq
  have HBR := Lib.hid hb
  have h3 := div3 w b cb q.length
  have HCL := Lib.hid (clone_any a p ca _ (ha.below h3.below) (by omega))
  have H3 := Lib.hid h3
  clear h3 hp hq ha hb
  refine (callsIn_wide (n := 6)).1 ?_
  refine callsIn_of_wp_marks Try.func47 rfl trivial ?_ rfl
  refine wpIn_wide.2 ?_
  simp only [Try.ntmps47, List.size_toArray, List.length_cons, List.length_nil, Nat.reduceAdd, Nat.reduceSub, Array.replicate_succ, Array.replicate_zero, List.push_toArray, List.append_toArray, List.nil_append, List.cons_append]
  go_wp2_with fail
  generalize ((w.alloc (.cells #[.slice b q.length cb] 22)).alloc (.cells #[.slice none 0 0] 22)).alloc (.cells #[.slice none 0 0] 22) = w3 at *
  refine HCL.out.mono ?_
  rintro e w4 ⟨a1, c1, rfl, hown, hb4⟩
  have h4 := H3.out.next hown hb4
  obtain ⟨gr, rfl, hgr1, hgr2⟩ := h4.own.fresh (by omega)
  obtain ⟨w5, hw5⟩ : ∃ w5, w4.setCell ⟨w.heap.size + 1 + 1, 0, none⟩ (.slice (some ⟨gr, 0, none⟩) p.length c1) = w5 := ⟨_, rfl⟩
  have hs4 := h4.size
  have H5 : Below w.heap.size w w5 ∧ w5.heap.size = w4.heap.size ∧ Own w5 (w.heap.size + 3) (.slice (some ⟨gr, 0, none⟩) p.length c1) p ∧ w5.cell? ⟨w.heap.size, 0, none⟩ = some (.slice b q.length cb) ∧
      w5.cell? ⟨w.heap.size + 1, 0, none⟩ = some (.slice none 0 0) ∧ w5.frozen? ⟨w.heap.size + 1, 0, none⟩ = false ∧ w5.cell? ⟨w.heap.size + 1 + 1, 0, none⟩ = some (.slice (some ⟨gr, 0, none⟩) p.length c1) ∧ w5.frozen? ⟨w.heap.size + 1 + 1, 0, none⟩ = false := by
    subst hw5
    exact ⟨h4.below.setCell (p := ⟨w.heap.size + 1 + 1, 0, none⟩) (by simp <;> omega) _, by simp [World.setCell], h4.own.setBelow (p := ⟨w.heap.size + 1 + 1, 0, none⟩) (by simp) _, (cell_other _ (by simp <;> omega)).trans h4.c0, (cell_other _ (by simp)).trans h4.c1,
      (World.frozen?_setCell _ _ _ _).trans h4.f1, World.cell?_setCell_same' _ _ _ (by rw [h4.c2]; rfl), (World.frozen?_setCell _ _ _ _).trans h4.f2⟩
  obtain ⟨hB5, hs5, hO5, k0, k1, g1, k2, g2⟩ := H5
  have l0 := cell_later (.cells #[.int .i64 ((q.length : Int) - 1)] 3) k0
  have l1 := cell_later (.cells #[.int .i64 ((q.length : Int) - 1)] 3) k1
  have n1 := frozen_later (.cells #[.int .i64 ((q.length : Int) - 1)] 3) k1 g1
  have l2 := cell_later (.cells #[.int .i64 ((q.length : Int) - 1)] 3) k2
  have n2 := frozen_later (.cells #[.int .i64 ((q.length : Int) - 1)] 3) k2 g2
  have l6 := cell_new w5 (.int .i64 ((q.length : Int) - 1)) 3
  have hO6 := hO5.alloc (.cells #[.int .i64 ((q.length : Int) - 1)] 3)
  have hB6 := hB5.alloc (by omega) (.cells #[.int .i64 ((q.length : Int) - 1)] 3)
  have hs6 : (w5.alloc (.cells #[.int .i64 ((q.length : Int) - 1)] 3)).heap.size = w4.heap.size + 1 := by simp [hs5]
  rw [hs5] at l6
  obtain ⟨s, hs⟩ : ∃ s, w4.heap.size = s := ⟨_, rfl⟩
  rw [hs] at hs4 hs5 hs6 l6 hgr2
  obtain ⟨w6, hw6⟩ : ∃ w6, w5.alloc (.cells #[.int .i64 ((q.length : Int) - 1)] 3) = w6 := ⟨_, rfl⟩
  rw [hw6] at l0 l1 n1 l2 n2 l6 hO6 hB6 hs6
  have d2 := h4.c2
  have e2 := h4.f2
  have HT := Lib.hid (top_any b cb q w6 (HBR.out.below hB6) hq0)
  have HB6 := Lib.hid hB6
  have HO6 := Lib.hid hO6
  clear HCL H3 hown hb4 h4 hB5 hO5 hB6 hO6
  go_wp2_with fail
  refine HT.out.mono ?_
  rintro e w7' ⟨rfl, m7, hm7⟩
  obtain ⟨w7, hw7⟩ : ∃ w7, w7' = w7 := ⟨_, rfl⟩
  have H7 : w7.heap.size = s + 1 ∧ Below w.heap.size w w7 ∧ Own w7 (w.heap.size + 3) (.slice (some ⟨gr, 0, none⟩) p.length c1) p ∧ DivC0 w s gr p.length c1 cb b q w7 := by
    subst hm7 hw7
    exact ⟨hs6, belowN HB6.out m7, HO6.out.drewN m7, l0, l1, n1, l2, n2, l6⟩
  clear hm7 HB6 HO6 l0 l1 n1 l2 n2 l6 k0 k1 k2 g1 g2 d2 e2 hs5 hs6 HT
  subst hw7
  obtain ⟨hs7, hB7, hO7, hC7⟩ := H7
  obtain ⟨w8, hw8⟩ : ∃ w8, w7'.alloc (.cells #[.int .u8 ((PM.el q (q.length - 1)).inv.v : Int)] 5) = w8 := ⟨_, rfl⟩
  have H8 : w8.heap.size = s + 1 + 1 ∧ Below w.heap.size w w8 ∧ Own w8 (w.heap.size + 3) (.slice (some ⟨gr, 0, none⟩) p.length c1) p ∧ DivC0 w s gr p.length c1 cb b q w8 ∧ w8.cell? ⟨s + 1, 0, none⟩ = some (.int .u8 ((PM.el q (q.length - 1)).inv.v : Int)) := by
    have hsz := hB7.size
    subst hw8
    exact ⟨by simp [hs7], hB7.alloc hsz _, hO7.alloc _, hC7.alloc _, by rw [← hs7]; exact cell_new _ _ _⟩
  obtain ⟨hs8, hB8, hO8, hC8, h87⟩ := H8
  obtain ⟨n, hn⟩ : ∃ n, p.length - (q.length - 1) = n := ⟨_, rfl⟩
  have hC80 := hC8.c0
  have hC81 := hC8.c1
  have hC8f := hC8.f1
  have hC86 := hC8.c6
  have HC8 := Lib.hid hC8
  have HB8 := Lib.hid hB8
  have HO8 := Lib.hid hO8
  clear hB7 hO7 hC7 hC8 hB8 hO8
  go_wp2_with (at_make; refine wpList_make1 rfl _ _ rfl n rfl rfl (by omega) (by omega) (B := w8.heap.size) (Nat.le_refl _) ?_; intro w9 hown9 hb9; rw [hs8] at hown9 hb9; have hst := divI_start HC8.out h87 hs8 HB8.out HO8.out hown9 hb9 hgr1 hgr2 hq0 hl hn; have hb9' : Below w8.heap.size w8 w9 := (by rw [hs8]; exact hb9); have j91 := cell_below hb9' hC81; have j9f := frozen_below hb9' hC81 hC8f; have j10 := World.cell?_setCell_same' w9 ⟨w.heap.size + 1, 0, none⟩ (.slice (some ⟨s + 1 + 1, 0, none⟩) n n) (by rw [j91]; rfl); have hs9 := hb9'.size; have HST := Lib.hid hst; clear hst hown9 hb9 hb9')
  refine (backward_any _ _ _ _).mono ?_
  rintro e w11' ⟨rfl, rfl⟩
  have hsz : (w9.setCell ⟨w.heap.size + 1, 0, none⟩ (.slice (some ⟨s + 1 + 1, 0, none⟩) n n)).heap.size = w9.heap.size := by simp [World.setCell]
  rw [hsz]
  have hst := HST.out
  have hcb := hst.1.cb
  clear HST hsz j91 j9f j10 hC80 hC81 hC8f hC86 HC8 HB8 HO8 h87 hw8 hw6 hw5
  generalize (w9.setCell ⟨w.heap.size + 1, 0, none⟩ (.slice (some ⟨s + 1 + 1, 0, none⟩) n n)).alloc (.cells #[.slice (some ⟨s + 1 + 1, 0, none⟩) n n] 22) = w11 at *
  have hs11 := lt_of_cell hcb
  simp only at hs11
  clear hcb
  have HST := Lib.hid hst
  clear hst
  rw [hs8] at hs9
  generalize w9.heap.size = bs at *
  clear w9 hs8 w8 hs7 w7' w6 w5 hs w4 w3
  obtain ⟨g, hg⟩ : ∃ g, s + 1 + 1 = g := ⟨_, rfl⟩
  rw [hg] at HST hs9 ⊢
  go_wp2_with fail
  refine wpIn_wide.1 (wpIn_back (n := 6) (by omega) (Bs := bs) rfl rfl (some ⟨g, 0, none⟩) n n (by omega) (fun _ => 0) (DivI w s g gr bs n p.length c1 cb b p q) (fun _ _ _ => False) (divI_own (by have := HST.out.2; obtain ⟨_, _, _, _, _, _, _, _, _, h⟩ := this; exact h.size)) (fun _ _ _ _ _ hs _ _ => hs) HST.out (fun k W h => h.1.cb) ?read ?act ?assign ?body ?done ?stop)
  case read =>
    rintro k W ⟨_, A, _, hA, hlA, _, _, hz, _⟩ hk
    have := (hA.at k (by omega)).2.2.2.2.1
    rw [hz k (by omega)] at this
    exact ⟨g, 0, rfl, by rw [Nat.zero_add]; exact this⟩
  case assign =>
    intro l k W K hk hK
    gi_wp2
    exact hK
  case body =>
    rintro l k W hl hrec ⟨hC, A, R, hOA, hlA, hOR, hlR, hzA, hzR, heq, hB⟩ hk
    clear hl hrec HST
    have hmx : Try.prog.follows .mixedOrders = true := by kernel_rfl
    obtain ⟨d, hd⟩ : ∃ d, k + (q.length - 1) = d := ⟨_, rfl⟩
    have hidx : (k : Int) + ((q.length : Int) - 1) = (d : Int) := by omega
    have hdl : d < p.length := by omega
    have hwd : IntKind.i64.wrap (d : Int) = (d : Int) := by rw [IntKind.wrap_i64]; omega
    have hrr := hOR.at d (by omega)
    have haa := hOA.at k (by omega)
    have HC := Lib.hid hC
    have HOA := Lib.hid hOA
    have HOR := Lib.hid hOR
    have HZA := Lib.hid hzA
    have HZR := Lib.hid hzR
    have HEQ := Lib.hid heq
    have HB := Lib.hid hB
    have HLA := Lib.hid hlA
    have HLR := Lib.hid hlR
    have hkn1 : (k : Int) < (n : Int) := by omega
    have hgg : g ≠ gr := by omega
    clear hOA hOR hzA hzR heq hB hlA hlR hC
    refine wpIn_block (wpIn_seq ?_)
    refine wpIn_region_held (S := fun W' => W'.cell? ⟨w.heap.size + 1, 0, none⟩ = some (.slice (some ⟨g, 0, none⟩) n n) ∧ W'.cell? ⟨w.heap.size + 1 + 1, 0, none⟩ = some (.slice (some ⟨gr, 0, none⟩) p.length c1) ∧ W'.cell? ⟨s, 0, none⟩ = some (.int .i64 ((q.length : Int) - 1)) ∧ W'.cell? ⟨s + 1, 0, none⟩ = some (.int .u8 ((PM.el q (q.length - 1)).inv.v : Int)) ∧ W'.cell? ⟨gr, d, none⟩ = some (.int .u8 ((PM.el R d).v : Int))) hmx (by kernel_rfl) (by rintro ⟨_, _, h⟩; exact h) ⟨HC.out.c1, HC.out.c2, HC.out.c6, HC.out.c7, hrr.2.2.2.2.1⟩ (fun hHeld => ?_)
    refine wpAnyH_at 0 (some 31) (v := ?_) rfl rfl (by kernel_rfl) (by kernel_rfl) (by kernel_rfl) (fun _ _ _ h => h) (Or.inl ⟨by rfl, ?_⟩) hHeld ?_
    rotate_left
    · (intro W2 hSw; obtain ⟨j1, j2, j6, j7, jr⟩ := hSw; go_simp; try with_reducible rfl)
    simp only [Act.put, List.setIfInBounds_toArray, List.set_cons_zero, List.set_cons_succ]
    refine wpAnyH_at 1 (some 32) (v := ?_) rfl rfl (by kernel_rfl) (by kernel_rfl) (by kernel_rfl) (fun _ _ _ h => h) (Or.inl ⟨by rfl, ?_⟩) hHeld ?_
    rotate_left
    · (intro W2 hSw; obtain ⟨j1, j2, j6, j7, jr⟩ := hSw; go_simp; try with_reducible rfl)
    simp only [Act.put, List.setIfInBounds_toArray, List.set_cons_zero, List.set_cons_succ]
    refine wpAnyH_at 2 (some 33) (v := ?_) rfl rfl (by kernel_rfl) (by kernel_rfl) (by kernel_rfl) (fun _ _ _ h => h) (Or.inl ⟨by rfl, ?_⟩) hHeld ?_
    rotate_left
    · (intro W2 hSw; obtain ⟨j1, j2, j6, j7, jr⟩ := hSw; go_simp; try with_reducible rfl)
    simp only [Act.put, List.setIfInBounds_toArray, List.set_cons_zero, List.set_cons_succ]
    refine wpAnyH_at 3 (some 34) (v := ?_) rfl rfl (by kernel_rfl) (by kernel_rfl) (by kernel_rfl) (fun _ _ _ h => h) (Or.inl ⟨by rfl, ?_⟩) hHeld ?_
    rotate_left
    · (intro W2 hSw; obtain ⟨j1, j2, j6, j7, jr⟩ := hSw; go_simp; try with_reducible rfl)
    simp only [Act.put, List.setIfInBounds_toArray, List.set_cons_zero, List.set_cons_succ]
    refine wpAnyH_at 4 (some 35) (v := ?_) rfl rfl (by kernel_rfl) (by kernel_rfl) (by kernel_rfl) (fun _ _ _ h => h) (Or.inl ⟨by rfl, ?_⟩) hHeld ?_
    rotate_left
    · (intro W2 hSw; obtain ⟨j1, j2, j6, j7, jr⟩ := hSw; go_simp; try with_reducible rfl)
    simp only [Act.put, List.setIfInBounds_toArray, List.set_cons_zero, List.set_cons_succ]
    refine wpAnyH_at 5 (some 36) (v := ?_) rfl rfl (by kernel_rfl) (by kernel_rfl) (by kernel_rfl) (fun _ _ _ h => h) (Or.inl ⟨by rfl, ?_⟩) hHeld ?_
    rotate_left
    · (intro W2 hSw; obtain ⟨j1, j2, j6, j7, jr⟩ := hSw; go_simp; try with_reducible rfl)
    simp only [Act.put, List.setIfInBounds_toArray, List.set_cons_zero, List.set_cons_succ]
    refine wpAnyH_at 6 (some 37) (v := ?_) rfl rfl (by kernel_rfl) (by kernel_rfl) (by kernel_rfl) (fun _ _ _ h => h) (Or.inl ⟨by rfl, ?_⟩) hHeld ?_
    rotate_left
    · (intro W2 hSw; obtain ⟨j1, j2, j6, j7, jr⟩ := hSw; go_simp; try with_reducible rfl)
    simp only [Act.put, List.setIfInBounds_toArray, List.set_cons_zero, List.set_cons_succ]
    refine wpAnyH_at 7 (some 38) (v := ?_) rfl rfl (by kernel_rfl) (by kernel_rfl) (by kernel_rfl) (fun _ _ _ h => h) (Or.inl ⟨by rfl, ?_⟩) hHeld ?_
    rotate_left
    · (intro W2 hSw; obtain ⟨j1, j2, j6, j7, jr⟩ := hSw; go_simp; try with_reducible rfl)
    simp only [Act.put, List.setIfInBounds_toArray, List.set_cons_zero, List.set_cons_succ]
    refine wpAnyH_at 8 (some 39) (v := ?_) rfl rfl (by kernel_rfl) (by kernel_rfl) (by kernel_rfl) (fun _ _ _ h => h) (Or.inl ⟨by rfl, ?_⟩) hHeld ?_
    rotate_left
    · (intro W2 hSw; obtain ⟨j1, j2, j6, j7, jr⟩ := hSw; go_simp; try with_reducible rfl)
    simp only [Act.put, List.setIfInBounds_toArray, List.set_cons_zero, List.set_cons_succ]
    refine wpAnyH_ready (rs := [9]) (by kernel_rfl) (by simp) ?_
    refine AllReadyH.cons rfl (fun K hK => ?_) AllReadyH.nil
    go_simp
    refine (fmul_any (PM.el R d) (PM.el q (q.length - 1)).inv _).mono ?_
    rintro e W2 ⟨rfl, m2, rfl⟩
    refine hK.out _ _ ⟨HC.out.c1, HC.out.c2, HC.out.c6, HC.out.c7, hrr.2.2.2.2.1⟩ (fun hHeld => ?_)
    clear hK K
    refine wpAnyH_at 10 (some 41) (v := ?_) rfl rfl (by kernel_rfl) (by kernel_rfl) (by kernel_rfl) (fun _ _ _ h => h) (Or.inl ⟨by rfl, ?_⟩) hHeld ?_
    rotate_left
    · (intro W2 hSw; obtain ⟨j1, j2, j6, j7, jr⟩ := hSw; go_simp; try with_reducible rfl)
    simp only [Act.put, List.setIfInBounds_toArray, List.set_cons_zero, List.set_cons_succ]
    refine wpAnyH_ready (rs := [11]) (by kernel_rfl) (by simp) ?_
    refine AllReadyH.cons rfl (fun K hK => ?_) AllReadyH.nil
    obtain ⟨f, hf⟩ : ∃ f, PM.el R d * (PM.el q (q.length - 1)).inv = f := ⟨_, rfl⟩
    rw [hf]
    have x1 : ((W.drew).drewN m2).cell? ⟨g, k, none⟩ = some (.int .u8 ((PM.el A k).v : Int)) := haa.2.2.2.2.1
    have x2 : ((W.drew).drewN m2).frozen? ⟨g, k, none⟩ = false := haa.2.2.2.2.2
    obtain ⟨W3, hW3⟩ : ∃ W3, (W.drewN (1 + m2)).setCell ⟨g, k, none⟩ (.int .u8 (f.v : Int)) = W3 := ⟨_, rfl⟩
    have hst := div_mid HC.out HOA.out HOR.out HB.out HLA.out hk hgg hs9 hg hgr1 hgr2 (f := f) (1 + m2) W3 hW3
    have HM := Lib.hid hst
    clear hst
    go_simp
    refine hK.out _ _ ⟨HM.out.c.c1, HM.out.c.c2, HM.out.c.c6, HM.out.c.c7, (HM.out.oR.at d (by have := HLR.out; omega)).2.2.2.2.1⟩ (fun _ => wpAnyH_done (by kernel_rfl) ?_ _)
    have hkm : k < p.length := by omega
    have hpc : p.length ≤ c1 := by have := hrr.2.2.2.1; have := HLR.out; omega
    have hcm : c1 ≤ 9223372036854775807 := hrr.2.2.1
    have hkle : (k : Int) ≤ (p.length : Int) := by omega
    have hk0 : (0 : Int) ≤ (k : Int) := by omega
    have hkp : (k : Int) < (p.length : Int) := by omega
    clear hK K x1 x2 hHeld hrr haa HC HOA HOR HB hidx hwd hW3
    refine wpIn_region_held (S := fun W' => W'.cell? ⟨w.heap.size + 1, 0, none⟩ = some (.slice (some ⟨g, 0, none⟩) n n) ∧ W'.cell? ⟨w.heap.size + 1 + 1, 0, none⟩ = some (.slice (some ⟨gr, 0, none⟩) p.length c1) ∧ W'.cell? ⟨w.heap.size, 0, none⟩ = some (.slice b q.length cb) ∧ W'.cell? ⟨g, k, none⟩ = some (.int .u8 (f.v : Int))) hmx (by kernel_rfl) (by rintro ⟨_, _, h⟩; exact h) ⟨HM.out.c.c1, HM.out.c.c2, HM.out.c.c0, HM.out.put⟩ (fun hHeld => ?_)
    refine wpAnyH_at 0 (some 42) (v := ?_) rfl rfl (by kernel_rfl) (by kernel_rfl) (by kernel_rfl) (fun _ _ _ h => h) (Or.inl ⟨by rfl, ?_⟩) hHeld ?_
    rotate_left
    · (intro W2 hSw; obtain ⟨j1, j2, j0, jf⟩ := hSw; go_simp; try with_reducible rfl)
    simp only [Act.put, List.setIfInBounds_toArray, List.set_cons_zero, List.set_cons_succ]
    refine wpAnyH_at 1 (some 43) (v := ?_) rfl rfl (by kernel_rfl) (by kernel_rfl) (by kernel_rfl) (fun _ _ _ h => h) (Or.inl ⟨by rfl, ?_⟩) hHeld ?_
    rotate_left
    · (intro W2 hSw; obtain ⟨j1, j2, j0, jf⟩ := hSw; go_simp; try with_reducible rfl)
    simp only [Act.put, List.setIfInBounds_toArray, List.set_cons_zero, List.set_cons_succ]
    refine wpAnyH_at 2 (some 44) (v := ?_) rfl rfl (by kernel_rfl) (by kernel_rfl) (by kernel_rfl) (fun _ _ _ h => h) (Or.inl ⟨by rfl, ?_⟩) hHeld ?_
    rotate_left
    · (intro W2 hSw; obtain ⟨j1, j2, j0, jf⟩ := hSw; go_simp; try with_reducible rfl)
    simp only [Act.put, List.setIfInBounds_toArray, List.set_cons_zero, List.set_cons_succ]
    refine wpAnyH_at 3 (some 45) (v := ?_) rfl rfl (by kernel_rfl) (by kernel_rfl) (by kernel_rfl) (fun _ _ _ h => h) (Or.inl ⟨by rfl, ?_⟩) hHeld ?_
    rotate_left
    · (intro W2 hSw; obtain ⟨j1, j2, j0, jf⟩ := hSw; go_simp; try with_reducible rfl)
    simp only [Act.put, List.setIfInBounds_toArray, List.set_cons_zero, List.set_cons_succ]
    refine wpAnyH_at 4 (some 46) (v := ?_) rfl rfl (by kernel_rfl) (by kernel_rfl) (by kernel_rfl) (fun _ _ _ h => h) (Or.inl ⟨by rfl, ?_⟩) hHeld ?_
    rotate_left
    · (intro W2 hSw; obtain ⟨j1, j2, j0, jf⟩ := hSw; go_simp; try with_reducible rfl)
    simp only [Act.put, List.setIfInBounds_toArray, List.set_cons_zero, List.set_cons_succ]
    refine wpAnyH_at 5 (some 47) (v := ?_) rfl rfl (by kernel_rfl) (by kernel_rfl) (by kernel_rfl) (fun _ _ _ h => h) (Or.inl ⟨by rfl, ?_⟩) hHeld ?_
    rotate_left
    · (intro W2 hSw; obtain ⟨j1, j2, j0, jf⟩ := hSw; go_simp; try with_reducible rfl)
    simp only [Act.put, List.setIfInBounds_toArray, List.set_cons_zero, List.set_cons_succ]
    refine wpAnyH_at 6 (some 48) (v := ?_) rfl rfl (by kernel_rfl) (by kernel_rfl) (by kernel_rfl) (fun _ _ _ h => h) (Or.inl ⟨by rfl, ?_⟩) hHeld ?_
    rotate_left
    · (intro W2 hSw; obtain ⟨j1, j2, j0, jf⟩ := hSw; go_simp; try with_reducible rfl)
    simp only [Act.put, List.setIfInBounds_toArray, List.set_cons_zero, List.set_cons_succ]
    refine wpAnyH_at 7 (some 49) (v := ?_) rfl rfl (by kernel_rfl) (by kernel_rfl) (by kernel_rfl) (fun _ _ _ h => h) (Or.inl ⟨by rfl, ?_⟩) hHeld ?_
    rotate_left
    · (intro W2 hSw; obtain ⟨j1, j2, j0, jf⟩ := hSw; go_simp; try with_reducible rfl)
    simp only [Act.put, List.setIfInBounds_toArray, List.set_cons_zero, List.set_cons_succ]
    refine wpAnyH_ready (rs := [8]) (by kernel_rfl) (by simp) ?_
    refine AllReadyH.cons rfl (fun K hK => ?_) AllReadyH.nil
    go_simp
    rw [if_neg (show ¬ c1 = k by omega)]
    have hO3 := HM.out.oR.drewN 1
    rw [← HLR.out] at hO3
    have ht := addMul_any w.heap.size gr c1 k (p.length - k) (c1 - k) cb R q b f W3.drew hO3 ((HBR.out.below HM.out.below).drewN 1) (by have := HLR.out; omega) (by omega) (by omega) (by omega) (by
      intro h0 b' o e; subst e; have := HBR.out.lt h0; omega)
    refine ht.mono ?_
    clear ht hO3
    rintro e W4 ⟨ys, rfl, hl4, hel4, ho4, hg4⟩
    have hg4' : W3.grownBy W4 (some gr) := ⟨hg4.os, hg4.tape, hg4.output, hg4.size, hg4.block⟩
    have hw3 := HM.out.below.size
    rw [hl4, HLR.out] at ho4
    have hC4 := HM.out.c
    have z0 := cell_grown hg4' (show (w.heap.size : Nat) ≠ gr by omega) hC4.c0
    have z1 := cell_grown hg4' (show (w.heap.size + 1 : Nat) ≠ gr by omega) hC4.c1
    have z2 := cell_grown hg4' (show (w.heap.size + 1 + 1 : Nat) ≠ gr by omega) hC4.c2
    refine hK.out _ _ ⟨z1, z2, z0, cell_grown hg4' (show g ≠ gr from hgg) HM.out.put⟩ (fun _ => wpAnyH_done (by kernel_rfl) ?_ _)
    have hm := div_math hd (by have := HLA.out; omega) hq0 (HQ.out.can hq0) HZA.out HZR.out HEQ.out hf hel4
    have hO4 := HM.out.oA.grown hg4' (.inr (by simp [Value.ownBlock]; omega))
    refine ⟨(HM.out.keeps _).trans (KeepsFrom.of_grownBy hg4' (fun j e => by cases e; omega)), ⟨z0, z1, frozen_grown hg4' (show (w.heap.size + 1 : Nat) ≠ gr by omega) hC4.c1 hC4.f1, z2, frozen_grown hg4' (show (w.heap.size + 1 + 1 : Nat) ≠ gr by omega) hC4.c2 hC4.f2,
      cell_grown hg4' (show (s : Nat) ≠ gr by omega) hC4.c6, cell_grown hg4' (show (s + 1 : Nat) ≠ gr by omega) hC4.c7, cell_grown hg4' (show (bs : Nat) ≠ gr by omega) hC4.cb⟩,
      A.set k f, ys, hO4, by rw [List.length_set]; exact HLA.out, ho4, by rw [hl4]; exact HLR.out, hm.1, hm.2.1, hm.2.2, HM.out.below.grown hg4' hw3 (fun j e => by cases e; omega)⟩
  case done =>
    rintro D W hD ⟨hC, A, R, hOA, hlA, hOR, hlR, hzA, hzR, heq, hB⟩ hK
    have HC := Lib.hid hC
    have HOA := Lib.hid hOA
    have HOR := Lib.hid hOR
    have HZR := Lib.hid hzR
    have HEQ := Lib.hid heq
    have HB := Lib.hid hB
    have HLA := Lib.hid hlA
    have HLR := Lib.hid hlR
    have HK := Lib.hid hK
    clear hOA hOR hzA hzR heq hB hlA hlR hK HST hC
    have k1 := HC.out.c1
    have g1 := HC.out.f1
    have k2 := HC.out.c2
    have g2 := HC.out.f2
    have HT := Lib.hid (trim_res (PM.el R) (HOR.out.drewN 1) (by have := HLR.out; omega) (fun _ => rfl))
    have hws : w.heap.size ≤ W.heap.size := HB.out.size
    go_wp2_with fail
    go_region_with (go_at_call 42; refine HT.out.mono ?_; rintro e W2 ⟨⟨r, a2, c2, rfl, hr, hpol, hco, hgb⟩, hb⟩; have HGB := Lib.hid hgb; clear hgb; have y1 := cell_below hb k1; have u1 := frozen_below hb k1 g1; have y2 := cell_below hb k2; have u2 := frozen_below hb k2 g2; have HRR := Lib.hid hr; have HPO := Lib.hid hpol; have HCO := Lib.hid hco; have HBB := Lib.hid hb; clear hr hpol hco hb)
    all_goals
      have hend := div_end HB.out HOA.out HRR.out HBB.out HGB.out y1 y2 HK.out (by omega) (by omega) (by omega)
      have HE := Lib.hid hend
      clear hend
      obtain ⟨W5, hW5⟩ : ∃ W5, ((W2.setCell ⟨w.heap.size + 1, 0, none⟩ (.slice (some ⟨g, 0, none⟩) n n)).setCell ⟨w.heap.size + 1 + 1, 0, none⟩ (.slice a2 r.length c2)) = W5 := ⟨_, rfl⟩
      rw [hW5] at HE ⊢
      clear hW5
      go_wp2_with fail
      obtain ⟨hK5, z1, z2, hrA, hrr, hB5⟩ := HE.out
      refine ⟨by simp, .inl ⟨_, _, rfl, run_takeDeferred hK5, ?_⟩⟩
      refine ⟨.tuple #[.slice (some ⟨g, 0, none⟩) n n, .slice a2 r.length c2], ?_, ⟨A, r, some ⟨g, 0, none⟩, n, a2, c2, by rw [HLA.out], hrA, hrr, div_eq HP.out hq0 hl HPO.out HCO.out HZR.out HEQ.out (by have := HLA.out; omega)⟩, hB5⟩
      simp [results, Try.f47, go_sem, z1, z2]
  case stop =>
    rintro D c k W _ _ h _
    exact h.elim
end Go.Proofs.Ytfbogjibofeckaa.P
