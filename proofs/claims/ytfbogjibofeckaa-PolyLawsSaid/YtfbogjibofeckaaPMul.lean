/- poly.Mul. -/
import Derived.Test.YtfbogjibofeckaaPAdd
import Derived.Test.YtfbogjibofeckaaRound
namespace Go.Proofs.Ytfbogjibofeckaa.P
open Go Go.RowKit Go.Shelf
attribute [local go_sem] Oper.semAt_some

/-- The result is the polynomial with the coefficients f. -/
def PRes (f : PM.Co) (e : Ending) (W : World) : Prop := ∃ r a cap, e = .returned (.tuple #[.slice a r.length cap, .int .i64 0]) ∧ Row W a r cap ∧ Pol r ∧ ∀ k, PM.el r k = f k

theorem cell_below {w W : World} {p : Addr} {v : Value} (hb : Below w.heap.size w W) (h : w.cell? p = some v) : W.cell? p = some v := (hb.cell (lt_of_cell h)).trans h
theorem frozen_below {w W : World} {p : Addr} {v : Value} {t : Bool} (hb : Below w.heap.size w W) (h : w.cell? p = some v) (hf : w.frozen? p = t) : W.frozen? p = t := (hb.frozen (lt_of_cell h)).trans hf
theorem cell_grown {W W' : World} {r : Nat} {a : Addr} {v : Value} (hg : W.grownBy W' (some r)) (hne : a.block ≠ r) (h : W.cell? a = some v) : W'.cell? a = some v :=
  (World.cell?_of_block (hg.block a.block (lt_of_cell h) (by intro e; cases e; exact hne rfl))).trans h
theorem frozen_grown {W W' : World} {r : Nat} {a : Addr} {v : Value} {t : Bool} (hg : W.grownBy W' (some r)) (hne : a.block ≠ r) (h : W.cell? a = some v) (hf : W.frozen? a = t) : W'.frozen? a = t :=
  (World.frozen?_of_block (hg.block a.block (lt_of_cell h) (by intro e; cases e; exact hne rfl))).trans hf
theorem Own.fresh {W : World} {B n cap : Nat} {a : Option Addr} {zs : List PM.G} (h : Own W B (.slice a n cap) zs) (h0 : 0 < zs.length) : ∃ g, a = some ⟨g, 0, none⟩ ∧ B ≤ g ∧ g < W.heap.size := by
  rcases h.parts with ⟨e, rfl⟩ | ⟨g', cap', e, hb, h2, _⟩
  · simp at h0
  · cases e; exact ⟨g', rfl, hb, h2⟩

/-- What is owned from B on, while blocks that hold no cells turn beyond. -/
theorem ownFrom_own {β : Type} {B0 B : Nat} {v : Value} (f : β → List PM.G) : OwnFrom B0 (fun s W => Own W B v (f s)) := fun s W W' row hs hg hr =>
  World.ownsRow.kept hs hg (by
    cases hv : v.ownBlock with
    | none => exact .inl rfl
    | some k =>
      refine .inr ?_
      intro e
      obtain ⟨_, o, ho, hc⟩ := hr k e.symm
      obtain ⟨_, h2 | ⟨g, cap, cur, rfl, hb, hh, _⟩⟩ := hs
      · rw [h2.1] at hv; simp [Value.ownBlock] at hv
      · simp [Value.ownBlock] at hv
        subst hv
        rw [hh] at ho
        cases ho
        simp [Obj.isCells] at hc)

/-- The coefficients from k on. -/
def high (p : List PM.G) (k : Nat) : PM.Co := fun i => if i < k then 0 else PM.el p i

theorem high_end (p : List PM.G) : high p p.length = PM.zeroC := by
  funext i; unfold high
  by_cases h : i < p.length
  · rw [if_pos h]; rfl
  · rw [if_neg h]; exact PM.el_ge (by omega)
theorem high_zero (p : List PM.G) : high p 0 = PM.el p := by
  funext i; unfold high; rw [if_neg (Nat.not_lt_zero _)]
theorem high_step (p : List PM.G) (k i : Nat) : high p k i = if i = k then PM.el p k else high p (k + 1) i := by
  unfold high
  by_cases e : i = k
  · subst e; rw [if_neg (Nat.lt_irrefl _), if_pos rfl]
  · rw [if_neg e]
    by_cases h : i < k
    · rw [if_pos h, if_pos (by omega)]
    · rw [if_neg h, if_neg (by omega)]
theorem high_at (p : List PM.G) (k : Nat) : high p (k + 1) k = 0 := by unfold high; rw [if_pos (Nat.lt_succ_self k)]
theorem mul_pol {p q ys : List PM.G} (hp : Pol p) (hq : Pol q) (hp0 : 0 < p.length) (hq0 : 0 < q.length) (hl : p.length + q.length ≤ 256) (hlen : ys.length = p.length + q.length - 1) (hel : ∀ j, PM.el ys j = PM.conv (PM.el p) (PM.el q) j) : Pol ys := by
  refine ⟨fun _ => ?_, by omega⟩
  have e1 : p.length - 1 + 1 = p.length := by omega
  have e2 : q.length - 1 + 1 = q.length := by omega
  have := (PM.conv_top (PM.el p) (PM.el q) (p.length - 1) (q.length - 1) (by rw [e1]; exact PM.el_van p) (by rw [e2]; exact PM.el_van q)).1
  rw [hel, show ys.length - 1 = p.length - 1 + (q.length - 1) by omega, this]
  exact PM.G.mul_ne (hp.can hp0) (hq.can hq0)
/-- What holds in Mul's loop when k elements are still to come. -/
def MulI (w : World) (p5 bs g n cb ca : Nat) (a b : Option Addr) (p q : List PM.G) (k : Nat) (W : World) : Prop :=
  (W.cell? ⟨w.heap.size, 0, none⟩ = some (.slice b q.length cb) ∧ W.cell? ⟨p5, 0, none⟩ = some (.slice (some ⟨g, 0, none⟩) n n) ∧ W.cell? ⟨bs, 0, none⟩ = some (.slice a p.length ca)) ∧
  ∃ ys : List PM.G, Own W w.heap.size (.slice (some ⟨g, 0, none⟩) n n) ys ∧ ys.length = n ∧ (∀ j, PM.el ys j = PM.conv (high p k) (PM.el q) j) ∧ Below w.heap.size w W

theorem mulI_own {w : World} {p5 bs g n cb ca : Nat} {a b : Option Addr} {p q : List PM.G} {B0 : Nat} (hB0 : w.heap.size ≤ B0) : OwnFrom B0 (MulI w p5 bs g n cb ca a b p q) := by
  refine OwnFrom.and (Own.from (fun _ _ _ _ hs hg hr => ⟨cell_kept hs.1 hg hr, cell_kept hs.2.1 hg hr, cell_kept hs.2.2 hg hr⟩) _) ?_
  rintro s W W' row ⟨ys, h1, h2, h3, h4⟩ hg hr
  exact ⟨ys, ownFrom_own (B0 := B0) (fun (_ : Unit) => ys) () _ _ _ h1 hg hr, h2, h3, ownFrom_below (β := Unit) (Nat.le_refl _) hB0 () _ _ _ h4 hg hr⟩

set_option maxRecDepth 100000 in
set_option maxHeartbeats 1000000 in
theorem mul_fit (a b : Option Addr) (ca cb : Nat) (p q : List PM.G) (w : World) (ha : Row w a p ca) (hb : Row w b q cb) (hp : Pol p) (hq : Pol q) (hp0 : 0 < p.length) (hq0 : 0 < q.length) (hl : p.length + q.length ≤ 256) :
    Calls Try.prog 23 #[.slice a p.length ca, .slice b q.length cb] w fun e W => PRes (PM.conv (PM.el p) (PM.el q)) e W ∧ Below w.heap.size w W := by
  have hra := ha.room
  have hma := ha.most
  have hrb := hb.room
  have hmb := hb.most
  have HA := Lib.hid ha
  have HB := Lib.hid hb
  have HP := Lib.hid hp
  have HQ := Lib.hid hq
  have hb1 : Below w.heap.size w (w.alloc (.cells #[.slice b q.length cb] 22)) := (Below.refl _ w).alloc (Nat.le_refl _) _
  have c1 := cell_new w (.slice b q.length cb) 22
  have hs1 : (w.alloc (.cells #[.slice b q.length cb] 22)).heap.size = w.heap.size + 1 := by simp
  clear ha hb hp hq
  refine (callsIn_wide (n := 6)).1 ?_
  refine callsIn_of_wp_marks Try.func23 rfl trivial ?_ rfl
  refine wpIn_wide.2 ?_
  simp only [Try.ntmps23, List.size_toArray, List.length_cons, List.length_nil, Nat.reduceAdd, Nat.reduceSub, Array.replicate_succ, Array.replicate_zero, List.push_toArray, List.append_toArray, List.nil_append, List.cons_append]
  go_wp2_with fail
  generalize w.alloc (.cells #[.slice b q.length cb] 22) = w1 at *
  have HA1 := Lib.hid (HA.out.below hb1)
  have HB1 := Lib.hid (HB.out.below hb1)
  refine (valid_yes a p ca w1 HA1.out HP.out).mono ?_
  rintro e w2 ⟨rfl, hb2⟩
  have c2 := cell_below hb2 c1
  have HB2 := Lib.hid (HB1.out.below hb2)
  have hs2 := hb2.size
  go_wp2_with fail
  refine (valid_yes b q cb w2 HB2.out HQ.out).mono ?_
  rintro e w3 ⟨rfl, hb3⟩
  have c3 := cell_below hb3 c2
  have hs3 := hb3.size
  have HB03 := Lib.hid ((hb1.trans (hb2.mono (by omega))).trans (hb3.mono (by omega)))
  have HA3 := Lib.hid ((HA1.out.below hb2).below hb3)
  have HB3 := Lib.hid (HB2.out.below hb3)
  clear hb1 hb2 hb3 c1 c2 HA1 HB1 HB2
  have hz1 : ((p.length : Int) == 0) = false := beq_false_of_ne (by omega)
  have hz2 : ((q.length : Int) == 0) = false := beq_false_of_ne (by omega)
  obtain ⟨n, hn⟩ : ∃ n, p.length + q.length - 1 = n := ⟨_, rfl⟩
  go_wp2_with (at_make; refine wpList_make1 rfl _ _ rfl n rfl rfl (by omega) (by omega) (B := w3.heap.size) (Nat.le_refl _) ?_; intro w4 hown4 hb4; have HO4 := Lib.hid hown4; have HB4 := Lib.hid hb4; clear hown4 hb4)
  refine (backward_any _ _ _ _).mono ?_
  rintro e w' ⟨rfl, rfl⟩
  have hb4 := HB4.out
  have hs4 := hb4.size
  have g1 := cell_new w4 (.slice (some ⟨w3.heap.size, 0, none⟩) n n) 22
  have c4 := cell_below hb4 c3
  have hB6 := (((HB03.out.trans (hb4.mono (by omega))).alloc (by omega) (.cells #[.slice (some ⟨w3.heap.size, 0, none⟩) n n] 22))).alloc (by simp; omega) (.cells #[.slice a p.length ca] 22)
  have hO6 := (HO4.out.alloc (.cells #[.slice (some ⟨w3.heap.size, 0, none⟩) n n] 22)).alloc (.cells #[.slice a p.length ca] 22)
  rw [List.length_replicate] at hO6
  have hHI : MulI w w4.heap.size (w4.heap.size + 1) w3.heap.size n cb ca a b p q p.length ((w4.alloc (.cells #[.slice (some ⟨w3.heap.size, 0, none⟩) n n] 22)).alloc (.cells #[.slice a p.length ca] 22)) :=
    ⟨⟨cell_later _ (cell_later _ c4), cell_later _ g1, by simp⟩, _, hO6.mono (by omega), List.length_replicate, fun j => by
      rw [PM.el_replicate, show high p p.length = PM.zeroC from high_end p, PM.conv_zeroC_l], hB6⟩
  have HI := Lib.hid hHI
  have hAA := (((HA3.out.below hb4).alloc (.cells #[.slice (some ⟨w3.heap.size, 0, none⟩) n n] 22)).alloc (.cells #[.slice a p.length ca] 22))
  have HA6 := Lib.hid hAA
  have hs6 : ((w4.alloc (.cells #[.slice (some ⟨w3.heap.size, 0, none⟩) n n] 22)).alloc (.cells #[.slice a p.length ca] 22)).heap.size = w4.heap.size + 1 + 1 := by simp
  have hs5 : (w4.alloc (.cells #[.slice (some ⟨w3.heap.size, 0, none⟩) n n] 22)).heap.size = w4.heap.size + 1 := by simp
  rw [hs5]
  have hg4 := hO6.at 0 (by rw [List.length_replicate]; omega)
  have hgp : w3.heap.size < w4.heap.size := (HO4.out.at 0 (by rw [List.length_replicate]; omega)).2.1
  have hwg : w.heap.size < w3.heap.size := by omega
  clear hb4 g1 c4 hB6 hO6 hHI hAA hs5 hg4 HO4 HB4 HB03 HA3 HB3 hs4 hs3 hs2 hs1 c3
  generalize ((w4.alloc (.cells #[.slice (some ⟨w3.heap.size, 0, none⟩) n n] 22)).alloc (.cells #[.slice a p.length ca] 22)) = w6 at *
  generalize w4.heap.size = p5 at *
  generalize w3.heap.size = g at *
  go_wp2_with fail
  refine wpIn_wide.1 (wpIn_back (n := 6) (by omega) (Bs := p5 + 1) rfl rfl a p.length ca (by omega) (fun j => ((PM.el p j).v : Int)) (MulI w p5 (p5 + 1) g n cb ca a b p q) (fun _ _ _ => False) (mulI_own (by have := HI.out.2; obtain ⟨_, _, _, _, h⟩ := this; exact h.size)) (fun _ _ _ _ _ hs _ _ => hs) HI.out (fun k W h => h.1.2.2) ?read ?act ?assign ?body ?done ?stop)
  case read =>
    rintro k W ⟨_, _, _, _, _, hB⟩ hk
    obtain ⟨b', off, e, hc⟩ := (HA.out.below hB).el k hk
    exact ⟨b', off, e, hc⟩
  case assign =>
    intro l k W K hk hK
    gi_wp2
    exact hK
  case body =>
    rintro l k W hl hrec ⟨⟨hc0, hc5, hcb⟩, ys, hown, hlen, hel, hB⟩ hk
    clear hl hrec HI
    have hmx : Try.prog.follows .mixedOrders = true := by kernel_rfl
    have hkn : k < n := by omega
    have hkn1 : (k : Int) ≤ (n : Int) := by omega
    have hkn2 : (0 : Int) ≤ (k : Int) := by omega
    have HO := Lib.hid hown
    have HLN := Lib.hid hlen
    have HEL := Lib.hid hel
    have HBW := Lib.hid hB
    clear hown hlen hel hB
    refine wpIn_block ?_
    refine wpIn_region_held (S := fun W' => W'.cell? ⟨p5, 0, none⟩ = some (.slice (some ⟨g, 0, none⟩) n n) ∧ W'.cell? ⟨w.heap.size, 0, none⟩ = some (.slice b q.length cb)) hmx (by kernel_rfl) (by rintro ⟨_, _, h⟩; exact h) ⟨hc5, hc0⟩ (fun hHeld => ?_)
    refine wpAnyH_at 0 (some 42) (v := ?_) rfl rfl (by kernel_rfl) (by kernel_rfl) (by kernel_rfl) (fun _ _ _ h => h) (Or.inl ⟨by rfl, ?_⟩) hHeld ?_
    rotate_left
    · (intro W2 hSw; obtain ⟨j5, j0⟩ := hSw; go_simp; try with_reducible rfl)
    simp only [Act.put, List.setIfInBounds_toArray, List.set_cons_zero, List.set_cons_succ]
    refine wpAnyH_at 1 (some 43) (v := ?_) rfl rfl (by kernel_rfl) (by kernel_rfl) (by kernel_rfl) (fun _ _ _ h => h) (Or.inl ⟨by rfl, ?_⟩) hHeld ?_
    rotate_left
    · (intro W2 hSw; obtain ⟨j5, j0⟩ := hSw; go_simp; try with_reducible rfl)
    simp only [Act.put, List.setIfInBounds_toArray, List.set_cons_zero, List.set_cons_succ]
    refine wpAnyH_at 2 (some 44) (v := ?_) rfl rfl (by kernel_rfl) (by kernel_rfl) (by kernel_rfl) (fun _ _ _ h => h) (Or.inl ⟨by rfl, ?_⟩) hHeld ?_
    rotate_left
    · (intro W2 hSw; obtain ⟨j5, j0⟩ := hSw; go_simp; try with_reducible rfl)
    simp only [Act.put, List.setIfInBounds_toArray, List.set_cons_zero, List.set_cons_succ]
    refine wpAnyH_at 3 (some 45) (v := ?_) rfl rfl (by kernel_rfl) (by kernel_rfl) (by kernel_rfl) (fun _ _ _ h => h) (Or.inl ⟨by rfl, ?_⟩) hHeld ?_
    rotate_left
    · (intro W2 hSw; obtain ⟨j5, j0⟩ := hSw; go_simp; try with_reducible rfl)
    simp only [Act.put, List.setIfInBounds_toArray, List.set_cons_zero, List.set_cons_succ]
    refine wpAnyH_at 4 (some 46) (v := ?_) rfl rfl (by kernel_rfl) (by kernel_rfl) (by kernel_rfl) (fun _ _ _ h => h) (Or.inl ⟨by rfl, ?_⟩) hHeld ?_
    rotate_left
    · (intro W2 hSw; obtain ⟨j5, j0⟩ := hSw; go_simp; try with_reducible rfl)
    simp only [Act.put, List.setIfInBounds_toArray, List.set_cons_zero, List.set_cons_succ]
    refine wpAnyH_ready (rs := [5]) (by kernel_rfl) (by simp) ?_
    refine AllReadyH.cons rfl (fun K hK => ?_) AllReadyH.nil
    go_simp
    rw [if_neg (show ¬ n = k by omega)]
    have hBd : Below w.heap.size w W.drew := belowN HBW.out 1
    have ht := addMul_any w.heap.size g n k (n - k) (n - k) cb ys q b (PM.el p k) W.drew (by rw [HLN.out]; exact HO.out.drewN 1) (HB.out.below hBd) (by rw [HLN.out]; omega) (by omega) (Nat.le_refl _) (by omega)
      (by intro h0 b' o e; subst e; have := HB.out.lt h0; omega)
    refine ht.mono ?_
    clear ht
    rintro e W2 ⟨ys2, rfl, hl2, hel2, ho2, hg2⟩
    have hg2' : W.grownBy W2 (some g) := ⟨hg2.os, hg2.tape, hg2.output, hg2.size, hg2.block⟩
    have g0 := cell_grown hg2' (show (w.heap.size : Nat) ≠ g by omega) hc0
    have g5 := cell_grown hg2' (show (p5 : Nat) ≠ g by omega) hc5
    have gb := cell_grown hg2' (show (p5 + 1 : Nat) ≠ g by omega) hcb
    have hln2 : ys2.length = n := by rw [hl2]; exact HLN.out
    rw [hln2] at ho2
    refine hK.out _ _ ⟨g5, g0⟩ (fun _ => wpAnyH_done (by kernel_rfl) ?_ _)
    refine ⟨KeepsFrom.of_grownBy hg2' (fun j e => by cases e; omega), ⟨g0, g5, gb⟩, ys2, ho2, hln2, fun j => ?_, HBW.out.grown hg2' HBW.out.size (fun j e => by cases e; omega)⟩
    rw [hel2, HEL.out, PM.conv_put (high p (k + 1)) (high p k) (PM.el q) (PM.el p k) k (high_at p k) (high_step p k) j]
  case done =>
    rintro D W hD ⟨⟨hc0, hc5, hcb⟩, ys, hown, hlen, hel, hB⟩ hK
    have HO := Lib.hid hown
    have HLN := Lib.hid hlen
    have HEL := Lib.hid hel
    have HBW := Lib.hid hB
    have HK := Lib.hid hK
    clear hown hlen hel hB hK HI
    go_wp2_with fail
    have hK := HK.out
    refine ⟨by simp, .inl ⟨_, _, rfl, run_takeDeferred hK, ?_⟩⟩
    have hO := ownFrom_own (B0 := 0) (fun (_ : Unit) => ys) () _ _ _ HO.out (grownBy_putObj' _ D (.deferred none)) (fun r e => by cases e; exact ⟨Nat.zero_le _, _, hK, rfl⟩)
    have hcoef : ∀ j, PM.el ys j = PM.conv (PM.el p) (PM.el q) j := fun j => by rw [HEL.out, high_zero]
    refine ⟨.tuple #[.slice (some ⟨g, 0, none⟩) n n, .int .i64 0], ?_, ⟨ys, some ⟨g, 0, none⟩, n, by rw [HLN.out], ?_, mul_pol HP.out HQ.out hp0 hq0 hl (by rw [HLN.out]; omega) hcoef, hcoef⟩, ?_⟩
    · simp [results, Try.f23, go_sem]
    · exact (show Own _ w.heap.size (.slice (some ⟨g, 0, none⟩) ys.length n) ys by rw [HLN.out]; exact hO).rowAt
    · exact HBW.out.trans (belowK_b (w := w) (Nat.le_refl _) W D _ _ (by have h2 : w6.heap.size ≤ D := hD; omega) hK rfl rfl)
  case stop =>
    rintro D c k W _ _ h _
    exact h.elim
end Go.Proofs.Ytfbogjibofeckaa.P
