/- poly.Eval. -/
import Derived.Test.YtfbogjibofeckaaPSum
namespace Go.Proofs.Ytfbogjibofeckaa.P
open Go Go.RowKit Go.Shelf
attribute [local go_sem] Oper.semAt_some

/-- What Eval has reckoned when k elements are still to come. -/
def hor (p : List PM.G) (x : PM.G) (k : Nat) : PM.G := PM.evn (p.length - k) (fun i => PM.el p (k + i)) x
theorem hor_all (p : List PM.G) (x : PM.G) : hor p x p.length = 0 := by unfold hor; rw [Nat.sub_self]; rfl
theorem hor_zero (p : List PM.G) (x : PM.G) : hor p x 0 = PM.ev p x := by
  unfold hor PM.ev
  rw [Nat.sub_zero]; congr 1; funext i; rw [Nat.zero_add]
theorem hor_step (p : List PM.G) (x : PM.G) (k : Nat) (hk : k < p.length) : hor p x (k + 1) * x + PM.el p k = hor p x k := by
  unfold hor
  rw [show p.length - k = p.length - (k + 1) + 1 by omega, PM.evn_drop, PM.G.mul_comm, PM.G.add_comm]

def EvalI (w : World) (a : Option Addr) (cap : Nat) (p : List PM.G) (x : PM.G) (k : Nat) (W : World) : Prop :=
  (W.cell? ⟨w.heap.size, 0, none⟩ = some (.int .u8 (x.v : Int)) ∧ W.cell? ⟨w.heap.size + 1, 0, none⟩ = some (.int .u8 ((hor p x k).v : Int)) ∧ W.frozen? ⟨w.heap.size + 1, 0, none⟩ = false ∧ W.cell? ⟨w.heap.size + 1 + 1, 0, none⟩ = some (.slice a p.length cap)) ∧ Below w.heap.size w W

theorem evalI_own {w : World} {a : Option Addr} {cap : Nat} {p : List PM.G} {x : PM.G} {B0 : Nat} (hB0 : w.heap.size ≤ B0) : OwnFrom B0 (EvalI w a cap p x) :=
  OwnFrom.and (Own.from (fun _ _ _ _ hs hg hr => ⟨cell_kept hs.1 hg hr, cell_kept hs.2.1 hg hr, (frozen_kept hs.2.1 hg hr).trans hs.2.2.1, cell_kept hs.2.2.2 hg hr⟩) _) (ownFrom_below (Nat.le_refl _) hB0)

theorem eval_step {w W : World} {a : Option Addr} {cap : Nat} {p : List PM.G} {x : PM.G} {k B0 m : Nat} (hk : k < p.length) (hc0 : W.cell? ⟨w.heap.size, 0, none⟩ = some (.int .u8 (x.v : Int))) (hc1 : W.cell? ⟨w.heap.size + 1, 0, none⟩ = some (.int .u8 ((hor p x (k + 1)).v : Int)))
    (hf1 : W.frozen? ⟨w.heap.size + 1, 0, none⟩ = false) (hcb : W.cell? ⟨w.heap.size + 1 + 1, 0, none⟩ = some (.slice a p.length cap)) (hB : Below w.heap.size w W) :
    KeepsFrom B0 W ((W.drewN m).setCell ⟨w.heap.size + 1, 0, none⟩ (.int .u8 (bits BinOp.xor IntKind.u8 ((hor p x (k + 1) * x).v : Int) ((PM.el p k).v : Int)))) ∧
    EvalI w a cap p x k ((W.drewN m).setCell ⟨w.heap.size + 1, 0, none⟩ (.int .u8 (bits BinOp.xor IntKind.u8 ((hor p x (k + 1) * x).v : Int) ((PM.el p k).v : Int)))) := by
  rw [xor_G, hor_step p x k hk]
  have d0 : (W.drewN m).cell? ⟨w.heap.size, 0, none⟩ = some (.int .u8 (x.v : Int)) := hc0
  have d1 : (W.drewN m).cell? ⟨w.heap.size + 1, 0, none⟩ = some (.int .u8 ((hor p x (k + 1)).v : Int)) := hc1
  have df : (W.drewN m).frozen? ⟨w.heap.size + 1, 0, none⟩ = false := hf1
  have db : (W.drewN m).cell? ⟨w.heap.size + 1 + 1, 0, none⟩ = some (.slice a p.length cap) := hcb
  have dB : Below w.heap.size w (W.drewN m) := belowN hB m
  have dK : KeepsFrom B0 W (W.drewN m) := KeepsOthers.from (W := W) (W' := W.drewN m) ⟨Nat.le_refl _, fun _ _ h _ => h⟩ _
  generalize W.drewN m = W2 at *
  refine ⟨dK.trans ((KeepsOthers.setCell _ _ _).from _), ⟨(cell_other _ (by simp)).trans d0, World.cell?_setCell_same' _ _ _ (by rw [d1]; rfl), (World.frozen?_setCell _ _ _ _).trans df, (cell_other _ (by simp)).trans db⟩, dB.setCell (p := ⟨w.heap.size + 1, 0, none⟩) (by simp) _⟩

set_option maxRecDepth 100000 in
set_option maxHeartbeats 1000000 in
/-- **poly.Eval** -/
theorem eval_any (a : Option Addr) (cap : Nat) (p : List PM.G) (x : PM.G) (w : World) (hR : Row w a p cap) :
    Calls Try.prog 21 #[.slice a p.length cap, .int .u8 (x.v : Int)] w fun e W' => e = .returned (.int .u8 ((PM.ev p x).v : Int)) ∧ Below w.heap.size w W' := by
  have hroom := hR.room
  have hmost := hR.most
  refine (callsIn_wide (n := 6)).1 ?_
  refine callsIn_of_wp_marks Try.func21 rfl trivial ?_ rfl
  simp only [Try.ntmps21, List.size_toArray, List.length_cons, List.length_nil, Nat.reduceAdd, Nat.reduceSub, Array.replicate_succ, Array.replicate_zero, List.push_toArray, List.append_toArray, List.nil_append, List.cons_append]
  gi_wp2_with (refine ⟨trivial, ?_⟩; gi_at_call 45; refine (callsIn_wide.2 (backward_any _ _ _ _)).mono ?_; rintro e w' ⟨rfl, rfl⟩)
  have c0 := cell_new w (.int .u8 (x.v : Int)) 5
  have c1 := cell_new (w.alloc (.cells #[.int .u8 (x.v : Int)] 5)) (.int .u8 0) 5
  have f1 := frozen_new (w.alloc (.cells #[.int .u8 (x.v : Int)] 5)) (.int .u8 0) 5
  have c2 := cell_new ((w.alloc (.cells #[.int .u8 (x.v : Int)] 5)).alloc (.cells #[.int .u8 0] 5)) (.slice a p.length cap) 22
  simp only [World.size_alloc] at c1 f1 c2
  have hB0 : Below w.heap.size w (((w.alloc (.cells #[.int .u8 (x.v : Int)] 5)).alloc (.cells #[.int .u8 0] 5)).alloc (.cells #[.slice a p.length cap] 22)) := (((Below.refl _ w).alloc (Nat.le_refl _) _).alloc (by simp) _).alloc (by simp; omega) _
  refine wpIn_back (n := 6) (by omega) (Bs := w.heap.size + 1 + 1) rfl rfl a p.length cap (by omega) (fun j => ((PM.el p j).v : Int)) (EvalI w a cap p x) (fun _ _ _ => False) (evalI_own hB0.size) (fun _ _ _ _ _ hs _ _ => hs)
    ⟨⟨cell_later _ (cell_later _ c0), by rw [hor_all]; exact cell_later _ c1, frozen_later _ c1 f1, c2⟩, hB0⟩
    (fun k W h => h.1.2.2.2)
    (fun k W h hk => by
      obtain ⟨b, off, e, hc⟩ := (hR.below h.2).el k hk
      exact ⟨b, off, e, hc⟩)
    (fun k => { tmps := #[.slice a p.length cap, .int .u8 (x.v : Int), undef, .pointer (some ⟨w.heap.size, 0, none⟩), .int .u8 0, .pointer (some ⟨w.heap.size + 1, 0, none⟩), undef, .int .u8 ((PM.el p k).v : Int), .slice a p.length cap, .func (.func 52) #[] #[.pointer (some ⟨w.heap.size + 1 + 1, 0, none⟩)], .int .i64 (k : Int), .int .u8 ((PM.el p k).v : Int), undef, undef, undef, undef, undef, undef], defers := [] }) ?assign ?body ?done ?stop
  case assign =>
    intro l k W K hk hK
    gi_wp2
    exact hK
  case body =>
    clear c0 c1 f1 c2 hB0
    rintro l k W hl hrec ⟨⟨hc0, hc1, hf1, hcb⟩, hB⟩ hk
    clear hl hrec
    have HB := Lib.hid hB
    clear hB
    gi_wp2_with (refine ⟨trivial, ?_⟩; gi_at_call 46; refine (callsIn_wide.2 (fmul_any _ _ _)).mono ?_; rintro e w1 ⟨rfl, hd⟩; obtain ⟨m, rfl⟩ := hd)
    exact eval_step hk hc0 hc1 hf1 hcb HB.out
  case done =>
    rintro D W hD ⟨⟨hc0, hc1, hf1, hcb⟩, hB⟩ hK
    rw [hor_zero] at hc1
    have HB := Lib.hid hB
    clear hB c0 f1 c2 hB0
    gi_wp2
    refine ⟨by simp, .inl ⟨_, _, rfl, run_takeDeferred hK, ?_⟩⟩
    refine ⟨.int .u8 ((PM.ev p x).v : Int), ?_, rfl, HB.out.trans (belowK_b (w := w) (Nat.le_refl _) W D _ _ (by simp at hD; omega) hK rfl rfl)⟩
    simp [results, Try.f21, go_sem]
  case stop =>
    rintro D c k W _ _ h _
    exact h.elim
end Go.Proofs.Ytfbogjibofeckaa.P
