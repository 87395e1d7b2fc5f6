/- nat.shrink: a slice that the caller owns is divided by a small number, in place. -/
import Derived.Test.YtamniclnhenmgaaDoorShrStep
namespace Go.Proofs.YtamniclnhenmgaaDoor
open Go Go.RowKit Go.Shelf
attribute [local go_sem] Oper.semAt_some mask24

set_option maxRecDepth 100000 in
set_option maxHeartbeats 2000000 in
theorem shrink_any (B : Nat) (a : Option Addr) (cap : Nat) (zs : List Int) (d : Nat) (w : World) (hd : 0 < d) (hd2 : d < 549755813888) (hlim : M.Lim zs) (hown : Own w B (.slice a zs.length cap) zs) :
    Calls Tryd.prog 77 #[.slice a zs.length cap, .int .i64 (d : Int)] w fun e W' => e = .returned (.int .i64 (M.shr d zs).1) ∧ Own W' B (.slice a zs.length cap) (M.shr d zs).2 ∧ w.grownBy W' (Value.slice a zs.length cap).ownBlock := by
  refine (callsIn_wide (n := 6)).1 ?_
  refine callsIn_of_wp_marks Tryd.func77 rfl trivial ?_ rfl
  simp only [Tryd.ntmps77, List.size_toArray, List.length_cons, List.length_nil, Nat.reduceAdd, Nat.reduceSub, Array.replicate_succ, Array.replicate_zero, List.push_toArray, List.append_toArray, List.nil_append, List.cons_append]
  gi_wp2_with (refine ⟨trivial, ?_⟩; gi_at_call 85; refine (callsIn_wide.2 (backward_any _ _ _ _)).mono ?_; rintro e w' ⟨rfl, rfl⟩)
  have c0 := cell_new w (.slice a zs.length cap) 22
  have c1 := cell_new (w.alloc (.cells #[.slice a zs.length cap] 22)) (.int .i64 (d : Int)) 3
  have c2 := cell_new ((w.alloc (.cells #[.slice a zs.length cap] 22)).alloc (.cells #[.int .i64 (d : Int)] 3)) (.int .i64 0) 3
  have f2 := frozen_new ((w.alloc (.cells #[.slice a zs.length cap] 22)).alloc (.cells #[.int .i64 (d : Int)] 3)) (.int .i64 0) 3
  have c3 := cell_new (((w.alloc (.cells #[.slice a zs.length cap] 22)).alloc (.cells #[.int .i64 (d : Int)] 3)).alloc (.cells #[.int .i64 0] 3)) (.slice a zs.length cap) 22
  simp only [World.size_alloc] at c1 c2 f2 c3
  have hrow := hown.rowAt
  have hm : zs.length ≤ 9223372036854775807 := by have := hrow.room; have := hrow.most; omega
  have hgr := grown_alloc (grown_alloc (grown_alloc (grown_alloc (World.grownBy.refl w (Value.slice a zs.length cap).ownBlock) (.cells #[.slice a zs.length cap] 22)) (.cells #[.int .i64 (d : Int)] 3)) (.cells #[.int .i64 0] 3)) (.cells #[.slice a zs.length cap] 22)
  have ho4 := (((hown.alloc (.cells #[.slice a zs.length cap] 22)).alloc (.cells #[.int .i64 (d : Int)] 3)).alloc (.cells #[.int .i64 0] 3)).alloc (.cells #[.slice a zs.length cap] 22)
  refine wpIn_back (n := 6) (by omega) (Bs := w.heap.size + 1 + 1 + 1) rfl rfl a zs.length cap hm (fun j => M.el zs j) (ShrI w B a cap zs d) (fun _ _ _ => False) (shrI_own (by simp; omega)) (fun _ _ _ _ _ hs _ _ => hs)
    ⟨⟨cell_later _ (cell_later _ (cell_later _ c0)), cell_later _ (cell_later _ c1), by rw [List.drop_length]; exact cell_later _ c2, frozen_later _ c2 f2, c3⟩, by rw [M.shrAt_all]; exact ho4, hgr⟩
    (fun k W h => h.1.2.2.2.2)
    (fun k W h hk => by
      obtain ⟨g, rfl, _, _, _, _, hc, _⟩ := h.2.1.at2 k (by rw [M.shrAt_len]; exact hk)
      rw [M.shrAt_el _ _ _ _ (Nat.lt_succ_self k) hk] at hc
      exact ⟨g, 0, rfl, by simpa using hc⟩)
    (fun k => { tmps := #[.slice a zs.length cap, .int .i64 (d : Int), .pointer (some ⟨w.heap.size, 0, none⟩), .pointer (some ⟨w.heap.size + 1, 0, none⟩), .int .i64 0, .pointer (some ⟨w.heap.size + 1 + 1, 0, none⟩), .int .i64 (k : Int), .int .i64 (M.el zs k), .slice a zs.length cap,
      .func (.func 110) #[] #[.pointer (some ⟨w.heap.size + 1 + 1 + 1, 0, none⟩)], .int .i64 (k : Int), .int .i64 (M.el zs k), undef, undef, undef, undef, undef, undef, undef, undef, undef, undef, undef, undef, undef, undef], defers := [] }) ?assign ?body ?done ?stop
  case assign =>
    intro l k W K hk hK
    gi_wp2
    exact hK
  case body =>
    clear c0 c1 c2 f2 c3 hgr ho4 hrow
    rintro l k W hl hrec ⟨⟨hc0, hc1, hc2, hf2, hc3⟩, hO, hG⟩ hk
    clear hl hrec
    obtain ⟨g, rfl, hgB, hgW, hroom, hmost, hcz, hfz⟩ := hO.at2 k (by rw [M.shrAt_len]; exact hk)
    obtain ⟨g', e', _, hgw, _, _, _, _⟩ := hown.at2 k hk
    cases e'
    have HO := Lib.hid hO
    have HG := Lib.hid hG
    have HW := Lib.hid hgW
    clear hO hG hgW hown
    have hr := M.shr_rest (d : Int) (by omega) (zs.drop (k + 1))
    have hel := hlim.get k
    have HS := Lib.hid (M.shrAt_set (d : Int) zs k hk)
    have HR := Lib.hid (M.shr_drop (d : Int) zs k hk)
    generalize (M.shr (d : Int) (zs.drop (k + 1))).1 = r at *
    have hor := or24 r (M.el zs k) hr.1 (by omega) hel.1 hel.2
    have hmx : Tryd.prog.follows .mixedOrders = true := by kernel_rfl
    have hd0 : ((d : Int) == 0) = false := by simp; omega
    have hd1 : (1 : Int) ≤ d := by omega
    gi_wp2
    gi_region_with_o (fail)
    all_goals gi_wp2
    all_goals exact shr_step (B0 := _) hgw hc0 hc1 hc2 hf2 hc3 HO.out HG.out HS.out HR.out
  case done =>
    rintro D W hD ⟨⟨_, _, hc2, hf2, _⟩, hO, hG⟩ hK
    rw [List.drop_zero] at hc2
    rw [M.shrAt_zero] at hO
    have HO := Lib.hid hO
    have HG := Lib.hid hG
    clear hO hG c0 c1 c2 f2 c3 hgr ho4 hrow
    gi_wp2
    refine ⟨by simp, .inl ⟨_, _, rfl, run_takeDeferred hK, ?_⟩⟩
    refine ⟨_, results_tmp rfl _ _ _, rfl, ?_, ?_⟩
    · exact ownFrom_own (B0 := 0) (fun (_ : Unit) => (M.shr (d : Int) zs).2) () _ _ _ HO.out (grownBy_putObj' _ D (.deferred none)) (fun r e => by cases e; exact ⟨Nat.zero_le _, _, hK, rfl⟩)
    · exact ownFrom_grown (Nat.le_refl _) () _ _ _ HG.out (grownBy_putObj' _ D (.deferred none)) (fun r e => by cases e; exact ⟨by simp at hD; omega, _, hK, rfl⟩)
  case stop =>
    rintro D c k W _ _ h _
    exact h.elim
end Go.Proofs.YtamniclnhenmgaaDoor
