/- poly.divide. -/
import Derived.Test.YtfbogjibofeckaaPClone
namespace Go.Proofs.Ytfbogjibofeckaa.P
open Go Go.RowKit Go.Shelf
attribute [local go_sem] Oper.semAt_some

/-- The inverse of the top element. -/
theorem top_any (a : Option Addr) (cap : Nat) (q : List PM.G) (w : World) (hR : Row w a q cap) (h0 : 0 < q.length) :
    Calls Try.prog 48 #[.slice a q.length cap] w fun e W => e = .returned (.int .u8 ((PM.el q (q.length - 1)).inv.v : Int)) ∧ Dr w W := by
  obtain ⟨n, hn⟩ : ∃ n, q.length = n + 1 := ⟨q.length - 1, by omega⟩
  have hroom := hR.room
  have hmost := hR.most
  have hln : q.length - 1 = n := by omega
  rw [hln]
  obtain ⟨b, off, rfl, hc⟩ := hR.el n (by omega)
  rw [hn] at hroom ⊢
  have hn2 : n < 9223372036854775807 := by omega
  have e1 : ((n + 1 : Nat) : Int) = (n : Int) + 1 := rfl
  have HI := Lib.hid (inverse_any (PM.el q n).v (PM.el q n).lt)
  clear hR hln
  go_enter Try.func48, Try.ntmps48
  go_wp2_with (go_at_call 51; refine (HI.out _).mono ?_; rintro e w1 ⟨rfl, hd⟩)
  go_ret
  exact ⟨rfl, hd⟩

/-- What lies in memory when divide begins: its boxes. -/
structure Div3 (w w3 : World) (b : Option Addr) (cb n : Nat) : Prop where
  size : w3.heap.size = w.heap.size + 3
  below : Below w.heap.size w w3
  c0 : w3.cell? ⟨w.heap.size, 0, none⟩ = some (.slice b n cb)
  c1 : w3.cell? ⟨w.heap.size + 1, 0, none⟩ = some (.slice none 0 0)
  f1 : w3.frozen? ⟨w.heap.size + 1, 0, none⟩ = false
  c2 : w3.cell? ⟨w.heap.size + 1 + 1, 0, none⟩ = some (.slice none 0 0)
  f2 : w3.frozen? ⟨w.heap.size + 1 + 1, 0, none⟩ = false
theorem div3 (w : World) (b : Option Addr) (cb n : Nat) : Div3 w (((w.alloc (.cells #[.slice b n cb] 22)).alloc (.cells #[.slice none 0 0] 22)).alloc (.cells #[.slice none 0 0] 22)) b cb n := by
  have c0 := cell_new w (.slice b n cb) 22
  have c1 := cell_new (w.alloc (.cells #[.slice b n cb] 22)) (.slice none 0 0) 22
  have f1 := frozen_new (w.alloc (.cells #[.slice b n cb] 22)) (.slice none 0 0) 22
  have c2 := cell_new ((w.alloc (.cells #[.slice b n cb] 22)).alloc (.cells #[.slice none 0 0] 22)) (.slice none 0 0) 22
  have f2 := frozen_new ((w.alloc (.cells #[.slice b n cb] 22)).alloc (.cells #[.slice none 0 0] 22)) (.slice none 0 0) 22
  simp only [World.size_alloc] at c1 f1 c2 f2
  exact ⟨by simp, (((Below.refl _ w).alloc (Nat.le_refl _) _).alloc (by simp) _).alloc (by simp; omega) _, cell_later _ (cell_later _ c0), cell_later _ c1, frozen_later _ c1 f1, c2, f2⟩
/-- .. and when p has been cloned. -/
structure Div4 (w w4 : World) (a1 b : Option Addr) (c1 cb n : Nat) (p : List PM.G) : Prop where
  size : w.heap.size + 3 ≤ w4.heap.size
  below : Below w.heap.size w w4
  own : Own w4 (w.heap.size + 3) (.slice a1 p.length c1) p
  c0 : w4.cell? ⟨w.heap.size, 0, none⟩ = some (.slice b n cb)
  c1 : w4.cell? ⟨w.heap.size + 1, 0, none⟩ = some (.slice none 0 0)
  f1 : w4.frozen? ⟨w.heap.size + 1, 0, none⟩ = false
  c2 : w4.cell? ⟨w.heap.size + 1 + 1, 0, none⟩ = some (.slice none 0 0)
  f2 : w4.frozen? ⟨w.heap.size + 1 + 1, 0, none⟩ = false
theorem Div3.next {w w3 w4 : World} {a1 b : Option Addr} {c1 cb n : Nat} {p : List PM.G} (h : Div3 w w3 b cb n) (ho : Own w4 w3.heap.size (.slice a1 p.length c1) p) (hb : Below w3.heap.size w3 w4) : Div4 w w4 a1 b c1 cb n p := by
  have hs := h.size
  have hs4 := hb.size
  exact ⟨by omega, h.below.trans (hb.mono (by omega)), by rw [hs] at ho; exact ho, cell_below hb h.c0, cell_below hb h.c1, frozen_below hb h.c1 h.f1, cell_below hb h.c2, frozen_below hb h.c2 h.f2⟩

set_option maxRecDepth 100000 in
set_option maxHeartbeats 1000000 in
theorem divide_short (a b : Option Addr) (ca cb : Nat) (p q : List PM.G) (w : World) (ha : Row w a p ca) (hb : Row w b q cb) (hp : Pol p) (hl : p.length < q.length) :
    Calls Try.prog 47 #[.slice a p.length ca, .slice b q.length cb] w fun e W => (∃ a' cap', e = .returned (.tuple #[.slice none 0 0, .slice a' p.length cap']) ∧ Row W a' p cap') ∧ Below w.heap.size w W := by
  have hra := ha.room
  have hma := ha.most
  have hrb := hb.room
  have hmb := hb.most
  have hlp := hp.len
  have h3 := div3 w b cb q.length
  have HCL := Lib.hid (clone_any a p ca _ (ha.below h3.below) (by omega))
  have H3 := Lib.hid h3
  clear h3
  refine (callsIn_wide (n := 6)).1 ?_
  refine callsIn_of_wp_marks Try.func47 rfl trivial ?_ rfl
  refine wpIn_wide.2 ?_
  simp only [Try.ntmps47, List.size_toArray, List.length_cons, List.length_nil, Nat.reduceAdd, Nat.reduceSub, Array.replicate_succ, Array.replicate_zero, List.push_toArray, List.append_toArray, List.nil_append, List.cons_append]
  go_wp2_with fail
  generalize ((w.alloc (.cells #[.slice b q.length cb] 22)).alloc (.cells #[.slice none 0 0] 22)).alloc (.cells #[.slice none 0 0] 22) = w3 at *
  refine HCL.out.mono ?_
  rintro e w4 ⟨a1, c1, rfl, hown, hb4⟩
  have h4 := H3.out.next hown hb4
  have d0 := h4.c0
  have d1 := h4.c1
  have e1 := h4.f1
  have d2 := h4.c2
  have e2 := h4.f2
  have H4 := Lib.hid h4
  clear HCL H3 hown hb4 h4
  go_wp2_with fail
  go_region
  go_wp2
  have hs := H4.out.size
  have hO := ((((H4.out.own).setBelow (p := ⟨w.heap.size + 1 + 1, 0, none⟩) (by simp) (.slice a1 p.length c1)).setBelow (p := ⟨w.heap.size + 1, 0, none⟩) (by simp) (.slice none 0 0)).setBelow (p := ⟨w.heap.size + 1 + 1, 0, none⟩) (by simp) (.slice a1 p.length c1)).drewN 1
  have hB := belowN (((H4.out.below.setCell (p := ⟨w.heap.size + 1 + 1, 0, none⟩) (by simp; omega) (.slice a1 p.length c1)).setCell (p := ⟨w.heap.size + 1, 0, none⟩) (by simp) (.slice none 0 0)).setCell (p := ⟨w.heap.size + 1 + 1, 0, none⟩) (by simp; omega) (.slice a1 p.length c1)) 1
  refine ⟨.tuple #[.slice none 0 0, .slice a1 p.length c1], ?_, ⟨a1, c1, rfl, hO.rowAt⟩, hB⟩
  simp [results, Try.f47, go_sem, d1, d2]
end Go.Proofs.Ytfbogjibofeckaa.P
