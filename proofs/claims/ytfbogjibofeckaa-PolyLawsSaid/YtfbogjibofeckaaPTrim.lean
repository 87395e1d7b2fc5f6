/- poly.trimmed and poly.Valid. -/
import Derived.Test.YtfbogjibofeckaaPRow
namespace Go.Proofs.Ytfbogjibofeckaa.P
open Go Go.RowKit Go.Shelf
attribute [local go_sem] Oper.semAt_some

set_option maxRecDepth 100000 in
set_option maxHeartbeats 2000000 in
/-- **poly.trimmed**: the slice without the zeros at its end. -/
theorem trimmed_any (a : Option Addr) (zs : List PM.G) (cap : Nat) (w : World) (hR : Row w a zs cap) :
    Calls Try.prog 42 #[.slice a zs.length cap] w fun e W' => e = .returned (cut a cap (PM.trimL zs)) ∧ Below w.heap.size w W' := by
  refine (callsIn_wide (n := 6)).1 ?_
  refine callsIn_of_wp_marks Try.func42 rfl trivial ?_ rfl
  simp only [Try.ntmps42, List.size_toArray, List.length_cons, List.length_nil, Nat.reduceAdd, Nat.reduceSub, Array.replicate_succ, Array.replicate_zero, List.push_toArray, List.append_toArray, List.nil_append, List.cons_append]
  gi_wp2_with (refine ⟨trivial, ?_⟩; gi_at_call 45; refine (callsIn_wide.2 (backward_any _ _ _ _)).mono ?_; rintro e w' ⟨rfl, rfl⟩)
  have c0 := cell_new w (.slice a zs.length cap) 22
  have c1 := cell_new (w.alloc (.cells #[.slice a zs.length cap] 22)) (.slice none 0 0) 22
  have f1 := frozen_new (w.alloc (.cells #[.slice a zs.length cap] 22)) (.slice none 0 0) 22
  have c2 := cell_new ((w.alloc (.cells #[.slice a zs.length cap] 22)).alloc (.cells #[.slice none 0 0] 22)) (.slice a zs.length cap) 22
  simp only [World.size_alloc] at c1 f1 c2
  have hB0 : Below w.heap.size w (((w.alloc (.cells #[.slice a zs.length cap] 22)).alloc (.cells #[.slice none 0 0] 22)).alloc (.cells #[.slice a zs.length cap] 22)) := (((Below.refl _ w).alloc (Nat.le_refl _) _).alloc (by simp) _).alloc (by simp; omega) _
  refine wpIn_back (n := 6) (by omega) (Bs := w.heap.size + 1 + 1) rfl rfl a zs.length cap (by have := hR.room; have := hR.most; omega) (fun j => ((PM.el zs j).v : Int))
    (fun k W => ((∀ j : Nat, k ≤ j → PM.el zs j = 0) ∧ W.cell? ⟨w.heap.size, 0, none⟩ = some (.slice a zs.length cap) ∧ W.cell? ⟨w.heap.size + 1, 0, none⟩ = some (.slice none 0 0) ∧ W.frozen? ⟨w.heap.size + 1, 0, none⟩ = false ∧ W.cell? ⟨w.heap.size + 1 + 1, 0, none⟩ = some (.slice a zs.length cap)) ∧ Below w.heap.size w W)
    (fun c k W => (c = .ret ∧ PM.el zs k ≠ 0 ∧ (∀ j : Nat, k < j → PM.el zs j = 0) ∧ W.cell? ⟨w.heap.size + 1, 0, none⟩ = some (.slice a (k + 1) cap)) ∧ Below w.heap.size w W)
    (OwnFrom.and (Own.from (fun s A B row hs hg hr => ⟨hs.1, cell_kept hs.2.1 hg hr, cell_kept hs.2.2.1 hg hr, (frozen_kept hs.2.2.1 hg hr).trans hs.2.2.2.1, cell_kept hs.2.2.2.2 hg hr⟩) _) (ownFrom_below (Nat.le_refl _) (by simp; omega)))
    (fun c => OwnFrom.and (Own.from (fun s A B row hs hg hr => ⟨hs.1, hs.2.1, hs.2.2.1, cell_kept hs.2.2.2 hg hr⟩) _) (ownFrom_below (Nat.le_refl _) (by simp; omega)))
    ⟨⟨fun j hj => by exact PM.el_ge hj, cell_later _ (cell_later _ c0), cell_later _ c1, frozen_later _ c1 f1, c2⟩, hB0⟩
    (fun k W h => h.1.2.2.2.2)
    (fun k W h hk => by
      obtain ⟨b, off, e, hc⟩ := hR.el k hk
      exact ⟨b, off, e, (h.2.cell (p := ⟨b, off + k, none⟩) (lt_of_cell hc)).trans hc⟩)
    (fun k => { tmps := #[.slice a zs.length cap, .pointer (some ⟨w.heap.size, 0, none⟩), .pointer (some ⟨w.heap.size + 1, 0, none⟩), .int .i64 (k : Int), .int .u8 ((PM.el zs k).v : Int), .slice a zs.length cap, .func (.func 52) #[] #[.pointer (some ⟨w.heap.size + 1 + 1, 0, none⟩)], .int .i64 (k : Int), .int .u8 ((PM.el zs k).v : Int), undef, undef, undef, undef, undef, undef], defers := [] }) ?assign ?body ?done ?stop
  case assign =>
    intro l k W K hk hK
    gi_wp2
    exact hK
  case body =>
    rintro l k W hl hrec ⟨⟨hz, hc0, hc1, hf1, hc2⟩, hB⟩ hk
    have hroom := hR.room
    have hmost := hR.most
    have hz' : ∀ j : Nat, k < j → PM.el zs j = 0 := fun j hj => hz j hj
    have HZ := Lib.hid hz
    have HZ' := Lib.hid hz'
    clear hz hz'
    by_cases hne : PM.el zs k = 0
    · have hb : (((PM.el zs k).v : Int) != 0) = false := gv_zero hne
      have HN := Lib.hid hne
      clear hne
      gi_wp2
      refine ⟨(KeepsOthers.refl _).from _, ⟨fun j hj => ?_, hc0, hc1, hf1, hc2⟩, hB⟩
      by_cases e : j = k
      · rw [e]; exact HN.out
      · exact HZ'.out j (by omega)
    · have hb : (((PM.el zs k).v : Int) != 0) = true := gv_ne hne
      have HN := Lib.hid hne
      clear hne
      gi_wp2
      exact ⟨(KeepsOthers.setCell _ _ _).from _, ⟨rfl, HN.out, HZ'.out, World.cell?_setCell_same' _ _ _ (by rw [hc1]; rfl)⟩, hB.setCell (p := ⟨w.heap.size + 1, 0, none⟩) (by simp) _⟩
  case done =>
    rintro D W hD ⟨⟨hz, _, hc1, hf1, _⟩, hB⟩ hK
    have HZ := Lib.hid (PM.trimL_none zs (fun j => hz j (Nat.zero_le _)))
    clear hz
    gi_wp2
    have hK' := (KeepsOthers.setCell W ⟨w.heap.size + 1, 0, none⟩ (.slice none 0 0)).same D _ hK rfl
    refine ⟨by simp, .inl ⟨_, _, rfl, run_takeDeferred hK', ?_⟩⟩
    have hc5 := cell_kept (World.cell?_setCell_same' W ⟨w.heap.size + 1, 0, none⟩ (.slice none 0 0) (by rw [hc1]; rfl)) (grownBy_putObj' _ D (.deferred none)) (fun r e => by cases e; exact ⟨_, hK', rfl⟩)
    refine ⟨.slice none 0 0, ?_, by rw [HZ.out]; rfl, (hB.setCell (p := ⟨w.heap.size + 1, 0, none⟩) (by simp) _).trans (belowK_b (w := w) (Nat.le_refl _) _ D _ _ (by simp at hD; omega) hK' rfl rfl)⟩
    simp [results, Try.f42, go_sem, hc5]
  case stop =>
    rintro D c k W hD hk ⟨⟨rfl, hne, hz, hc1⟩, hB⟩ hK
    have HZ := Lib.hid (PM.trimL_at zs k hne hz)
    clear hz hne
    gi_wp2
    refine ⟨by simp, .inl ⟨_, _, rfl, run_takeDeferred hK, ?_⟩⟩
    have hc5 := cell_kept hc1 (grownBy_putObj' _ D (.deferred none)) (fun r e => by cases e; exact ⟨_, hK, rfl⟩)
    refine ⟨.slice a (k + 1) cap, ?_, ?_, hB.trans (belowK_b (w := w) (Nat.le_refl _) W D _ _ (by simp at hD; omega) hK rfl rfl)⟩
    · simp [results, Try.f42, go_sem, hc5]
    · have hh := HZ.out
      unfold cut
      rw [if_neg (by intro e; rw [e] at hh; simp at hh), hh]


/-- A valid polynomial. -/
structure Pol (p : List PM.G) : Prop where
  can : PM.Can p
  len : p.length ≤ 255

set_option maxHeartbeats 400000 in
theorem valid_yes (a : Option Addr) (p : List PM.G) (cap : Nat) (w : World) (hR : Row w a p cap) (hp : Pol p) :
    Calls Try.prog 31 #[.slice a p.length cap] w fun e W' => e = .returned (.bool true) ∧ Below w.heap.size w W' := by
  have hroom := hR.room
  have hmost := hR.most
  have hlen := hp.len
  have ht := trimmed_any a p cap w hR
  obtain ⟨a', c', hc, _, _⟩ := hR.cut
  rw [hc, PM.trimL_can hp.can] at ht
  have HT := Lib.hid ht
  clear ht hc hR hp
  go_enter Try.func31, Try.ntmps31
  go_wp2_with (go_at_call 42; refine HT.out.mono ?_; rintro e w' ⟨rfl, hb⟩)
  go_ret
  exact ⟨rfl, by assumption⟩

set_option maxHeartbeats 400000 in
theorem valid_no (a : Option Addr) (p : List PM.G) (cap : Nat) (w : World) (hR : Row w a p cap) (hp : ¬ Pol p) :
    Calls Try.prog 31 #[.slice a p.length cap] w fun e W' => e = .returned (.bool false) ∧ Below w.heap.size w W' := by
  have hroom := hR.room
  have hmost := hR.most
  by_cases hlen : p.length ≤ 255
  · have ht := trimmed_any a p cap w hR
    obtain ⟨a', c', hc, _, _⟩ := hR.cut
    rw [hc] at ht
    have hne : (p.length : Int) ≠ ((PM.trimL p).length : Int) := by
      intro e
      have e' : (PM.trimL p).length = p.length := by omega
      have h2 : PM.trimL p = p := by have := PM.trimL_take p; rwa [e', List.take_length, eq_comm] at this
      exact hp ⟨by rw [← h2]; exact PM.can_trimL p, hlen⟩
    have HB := Lib.hid (show ((p.length : Int) == ((PM.trimL p).length : Int)) = false by simpa using hne)
    have hle := PM.trimL_len p
    generalize (PM.trimL p).length = n at *
    have HT := Lib.hid ht
    clear ht hc hR hp hne
    go_enter Try.func31, Try.ntmps31
    have hb := HB.out
    go_wp2_with (go_at_call 42; refine HT.out.mono ?_; rintro e w' ⟨rfl, hb⟩)
    go_ret
    exact ⟨rfl, by assumption⟩
  · clear hp
    go_enter Try.func31, Try.ntmps31
    go_wp2
    go_ret
    exact ⟨rfl, Below.refl _ _⟩
end Go.Proofs.Ytfbogjibofeckaa.P
