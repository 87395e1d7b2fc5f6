/- nat.within and nat.limbAt. -/
import Derived.Test.YtamniclnhenmgaaDoorTrim
import Derived.Lib.Hide
import Derived.Outline
import Derived.BigQuiet
import Derived.Deep.QuietTactic
import Derived.Laws.ResultCell
namespace Go.Proofs.YtamniclnhenmgaaDoor
open Go Go.RowKit Go.Shelf

set_option maxHeartbeats 400000 in
/-- **nat.limbAt**: limb i, 0 behind the end. -/
theorem limbAt_any (a : Option Addr) (zs : List Int) (cap : Nat) (k : Nat) (w : World) (hR : Row w a zs cap) :
    Calls Tryd.prog 70 #[.slice a zs.length cap, .int .i64 (k : Int)] w fun e W' => e = .returned (.int .i64 (M.el zs k)) ∧ W' = w := by
  have hroom := hR.room
  have hmost := hR.most
  by_cases h : k < zs.length
  · obtain ⟨b, off, rfl, hc⟩ := hR.el k h
    go_enter Tryd.func70, Tryd.ntmps70
    go_wp2
    go_ret
    exact ⟨rfl, rfl⟩
  · have hz := Lib.hid (M.el_ge (zs := zs) (k := k) (by omega))
    go_enter Tryd.func70, Tryd.ntmps70
    go_wp2
    go_ret
    exact ⟨by rw [hz.out]; rfl, rfl⟩

theorem Row.alloc {w : World} {a : Option Addr} {zs : List Int} {cap : Nat} (h : Row w a zs cap) (o : Obj) : Row (w.alloc o) a zs cap :=
  h.below ((Below.refl _ w).alloc (Nat.le_refl _) _)

/-- What lies behind a call that only makes memory. -/
theorem bcell {W w1 : World} (hb : Below W.heap.size W w1) : (∀ b o, b < W.heap.size → w1.cell? ⟨b, o, none⟩ = W.cell? ⟨b, o, none⟩) ∧ (∀ b o, b < W.heap.size → w1.frozen? ⟨b, o, none⟩ = W.frozen? ⟨b, o, none⟩) :=
  ⟨fun b o h => hb.cell (p := ⟨b, o, none⟩) h, fun b o h => hb.frozen (p := ⟨b, o, none⟩) h⟩

theorem cut_slice (a : Option Addr) (cap : Nat) (ts : List Int) : ∃ a' c', cut a cap ts = .slice a' ts.length c' := by
  unfold cut
  split
  · rename_i h; exact ⟨none, 0, by rw [h]; rfl⟩
  · exact ⟨a, cap, rfl⟩

set_option maxHeartbeats 400000 in
/-- **nat.within**: the trimmed slice; ErrLimit, if it has too many elements. -/
theorem within_any (a : Option Addr) (zs : List Int) (cap : Nat) (w : World) (hR : Row w a zs cap) :
    Calls Tryd.prog 71 #[.slice a zs.length cap] w fun e W' => e = .returned (if (M.trimL zs).length ≤ 200 then .tuple #[.agg #[cut a cap (M.trimL zs)], .int .i64 0] else .tuple #[.agg #[.slice none 0 0], .int .i64 3]) ∧ Below w.heap.size w W' := by
  obtain ⟨a', c', hc⟩ := cut_slice a cap (M.trimL zs)
  have hl := M.trimL_len zs
  have hroom := hR.room
  have hmost := hR.most
  have ht := trim_any a zs cap (w.alloc (.cells #[.slice none 0 0] 24)) (hR.alloc _)
  rw [hc] at ht ⊢
  clear hc
  generalize (M.trimL zs).length = n at *
  have Ht := Lib.hid ht
  clear ht
  by_cases h : n ≤ 200
  · have HE := Lib.hid (show (if n ≤ 200 then Value.tuple #[.agg #[.slice a' n c'], .int .i64 0] else .tuple #[.agg #[.slice none 0 0], .int .i64 3]) = .tuple #[.agg #[.slice a' n c'], .int .i64 0] from if_pos h)
    go_enter Tryd.func71, Tryd.ntmps71
    go_wp2_with (go_at_call 78; refine Ht.out.mono ?_; rintro e w' ⟨rfl, hb⟩; obtain ⟨hcc, hff⟩ := bcell hb)
    exact bodyPost_ret (v := .tuple #[.agg #[.slice a' n c'], .int .i64 0]) (by simp [results, Tryd.results71, go_sem, hcc]) rfl ⟨rfl, (((Below.refl _ w).alloc (Nat.le_refl _) _).trans (hb.mono (by simp))).setCell (p := ⟨w.heap.size, 0, none⟩) (Nat.le_refl _) _⟩
  · have HE := Lib.hid (show (if n ≤ 200 then Value.tuple #[.agg #[.slice a' n c'], .int .i64 0] else .tuple #[.agg #[.slice none 0 0], .int .i64 3]) = .tuple #[.agg #[.slice none 0 0], .int .i64 3] from if_neg h)
    go_enter Tryd.func71, Tryd.ntmps71
    go_wp2_with (go_at_call 78; refine Ht.out.mono ?_; rintro e w' ⟨rfl, hb⟩; obtain ⟨hcc, hff⟩ := bcell hb)
    exact bodyPost_ret (v := .tuple #[.agg #[.slice none 0 0], .int .i64 3]) (by simp [results, Tryd.results71, go_sem, hcc]) rfl ⟨rfl, (((Below.refl _ w).alloc (Nat.le_refl _) _).trans (hb.mono (by simp))).setCell (p := ⟨w.heap.size, 0, none⟩) (Nat.le_refl _) _⟩
end Go.Proofs.YtamniclnhenmgaaDoor
