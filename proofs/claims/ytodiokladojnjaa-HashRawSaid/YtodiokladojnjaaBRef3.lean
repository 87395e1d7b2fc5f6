/- ref05.Turn. -/
import Derived.Test.YtodiokladojnjaaBRef2
namespace Go.Proofs.Ytodiokladojnjaa.B
open Go Go.RowKit Go.Shelf
open BM (bt xs)

theorem M1.grownB {w W W' : World} {C : Int} {a : Option Addr} {ca : Nat} {R : List V} {B : Nat} (h : M1 w C a ca R W) (hb : Below B W W') (hB : w.heap.size + 1 + 1 ≤ B) : M1 w C a ca R W' := by
  have c : ∀ {q o : Nat} {v : Value}, q < B → W.cell? ⟨q, o, none⟩ = some v → W'.cell? ⟨q, o, none⟩ = some v := fun {q o v} hq hc => (hb.cell (p := ⟨q, o, none⟩) hq).trans hc
  have f : ∀ {q o : Nat} {t : Bool}, q < B → W.frozen? ⟨q, o, none⟩ = t → W'.frozen? ⟨q, o, none⟩ = t := fun {q o t} hq hc => (hb.frozen (p := ⟨q, o, none⟩) hq).trans hc
  exact ⟨⟨c (by omega) h.pa.c0, c (by omega) h.pa.c1, f (by omega) h.pa.f0, f (by omega) h.pa.f1⟩, ⟨c (by omega) h.pr.c0, c (by omega) h.pr.c1, f (by omega) h.pr.f0, f (by omega) h.pr.f1⟩,
    ⟨h.ra.room, h.ra.most, fun j hj => by
      obtain ⟨b, off, e, hc⟩ := h.ra.el j hj
      exact ⟨b, off, e, c (by have := h.fa b off e (by omega); omega) hc⟩⟩, h.below.trans (hb.mono (by omega)), Nat.le_trans h.size hb.size, h.fa⟩

end Go.Proofs.Ytodiokladojnjaa.B
