/- law05.agree. -/
import Derived.Test.YtodiokladojnjaaBRef7
import Derived.Test.YtodiokladojnjaaBRef8
import Derived.Test.YtodiokladojnjaaBRef10
import Derived.Test.YtodiokladojnjaaBBox
namespace Go.Proofs.Ytodiokladojnjaa.B
open Go Go.RowKit Go.Shelf
open BM (bt St)

theorem mul_any (C D : Int) (a b : Option Addr) (ca cb : Nat) (R T : List V) (w : World) (hA : Row w a R ca) (hB : Row w b T cb) :
    Calls Try.prog 29 #[.agg #[.int .i64 C, .slice a R.length ca], .agg #[.int .i64 D, .slice b T.length cb]] w fun e W => (∃ v, e = .returned (.tuple #[v, .int .i64 (mulE C D R T)]) ∧ MatR w.heap.size W v (mulC C D R T) (mulR C D R T)) ∧ Below w.heap.size w W := by
  cases h : validB C R && validB D T with
  | false =>
    have e0 : mulE C D R T = 1 := by unfold mulE; rw [h]; rfl
    have e1 : mulC C D R T = 0 := by unfold mulC; rw [e0]; rfl
    have e2 : mulR C D R T = [] := by unfold mulR; rw [e0]; rfl
    rw [e0, e1, e2]
    refine (mul_bad C D a b ca cb R T w hA hB h).mono ?_
    rintro e W ⟨rfl, hb⟩
    exact ⟨⟨_, rfl, MatR.none _ _⟩, hb⟩
  | true =>
    rw [Bool.and_eq_true] at h
    obtain ⟨C', rfl, hM⟩ := MV.of h.1
    obtain ⟨D', rfl, hN⟩ := MV.of h.2
    exact mul_good C' D' a b ca cb R T w hA hB hM hN
theorem rmul_any (C D : Int) (a b : Option Addr) (ca cb : Nat) (R T : List V) (w : World) (hA : Row w a R ca) (hB : Row w b T cb) :
    Calls Try.prog 30 #[.agg #[.int .i64 C, .slice a R.length ca], .agg #[.int .i64 D, .slice b T.length cb]] w fun e W => (∃ v, e = .returned (.tuple #[v, .int .i64 (mulE C D R T)]) ∧ MatR w.heap.size W v (mulC C D R T) (mulR C D R T)) ∧ Below w.heap.size w W := by
  cases h : validB C R && validB D T with
  | false =>
    have e0 : mulE C D R T = 1 := by unfold mulE; rw [h]; rfl
    have e1 : mulC C D R T = 0 := by unfold mulC; rw [e0]; rfl
    have e2 : mulR C D R T = [] := by unfold mulR; rw [e0]; rfl
    rw [e0, e1, e2]
    refine (rmul_bad C D a b ca cb R T w hA hB h).mono ?_
    rintro e W ⟨rfl, hb⟩
    exact ⟨⟨_, rfl, MatR.none _ _⟩, hb⟩
  | true =>
    rw [Bool.and_eq_true] at h
    obtain ⟨C', rfl, hM⟩ := MV.of h.1
    obtain ⟨D', rfl, hN⟩ := MV.of h.2
    exact rmul_good C' D' a b ca cb R T w hA hB hM hN
theorem BX.stored {W : World} {p q : Nat} {C C' D : Int} {R T : List V} {a b a' : Option Addr} {c d n' c' : Nat} (h : BX W p C R a c) (hq : BX W q D T b d) (hn : p ≠ q) :
    BX ((W.setCell ⟨q, 0, none⟩ (.int .i64 C')).setCell ⟨q, 1, none⟩ (.slice a' n' c')) p C R a c := by
  have e1 : (W.setCell ⟨q, 0, none⟩ (.int .i64 C')).cell? ⟨q, 1, none⟩ = some (.slice b T.length d) := (World.cell?_setCell_other _ _ _ _ (by intro e; cases e)).trans hq.box.c1
  exact ⟨(h.box.other (show q ≠ p from fun e => hn e.symm) _).other (show q ≠ p from fun e => hn e.symm) _, (h.row.storedV hq.box.c0 (fun x => by intro e; cases e) _).storedV e1 (fun x => by intro e; cases e) _⟩
theorem BX.put {W : World} {q : Nat} {C' D : Int} {T U : List V} {b a' : Option Addr} {d c' : Nat} (hq : BX W q D T b d) (hr : Row W a' U c') :
    BX ((W.setCell ⟨q, 0, none⟩ (.int .i64 C')).setCell ⟨q, 1, none⟩ (.slice a' U.length c')) q C' U a' c' := by
  have e1 : (W.setCell ⟨q, 0, none⟩ (.int .i64 C')).cell? ⟨q, 1, none⟩ = some (.slice b T.length d) := (World.cell?_setCell_other _ _ _ _ (by intro e; cases e)).trans hq.box.c1
  exact ⟨hq.box.set, (hr.storedV hq.box.c0 (fun x => by intro e; cases e) _).storedV e1 (fun x => by intro e; cases e) _⟩
end Go.Proofs.Ytodiokladojnjaa.B
