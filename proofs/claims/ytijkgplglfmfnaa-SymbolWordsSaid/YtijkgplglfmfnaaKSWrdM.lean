/- What SymbolWords says, as mathematics, and what it has in memory. -/
import Derived.Test.YtijkgplglfmfnaaK5
namespace Go.Proofs.Ytijkgplglfmfnaa.P
open Go Go.RowKit Go.Shelf
open G.S (codeV Cd code_box box4_at)
open G (Box IRow Dice grown_then)
open PM (el)

theorem wrong_same {n : Nat} {E : List Nat} {w c : Nat → PM.G} (h : c n = w n) : SM.wrong (n + 1) E w c = SM.wrong n E w c := by
  unfold SM.wrong
  rw [List.range_succ, List.filter_append]
  simp [h]
theorem wrong_in {n : Nat} {E : List Nat} {w c : Nat → PM.G} (h : E.contains n = true) : SM.wrong (n + 1) E w c = SM.wrong n E w c := by
  unfold SM.wrong
  rw [List.range_succ, List.filter_append]
  simp at h
  simp [h]
theorem wrong_out {n : Nat} {E : List Nat} {w c : Nat → PM.G} (h : c n ≠ w n) (hE : E.contains n = false) : SM.wrong (n + 1) E w c = SM.wrong n E w c ++ [n] := by
  unfold SM.wrong
  rw [List.range_succ, List.filter_append]
  simp at hE
  simp [h, hE]
theorem wrong_0 (E : List Nat) (w c : Nat → PM.G) : SM.wrong 0 E w c = [] := rfl
theorem wrong_le (n : Nat) (E : List Nat) (w c : Nat → PM.G) : (SM.wrong n E w c).length ≤ n := by
  unfold SM.wrong
  have := List.length_filter_le (fun i => decide (c i ≠ w i) && !E.contains i) (List.range n)
  rwa [List.length_range] at this
/-- Is i among the first m of E? -/
def er (E : List Nat) (i m : Nat) : Bool := (E.take m).contains i
theorem er_0 (E : List Nat) (i : Nat) : er E i 0 = false := rfl
theorem er_all (E : List Nat) (i : Nat) : er E i E.length = E.contains i := by unfold er; rw [List.take_length]
theorem er_succ {E : List Nat} {m : Nat} (h : m < E.length) (i : Nat) : er E i (m + 1) = (er E i m || decide (G.el E m = i)) := by
  unfold er
  rw [show E.take (m + 1) = E.take m ++ [G.el E m] by rw [List.take_succ_eq_append_getElem h, G.el_lt h]]
  rw [Bool.eq_iff_iff, List.contains_eq_mem, List.contains_eq_mem, Bool.or_eq_true, decide_eq_true_iff, decide_eq_true_iff, decide_eq_true_iff, List.mem_append, List.mem_singleton]
  exact ⟨fun h => h.imp id Eq.symm, fun h => h.imp id Eq.symm⟩
/-- The answer is Clean just if no place differs. -/
theorem clean_iff {n : Nat} {zs ws : List PM.G} {o : Int} (hz : zs.length = n) (hw : ws.length = n) (h : (o = 0 ∧ ws = zs) ∨ (o = 1 ∧ ws ≠ zs)) : ((o == 0) == (((diff zs ws n).length : Int) == 0)) = true := by
  rcases h with ⟨rfl, rfl⟩ | ⟨rfl, hne⟩
  · have : diff ws ws n = [] := by unfold diff; simp
    rw [this]; rfl
  · have : (diff zs ws n).length ≠ 0 := by
      intro h0
      refine hne (PM.ext_el (hw.trans hz.symm) (fun k hk => ?_))
      by_cases e : PM.el zs k = PM.el ws k
      · exact e.symm
      · have := (diff_at (n := n) (by omega) e).1
        omega
    have h1 : (((diff zs ws n).length : Int) == 0) = false := by rw [beq_eq_false_iff_ne]; omega
    rw [h1]; rfl
structure WSt (w : World) (dp : Nat) (a : Option Addr) (cap : Nat) (ts : List Int) (pc D C F n gw cw : Nat) (k : Nat) (zs : List PM.G) (wr : World) : Prop where
  word : Own wr w.heap.size (.slice (some ⟨gw, 0, none⟩) n cw) zs
  code : Box wr pc 28 [.int .i64 2, .int .i64 (D : Int), .int .i64 (C : Int), .int .i64 (F : Int)]
  dice : Dice wr dp a cap ts k
  bel : Below w.heap.size w wr
  len : zs.length = n
variable {w wr W : World} {dp : Nat} {a : Option Addr} {cap : Nat} {ts : List Int} {pc D C F n gw cw : Nat} {k k' : Nat} {zs : List PM.G}
theorem WSt.throw (h : WSt w dp a cap ts pc D C F n gw cw k zs wr) (o1 : dp = w.heap.size) (o2 : dp < pc) (o3 : pc < gw) (hd : Dice W dp a cap ts k') (hg : wr.grownBy W (some dp)) : WSt w dp a cap ts pc D C F n gw cw k' zs W :=
  ⟨h.word.grown hg (.inr (by intro e; have : gw = dp := Option.some.inj e; omega)), h.code.grown hg (by intro e; cases e; omega), hd, below_dice h.bel hg (by omega) h.bel.size, h.len⟩
theorem WSt.below (h : WSt w dp a cap ts pc D C F n gw cw k zs wr) (hb : Below wr.heap.size wr W) : WSt w dp a cap ts pc D C F n gw cw k zs W :=
  ⟨h.word.below hb, h.code.below hb, h.dice.below hb, h.bel.trans (hb.mono h.bel.size), h.len⟩
theorem WSt.setWord (h : WSt w dp a cap ts pc D C F n gw cw k zs wr) (o1 : dp = w.heap.size) (o2 : dp < pc) (o3 : pc < gw) (hf : ∀ b off, a = some ⟨b, off, none⟩ → 0 < ts.length → b < gw) (j : Nat) (x : PM.G) : WSt w dp a cap ts pc D C F n gw cw k (zs.set j x) (wr.setCell ⟨gw, j, none⟩ (.int .u8 (x.v : Int))) := by
  have hb : Below gw wr (wr.setCell ⟨gw, j, none⟩ (.int .u8 (x.v : Int))) := (Below.refl gw wr).setCell (p := ⟨gw, j, none⟩) (Nat.le_refl gw) _
  have hl := h.len
  refine ⟨?_, h.code.belowAt hb o3, h.dice.belowAt hb (by omega) hf, h.bel.setCell (p := ⟨gw, j, none⟩) (by show w.heap.size ≤ gw; omega) _, by rw [List.length_set]; exact hl⟩
  have := h.word
  subst hl
  exact this.set j x
theorem beq_G' {x y : PM.G} : ((x.v : Int) == (y.v : Int)) = decide (x = y) := by
  rw [Bool.eq_iff_iff, beq_iff_eq, decide_eq_true_iff]
  exact ⟨fun e => PM.G.ext' (by omega), fun e => by rw [e]⟩
end Go.Proofs.Ytijkgplglfmfnaa.P
