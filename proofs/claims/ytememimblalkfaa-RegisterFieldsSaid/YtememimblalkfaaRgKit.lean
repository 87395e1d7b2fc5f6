/- What Encode gives where it succeeds; what the fields of its registers are. -/
import Derived.Test.YtememimblalkfaaRgEnc
import Derived.Test.YtememimblalkfaaRgRDec
namespace Go.Proofs.Ytememimblalkfaa.RG
open Go Go.RowKit Go.Shelf
open G P
/-- What the registers F and S say. -/
structure Regs (x : Nat → Int) (n lo hi : Nat) (F S : V) : Prop where
  part : ∀ k, k < 6 → bits BinOp.and IntKind.u64 ((F.toNat : Int) / 2 ^ (4 * k)) 15 = x k
  few : ∀ k, k < 6 → 0 ≤ x k ∧ x k ≤ 12
  count : bits BinOp.and IntKind.u64 ((F.toNat : Int) / 16777216) 255 = (n : Int)
  sign : (F.toNat : Int) / 4294967296 = 1291845632
  low : bits BinOp.and IntKind.u64 (S.toNat : Int) 4294967295 = (lo : Int)
  high : (S.toNat : Int) / 4294967296 = (hi : Int)
theorem regs_of {x : Nat → Int} {R : List V} {n lo hi : Nat} (hn : R.length = n) (he : encE x n (lo : Int) (hi : Int) = 0) : Regs x n lo hi (first x n 6) (second lo hi) := by
  subst hn
  obtain ⟨h1, h2, h3, h4, h5, h6⟩ := dec_enc (R := R) he
  have hx := (ok_yes (enc_ok he).1).1
  have e0 : el (encL x R (lo : Int) (hi : Int)) 0 = first x R.length 6 := rfl
  have e1 : el (encL x R (lo : Int) (hi : Int)) 1 = second lo hi := rfl
  refine ⟨fun k hk => ?_, fun k hk => by have := hx k hk; omega, ?_, ?_, ?_, ?_⟩
  · have := fld_and (first x R.length 6) (4 * k) 4 (by omega) (by decide)
    rw [← h2 k hk]
    show _ = (fld (el (encL x R (lo : Int) (hi : Int)) 0) (4 * k) 4 : Int)
    rw [e0]
    exact this
  · have := n_and (encL x R (lo : Int) (hi : Int))
    rw [e0, h3] at this
    exact this
  · rw [e0] at h6
    omega
  · have := lo_and (encL x R (lo : Int) (hi : Int))
    rw [e1, h4] at this
    exact this
  · have := hi_shr (encL x R (lo : Int) (hi : Int))
    rw [e1, h5] at this
    exact this
/-- What Encode gives where it succeeds. -/
theorem encR_yes {w W : World} {x : Nat → Int} {R : List V} {n lo hi : Nat} {e : Ending} (h : EncR w x R (lo : Int) (hi : Int) e W) (hn : R.length = n) (he : encE x n (lo : Int) (hi : Int) = 0) :
    ∃ g c F S, e = .returned (.tuple #[.slice (some ⟨g, 0, none⟩) (n + 2) c, .int .i64 0]) ∧ G.Own W w.heap.size (.slice (some ⟨g, 0, none⟩) (n + 2) c) (F :: S :: R) ∧ Below w.heap.size w W ∧ w.heap.size ≤ g ∧ F :: S :: R = encL x R (lo : Int) (hi : Int) ∧ Regs x n lo hi F S := by
  obtain ⟨a', c', h1, h2, h3⟩ := h
  have hO : encO x R (lo : Int) (hi : Int) = first x n 6 :: second lo hi :: R := by
    unfold encO
    rw [hn, if_pos he]
    unfold encL
    rw [hn]
    rfl
  have hl : (first x n 6 :: second lo hi :: R).length = n + 2 := by rw [← hn]; rfl
  rw [hO, hl] at h2
  rw [hO, hl, hn, he] at h1
  obtain ⟨g, rfl, hg, _⟩ := h2.fresh (by simp)
  exact ⟨g, c', _, _, h1, h2, h3, hg, by unfold encL; rw [hn]; rfl, regs_of hn he⟩
/-- Decode of the registers of a map. -/
theorem decR_enc {w W : World} {x : Nat → Int} {R : List V} {n lo hi : Nat} {e : Ending} (h : DecR w (encL x R (lo : Int) (hi : Int)) e W) (hn : R.length = n) (he : encE x n (lo : Int) (hi : Int) = 0) :
    ∃ a c, e = .returned (.tuple #[.agg #[.int .i64 (x 0), .int .i64 (x 1), .int .i64 (x 2), .int .i64 (x 3), .int .i64 (x 4), .int .i64 (x 5), .slice a n c, .int .i64 (lo : Int), .int .i64 (hi : Int)], .int .i64 0]) ∧ G.Own W w.heap.size (.slice a n c) R ∧ Below w.heap.size w W := by
  subst hn
  obtain ⟨h1, h2, h3, h4, h5, h6⟩ := dec_enc (R := R) he
  obtain ⟨a, c, g1, g2, g3⟩ := h
  have ex : ∀ j, j < 6 → doX (encL x R (lo : Int) (hi : Int)) j = x j := fun j hj => by unfold doX; rw [if_pos h1, h2 j hj]
  have er : doR (encL x R (lo : Int) (hi : Int)) = R := by unfold doR; rw [if_pos h1]; rfl
  have el : doLo (encL x R (lo : Int) (hi : Int)) = (lo : Int) := by unfold doLo; rw [if_pos h1, h4]
  have eh : doHi (encL x R (lo : Int) (hi : Int)) = (hi : Int) := by unfold doHi; rw [if_pos h1, h5]
  rw [ex 0 (by decide), ex 1 (by decide), ex 2 (by decide), ex 3 (by decide), ex 4 (by decide), ex 5 (by decide), er, el, eh, h1] at g1
  rw [er] at g2
  exact ⟨a, c, g1, g2, g3⟩
/-- What Decode gives where it succeeds. -/
theorem decR_yes {w W : World} {L : List V} {e : Ending} (h : DecR w L e W) (h1 : decE L = 0) :
    ∃ a c, e = .returned (.tuple #[.agg #[.int .i64 (decX L 0), .int .i64 (decX L 1), .int .i64 (decX L 2), .int .i64 (decX L 3), .int .i64 (decX L 4), .int .i64 (decX L 5), .slice a (L.drop 2).length c, .int .i64 (decLo L : Int), .int .i64 (decHi L : Int)], .int .i64 0]) ∧ G.Own W w.heap.size (.slice a (L.drop 2).length c) (L.drop 2) ∧ Below w.heap.size w W := by
  obtain ⟨a, c, g1, g2, g3⟩ := h
  have ex : ∀ j, doX L j = decX L j := fun j => by unfold doX; rw [if_pos h1]
  have er : doR L = L.drop 2 := by unfold doR; rw [if_pos h1]
  have el : doLo L = (decLo L : Int) := by unfold doLo; rw [if_pos h1]
  have eh : doHi L = (decHi L : Int) := by unfold doHi; rw [if_pos h1]
  rw [ex, ex, ex, ex, ex, ex, er, el, eh, h1] at g1
  rw [er] at g2
  exact ⟨a, c, g1, g2, g3⟩
theorem decR_no {w W : World} {L : List V} {e : Ending} (h : DecR w L e W) (h1 : ¬ decE L = 0) :
    ∃ a c, e = .returned (.tuple #[.agg #[.int .i64 0, .int .i64 0, .int .i64 0, .int .i64 0, .int .i64 0, .int .i64 0, .slice a 0 c, .int .i64 0, .int .i64 0], .int .i64 (decE L)]) ∧ Row W a ([] : List V) c ∧ Below w.heap.size w W := by
  obtain ⟨a, c, g1, g2, g3⟩ := h
  have ex : ∀ j, doX L j = 0 := fun j => by unfold doX; rw [if_neg h1]
  have er : doR L = [] := by unfold doR; rw [if_neg h1]
  have el : doLo L = 0 := by unfold doLo; rw [if_neg h1]
  have eh : doHi L = 0 := by unfold doHi; rw [if_neg h1]
  rw [ex, ex, ex, ex, ex, ex, er, el, eh] at g1
  rw [er] at g2
  exact ⟨a, c, g1, g2.rowAt, g3⟩
/-- A map that differs by one bit of its registers is another one. -/
theorem other_map {x : Nat → Int} {R L : List V} {lo hi : Int} {i s : Nat} (hL : L = encL x R lo hi) (hi' : i < L.length) (hs : s < 64) (hd : decE (L.set i (el L i ^^^ (1#64 <<< s))) = 0) :
    sameB x (decX (L.set i (el L i ^^^ (1#64 <<< s)))) R ((L.set i (el L i ^^^ (1#64 <<< s))).drop 2) lo hi (decLo (L.set i (el L i ^^^ (1#64 <<< s))) : Int) (decHi (L.set i (el L i ^^^ (1#64 <<< s))) : Int) = false := by
  cases hb : sameB x (decX (L.set i (el L i ^^^ (1#64 <<< s)))) R ((L.set i (el L i ^^^ (1#64 <<< s))).drop 2) lo hi (decLo (L.set i (el L i ^^^ (1#64 <<< s))) : Int) (decHi (L.set i (el L i ^^^ (1#64 <<< s))) : Int) with
  | false => rfl
  | true =>
    have h1 := enc_same hb
    rw [(enc_dec hd).2, ← hL] at h1
    exact absurd h1.symm (flip_ne L i s hi' hs)
end Go.Proofs.Ytememimblalkfaa.RG
