/- What SymbolNotices has in memory while it makes a word wrong: the word, the erased places, flags, the code, the dice. -/
import Derived.Test.YtijkgplglfmfnaaKSNotM
import Derived.Test.YtijkgplglfmfnaaKGBool
namespace Go.Proofs.Ytijkgplglfmfnaa.P
open Go Go.RowKit Go.Shelf
open G.S (codeV Cd code_box box4_at)
open G (Box IRow Dice grown_then)

/-- The blocks are different ones. -/
structure NAt (w : World) (a : Option Addr) (ts : List Int) (dp pc gw gt : Nat) (vE : Value) : Prop where
  far : ∀ b off, a = some ⟨b, off, none⟩ → 0 < ts.length → b < gw
  o1 : dp = w.heap.size
  o2 : dp < pc
  o3 : pc < gw
  o4 : gw < gt
  e0 : vE.ownBlock ≠ some dp
  e1 : vE.ownBlock ≠ some gw
  e2 : vE.ownBlock ≠ some gt
structure NSt (w : World) (dp : Nat) (a : Option Addr) (cap : Nat) (ts : List Int) (pc D C F n gw cw : Nat) (aE : Option Addr) (cE : Nat) (E : List Nat) (gt : Nat) (k : Nat) (zs : List PM.G) (th : List Bool) (wr : World) : Prop where
  word : Own wr w.heap.size (.slice (some ⟨gw, 0, none⟩) n cw) zs
  err : G.Own wr w.heap.size (.slice aE E.length cE) E
  there : G.Own wr w.heap.size (.slice (some ⟨gt, 0, none⟩) n n) th
  code : Box wr pc 28 [.int .i64 2, .int .i64 (D : Int), .int .i64 (C : Int), .int .i64 (F : Int)]
  dice : Dice wr dp a cap ts k
  bel : Below w.heap.size w wr
variable {w wr W : World} {dp : Nat} {a : Option Addr} {cap : Nat} {ts : List Int} {pc D C F n gw cw : Nat} {aE : Option Addr} {cE : Nat} {E : List Nat} {gt k k' : Nat} {zs : List PM.G} {th : List Bool}
theorem NSt.drewN (h : NSt w dp a cap ts pc D C F n gw cw aE cE E gt k zs th wr) : NSt w dp a cap ts pc D C F n gw cw aE cE E gt k zs th wr.drew :=
  ⟨h.word.drewN 1, h.err.drewN 1, h.there.drewN 1, h.code.drewN 1, h.dice.drewN 1, h.bel.drew⟩
theorem NSt.throw (h : NSt w dp a cap ts pc D C F n gw cw aE cE E gt k zs th wr) (hn : NAt w a ts dp pc gw gt (.slice aE E.length cE)) (hd : Dice W dp a cap ts k') (hg : wr.grownBy W (some dp)) : NSt w dp a cap ts pc D C F n gw cw aE cE E gt k' zs th W := by
  have h1 := hn.o2
  have h2 := hn.o3
  have h3 := hn.o4
  have h4 := hn.o1
  exact ⟨h.word.grown hg (.inr (by intro e; have : gw = dp := Option.some.inj e; omega)), h.err.grown hg (.inr hn.e0), h.there.grown hg (.inr (by intro e; have : gt = dp := Option.some.inj e; omega)), h.code.grown hg (by intro e; cases e; omega), hd, below_dice h.bel hg (by omega) h.bel.size⟩
theorem NSt.setWord (h : NSt w dp a cap ts pc D C F n gw cw aE cE E gt k zs th wr) (hn : NAt w a ts dp pc gw gt (.slice aE E.length cE)) (hl : zs.length = n) (j : Nat) (x : PM.G) : NSt w dp a cap ts pc D C F n gw cw aE cE E gt k (zs.set j x) th (wr.setCell ⟨gw, j, none⟩ (.int .u8 (x.v : Int))) := by
  have h1 := hn.o2
  have h2 := hn.o3
  have h3 := hn.o4
  have h4 := hn.o1
  have hb : Below gw wr (wr.setCell ⟨gw, j, none⟩ (.int .u8 (x.v : Int))) := (Below.refl gw wr).setCell (p := ⟨gw, j, none⟩) (Nat.le_refl gw) _
  refine ⟨?_, h.err.other _ hn.e1, h.there.other _ (by intro e; have : gt = gw := Option.some.inj e; omega), h.code.belowAt hb h2, h.dice.belowAt hb (by omega) hn.far, h.bel.setCell (p := ⟨gw, j, none⟩) (by show w.heap.size ≤ gw; omega) _⟩
  subst hl
  exact h.word.set j x
theorem NSt.setThere (h : NSt w dp a cap ts pc D C F n gw cw aE cE E gt k zs th wr) (hn : NAt w a ts dp pc gw gt (.slice aE E.length cE)) (j : Nat) (x : Bool) : NSt w dp a cap ts pc D C F n gw cw aE cE E gt k zs (th.set j x) (wr.setCell ⟨gt, j, none⟩ (.bool x)) := by
  have h1 := hn.o2
  have h2 := hn.o3
  have h3 := hn.o4
  have h4 := hn.o1
  have hb : Below gt wr (wr.setCell ⟨gt, j, none⟩ (.bool x)) := (Below.refl gt wr).setCell (p := ⟨gt, j, none⟩) (Nat.le_refl gt) _
  exact ⟨h.word.other _ (by intro e; have : gw = gt := Option.some.inj e; omega), h.err.other _ hn.e2, h.there.setB j x, h.code.belowAt hb (by omega), h.dice.belowAt hb (by omega) (fun b off e h0 => Nat.lt_trans (hn.far b off e h0) h3), h.bel.setCell (p := ⟨gt, j, none⟩) (by show w.heap.size ≤ gt; omega) _⟩
/-- The flags are true at the places of E and O. -/
def Flags (n : Nat) (th : List Bool) (P : Nat → Prop) : Prop := th.length = n ∧ ∀ i, i < n → (G.el th i = true ↔ P i)
theorem Flags.start (n : Nat) : Flags n (List.replicate n false) (fun _ => False) := ⟨List.length_replicate, fun i hi => by rw [G.el_lt (by rw [List.length_replicate]; exact hi)]; simp⟩
theorem Flags.set {P : Nat → Prop} (h : Flags n th P) {p : Nat} (hp : p < n) : Flags n (th.set p true) (fun i => i = p ∨ P i) :=
  ⟨by rw [List.length_set]; exact h.1, fun i hi => by
    rw [G.el_set (by rw [h.1]; exact hp)]
    by_cases e : i = p
    · rw [if_pos e]; exact ⟨fun _ => .inl e, fun _ => rfl⟩
    · rw [if_neg e, h.2 i hi]; exact ⟨.inr, fun q => q.resolve_left e⟩⟩
theorem Flags.iff {P Q : Nat → Prop} (h : Flags n th P) (e : ∀ i, P i ↔ Q i) : Flags n th Q := ⟨h.1, fun i hi => (h.2 i hi).trans (e i)⟩
end Go.Proofs.Ytijkgplglfmfnaa.P
