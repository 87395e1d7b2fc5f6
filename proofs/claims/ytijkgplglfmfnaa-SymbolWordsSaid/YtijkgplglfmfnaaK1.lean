/- A range over slices.Backward: what a loop body must keep, and what then holds behind the loop. The field of 256 elements: products, powers of 2, logarithms. Polynomials over the field of 256 elements: coefficients as functions, lists of them, values. Polynomials: products by a monomial, division, divisors, roots. Slices of bytes in memory: what is read, what a call has made itself. poly.trimmed and poly.Valid. math/bits.Len, by the shelf's contract. field's functions that poly calls. poly.addMultiple. Regions that draw their order inside a round of a range over a function: the laws of the plain walk serve there, where no operation defers. No program is named here. poly.Mul. poly.Mul of two polynomials that are not zero: the product lies in memory of the call's own. poly.Mul, where a factor is zero, the product is too long, or a factor is no polynomial. copy into a slice that a call has made; poly.Add. -/
import Derived.RangeFuncNested
import Derived.RangeFuncBound
import Derived.RangeFuncCalls
import Derived.RangeFuncLeaves
import Derived.Shelf.Abstract
import Derived.Shelf.RegionOpen
import Derived.WalkKit
import Derived.OwnWalkIn
import Derived.TacticsInMore
import Derived.LoopNIn
import Derived.LoopIn
import Derived.Test.YtijkgplglfmfnaaProg
import Derived.Laws.OwnMore
import Derived.Laws.CopyOwn
import Derived.Lib.Hide
import Derived.Outline
import Derived.BigQuiet
import Derived.Deep.QuietTactic
import Derived.Laws.ResultCell
import Derived.WalkSpells
import Derived.Shelf.Small.Bits
import Derived.Shelf.Small.Wraps
import Derived.LoopTactic
import Derived.IntWalk
import Derived.Laws.Bits64
import Derived.Deep.RegionLaw
import Derived.OrdersHeld
import Derived.Deep.RegionHeld
import Derived.OrdersIn
import Derived.BigRegionIn
namespace Go.Proofs.Ytijkgplglfmfnaa.P
open Go Go.RowKit Go.Shelf
attribute [local go_sem] Oper.semAt_some

set_option maxRecDepth 100000 in
set_option maxHeartbeats 2000000 in
/-- The closure of slices.Backward: J k: k elements are still to come. -/
theorem back1_in (n : Nat) (hn : 1 ≤ n) (l Bs : Nat) (s : Option Addr) (len cap : Nat) (hlen : len ≤ 9223372036854775807) (J Jx : Nat → World → Prop)
    (hbox : ∀ k W, J k W → W.cell? ⟨Bs, 0, none⟩ = some (.slice s len cap))
    (hY : ∀ k W, J (k + 1) W → k < len → ∃ b off v, s = some ⟨b, off, none⟩ ∧ W.cell? ⟨b, off + k, none⟩ = some (.int .u8 v) ∧
      YieldAt Fence.wide (n - 1) Try.prog l #[.int .i64 (k : Int), .int .u8 v] W fun e W' => (e = .returned (.bool true) ∧ J k W') ∨ (e = .returned (.bool false) ∧ Jx k W'))
    (W : World) (h0 : J len W) :
    CallsIn Fence.wide n Try.prog 90 #[.func (.yield l) #[] #[], .pointer (some ⟨Bs, 0, none⟩)] W fun e W' => (∃ v, e = .returned v) ∧ (J 0 W' ∨ ∃ k, k < len ∧ Jx k W') := by
  refine callsIn_of_wp Try.func90 rfl trivial ?_ rfl
  simp only [Try.ntmps90, List.size_toArray, List.length_cons, List.length_nil, Nat.reduceAdd, Nat.reduceSub, Array.replicate_succ, Array.replicate_zero, List.push_toArray, List.append_toArray, List.nil_append, List.cons_append]
  have hB0 := hbox _ _ h0
  gi_wp2
  gi_loopw [3] (fun i wr => ∃ k : Nat, k ≤ len ∧ i = .int .i64 ((k : Int) - 1) ∧ J k wr) (fun i _ => (intOf i + 1).toNat)
  case atStart => exact ⟨len, Nat.le_refl _, by first | rfl | go_num, h0⟩
  case round =>
    obtain ⟨k, hk, rfl, hJ⟩ := hrel
    cases k with
    | zero =>
      gi_wp2
      go_end0
      exact ⟨⟨_, rfl⟩, .inl hJ⟩
    | succ k =>
      obtain ⟨b, off, v, rfl, hc, fn, tmps, assign, body, hy, hR⟩ := hY k wr hJ (by omega)
      have hbx := hbox _ _ hJ
      have e1 : ((k + 1 : Nat) : Int) - 1 = (k : Int) := by omega
      rw [e1]
      have hk0 : k < len := by omega
      gi_wp2
      refine hR.mono ?_
      rintro e W3 (⟨rfl, hJ3⟩ | ⟨rfl, hJx3⟩)
      · have hbx3 := hbox _ _ hJ3
        gi_wp2
        go_roundw
        case rel => exact ⟨k, by omega, by go_num, hJ3⟩
        case measure => simp [intOf]
      · gi_wp2
        refine bodyPost_ret (results_none rfl _ _ _) rfl ?_
        exact ⟨⟨_, rfl⟩, .inr ⟨k, hk0, hJx3⟩⟩

/-- How the body of a round may be left: k elements are still to come. -/
def backPost (B : Nat) (I : Nat → World → Prop) (Ix : Code → Nat → World → Prop) (k : Nat) (W : World) : Exit → Act → World → Prop
  | .normal, _, W' => KeepsFrom B W W' ∧ I k W'
  | .ret, _, W' => KeepsFrom B W W' ∧ Ix .ret k W'
  | .exit id, _, W' => KeepsFrom B W W' ∧ Ix (.exit id) k W'
  | .goto t, _, W' => KeepsFrom B W W' ∧ Ix (.goto t) k W'
  | .panic _, _, _ => False
  | .outgrown, _, _ => False

/-- **'for i, x := range slices.Backward(s) { body }'.** I k: k elements are still to come; element k is then vs k. -/
theorem wpIn_back {g : Operand} {ps : Array Tmp} {assign body : Code} {Q : Exit → Act → World → Prop} {a : Act} {w : World} {n : Nat} (h3 : 3 ≤ n) {Bs : Nat}
    (hg : a.eval g = .func (.func 90) #[] #[.pointer (some ⟨Bs, 0, none⟩)]) (hps : ps.size = 2) (s : Option Addr) (len cap : Nat) (hlen : len ≤ 9223372036854775807) (vs : Nat → Int)
    (I : Nat → World → Prop) (Ix : Code → Nat → World → Prop) (hI : OwnFrom w.heap.size I) (hIx : ∀ c, OwnFrom w.heap.size (Ix c)) (h0 : I len w)
    (hbox : ∀ k W, I k W → W.cell? ⟨Bs, 0, none⟩ = some (.slice s len cap))
    (hread : ∀ k W, I (k + 1) W → k < len → ∃ b off, s = some ⟨b, off, none⟩ ∧ W.cell? ⟨b, off + k, none⟩ = some (.int .u8 (vs k)))
    (a₁ : Nat → Act)
    (hassign : ∀ (l k : Nat) (W : World) (K : Act → World → Prop), k < len → K (a₁ k) W →
      assign.wpIn (Fence.wide.inRound l) (n - 1 - 1) Try.prog (Exit.then K (fun _ _ _ => False)) { tmps := (ps.zip #[.int .i64 (k : Int), .int .u8 (vs k)]).foldl (fun t (p, v) => t.setIfInBounds p v) a.tmps, defers := [] } W)
    (hbody : ∀ (l k : Nat) (W : World), w.heap.size ≤ l → (∃ r, W.heap[l]? = some (.loop r)) → I (k + 1) W → k < len → body.wpIn (Fence.wide.inRound l) (n - 1 - 1) Try.prog (backPost w.heap.size I Ix k W) (a₁ k) W)
    (hdone : ∀ (D : Nat) (W : World), w.heap.size ≤ D → I 0 W → W.heap[D]? = some (.deferred (some [])) → Q .normal { a with defers := { target := .collected D, args := #[] } :: a.defers } W)
    (hstop : ∀ (D : Nat) (c : Code) (k : Nat) (W : World), w.heap.size ≤ D → k < len → Ix c k W → W.heap[D]? = some (.deferred (some [])) → c.wpIn Fence.wide n Try.prog Q { a with defers := { target := .collected D, args := #[] } :: a.defers } W) :
    (Code.rangeFunc g ps assign body).wpIn Fence.wide n Try.prog Q a w := by
  refine wpIn_rangeFunc ?_
  intro fn hfn
  rw [show Fence.wide.round = none from rfl]
  obtain ⟨rec, hrec⟩ : ∃ rec : LoopState → Option Code → Loop, rec = fun st pe => { state := st, pending := pe, fn, tmps := a.tmps, params := ps, assign, body, defers := w.heap.size } := ⟨_, rfl⟩
  obtain ⟨W1, hW1⟩ : ∃ W1, (w.alloc (.deferred (some []))).alloc (.loop (rec .ready none)) = W1 := ⟨_, rfl⟩
  have hL1 : W1.heap[w.heap.size + 1]? = some (.loop (rec .ready none)) := by
    rw [← hW1]; have := World.alloc_heap_new (w.alloc (.deferred (some []))) (.loop (rec .ready none)); rwa [World.size_alloc] at this
  have hK1 : W1.heap[w.heap.size]? = some (.deferred (some [])) := by
    rw [← hW1]; exact (Below.heap_alloc _ _ _ (by simp)).trans (World.alloc_heap_new w _)
  have hI1 : I len W1 := by rw [← hW1]; exact hI.alloc _ (hI.alloc _ h0)
  refine ⟨w.heap.size + 1, [{ target := .collected w.heap.size, args := #[] }], W1, { target := .fn (.func 90) #[.pointer (some ⟨Bs, 0, none⟩)], args := #[.func (.yield (w.heap.size + 1)) #[] #[]] }, W1, 90,
    #[.func (.yield (w.heap.size + 1)) #[] #[]] ++ #[.pointer (some ⟨Bs, 0, none⟩)], W1, ?_, ?_, ?_, ?_, fun _ => (by omega), ?_⟩
  · rw [← hW1, hrec]; exact run_enterLoop_outer _ _ _ _ _
  · simp only [resolve, hg]
    simp [go_sem]
  · intro f' hf'; trivial
  · simp [invoke, go_sem]
  · refine (back1_in (n - 1) (by omega) (w.heap.size + 1) Bs s len cap hlen
      (fun k W => I k W ∧ W.heap[w.heap.size + 1]? = some (.loop (rec .ready none)) ∧ W.heap[w.heap.size]? = some (.deferred (some [])))
      (fun k W => ∃ c, Ix c k W ∧ W.heap[w.heap.size + 1]? = some (.loop (rec .done (some c))) ∧ W.heap[w.heap.size]? = some (.deferred (some [])))
      (fun k W h => hbox k W h.1) ?_ W1 ⟨hI1, hL1, hK1⟩).mono ?_
    · rintro k W ⟨hi, hl, hk⟩ hlt
      obtain ⟨b, off, hs, hc⟩ := hread k W hi hlt
      refine ⟨b, off, vs k, hs, hc, ?_⟩
      have hy := run_yield (P := Try.prog) (args := #[.int .i64 (k : Int), .int .u8 (vs k)]) hl (by rw [hrec]; exact hps.symm)
      rw [hrec] at hy
      refine ⟨fn, _, assign, body, hy, roundIn_of_wpIn hfn (hassign _ k W _ hlt ?_)⟩
      clear hy
      have hlt2 : w.heap.size + 1 < W.heap.size := (Array.getElem?_eq_some_iff.1 hl).1
      refine ⟨_, run_beginRound hl (by rw [hrec]), ?_⟩
      have hl2 : (W.putObj (w.heap.size + 1) (.loop { rec .ready none with state := .busy })).heap[w.heap.size + 1]? = some (.loop { rec .ready none with state := .busy }) := World.putObj_heap_same hlt2
      have hk2 : (W.putObj (w.heap.size + 1) (.loop { rec .ready none with state := .busy })).heap[w.heap.size]? = some (.deferred (some [])) := (World.putObj_heap_other (by omega)).trans hk
      refine wpIn_mono (hbody _ k _ (by omega) ⟨_, hl2⟩ (hI.putObj _ hi (by omega) hl rfl) hlt) ?_
      have fin : ∀ (jump : Option Code) (W3 : World), KeepsFrom w.heap.size (W.putObj (w.heap.size + 1) (.loop { rec .ready none with state := .busy })) W3 →
          (Instr.endRound (w.heap.size + 1) jump).run Try.prog W3 = .ok (.bool jump.isNone) (W3.putObj (w.heap.size + 1) (.loop (rec (if jump.isNone then .ready else .done) jump))) ∧
          W3.heap[w.heap.size + 1]? = some (.loop { rec .ready none with state := .busy }) ∧
          (W3.putObj (w.heap.size + 1) (.loop (rec (if jump.isNone then .ready else .done) jump))).heap[w.heap.size + 1]? = some (.loop (rec (if jump.isNone then .ready else .done) jump)) ∧
          (W3.putObj (w.heap.size + 1) (.loop (rec (if jump.isNone then .ready else .done) jump))).heap[w.heap.size]? = some (.deferred (some [])) := fun jump W3 hk3 => by
        have hl3 := hk3.same _ _ (by omega) hl2 rfl
        have := run_endRound (P := Try.prog) jump hl3
        rw [hrec] at this ⊢
        exact ⟨this, by rw [hrec] at hl3; exact hl3, World.putObj_heap_same (Array.getElem?_eq_some_iff.1 hl3).1, (World.putObj_heap_other (by omega)).trans (hk3.same _ _ (Nat.le_refl _) hk2 rfl)⟩
      rintro e a3 W3 hp
      cases e with
      | normal =>
        obtain ⟨hk3, hi3⟩ := hp
        obtain ⟨hr, hl3, hl4, hk4⟩ := fin none W3 hk3
        exact ⟨_, _, hr, .inl ⟨rfl, hI.putObj _ hi3 (by omega) hl3 rfl, hl4, hk4⟩⟩
      | ret =>
        obtain ⟨hk3, hi3⟩ := hp
        obtain ⟨hr, hl3, hl4, hk4⟩ := fin (some .ret) W3 hk3
        exact ⟨_, _, hr, .inr ⟨rfl, .ret, (hIx _).putObj _ hi3 (by omega) hl3 rfl, hl4, hk4⟩⟩
      | exit id =>
        obtain ⟨hk3, hi3⟩ := hp
        obtain ⟨hr, hl3, hl4, hk4⟩ := fin (some (.exit id)) W3 hk3
        exact ⟨_, _, hr, .inr ⟨rfl, .exit id, (hIx _).putObj _ hi3 (by omega) hl3 rfl, hl4, hk4⟩⟩
      | goto t =>
        obtain ⟨hk3, hi3⟩ := hp
        obtain ⟨hr, hl3, hl4, hk4⟩ := fin (some (.goto t)) W3 hk3
        exact ⟨_, _, hr, .inr ⟨rfl, .goto t, (hIx _).putObj _ hi3 (by omega) hl3 rfl, hl4, hk4⟩⟩
      | panic ch => exact hp.elim
      | outgrown => exact hp.elim
    · rintro e W2 ⟨⟨v, rfl⟩, (⟨hi, hl, hk⟩ | ⟨k, hlt, c, hi, hl, hk⟩)⟩
      · exact ⟨none, _, by have := run_endLoop (P := Try.prog) hl (by rw [hrec]; simp); rw [hrec] at this; exact this, hdone _ _ (Nat.le_refl _) (hI.putObj _ hi (by omega) hl rfl) ((World.putObj_heap_other (by omega)).trans hk)⟩
      · exact ⟨some c, _, by have := run_endLoop (P := Try.prog) hl (by rw [hrec]; simp); rw [hrec] at this; exact this, hstop _ c k _ (Nat.le_refl _) hlt ((hIx c).putObj _ hi (by omega) hl rfl) ((World.putObj_heap_other (by omega)).trans hk)⟩

/-- **slices.Backward(s)**: the slice value is boxed; the function value captures the box. -/
theorem backward_any (s : Option Addr) (len cap : Nat) (w : World) :
    Calls Try.prog 79 #[.slice s len cap] w fun e w' => e = .returned (.func (.func 90) #[] #[.pointer (some ⟨w.heap.size, 0, none⟩)]) ∧ w' = w.alloc (.cells #[.slice s len cap] 30) := by
  go_enter Try.func79, Try.ntmps79
  go_wp2
  go_ret
  exact ⟨rfl, rfl⟩
end Go.Proofs.Ytijkgplglfmfnaa.P

namespace Go.Proofs.Ytijkgplglfmfnaa.FM

/-- a times 2. -/
def dbl (a : Nat) : Nat := (a * 2 % 256) ^^^ (a / 128 * 29)
def bitOf (b k a : Nat) : Nat := if b.testBit k then a else 0
/-- The product by Horner's rule, the k highest bits of b. -/
def mulTo (a b : Nat) : Nat → Nat
  | 0 => 0
  | k + 1 => dbl (mulTo a b k) ^^^ bitOf b (7 - k) a
def mul (a b : Nat) : Nat := mulTo a b 8
def dblN : Nat → Nat → Nat
  | 0, a => a
  | k + 1, a => dbl (dblN k a)
/-- The powers of 2. -/
def E (n : Nat) : Nat := dblN n 1
/-- The reference's product, the k lowest bits of b. -/
def rmulTo (a b : Nat) : Nat → Nat
  | 0 => 0
  | k + 1 => rmulTo a b k ^^^ bitOf b k (dblN k a)

theorem dbl_lt' : ∀ a : Fin 256, dbl a.val < 256 := by decide +kernel
theorem dbl_lt {a : Nat} (h : a < 256) : dbl a < 256 := dbl_lt' ⟨a, h⟩
theorem xor_lt {a b : Nat} (ha : a < 256) (hb : b < 256) : a ^^^ b < 256 := Nat.xor_lt_two_pow (n := 8) ha hb
set_option maxRecDepth 100000 in
theorem dbl_xor' : ∀ a b : Fin 256, dbl (a.val ^^^ b.val) = dbl a.val ^^^ dbl b.val := by decide +kernel
theorem dbl_xor {a b : Nat} (ha : a < 256) (hb : b < 256) : dbl (a ^^^ b) = dbl a ^^^ dbl b := dbl_xor' ⟨a, ha⟩ ⟨b, hb⟩
theorem bitOf_lt {b k a : Nat} (ha : a < 256) : bitOf b k a < 256 := by unfold bitOf; split <;> omega
theorem mulTo_lt {a b : Nat} (ha : a < 256) : ∀ k, mulTo a b k < 256
  | 0 => by simp [mulTo]
  | k + 1 => xor_lt (dbl_lt (mulTo_lt ha k)) (bitOf_lt ha)
theorem mul_lt {a b : Nat} (ha : a < 256) : mul a b < 256 := mulTo_lt ha 8
theorem dblN_lt {a : Nat} (ha : a < 256) : ∀ k, dblN k a < 256
  | 0 => ha
  | k + 1 => dbl_lt (dblN_lt ha k)
theorem E_lt (n : Nat) : E n < 256 := dblN_lt (by decide) n
theorem xor4 (p q r s : Nat) : (p ^^^ q) ^^^ (r ^^^ s) = (p ^^^ r) ^^^ (q ^^^ s) := by
  rw [Nat.xor_assoc, Nat.xor_assoc, ← Nat.xor_assoc q r s, Nat.xor_comm q r, Nat.xor_assoc r q s]
theorem bitOf_xor_r (b c k a : Nat) : bitOf (b ^^^ c) k a = bitOf b k a ^^^ bitOf c k a := by
  unfold bitOf; rw [Nat.testBit_xor]
  cases b.testBit k <;> cases c.testBit k <;> simp
theorem bitOf_xor_l (b k a c : Nat) : bitOf b k (a ^^^ c) = bitOf b k a ^^^ bitOf b k c := by
  unfold bitOf; split <;> simp
theorem mulTo_xor_r {a : Nat} (ha : a < 256) (b c : Nat) : ∀ k, mulTo a (b ^^^ c) k = mulTo a b k ^^^ mulTo a c k
  | 0 => by simp [mulTo]
  | k + 1 => by
    simp only [mulTo]
    rw [mulTo_xor_r ha b c k, dbl_xor (mulTo_lt ha k) (mulTo_lt ha k), bitOf_xor_r, xor4]
theorem mulTo_xor_l {a c : Nat} (ha : a < 256) (hc : c < 256) (b : Nat) : ∀ k, mulTo (a ^^^ c) b k = mulTo a b k ^^^ mulTo c b k
  | 0 => by simp [mulTo]
  | k + 1 => by
    simp only [mulTo]
    rw [mulTo_xor_l ha hc b k, dbl_xor (mulTo_lt ha k) (mulTo_lt hc k), bitOf_xor_l, xor4]
theorem mul_xor_r {a : Nat} (ha : a < 256) (b c : Nat) : mul a (b ^^^ c) = mul a b ^^^ mul a c := mulTo_xor_r ha b c 8
theorem mul_xor_l {a c : Nat} (ha : a < 256) (hc : c < 256) (b : Nat) : mul (a ^^^ c) b = mul a b ^^^ mul c b := mulTo_xor_l ha hc b 8
theorem dblN_xor {a c : Nat} (ha : a < 256) (hc : c < 256) : ∀ k, dblN k (a ^^^ c) = dblN k a ^^^ dblN k c
  | 0 => rfl
  | k + 1 => by simp only [dblN]; rw [dblN_xor ha hc k, dbl_xor (dblN_lt ha k) (dblN_lt hc k)]
theorem rmulTo_xor_l {a c : Nat} (ha : a < 256) (hc : c < 256) (b : Nat) : ∀ k, rmulTo (a ^^^ c) b k = rmulTo a b k ^^^ rmulTo c b k
  | 0 => by simp [rmulTo]
  | k + 1 => by simp only [rmulTo]; rw [rmulTo_xor_l ha hc b k, dblN_xor ha hc, bitOf_xor_l, xor4]

theorem top_bit : ∀ n : Fin 8, ∀ a : Fin 256, 2 ^ n.val ≤ a.val → a.val < 2 ^ (n.val + 1) → 2 ^ n.val ^^^ (a.val - 2 ^ n.val) = a.val := by decide +kernel
/-- Two additive functions that agree at the eight bits agree at all bytes. -/
theorem add_ext {f g : Nat → Nat} (hf : ∀ a b, a < 256 → b < 256 → f (a ^^^ b) = f a ^^^ f b) (hg : ∀ a b, a < 256 → b < 256 → g (a ^^^ b) = g a ^^^ g b)
    (h : ∀ k, k < 8 → f (2 ^ k) = g (2 ^ k)) : ∀ a, a < 256 → f a = g a := by
  have f0 : f 0 = 0 := by have := hf 0 0 (by decide) (by decide); simpa using this
  have g0 : g 0 = 0 := by have := hg 0 0 (by decide) (by decide); simpa using this
  have : ∀ n, n ≤ 8 → ∀ a, a < 2 ^ n → f a = g a := by
    intro n
    induction n with
    | zero => intro _ a ha; have : a = 0 := by simpa using ha
              rw [this, f0, g0]
    | succ n ih =>
      intro hn a ha
      have hp : 2 ^ (n + 1) ≤ 256 := Nat.pow_le_pow_right (n := 2) (by decide) hn
      have hs : 2 ^ (n + 1) = 2 ^ n * 2 := Nat.pow_succ 2 n
      by_cases hl : a < 2 ^ n
      · exact ih (by omega) a hl
      · have e := top_bit ⟨n, by omega⟩ ⟨a, by omega⟩ (by simpa using hl) ha
        simp only at e
        rw [← e, hf _ _ (by omega) (by omega), hg _ _ (by omega) (by omega), h n (by omega), ih (by omega) (a - 2 ^ n) (by omega)]
  intro a ha
  exact this 8 (Nat.le_refl _) a ha

theorem mul_dbl_bits : ∀ a : Fin 256, ∀ k : Fin 8, mul a.val (dbl (2 ^ k.val)) = dbl (mul a.val (2 ^ k.val)) := by decide +kernel
theorem mul_dbl {a b : Nat} (ha : a < 256) (hb : b < 256) : mul a (dbl b) = dbl (mul a b) :=
  add_ext (f := fun b => mul a (dbl b)) (g := fun b => dbl (mul a b))
    (fun p q hp hq => by show mul a (dbl (p ^^^ q)) = _; rw [dbl_xor hp hq, mul_xor_r ha]) (fun p q _ _ => by show dbl (mul a (p ^^^ q)) = _; rw [mul_xor_r ha, dbl_xor (mul_lt ha) (mul_lt ha)])
    (fun k hk => mul_dbl_bits ⟨a, ha⟩ ⟨k, hk⟩) b hb
theorem mul_one' : ∀ a : Fin 256, mul a.val 1 = a.val ∧ mul a.val 0 = 0 ∧ mul 0 a.val = 0 := by decide +kernel
theorem mul_one {a : Nat} (ha : a < 256) : mul a 1 = a := (mul_one' ⟨a, ha⟩).1
theorem mul_zero {a : Nat} (ha : a < 256) : mul a 0 = 0 := (mul_one' ⟨a, ha⟩).2.1
theorem zero_mul {a : Nat} (ha : a < 256) : mul 0 a = 0 := (mul_one' ⟨a, ha⟩).2.2
theorem mul_E {a : Nat} (ha : a < 256) : ∀ j, mul a (E j) = dblN j a
  | 0 => mul_one ha
  | j + 1 => by
    show mul a (dbl (E j)) = dbl (dblN j a)
    rw [mul_dbl ha (E_lt j), mul_E ha j]
theorem dblN_E (i : Nat) : ∀ j, dblN j (E i) = E (i + j)
  | 0 => rfl
  | j + 1 => by show dbl (dblN j (E i)) = dbl (E (i + j)); rw [dblN_E i j]
theorem E_mul (i j : Nat) : mul (E i) (E j) = E (i + j) := by rw [mul_E (E_lt i), dblN_E]
theorem E_255 : E 255 = 1 := by decide +kernel
theorem E_add (i : Nat) : E (i + 255) = E i := by
  rw [← E_mul, E_255, mul_one (E_lt i)]
theorem E_mul255 (i : Nat) : ∀ k, E (i + 255 * k) = E i
  | 0 => rfl
  | k + 1 => by rw [show i + 255 * (k + 1) = (i + 255 * k) + 255 by omega, E_add, E_mul255 i k]
theorem E_mod (i : Nat) : E (i % 255) = E i := by
  rw [← E_mul255 (i % 255) (i / 255)]; congr 1; omega
theorem E_congr {i j : Nat} (h : i % 255 = j % 255) : E i = E j := by rw [← E_mod i, h, E_mod]

/-- The logarithm: the first n from k on, at most f of them, with E n = a, beginning at x = E k. -/
def lgFrom (a : Nat) : Nat → Nat → Nat → Nat
  | 0, k, _ => k
  | f + 1, k, x => if x = a then k else lgFrom a f (k + 1) (dbl x)
def lg (a : Nat) : Nat := lgFrom a 255 0 1
theorem lg_all : ∀ a : Fin 256, a.val ≠ 0 → lg a.val < 255 ∧ E (lg a.val) = a.val := by decide +kernel
theorem lg_lt {a : Nat} (h : a < 256) (h0 : a ≠ 0) : lg a < 255 := (lg_all ⟨a, h⟩ h0).1
theorem E_lg {a : Nat} (h : a < 256) (h0 : a ≠ 0) : E (lg a) = a := (lg_all ⟨a, h⟩ h0).2
theorem lg_E' : ∀ i : Fin 255, lg (E i.val) = i.val ∧ E i.val ≠ 0 := by decide +kernel
theorem lg_E {i : Nat} (h : i < 255) : lg (E i) = i := (lg_E' ⟨i, h⟩).1
theorem E_ne (i : Nat) : E i ≠ 0 := by
  rw [← E_mod]; exact (lg_E' ⟨i % 255, Nat.mod_lt _ (by decide)⟩).2
theorem lg_E_mod (i : Nat) : lg (E i) = i % 255 := by rw [← E_mod, lg_E (Nat.mod_lt _ (by decide))]
theorem E_inj {i j : Nat} (h : E i = E j) : i % 255 = j % 255 := by rw [← lg_E_mod, h, lg_E_mod]

theorem mul_comm {a b : Nat} (ha : a < 256) (hb : b < 256) : mul a b = mul b a := by
  by_cases a0 : a = 0
  · rw [a0, zero_mul hb, mul_zero hb]
  by_cases b0 : b = 0
  · rw [b0, zero_mul ha, mul_zero ha]
  rw [← E_lg ha a0, ← E_lg hb b0, E_mul, E_mul, Nat.add_comm]
theorem mul_assoc {a b c : Nat} (ha : a < 256) (hb : b < 256) (hc : c < 256) : mul a (mul b c) = mul (mul a b) c := by
  by_cases a0 : a = 0
  · rw [a0, zero_mul (mul_lt hb), zero_mul hb, zero_mul hc]
  by_cases b0 : b = 0
  · rw [b0, zero_mul hc, mul_zero ha, zero_mul hc]
  by_cases c0 : c = 0
  · rw [c0, mul_zero hb, mul_zero ha, mul_zero (mul_lt ha)]
  rw [← E_lg ha a0, ← E_lg hb b0, ← E_lg hc c0, E_mul, E_mul, E_mul, E_mul, Nat.add_assoc]

theorem rmul_bits : ∀ k : Fin 8, ∀ b : Fin 256, rmulTo (2 ^ k.val) b.val 8 = mul (2 ^ k.val) b.val := by decide +kernel
theorem rmul_eq {a b : Nat} (ha : a < 256) (hb : b < 256) : rmulTo a b 8 = mul a b :=
  add_ext (f := fun a => rmulTo a b 8) (g := fun a => mul a b) (fun _ _ hp hq => rmulTo_xor_l hp hq b 8) (fun _ _ hp hq => mul_xor_l hp hq b)
    (fun k hk => rmul_bits ⟨k, hk⟩ ⟨b, hb⟩) a ha
theorem sq_xor {a b : Nat} (ha : a < 256) (hb : b < 256) : mul (a ^^^ b) (a ^^^ b) = mul a a ^^^ mul b b := by
  rw [mul_xor_l ha hb, mul_xor_r ha, mul_xor_r hb, mul_comm hb ha, xor4, ← xor4, ← Nat.xor_assoc, Nat.xor_assoc (mul a a), Nat.xor_self, Nat.xor_zero]

/-- The powers by squares: what the low k bits of n have made. -/
theorem pow_step1 (i n k : Nat) (h : n / 2 ^ k % 2 = 1) : mul (E (i * (n % 2 ^ k))) (E (i * 2 ^ k)) = E (i * (n % 2 ^ (k + 1))) := by
  rw [E_mul, ← Nat.mul_add, Nat.pow_succ, Nat.mod_mul, h, Nat.mul_one]
theorem pow_step0 (i n k : Nat) (h : n / 2 ^ k % 2 ≠ 1) : E (i * (n % 2 ^ k)) = E (i * (n % 2 ^ (k + 1))) := by
  have h0 : n / 2 ^ k % 2 = 0 := by omega
  rw [Nat.pow_succ, Nat.mod_mul, h0, Nat.mul_zero, Nat.add_zero]
theorem pow_sq (i k : Nat) : mul (E (i * 2 ^ k)) (E (i * 2 ^ k)) = E (i * 2 ^ (k + 1)) := by
  rw [E_mul, ← Nat.mul_add, Nat.pow_succ]; congr 2; omega
/-- An exponent modulo 255, from 0 on. -/
def cyc (n : Int) : Nat := (n % 255).toNat
theorem cyc_lt (n : Int) : cyc n < 255 := by unfold cyc; omega
theorem cyc_int (n : Int) : (cyc n : Int) = n % 255 := by unfold cyc; omega
/-- a to the power of n, for an a that is not 0. -/
def pw (a n : Nat) : Nat := E (lg a * n)
theorem pw_lt (a n : Nat) : pw a n < 256 := E_lt _
def invV (a : Nat) : Nat := if a = 0 then 0 else pw a 254
def errZ (a : Nat) : Int := if a = 0 then 4 else 0
def divV (a b : Nat) : Nat := if b = 0 then 0 else mul a (invV b)
def powV (a : Nat) (n : Int) : Nat := if a = 0 then (if n = 0 then 1 else 0) else pw a (cyc n)
def powE (a : Nat) (n : Int) : Int := if a = 0 then (if n < 0 then 4 else 0) else 0
def logV (a : Nat) : Nat := if a = 0 then 0 else lg a
theorem invV_lt (a : Nat) : invV a < 256 := by unfold invV; split; · decide
                                               · exact pw_lt _ _
theorem powV_lt (a : Nat) (n : Int) : powV a n < 256 := by
  unfold powV; split
  · split <;> decide
  · exact pw_lt _ _
theorem divV_lt {a b : Nat} (ha : a < 256) : divV a b < 256 := by unfold divV; split; · decide
                                                                  · exact mul_lt ha
theorem lg_two : lg 2 = 1 := by decide +kernel
end Go.Proofs.Ytijkgplglfmfnaa.FM

namespace Go.Proofs.Ytijkgplglfmfnaa.PM

/-- An element of the field. -/
structure G where
  v : Nat
  lt : v < 256
namespace G
theorem ext' {a b : G} (h : a.v = b.v) : a = b := by cases a; cases b; cases h; rfl
instance : DecidableEq G := fun a b => if h : a.v = b.v then isTrue (ext' h) else isFalse (fun e => h (by rw [e]))
instance : Add G := ⟨fun a b => ⟨a.v ^^^ b.v, FM.xor_lt a.lt b.lt⟩⟩
instance : Mul G := ⟨fun a b => ⟨FM.mul a.v b.v, FM.mul_lt a.lt⟩⟩
def z : G := ⟨0, by decide⟩
def one : G := ⟨1, by decide⟩
instance : Zero G := ⟨z⟩
instance : Inhabited G := ⟨z⟩
theorem add_v (a b : G) : (a + b).v = a.v ^^^ b.v := rfl
theorem mul_v (a b : G) : (a * b).v = FM.mul a.v b.v := rfl
theorem zero_v : (0 : G).v = 0 := rfl
theorem v_zero {a : G} : a.v = 0 ↔ a = 0 := ⟨fun h => ext' h, fun h => by rw [h]; rfl⟩
theorem add_comm (a b : G) : a + b = b + a := ext' (Nat.xor_comm _ _)
theorem add_assoc (a b c : G) : a + b + c = a + (b + c) := ext' (Nat.xor_assoc _ _ _)
theorem add_left_comm (a b c : G) : a + (b + c) = b + (a + c) := by rw [← add_assoc, add_comm a b, add_assoc]
theorem add_zero (a : G) : a + 0 = a := ext' (Nat.xor_zero _)
theorem zero_add (a : G) : 0 + a = a := ext' (Nat.zero_xor _)
theorem add_self (a : G) : a + a = 0 := ext' (Nat.xor_self _)
theorem mul_comm (a b : G) : a * b = b * a := ext' (FM.mul_comm a.lt b.lt)
theorem mul_assoc (a b c : G) : a * b * c = a * (b * c) := ext' (FM.mul_assoc a.lt b.lt c.lt).symm
theorem mul_left_comm (a b c : G) : a * (b * c) = b * (a * c) := by rw [← mul_assoc, mul_comm a b, mul_assoc]
theorem mul_add (a b c : G) : a * (b + c) = a * b + a * c := ext' (FM.mul_xor_r a.lt _ _)
theorem add_mul (a b c : G) : (a + b) * c = a * c + b * c := ext' (FM.mul_xor_l a.lt b.lt _)
theorem mul_zero (a : G) : a * 0 = 0 := ext' (FM.mul_zero a.lt)
theorem zero_mul (a : G) : 0 * a = 0 := ext' (FM.zero_mul a.lt)
theorem mul_one (a : G) : a * one = a := ext' (FM.mul_one a.lt)
theorem one_mul (a : G) : one * a = a := by rw [mul_comm, mul_one]
theorem mul_ne {a b : G} (ha : a ≠ 0) (hb : b ≠ 0) : a * b ≠ 0 := by
  intro h
  have h1 := congrArg G.v h
  rw [mul_v, ← FM.E_lg a.lt (fun e => ha (ext' e)), ← FM.E_lg b.lt (fun e => hb (ext' e)), FM.E_mul] at h1
  exact FM.E_ne _ h1
theorem mul_eq_zero {a b : G} : a * b = 0 ↔ a = 0 ∨ b = 0 := by
  constructor
  · intro h
    by_cases ha : a = 0
    · exact .inl ha
    · by_cases hb : b = 0
      · exact .inr hb
      · exact absurd h (mul_ne ha hb)
  · rintro (rfl | rfl)
    · exact zero_mul _
    · exact mul_zero _
theorem add_eq_zero {a b : G} : a + b = 0 ↔ a = b := by
  constructor
  · intro h
    have : a + b + b = 0 + b := by rw [h]
    rwa [add_assoc, add_self, add_zero, zero_add] at this
  · rintro rfl; exact add_self _
theorem add_cancel (a b : G) : a + (a + b) = b := by rw [← add_assoc, add_self, zero_add]
theorem add4 (a b c d : G) : (a + b) + (c + d) = (a + c) + (b + d) := by
  rw [add_assoc, add_assoc, add_left_comm b c d]
/-- The inverse. -/
def inv (a : G) : G := ⟨FM.invV a.v, FM.invV_lt _⟩
theorem mul_inv {a : G} (h : a ≠ 0) : a * a.inv = one := by
  refine ext' ?_
  have h0 : a.v ≠ 0 := fun e => h (ext' e)
  show FM.mul a.v (FM.invV a.v) = 1
  unfold FM.invV FM.pw
  rw [if_neg h0]
  have e1 := FM.E_lg a.lt h0
  have e2 := FM.E_mul (FM.lg a.v) (FM.lg a.v * 254)
  rw [e1] at e2
  rw [e2, show FM.lg a.v + FM.lg a.v * 254 = 0 + 255 * FM.lg a.v by omega, FM.E_mul255]
  rfl
theorem one_ne : one ≠ (0 : G) := by intro h; have := congrArg G.v h; exact absurd this (by decide)
theorem inv_ne {a : G} (h : a ≠ 0) : a.inv ≠ 0 := by
  intro e; have := mul_inv h; rw [e, mul_zero] at this; exact one_ne this.symm
end G
open G

abbrev Co := Nat → G
/-- Shift down, shift up. -/
def sh (f : Co) : Co := fun k => f (k + 1)
def up (f : Co) : Co := fun k => match k with | 0 => 0 | k + 1 => f k
def addC (f g : Co) : Co := fun k => f k + g k
def smul (c : G) (f : Co) : Co := fun k => c * f k
def zeroC : Co := fun _ => 0
/-- The product. -/
def conv : Co → Co → Co := fun f g k => match k with
  | 0 => f 0 * g 0
  | k + 1 => f 0 * g (k + 1) + conv (sh f) g k
/-- The derivative. -/
def der (f : Co) : Co := fun k => if k % 2 = 0 then f (k + 1) else 0

theorem conv_zero (f g : Co) : conv f g 0 = f 0 * g 0 := by rw [conv]
theorem conv_succ (f g : Co) (k : Nat) : conv f g (k + 1) = f 0 * g (k + 1) + conv (sh f) g k := by rw [conv]
theorem conv_add_l (f g h : Co) : ∀ k, conv (addC f g) h k = conv f h k + conv g h k := by
  intro k
  induction k generalizing f g with
  | zero => rw [conv_zero, conv_zero, conv_zero]; exact add_mul _ _ _
  | succ k ih =>
    rw [conv_succ, conv_succ, conv_succ, show sh (addC f g) = addC (sh f) (sh g) from rfl, ih, show addC f g 0 = f 0 + g 0 from rfl, add_mul, add4]
theorem conv_smul_l (c : G) (f h : Co) : ∀ k, conv (smul c f) h k = c * conv f h k := by
  intro k
  induction k generalizing f with
  | zero => rw [conv_zero, conv_zero]; exact mul_assoc _ _ _
  | succ k ih =>
    rw [conv_succ, conv_succ, show sh (smul c f) = smul c (sh f) from rfl, ih, show smul c f 0 = c * f 0 from rfl, mul_add, mul_assoc]
theorem conv_zeroC_l (h : Co) : ∀ k, conv zeroC h k = 0 := by
  intro k
  induction k with
  | zero => rw [conv_zero]; exact zero_mul _
  | succ k ih => rw [conv_succ, show sh zeroC = zeroC from rfl, ih, show zeroC 0 = 0 from rfl, zero_mul, add_zero]
theorem conv_succ_r (f g : Co) : ∀ k, conv f g (k + 1) = f (k + 1) * g 0 + conv f (sh g) k := by
  intro k
  induction k generalizing f with
  | zero => rw [conv_succ, conv_zero, conv_zero, add_comm]; rfl
  | succ k ih =>
    rw [conv_succ, ih, conv_succ, show sh f (k + 1) = f (k + 1 + 1) from rfl, show sh g (k + 1) = g (k + 1 + 1) from rfl, add_left_comm]
theorem conv_comm (f g : Co) : ∀ k, conv f g k = conv g f k := by
  intro k
  induction k generalizing f g with
  | zero => rw [conv_zero, conv_zero, mul_comm]
  | succ k ih => rw [conv_succ, conv_succ_r g f, ih, mul_comm]
theorem conv_add_r (f g h : Co) (k : Nat) : conv f (addC g h) k = conv f g k + conv f h k := by
  rw [conv_comm, conv_add_l, conv_comm g, conv_comm h]
theorem conv_smul_r (c : G) (f h : Co) (k : Nat) : conv f (smul c h) k = c * conv f h k := by
  rw [conv_comm, conv_smul_l, conv_comm]
theorem sh_conv (f g : Co) : sh (conv f g) = addC (smul (f 0) (sh g)) (conv (sh f) g) := by
  funext k; exact conv_succ f g k
theorem conv_assoc (f g h : Co) : ∀ k, conv (conv f g) h k = conv f (conv g h) k := by
  intro k
  induction k generalizing f g with
  | zero => rw [conv_zero, conv_zero, conv_zero, conv_zero, mul_assoc]
  | succ k ih =>
    rw [conv_succ, sh_conv, conv_add_l, conv_smul_l, ih, conv_succ f, conv_zero, conv_succ g, mul_add, mul_assoc, add_assoc]
theorem conv_up_zero (f g : Co) : conv (up f) g 0 = 0 := by rw [conv_zero]; exact zero_mul _
theorem conv_up_succ (f g : Co) (k : Nat) : conv (up f) g (k + 1) = conv f g k := by
  rw [conv_succ, show sh (up f) = f from rfl, show up f 0 = 0 from rfl, zero_mul, zero_add]
theorem der_addC (f g : Co) (k : Nat) : der (addC f g) k = der f k + der g k := by
  unfold der addC; split
  · rfl
  · rw [add_zero]
theorem der_smul (c : G) (f : Co) (k : Nat) : der (smul c f) k = c * der f k := by
  unfold der smul; split
  · rfl
  · rw [mul_zero]
theorem der_up (h : Co) (k : Nat) : der (up h) k = h k + up (der h) k := by
  cases k with
  | zero => show (if 0 % 2 = 0 then h 0 else 0) = h 0 + 0; rw [add_zero]; rfl
  | succ k =>
    show (if (k + 1) % 2 = 0 then h (k + 1) else 0) = h (k + 1) + (if k % 2 = 0 then h (k + 1) else 0)
    by_cases e : k % 2 = 0
    · rw [if_neg (by omega), if_pos e, add_self]
    · rw [if_pos (by omega), if_neg e, add_zero]
theorem der_eq (f : Co) (k : Nat) : der f k = sh f k + up (der (sh f)) k := by
  have h := der_up (sh f) k
  rw [← h]; unfold der; rfl
theorem der_conv_eq (f g : Co) (k : Nat) : der (conv f g) k = f 0 * der g k + der (up (conv (sh f) g)) k := by
  rw [← der_smul, ← der_addC]
  unfold der addC smul
  split
  · rw [conv_succ]; rfl
  · rfl
theorem der_conv (f g : Co) : ∀ k, der (conv f g) k = conv (der f) g k + conv f (der g) k := by
  intro k
  induction k generalizing f with
  | zero =>
    rw [der_conv_eq, der_up, show up (der (conv (sh f) g)) 0 = 0 from rfl, conv_zero, conv_zero, conv_zero, add_zero, show der f 0 = sh f 0 from rfl, add_comm]
  | succ k ih =>
    have e1 : der f = addC (sh f) (up (der (sh f))) := by funext j; exact der_eq f j
    rw [der_conv_eq, der_up, show up (der (conv (sh f) g)) (k + 1) = der (conv (sh f) g) k from rfl, ih, e1, conv_add_l, conv_up_succ, conv_succ f (der g)]
    generalize f 0 * der g (k + 1) = a, conv (sh f) g (k + 1) = b, conv (der (sh f)) g k = c, conv (sh f) (der g) k = d
    rw [add_left_comm a b, add_left_comm a c, add_assoc b]

/-- From n on all coefficients are 0. -/
def Van (f : Co) (n : Nat) : Prop := ∀ k, n ≤ k → f k = 0
theorem Van.mono {f : Co} {m n : Nat} (h : Van f m) (hm : m ≤ n) : Van f n := fun k hk => h k (by omega)
theorem Van.sh {f : Co} {n : Nat} (h : Van f (n + 1)) : Van (sh f) n := fun k hk => h (k + 1) (by omega)
theorem van_zero {f : Co} (h : Van f 0) : f = zeroC := by funext k; exact h k (Nat.zero_le _)
theorem Van.addC {f g : Co} {n : Nat} (hf : Van f n) (hg : Van g n) : Van (addC f g) n := fun k hk => by
  show f k + g k = 0; rw [hf k hk, hg k hk, add_zero]
theorem Van.smul {f : Co} {n : Nat} (hf : Van f n) (c : G) : Van (smul c f) n := fun k hk => by
  show c * f k = 0; rw [hf k hk, mul_zero]
theorem Van.der {f : Co} {n : Nat} (hf : Van f (n + 1)) : Van (der f) n := fun k hk => by
  unfold PM.der; split
  · exact hf _ (by omega)
  · rfl
/-- The highest coefficient of a product. -/
theorem conv_top (f g : Co) (m n : Nat) (hf : Van f (m + 1)) (hg : Van g (n + 1)) : conv f g (m + n) = f m * g n ∧ Van (conv f g) (m + n + 1) := by
  induction m generalizing f with
  | zero =>
    have e : PM.sh f = zeroC := van_zero hf.sh
    have hc : ∀ k, conv f g k = f 0 * g k := by
      intro k
      cases k with
      | zero => rw [conv_zero]
      | succ k => rw [conv_succ, e, conv_zeroC_l, add_zero]
    rw [Nat.zero_add]
    exact ⟨hc n, fun k hk => by rw [hc, hg k hk, mul_zero]⟩
  | succ m ih =>
    obtain ⟨h1, h2⟩ := ih (PM.sh f) hf.sh
    rw [show m + 1 + n = m + n + 1 by omega]
    refine ⟨by rw [conv_succ, h1, hg _ (by omega), mul_zero, zero_add]; rfl, fun k hk => ?_⟩
    obtain ⟨k, rfl⟩ : ∃ j, k = j + 1 := ⟨k - 1, by omega⟩
    rw [conv_succ, hg _ (by omega), mul_zero, zero_add, h2 _ (by omega)]
theorem conv_van (f g : Co) (m n : Nat) (hf : Van f m) (hg : Van g (n + 1)) : Van (conv f g) (m + n) := by
  cases m with
  | zero => rw [van_zero hf]; exact fun k _ => conv_zeroC_l g k
  | succ m => rw [show m + 1 + n = m + n + 1 by omega]; exact (conv_top f g m n hf hg).2

/-- The value of the first n terms. -/
def evn (n : Nat) (f : Co) (x : G) : G := match n with
  | 0 => 0
  | n + 1 => f 0 + x * evn n (sh f) x
theorem evn_succ (n : Nat) (f : Co) (x : G) : evn (n + 1) f x = f 0 + x * evn n (sh f) x := by rw [evn]
theorem evn_addC (x : G) : ∀ (n : Nat) (f g : Co), evn n (addC f g) x = evn n f x + evn n g x
  | 0, _, _ => (add_zero _).symm
  | n + 1, f, g => by
    rw [evn_succ, evn_succ, evn_succ, show sh (addC f g) = addC (sh f) (sh g) from rfl, evn_addC x n, mul_add, show addC f g 0 = f 0 + g 0 from rfl, add4]
theorem evn_smul (x c : G) : ∀ (n : Nat) (f : Co), evn n (smul c f) x = c * evn n f x
  | 0, _ => (mul_zero _).symm
  | n + 1, f => by
    rw [evn_succ, evn_succ, show sh (smul c f) = smul c (sh f) from rfl, evn_smul x c n, show smul c f 0 = c * f 0 from rfl, mul_add, mul_left_comm]
theorem evn_zeroC (x : G) : ∀ n, evn n zeroC x = 0
  | 0 => rfl
  | n + 1 => by rw [evn_succ, show sh zeroC = zeroC from rfl, evn_zeroC x n, mul_zero, show zeroC 0 = 0 from rfl, add_zero]
theorem evn_van (x : G) : ∀ (n m : Nat) (f : Co), Van f n → n ≤ m → evn m f x = evn n f x
  | 0, m, f, h, _ => by rw [van_zero h, evn_zeroC]; rfl
  | n + 1, m, f, h, hm => by
    obtain ⟨m, rfl⟩ : ∃ j, m = j + 1 := ⟨m - 1, by omega⟩
    rw [evn_succ, evn_succ, evn_van x n m _ h.sh (by omega)]
theorem evn_conv (x : G) (g : Co) (n : Nat) (hg : Van g n) : ∀ (m : Nat) (f : Co), Van f m → evn (m + n) (conv f g) x = evn m f x * evn n g x
  | 0, f, hf => by
    have e : conv f g = zeroC := by funext k; rw [van_zero hf]; exact conv_zeroC_l g k
    rw [e, evn_zeroC, show evn 0 f x = 0 from rfl, zero_mul]
  | m + 1, f, hf => by
    rw [show m + 1 + n = m + n + 1 by omega, evn_succ, sh_conv, evn_addC, evn_smul, evn_conv x g n hg m _ hf.sh, conv_zero, evn_succ m f]
    have h1 := evn_van x n (m + n + 1) g hg (by omega)
    rw [evn_succ] at h1
    rw [← h1]
    generalize evn (m + n) (sh g) x = a at *
    rw [h1, mul_add, mul_left_comm x (f 0), ← mul_assoc x, ← add_assoc, ← mul_add, h1, add_mul]
/-- From the highest term down. -/
theorem evn_drop (x : G) (f : Co) (k : Nat) : ∀ n, evn (n + 1) (fun i => f (k + i)) x = f k + x * evn n (fun i => f (k + 1 + i)) x := by
  intro n
  rw [evn_succ]
  have : sh (fun i => f (k + i)) = fun i => f (k + 1 + i) := by funext i; show f (k + (i + 1)) = f (k + 1 + i); congr 1; omega
  rw [this]; rfl

/-- Element k of a list, 0 behind the end. -/
def el (p : List G) (k : Nat) : G := p.getD k 0
theorem el_ge {p : List G} {k : Nat} (h : p.length ≤ k) : el p k = 0 := by unfold el; simp [List.getD, List.getElem?_eq_none h]
theorem el_lt {p : List G} {k : Nat} (h : k < p.length) : el p k = p[k] := by unfold el; simp [List.getD, List.getElem?_eq_getElem h]
theorem el_nil (k : Nat) : el [] k = 0 := rfl
theorem el_van (p : List G) : Van (el p) p.length := fun _ h => el_ge h
theorem el_set {p : List G} {j : Nat} (h : j < p.length) (c : G) (k : Nat) : el (p.set j c) k = if k = j then c else el p k := by
  by_cases e : k = j
  · subst e; rw [if_pos rfl, el_lt (by simpa using h)]; simp
  · rw [if_neg e]; unfold el
    simp only [List.getD, List.getElem?_set_ne (Ne.symm e)]
theorem el_append {p q : List G} (k : Nat) : el (p ++ q) k = if k < p.length then el p k else el q (k - p.length) := by
  unfold el; simp only [List.getD]
  by_cases e : k < p.length
  · rw [if_pos e, List.getElem?_append_left e]
  · rw [if_neg e, List.getElem?_append_right (by omega)]
theorem el_take (p : List G) (n k : Nat) : el (p.take n) k = if k < n then el p k else 0 := by
  unfold el; simp only [List.getD, List.getElem?_take]
  split <;> rfl
theorem el_drop (p : List G) (n k : Nat) : el (p.drop n) k = el p (n + k) := by
  unfold el; simp only [List.getD, List.getElem?_drop]
theorem el_replicate (n k : Nat) : el (List.replicate n 0) k = 0 := by
  unfold el; simp only [List.getD, List.getElem?_replicate]
  split <;> rfl
theorem ext_el {p q : List G} (hl : p.length = q.length) (h : ∀ k, k < p.length → el p k = el q k) : p = q := by
  refine List.ext_getElem hl (fun k h1 h2 => ?_)
  have := h k h1
  rwa [el_lt h1, el_lt h2] at this

/-- No zero at the end. -/
def Can (p : List G) : Prop := 0 < p.length → el p (p.length - 1) ≠ 0
theorem can_nil : Can [] := fun h => absurd h (by simp)
theorem can_ext {p q : List G} (hp : Can p) (hq : Can q) (h : ∀ k, el p k = el q k) : p = q := by
  have key : ∀ {p q : List G}, Can p → (∀ k, el p k = el q k) → p.length ≤ q.length := by
    intro p q hp h
    rcases Nat.lt_or_ge q.length p.length with hlt | hge
    · exact absurd ((h _).trans (el_ge (by omega))) (hp (by omega))
    · exact hge
  exact ext_el (Nat.le_antisymm (key hp h) (key hq (fun k => (h k).symm))) (fun k _ => h k)
/-- The length is known by the coefficients. -/
theorem can_len {p : List G} (hp : Can p) {n : Nat} (hv : Van (el p) n) : p.length ≤ n := by
  rcases Nat.lt_or_ge n p.length with h | h
  · exact absurd (hv (p.length - 1) (by omega)) (hp (by omega))
  · exact h
/-- The list without the zeros at its end. -/
def trimL (p : List G) : List G := (p.reverse.dropWhile (fun c => decide (c = 0))).reverse
theorem trimL_append_zero (p : List G) : trimL (p ++ [0]) = trimL p := by
  unfold trimL; rw [List.reverse_append]; rfl
theorem trimL_append {p : List G} {c : G} (h : c ≠ 0) : trimL (p ++ [c]) = p ++ [c] := by
  unfold trimL; rw [List.reverse_append]
  simp [h]
theorem trimL_nil : trimL [] = [] := rfl
theorem split_last (p : List G) (h : p ≠ []) : ∃ q c, p = q ++ [c] := ⟨p.dropLast, p.getLast h, (List.dropLast_concat_getLast h).symm⟩
theorem trimL_all (p : List G) : (∀ k, el (trimL p) k = el p k) ∧ Can (trimL p) ∧ (trimL p).length ≤ p.length := by
  induction hn : p.length generalizing p with
  | zero => rw [List.length_eq_zero_iff.1 hn]; exact ⟨fun _ => rfl, can_nil, Nat.le_refl _⟩
  | succ n ih =>
    obtain ⟨q, c, rfl⟩ := split_last p (by intro e; rw [e] at hn; cases hn)
    have hq : q.length = n := by simpa using hn
    by_cases hc : c = 0
    · subst hc
      rw [trimL_append_zero]
      obtain ⟨h1, h2, h3⟩ := ih q hq
      refine ⟨fun k => ?_, h2, by omega⟩
      rw [h1, el_append]
      split
      · rfl
      · rename_i h
        rw [el_ge (by omega)]
        have : ∀ j, el [(0 : G)] j = 0 := fun j => by cases j <;> rfl
        rw [this]
    · rw [trimL_append hc]
      refine ⟨fun _ => rfl, fun _ => ?_, by rw [hn]; exact Nat.le_refl _⟩
      rw [el_append, List.length_append]
      simp only [List.length_cons, List.length_nil]
      rw [if_neg (by omega), show q.length + (0 + 1) - 1 - q.length = 0 by omega]
      exact hc
theorem el_trimL (p : List G) (k : Nat) : el (trimL p) k = el p k := (trimL_all p).1 k
theorem can_trimL (p : List G) : Can (trimL p) := (trimL_all p).2.1
theorem trimL_len (p : List G) : (trimL p).length ≤ p.length := (trimL_all p).2.2
theorem trimL_can {p : List G} (h : Can p) : trimL p = p := can_ext (can_trimL p) h (el_trimL p)
theorem trimL_none (p : List G) (h : ∀ j, el p j = 0) : trimL p = [] := can_ext (can_trimL p) can_nil (fun k => by rw [el_trimL, h]; rfl)
theorem trimL_take (p : List G) : p.take (trimL p).length = trimL p := by
  refine ext_el (by rw [List.length_take]; have := trimL_len p; omega) (fun k hk => ?_)
  rw [List.length_take] at hk
  rw [el_take, if_pos (by omega), el_trimL]
theorem trimL_at (p : List G) (k : Nat) (hne : el p k ≠ 0) (h : ∀ j, k < j → el p j = 0) : (trimL p).length = k + 1 := by
  have h1 : (trimL p).length ≤ k + 1 := can_len (can_trimL p) (fun j hj => by rw [el_trimL]; exact h j (by omega))
  rcases Nat.lt_or_ge k (trimL p).length with h2 | h2
  · omega
  · exact absurd ((el_trimL p k).symm.trans (el_ge h2)) hne
/-- The value at x. -/
def ev (p : List G) (x : G) : G := evn p.length (el p) x
theorem ev_any (p : List G) (x : G) {n : Nat} (h : p.length ≤ n) : evn n (el p) x = ev p x := evn_van x _ _ _ (el_van p) h
theorem ev_can {p q : List G} (h : ∀ k, el p k = el q k) (x : G) : ev p x = ev q x := by
  have e : el p = el q := funext h
  rw [← ev_any p x (Nat.le_max_left _ q.length), ← ev_any q x (Nat.le_max_right p.length _), e]
end Go.Proofs.Ytijkgplglfmfnaa.PM

namespace Go.Proofs.Ytijkgplglfmfnaa.PM
open G

/-- c times the power k of the variable. -/
def mono (c : G) (k : Nat) : Co := fun j => if j = k then c else 0
theorem mono_succ (c : G) (k : Nat) : mono c (k + 1) = up (mono c k) := by
  funext j
  cases j with
  | zero => rfl
  | succ j => show (if j + 1 = k + 1 then c else 0) = (if j = k then c else 0); simp
theorem conv_mono (c : G) (g : Co) : ∀ (k j : Nat), conv (mono c k) g j = if j < k then 0 else c * g (j - k)
  | 0, j => by
    rw [if_neg (Nat.not_lt_zero _)]
    cases j with
    | zero => rw [conv_zero]; rfl
    | succ j =>
      rw [conv_succ, show sh (mono c 0) = zeroC by funext i; rfl, conv_zeroC_l, add_zero]; rfl
  | k + 1, j => by
    rw [mono_succ]
    cases j with
    | zero => rw [conv_up_zero, if_pos (Nat.succ_pos _)]
    | succ j =>
      rw [conv_up_succ, conv_mono c g k j]
      by_cases h : j < k
      · rw [if_pos h, if_pos (by omega)]
      · rw [if_neg h, if_neg (by omega), show j + 1 - (k + 1) = j - k by omega]
/-- A multiple of g, k places up, joins the product. -/
theorem conv_put (f f' g : Co) (c : G) (k : Nat) (h0 : f k = 0) (h : ∀ i, f' i = if i = k then c else f i) (j : Nat) : conv f' g j = conv f g j + if j < k then 0 else c * g (j - k) := by
  have e : f' = addC f (mono c k) := by
    funext i
    rw [h]; show _ = f i + (if i = k then c else 0)
    by_cases hi : i = k
    · rw [if_pos hi, if_pos hi, hi, h0, zero_add]
    · rw [if_neg hi, if_neg hi, add_zero]
  rw [e, conv_add_l, conv_mono]

theorem top_or (e : Co) : ∀ N, Van e N → e = zeroC ∨ ∃ m, e m ≠ 0 ∧ Van e (m + 1)
  | 0, h => .inl (van_zero h)
  | N + 1, h => by
    by_cases h0 : e N = 0
    · exact top_or e N (fun k hk => by
        by_cases hk' : k = N
        · rw [hk', h0]
        · exact h k (by omega))
    · exact .inr ⟨N, h0, h⟩
/-- A product with less than the factor's degree is 0. -/
theorem conv_small (e g : Co) (n N : Nat) (hg : Van g (n + 1)) (hn : g n ≠ 0) (he : Van e N) (h : Van (conv e g) n) : e = zeroC := by
  rcases top_or e N he with h0 | ⟨m, hm, hv⟩
  · exact h0
  · have h1 := (conv_top e g m n hv hg).1
    rw [h _ (by omega)] at h1
    exact absurd h1.symm (mul_ne hm hn)
/-- There is one quotient and one rest. -/
theorem div_unique (p a a' r r' g : Co) (n N N' : Nat) (hg : Van g (n + 1)) (hn : g n ≠ 0) (ha : Van a N) (ha' : Van a' N') (hr : Van r n) (hr' : Van r' n)
    (h : ∀ k, p k = conv a g k + r k) (h' : ∀ k, p k = conv a' g k + r' k) : a = a' ∧ r = r' := by
  have e : ∀ k, conv (addC a a') g k = r k + r' k := by
    intro k
    rw [conv_add_l]
    have := (h k).symm.trans (h' k)
    have h2 : conv a g k + r k + (conv a' g k + r k) = conv a' g k + r' k + (conv a' g k + r k) := by rw [this]
    rw [add4, add_self, add_zero, add4, add_self, zero_add] at h2
    rw [h2, add_comm]
  have hz := conv_small (addC a a') g n (N + N') hg hn ((ha.mono (by omega)).addC (ha'.mono (by omega))) (fun k hk => by rw [e, hr k hk, hr' k hk, add_zero])
  have ea : ∀ k, a k = a' k := fun k => add_eq_zero.1 (congrFun hz k)
  refine ⟨funext ea, funext fun k => add_eq_zero.1 ?_⟩
  rw [← e, hz, conv_zeroC_l]

/-- g divides p. -/
def Dv (g p : Co) : Prop := ∃ d N, Van d N ∧ ∀ k, p k = conv d g k
theorem Dv.zero (g : Co) : Dv g zeroC := ⟨zeroC, 0, fun _ _ => rfl, fun k => (conv_zeroC_l g k).symm⟩
def oneC : Co := mono one 0
theorem conv_oneC (g : Co) (k : Nat) : conv oneC g k = g k := by
  unfold oneC; rw [conv_mono, if_neg (Nat.not_lt_zero _), one_mul, Nat.sub_zero]
theorem Dv.refl (g : Co) : Dv g g := ⟨oneC, 1, fun k hk => by show (if k = 0 then one else 0) = 0; rw [if_neg (by omega)], fun k => (conv_oneC g k).symm⟩
/-- A divisor of the divisor and of the rest divides. -/
theorem Dv.step {g p q r a : Co} {N : Nat} (hq : Dv g q) (hr : Dv g r) (ha : Van a N) (h : ∀ k, p k = conv a q k + r k) : Dv g p := by
  obtain ⟨d, D, hd, hqd⟩ := hq
  obtain ⟨s, S, hs, hrs⟩ := hr
  refine ⟨addC (conv a d) s, N + (D + 1) + S, Van.addC ((conv_van a d N D ha (hd.mono (by omega))).mono (by omega)) (hs.mono (by omega)), fun k => ?_⟩
  rw [h, hrs, conv_add_l, conv_assoc, show q = conv d g from funext hqd]
/-- The divisor times an element that is not 0. -/
theorem Dv.scale {g p : Co} (h : Dv g p) {c : G} (hc : c ≠ 0) (g' : Co) (hg : ∀ k, g' k = c * g k) : Dv g' p := by
  obtain ⟨d, D, hd, hp⟩ := h
  refine ⟨smul c.inv d, D, hd.smul _, fun k => ?_⟩
  rw [show g' = smul c g from funext hg, conv_smul_l, conv_smul_r, ← mul_assoc, mul_comm c.inv, mul_inv hc, one_mul, hp]
theorem Dv.of_zero {g p : Co} (h : Dv g p) (hg : ∀ k, g k = 0) (k : Nat) : p k = 0 := by
  obtain ⟨d, D, _, hp⟩ := h
  rw [hp, show g = zeroC from funext hg, conv_comm, conv_zeroC_l]
/-- What is divided leaves no rest. -/
theorem Dv.rest {g p a r : Co} {n N : Nat} (h : Dv g p) (hg : Van g (n + 1)) (hn : g n ≠ 0) (ha : Van a N) (hr : Van r n) (he : ∀ k, p k = conv a g k + r k) : ∀ k, r k = 0 := by
  obtain ⟨d, D, hd, hp⟩ := h
  have := (div_unique p a d r zeroC g n N D hg hn ha hd hr (fun _ _ => rfl) he (fun k => by rw [hp]; exact (add_zero _).symm)).2
  intro k; rw [this]; rfl

/-- The polynomial x + r. -/
def lin (r : G) : Co := fun k => if k = 0 then r else if k = 1 then one else 0
theorem conv_lin (r : G) (f : Co) (k : Nat) : conv (lin r) f k = r * f k + up f k := by
  cases k with
  | zero => rw [conv_zero]; show r * f 0 = r * f 0 + 0; rw [add_zero]
  | succ k =>
    rw [conv_succ]
    have : sh (lin r) = oneC := by
      funext j
      show (if j + 1 = 0 then r else if j + 1 = 1 then one else 0) = (if j = 0 then one else 0)
      rw [if_neg (by omega)]
      by_cases h : j = 0
      · rw [if_pos h, if_pos (by omega)]
      · rw [if_neg h, if_neg (by omega)]
    rw [this, conv_oneC]; rfl
theorem lin_van (r : G) : Van (lin r) 2 := fun k hk => by unfold lin; rw [if_neg (by omega), if_neg (by omega)]
theorem evn_lin (r x : G) : evn 2 (lin r) x = r + x := by
  rw [evn_succ, evn_succ, show evn 0 (sh (sh (lin r))) x = 0 from rfl, mul_zero, add_zero]
  show r + x * one = r + x
  rw [mul_one]
/-- What is left of a polynomial when a root is taken out. -/
def deflate (f : Co) (n : Nat) (r : G) : Co := fun k => evn (n - k) (fun i => f (k + 1 + i)) r
theorem deflate_van (f : Co) (n : Nat) (r : G) : Van (deflate f n r) n := fun k hk => by
  show evn (n - k) _ r = 0
  rw [show n - k = 0 by omega]; rfl
theorem deflate_eq (f : Co) (n : Nat) (r : G) (hf : Van f (n + 1)) (hr : evn (n + 1) f r = 0) (k : Nat) : f k = conv (lin r) (deflate f n r) k := by
  rw [conv_lin]
  have step : ∀ j, evn (n - j) (fun i => f (j + 1 + i)) r = f (j + 1) + r * evn (n - (j + 1)) (fun i => f (j + 1 + 1 + i)) r := by
    intro j
    rcases Nat.lt_or_ge j n with h | h
    · have e := evn_drop r f (j + 1) (n - (j + 1))
      rw [show n - (j + 1) + 1 = n - j by omega] at e
      exact e
    · rw [show n - j = 0 by omega, show n - (j + 1) = 0 by omega, hf _ (by omega)]
      show (0 : G) = 0 + r * 0
      rw [mul_zero, add_zero]
  cases k with
  | zero =>
    have h0 : evn (n + 1) f r = f 0 + r * evn n (sh f) r := evn_succ _ _ _
    rw [hr] at h0
    show f 0 = r * evn (n - 0) (fun i => f (0 + 1 + i)) r + 0
    rw [add_zero, Nat.sub_zero, show (fun i => f (0 + 1 + i)) = sh f by funext i; show f (0 + 1 + i) = f (i + 1); congr 1; omega]
    exact add_eq_zero.1 h0.symm
  | succ k =>
    show f (k + 1) = r * evn (n - (k + 1)) (fun i => f (k + 1 + 1 + i)) r + evn (n - k) (fun i => f (k + 1 + i)) r
    rw [step k, add_left_comm, add_self, add_zero]
theorem deflate_top (f : Co) (n : Nat) (r : G) : deflate f (n + 1) r n = f (n + 1) := by
  show evn (n + 1 - n) (fun i => f (n + 1 + i)) r = _
  rw [show n + 1 - n = 0 + 1 by omega, evn_drop]
  show f (n + 1) + r * 0 = _
  rw [mul_zero, add_zero]
/-- A polynomial of degree n has at most n roots. -/
theorem roots_le : ∀ (n : Nat) (f : Co), Van f (n + 1) → f n ≠ 0 → ∀ xs : List G, xs.Nodup → (∀ x ∈ xs, evn (n + 1) f x = 0) → xs.length ≤ n
  | 0, f, hf, hn, xs, _, hx => by
    cases xs with
    | nil => exact Nat.le_refl _
    | cons x xs =>
      have h := hx x (by simp)
      rw [evn_succ, show evn 0 (sh f) x = 0 from rfl, mul_zero, add_zero] at h
      exact absurd h hn
  | n + 1, f, hf, hn, xs, hd, hx => by
    cases xs with
    | nil => exact Nat.zero_le _
    | cons r xs =>
      obtain ⟨hr, hd'⟩ := List.nodup_cons.1 hd
      have hroot := hx r (by simp)
      have hdv := deflate_van f (n + 1) r
      have hc := deflate_eq f (n + 1) r hf hroot
      have := roots_le n (deflate f (n + 1) r) hdv (by rw [deflate_top f n r]; exact hn) xs hd' (fun x hxs => by
        have h1 := hx x (by simp [hxs])
        have h2 := evn_conv x (deflate f (n + 1) r) (n + 1) hdv 2 (lin r) (lin_van r)
        rw [show f = conv (lin r) (deflate f (n + 1) r) from funext hc] at h1
        rw [evn_van x (n + 1 + 1) (2 + (n + 1)) _ (by rw [← show f = conv (lin r) (deflate f (n + 1) r) from funext hc]; exact hf) (by omega), h1, evn_lin] at h2
        rcases mul_eq_zero.1 h2.symm with h | h
        · exact absurd (add_eq_zero.1 h) (fun e => hr (by rw [e]; exact hxs))
        · exact h)
      simp only [List.length_cons]
      omega
end Go.Proofs.Ytijkgplglfmfnaa.PM

namespace Go.Proofs.Ytijkgplglfmfnaa.P
open Go Go.RowKit Go.Shelf

theorem cell_new (w : World) (v : Value) (t : TypeId) : (w.alloc (.cells #[v] t)).cell? ⟨w.heap.size, 0, none⟩ = some v := by
  simp
theorem frozen_new (w : World) (v : Value) (t : TypeId) : (w.alloc (.cells #[v] t)).frozen? ⟨w.heap.size, 0, none⟩ = false := by
  simp
theorem cell_later {w : World} {a : Addr} {v : Value} (o : Obj) (h : w.cell? a = some v) : (w.alloc o).cell? a = some v :=
  cell_kept h (World.grownBy_alloc w o none) (fun r e => by cases e)
theorem frozen_later {w : World} {a : Addr} {v : Value} (o : Obj) (h : w.cell? a = some v) (hf : w.frozen? a = false) : (w.alloc o).frozen? a = false :=
  (frozen_kept h (World.grownBy_alloc w o none) (fun r e => by cases e)).trans hf
theorem lt_of_cell {w : World} {a : Addr} {v : Value} (h : w.cell? a = some v) : a.block < w.heap.size := by
  obtain ⟨o, ho, _⟩ := cells_of_cell h
  exact (Array.getElem?_eq_some_iff.1 ho).1
/-- What lies behind a call that only makes memory. -/
theorem bcell {W w1 : World} (hb : Below W.heap.size W w1) : (∀ b o, b < W.heap.size → w1.cell? ⟨b, o, none⟩ = W.cell? ⟨b, o, none⟩) ∧ (∀ b o, b < W.heap.size → w1.frozen? ⟨b, o, none⟩ = W.frozen? ⟨b, o, none⟩) :=
  ⟨fun b o h => hb.cell (p := ⟨b, o, none⟩) h, fun b o h => hb.frozen (p := ⟨b, o, none⟩) h⟩
theorem belowN {B : Nat} {w W : World} (h : Below B w W) (n : Nat) : Below B w (W.drewN n) := ⟨h.os, h.tape, h.output, h.size, h.block⟩
theorem cell_other {W : World} {p a : Addr} (u : Value) (h : a.block ≠ p.block) : (W.setCell p u).cell? a = W.cell? a :=
  World.cell?_of_block (Below.heap_setCell W p u a.block h)
theorem grown_of_below {W W' : World} (h : Below W.heap.size W W') : W.grownBy W' none := ⟨h.os, h.tape, h.output, h.size, fun k hk _ => h.block k hk⟩
theorem grown_trans {a b c : World} {row : Option Nat} (h : a.grownBy b row) (k : b.grownBy c row) : a.grownBy c row :=
  ⟨k.os.trans h.os, k.tape.trans h.tape, k.output.trans h.output, Nat.le_trans h.size k.size, fun i hi hne => (k.block i (Nat.lt_of_lt_of_le hi h.size) hne).trans (h.block i hi hne)⟩
theorem grown_set {w W : World} {g : Nat} (h : w.grownBy W (some g)) (j : Nat) (u : Value) : w.grownBy (W.setCell ⟨g, j, none⟩ u) (some g) :=
  ⟨h.os, h.tape, h.output, by simpa [World.setCell] using h.size, fun k hk hne => (Below.heap_setCell W ⟨g, j, none⟩ u k (fun e => hne (by rw [e]))).trans (h.block k hk hne)⟩
theorem grown_drewN {w W : World} {row : Option Nat} (h : w.grownBy W row) (n : Nat) : w.grownBy (W.drewN n) row := ⟨h.os, h.tape, h.output, h.size, h.block⟩
theorem grown_alloc {w W : World} {row : Option Nat} (h : w.grownBy W row) (o : Obj) : w.grownBy (W.alloc o) row :=
  ⟨h.os, h.tape, h.output, by rw [World.size_alloc]; exact Nat.le_succ_of_le h.size, fun k hk hne => (Below.heap_alloc W o k (Nat.lt_of_lt_of_le hk h.size)).trans (h.block k hk hne)⟩
theorem grown_below {w W : World} {g B : Nat} (h : w.grownBy W (some g)) (hg : B ≤ g) (hB : B ≤ w.heap.size) : Below B w W :=
  (Below.refl B w).grown h hB (fun k e => by cases e; exact hg)
theorem below_grown {B : Nat} {w W W' : World} {row : Option Nat} (hb : Below B w W) (h : W.grownBy W' row) (hB : B ≤ W.heap.size) (hr : ∀ k, row = some k → B ≤ k) : Below B w W' := hb.grown h hB hr

/-- The cell of an element. -/
def gv (c : PM.G) : Value := .int .u8 (c.v : Int)

theorem gv_zero {c : PM.G} (h : c = 0) : ((c.v : Int) != 0) = false := by rw [h]; rfl
theorem gv_ne {c : PM.G} (h : c ≠ 0) : ((c.v : Int) != 0) = true := by
  have : c.v ≠ 0 := fun e => h (PM.G.ext' e)
  simp [this]
theorem gv_eq0 {c : PM.G} (h : c = 0) : ((c.v : Int) == 0) = true := by rw [h]; rfl
theorem gv_neq {c : PM.G} (h : c ≠ 0) : ((c.v : Int) == 0) = false := by
  have : c.v ≠ 0 := fun e => h (PM.G.ext' e)
  simp [this]

/-- The slice at a, of capacity cap, holds the bytes zs. -/
structure Row (w : World) (a : Option Addr) (zs : List PM.G) (cap : Nat) : Prop where
  room : zs.length ≤ cap
  most : cap ≤ 9223372036854775807
  el : ∀ j, j < zs.length → ∃ b off, a = some ⟨b, off, none⟩ ∧ w.cell? ⟨b, off + j, none⟩ = some (.int .u8 ((PM.el zs j).v : Int))

theorem Row.below {w w' : World} {a : Option Addr} {zs : List PM.G} {cap : Nat} (h : Row w a zs cap) (hb : Below w.heap.size w w') : Row w' a zs cap :=
  ⟨h.room, h.most, fun j hj => by
    obtain ⟨b, off, e, hc⟩ := h.el j hj
    exact ⟨b, off, e, (hb.cell (p := ⟨b, off + j, none⟩) (lt_of_cell hc)).trans hc⟩⟩
theorem Row.grown {w W : World} {a : Option Addr} {zs : List PM.G} {cap : Nat} {row : Option Nat} (h : Row w a zs cap) (hg : w.grownBy W row) (hne : ∀ b off, a = some ⟨b, off, none⟩ → some b ≠ row) : Row W a zs cap :=
  ⟨h.room, h.most, fun j hj => by
    obtain ⟨b, off, e, hc⟩ := h.el j hj
    exact ⟨b, off, e, (World.cell?_of_block (hg.block b (lt_of_cell hc) (hne b off e))).trans hc⟩⟩
theorem Row.cell {w : World} {b off : Nat} {zs : List PM.G} {cap : Nat} (h : Row w (some ⟨b, off, none⟩) zs cap) (j : Nat) (hj : j < zs.length) : w.cell? ⟨b, off + j, none⟩ = some (.int .u8 ((PM.el zs j).v : Int)) := by
  obtain ⟨b', off', e, hc⟩ := h.el j hj
  cases e
  exact hc
theorem Row.alloc {w : World} {a : Option Addr} {zs : List PM.G} {cap : Nat} (h : Row w a zs cap) (o : Obj) : Row (w.alloc o) a zs cap :=
  h.below ((Below.refl _ w).alloc (Nat.le_refl _) _)
theorem Row.drewN {w : World} {a : Option Addr} {zs : List PM.G} {cap : Nat} (h : Row w a zs cap) (n : Nat) : Row (w.drewN n) a zs cap := ⟨h.room, h.most, h.el⟩
theorem Row.nil (w : World) (a : Option Addr) (cap : Nat) (h : cap ≤ 9223372036854775807) : Row w a [] cap := ⟨Nat.zero_le _, h, fun j hj => by simp at hj⟩
/-- The blocks of a row that holds something lie in memory. -/
theorem Row.lt {w : World} {b off : Nat} {zs : List PM.G} {cap : Nat} (h : Row w (some ⟨b, off, none⟩) zs cap) (h0 : 0 < zs.length) : b < w.heap.size := lt_of_cell (h.cell 0 h0)

/-- The first elements of a slice. -/
def cut (a : Option Addr) (cap : Nat) (ts : List PM.G) : Value := if ts = [] then .slice none 0 0 else .slice a ts.length cap
theorem Row.take {w : World} {a : Option Addr} {zs : List PM.G} {cap : Nat} (h : Row w a zs cap) (n : Nat) : Row w a (zs.take n) cap :=
  ⟨by have := h.room; simp; omega, h.most, fun j hj => by
    rw [List.length_take] at hj
    obtain ⟨b, off, e, hc⟩ := h.el j (by omega)
    exact ⟨b, off, e, by rw [PM.el_take, if_pos (by omega)]; exact hc⟩⟩
theorem Row.cut {w : World} {a : Option Addr} {zs : List PM.G} {cap : Nat} (h : Row w a zs cap) : ∃ a' cap', cut a cap (PM.trimL zs) = .slice a' (PM.trimL zs).length cap' ∧ Row w a' (PM.trimL zs) cap' ∧ (∀ b off, a' = some ⟨b, off, none⟩ → a = some ⟨b, off, none⟩) := by
  unfold P.cut
  split
  · rename_i e; rw [e]; exact ⟨none, 0, rfl, Row.nil _ _ _ (by omega), fun _ _ h => by cases h⟩
  · refine ⟨a, cap, rfl, ?_, fun _ _ h => h⟩
    have := h.take (PM.trimL zs).length
    rwa [PM.trimL_take] at this

/-- The slice v, made from block B on, holds the bytes zs. -/
def Own (W : World) (B : Nat) (v : Value) (zs : List PM.G) : Prop := W.ownsRow B 5 1 v zs.length (zs.map gv)

theorem Own.nil (W : World) (B : Nat) : Own W B (.slice none 0 0) [] := World.ownsRow_nil _ _ _ _
theorem Own.below {W W' : World} {B : Nat} {v : Value} {zs : List PM.G} (h : Own W B v zs) (hb : Below W.heap.size W W') : Own W' B v zs :=
  World.ownsRow.kept h (grown_of_below hb) (by cases v.ownBlock with | none => exact .inl rfl | some k => exact .inr (by intro e; cases e))
theorem Own.alloc {W : World} {B : Nat} {v : Value} {zs : List PM.G} (h : Own W B v zs) (o : Obj) : Own (W.alloc o) B v zs :=
  h.below ((Below.refl _ W).alloc (Nat.le_refl _) _)
theorem Own.drewN {W : World} {B : Nat} {v : Value} {zs : List PM.G} (h : Own W B v zs) (n : Nat) : Own (W.drewN n) B v zs := h
theorem Own.grown {W W' : World} {B : Nat} {v : Value} {zs : List PM.G} {row : Option Nat} (h : Own W B v zs) (hg : W.grownBy W' row) (hne : v.ownBlock = none ∨ v.ownBlock ≠ row) : Own W' B v zs :=
  World.ownsRow.kept h hg hne

theorem Own.mono {W : World} {B B' : Nat} {v : Value} {zs : List PM.G} (h : Own W B v zs) (hB : B' ≤ B) : Own W B' v zs := by
  obtain ⟨h1, h2 | ⟨g, cap, cur, hv, hg, r⟩⟩ := h
  · exact ⟨h1, .inl h2⟩
  · exact ⟨h1, .inr ⟨g, cap, cur, hv, Nat.le_trans hB hg, r⟩⟩
/-- What is known of the slice value: its address, its capacity, the cells. -/
theorem Own.parts {W : World} {B : Nat} {v : Value} {zs : List PM.G} (h : Own W B v zs) :
    (v = .slice none 0 0 ∧ zs = []) ∨ ∃ g cap, v = .slice (some ⟨g, 0, none⟩) zs.length cap ∧ B ≤ g ∧ g < W.heap.size ∧ zs.length ≤ cap ∧ cap ≤ 9223372036854775807 ∧
      ∀ j, j < zs.length → W.cell? ⟨g, j, none⟩ = some (.int .u8 ((PM.el zs j).v : Int)) ∧ W.frozen? ⟨g, j, none⟩ = false := by
  have h' := h
  obtain ⟨h1, h2 | ⟨g, cap, cur, hv, hg, hh, r1, r2, r3⟩⟩ := h
  · exact .inl ⟨h2.1, List.length_eq_zero_iff.1 h2.2⟩
  · refine .inr ⟨g, cap, hv, hg, (Array.getElem?_eq_some_iff.1 hh).1, r1, r2, fun j hj => ?_⟩
    subst hv
    refine ⟨?_, World.ownsRow.frozenAt h' j⟩
    rw [World.ownsRow.cellAt h' j (by simpa using hj), List.getElem?_map, List.getElem?_eq_getElem hj, PM.el_lt hj]
    rfl
theorem Own.row {W : World} {B : Nat} {v : Value} {zs : List PM.G} (h : Own W B v zs) : ∃ a cap, v = .slice a zs.length cap ∧ Row W a zs cap := by
  rcases h.parts with ⟨rfl, rfl⟩ | ⟨g, cap, rfl, _, _, r1, r2, hc⟩
  · exact ⟨none, 0, rfl, Nat.le_refl _, by omega, fun j hj => by simp at hj⟩
  · exact ⟨_, cap, rfl, r1, r2, fun j hj => ⟨g, 0, rfl, by simpa using (hc j hj).1⟩⟩
theorem Own.rowAt {W : World} {B : Nat} {a : Option Addr} {cap : Nat} {zs : List PM.G} (h : Own W B (.slice a zs.length cap) zs) : Row W a zs cap := by
  obtain ⟨a', cap', e, r⟩ := h.row
  cases e
  exact r
/-- A store into an owned slice. -/
theorem Own.set {W : World} {B : Nat} {g cap : Nat} {zs : List PM.G} (h : Own W B (.slice (some ⟨g, 0, none⟩) zs.length cap) zs) (j : Nat) (c : PM.G) : Own (W.setCell ⟨g, j, none⟩ (.int .u8 (c.v : Int))) B (.slice (some ⟨g, 0, none⟩) zs.length cap) (zs.set j c) := by
  unfold Own
  rw [List.length_set, List.map_set]
  exact (World.ownsRow.stored h j (.int .u8 (c.v : Int))).1
theorem Own.setBelow {W : World} {B : Nat} {v : Value} {zs : List PM.G} (h : Own W B v zs) {p : Addr} (hp : p.block < B) (u : Value) : Own (W.setCell p u) B v zs :=
  ownsRow_setCell_below h hp u
theorem Own.other {W : World} {B : Nat} {v : Value} {zs : List PM.G} (h : Own W B v zs) {p : Addr} (u : Value) (hp : v.ownBlock ≠ some p.block) : Own (W.setCell p u) B v zs :=
  World.ownsRow.kept h (row := some p.block) ⟨rfl, rfl, rfl, by simp [World.setCell], fun k _ hk => Below.heap_setCell W p u k (fun e => hk (by rw [e]))⟩ (.inr hp)
/-- Element k of a slice that is owned. -/
theorem Own.at {W : World} {B g cap n : Nat} {zs : List PM.G} (h : Own W B (.slice (some ⟨g, 0, none⟩) n cap) zs) (k : Nat) (hk : k < zs.length) : B ≤ g ∧ g < W.heap.size ∧ cap ≤ 9223372036854775807 ∧ zs.length ≤ cap ∧ W.cell? ⟨g, k, none⟩ = some (.int .u8 ((PM.el zs k).v : Int)) ∧ W.frozen? ⟨g, k, none⟩ = false := by
  rcases h.parts with ⟨e, rfl⟩ | ⟨g', cap', e, hb, h2, h3, h4, hc⟩
  · simp at hk
  · cases e
    exact ⟨hb, h2, h4, h3, hc k hk⟩
theorem Own.len {W : World} {B n cap : Nat} {a : Option Addr} {zs : List PM.G} (h : Own W B (.slice a n cap) zs) : n = zs.length := by
  rcases h.parts with ⟨e, rfl⟩ | ⟨g', cap', e, _⟩
  · cases e; rfl
  · cases e; rfl

theorem info_byte : (Try.prog.info? 5).map (fun i => (i.zero, i.size, i.bytes)) = some (some (.int .u8 0), 1, 1) := by kernel_rfl
theorem map_zero (n : Nat) : (List.replicate n (0 : PM.G)).map gv = List.replicate n (.int .u8 0) := by
  rw [List.map_replicate]; rfl
/-- **make([]byte, n)** -/
theorem wpList_make1 {W : World} {ops : Array Oper} {rest : List Oper} {o : Oper} {a : Act} {Q : Exit → Act → World → Prop} (hgd : o.guard = none) (l c : Operand) (hop : o.op = Op.makeSlice 30 l c)
    {B : Nat} (n : Nat) {L : Int} (hl : a.eval l = .int .i64 L) (hc : a.eval c = .int .i64 L) (hL : L = (n : Int)) (hn : n < 1000000) (hbase : B ≤ W.heap.size)
    (h : ∀ W', Own W' B (.slice (some ⟨W.heap.size, 0, none⟩) (List.replicate n (0 : PM.G)).length n) (List.replicate n 0) → Below B W W' → wpList Try.prog ops Q rest (a.put o.dst (.slice (some ⟨W.heap.size, 0, none⟩) n n)) W') : wpList Try.prog ops Q (o :: rest) a W := by
  obtain ⟨i0, hi, hz0, hz1, hz2⟩ := info_parts info_byte
  refine wpList_make_full W hgd l c 30 hop B 5 i0 (.int .u8 0) 1 Try.underlying30 hi hz0 hz1 .i64 .i64 L L n hl hc hL hL (by rw [hz2]; omega) (by unfold maxLen; omega) hbase ?_
  intro W' hown hgrow
  refine h W' ?_ ((Below.refl B W).grown hgrow hbase (fun k e => by cases e))
  unfold Own
  rw [List.length_replicate, map_zero]
  have e : (madeCells (Value.int .u8 0).cells (n * 1)).toList = List.replicate n (Value.int .u8 0) := by
    refine List.eq_replicate_iff.2 ⟨by simp [madeCells, Value.cells], fun b hb => ?_⟩
    simp [madeCells, Value.cells, Nat.mod_one] at hb
    exact hb.2.symm
  rw [e] at hown
  exact hown

/-- **append(s, x)**, s owned. -/
theorem wpList_app1 {W : World} {ops : Array Oper} {rest : List Oper} {o : Oper} {a : Act} {Q : Exit → Act → World → Prop} (hgd : o.guard = none) (s x : Operand)
    (ho : o.op = .call { callee := .builtin .append, args := #[s, x], argTypes := #[30, 30] }) {B : Nat} {v : Value} {zs : List PM.G} {X : Int} (c : PM.G) (hs : a.eval s = v) (hown : Own W B v zs)
    {b : Nat} (hx : a.eval x = .slice (some ⟨b, 0, none⟩) 1 1) (hc : W.cell? ⟨b, 0, none⟩ = some (.int .u8 X)) (hX : X = (c.v : Int)) (hl : zs.length < 1000000) (hbase : B ≤ W.heap.size)
    (h : ∀ a' cap' W', Own W' B (.slice a' (zs ++ [c]).length cap') (zs ++ [c]) → W.grownBy W' v.ownBlock → Below B W W' → wpList Try.prog ops Q rest (a.put o.dst (.slice a' (zs.length + 1) cap')) W') : wpList Try.prog ops Q (o :: rest) a W := by
  subst hX
  obtain ⟨i0, hi, hz0, hz1, hz2⟩ := info_parts info_byte
  refine wpList_append_own W hgd s x 30 ho B 5 i0 (.int .u8 0) 1 1 Try.underlying30 hi hz0 hz1 hz2 rfl (by decide) v zs.length (zs.map gv) hs hown ⟨b, 0, none⟩ 1 1 [.int .u8 (c.v : Int)] hx rfl ?_ ?_ (by unfold maxLen; omega) (by omega) hbase ?_
  · intro j u hj
    match j, hj with
    | 0, hj => simp at hj; subst hj; simpa [Addr.add] using hc
  · intro u hu; simp at hu; subst hu; rfl
  · intro v' W' hown' hgrow _
    have ho2 : Own W' B v' (zs ++ [c]) := by unfold Own; simpa [gv] using hown'
    have hB2 : Below B W W' := (Below.refl B W).grown hgrow hbase (fun k e => (World.ownsRow.lt hown k e).1)
    obtain ⟨a', cap', rfl, _⟩ := ho2.row
    have := h a' cap' W' ho2 hgrow hB2
    simpa using this
theorem own_empty (w : World) (B : Nat) (h : B ≤ w.heap.size) : Own (w.alloc (.cells #[] 5)) B (.slice (some ⟨w.heap.size, 0, none⟩) 0 0) [] :=
  World.ownsRow_made (base := B) (e := 5) (size := 1) w #[] 0 h (by unfold maxLen; omega) rfl

/-- **append(s, t...)**, s owned, t any. -/
theorem wpList_appAll {W : World} {ops : Array Oper} {rest : List Oper} {o : Oper} {a : Act} {Q : Exit → Act → World → Prop} (hgd : o.guard = none) (s x : Operand)
    (ho : o.op = .call { callee := .builtin .append, args := #[s, x], argTypes := #[30, 30] }) {B : Nat} {v : Value} {zs ys : List PM.G} (hs : a.eval s = v) (hown : Own W B v zs)
    {b off cap : Nat} (hx : a.eval x = .slice (some ⟨b, off, none⟩) ys.length cap) (hr : Row W (some ⟨b, off, none⟩) ys cap) (hl : zs.length + ys.length < 1000000) (hbase : B ≤ W.heap.size)
    (h : ∀ a' cap' W', Own W' B (.slice a' (zs ++ ys).length cap') (zs ++ ys) → Below B W W' → wpList Try.prog ops Q rest (a.put o.dst (.slice a' (zs.length + ys.length) cap')) W') : wpList Try.prog ops Q (o :: rest) a W := by
  obtain ⟨i0, hi, hz0, hz1, hz2⟩ := info_parts info_byte
  refine wpList_append_own W hgd s x 30 ho B 5 i0 (.int .u8 0) 1 1 Try.underlying30 hi hz0 hz1 hz2 rfl (by decide) v zs.length (zs.map gv) hs hown ⟨b, off, none⟩ ys.length cap (ys.map gv) hx (by simp) ?_ ?_ (by unfold maxLen; omega) (by omega) hbase ?_
  · intro j u hj
    rw [List.getElem?_map] at hj
    by_cases hlt : j < ys.length
    · have hc := hr.cell j hlt
      rw [List.getElem?_eq_getElem hlt] at hj
      simp only [Option.map_some, Option.some.injEq] at hj
      subst hj
      rw [PM.el_lt hlt] at hc
      by_cases hj0 : j = 0
      · subst hj0; simpa [Addr.add, gv] using hc
      · simpa [Addr.add, hj0, gv] using hc
    · rw [List.getElem?_eq_none (by omega)] at hj; simp at hj
  · intro u hu
    obtain ⟨z, _, rfl⟩ := List.mem_map.1 hu
    rfl
  · intro v' W' hown' hgrow _
    have ho2 : Own W' B v' (zs ++ ys) := by unfold Own; rw [List.length_append, List.map_append]; exact hown'
    have hB2 : Below B W W' := (Below.refl B W).grown hgrow hbase (fun k e => (World.ownsRow.lt hown k e).1)
    obtain ⟨a', cap', rfl, _⟩ := ho2.row
    have := h a' cap' W' ho2 hB2
    simpa using this

/-- The result is the polynomial r, in memory of the call's own, from B on. -/
theorem Own.trimmed {W : World} {B : Nat} {a : Option Addr} {cap : Nat} {zs : List PM.G} (h : Own W B (.slice a zs.length cap) zs) : Own W B (P.cut a cap (PM.trimL zs)) (PM.trimL zs) := by
  unfold P.cut
  split
  · rename_i e; rw [e]; exact Own.nil _ _
  · obtain ⟨h1, h2 | ⟨g, cap', cur, hv, hg, hh, r1, r2, r3, r4⟩⟩ := h
    · rename_i e
      have hz : zs = [] := List.length_eq_zero_iff.1 h2.2
      subst hz; exact absurd rfl e
    · cases hv
      have hl := PM.trimL_len zs
      refine ⟨by simp, .inr ⟨g, cap, cur, rfl, hg, hh, by omega, r2, r3, ?_⟩⟩
      rw [← PM.trimL_take zs, List.map_take, ← r4, List.take_take, List.length_take]
      congr 1; omega
end Go.Proofs.Ytijkgplglfmfnaa.P

namespace Go.Proofs.Ytijkgplglfmfnaa.P
open Go Go.RowKit Go.Shelf
attribute [local go_sem] Oper.semAt_some

set_option maxRecDepth 100000 in
set_option maxHeartbeats 2000000 in
/-- **poly.trimmed**: the slice without the zeros at its end. -/
theorem trimmed_any (a : Option Addr) (zs : List PM.G) (cap : Nat) (w : World) (hR : Row w a zs cap) :
    Calls Try.prog 77 #[.slice a zs.length cap] w fun e W' => e = .returned (cut a cap (PM.trimL zs)) ∧ Below w.heap.size w W' := by
  refine (callsIn_wide (n := 6)).1 ?_
  refine callsIn_of_wp_marks Try.func77 rfl trivial ?_ rfl
  simp only [Try.ntmps77, List.size_toArray, List.length_cons, List.length_nil, Nat.reduceAdd, Nat.reduceSub, Array.replicate_succ, Array.replicate_zero, List.push_toArray, List.append_toArray, List.nil_append, List.cons_append]
  gi_wp2_with (refine ⟨trivial, ?_⟩; gi_at_call 79; refine (callsIn_wide.2 (backward_any _ _ _ _)).mono ?_; rintro e w' ⟨rfl, rfl⟩)
  have c0 := cell_new w (.slice a zs.length cap) 30
  have c1 := cell_new (w.alloc (.cells #[.slice a zs.length cap] 30)) (.slice none 0 0) 30
  have f1 := frozen_new (w.alloc (.cells #[.slice a zs.length cap] 30)) (.slice none 0 0) 30
  have c2 := cell_new ((w.alloc (.cells #[.slice a zs.length cap] 30)).alloc (.cells #[.slice none 0 0] 30)) (.slice a zs.length cap) 30
  simp only [World.size_alloc] at c1 f1 c2
  have hB0 : Below w.heap.size w (((w.alloc (.cells #[.slice a zs.length cap] 30)).alloc (.cells #[.slice none 0 0] 30)).alloc (.cells #[.slice a zs.length cap] 30)) := (((Below.refl _ w).alloc (Nat.le_refl _) _).alloc (by simp) _).alloc (by simp; omega) _
  refine wpIn_back (n := 6) (by omega) (Bs := w.heap.size + 1 + 1) rfl rfl a zs.length cap (by have := hR.room; have := hR.most; omega) (fun j => ((PM.el zs j).v : Int))
    (fun k W => ((∀ j : Nat, k ≤ j → PM.el zs j = 0) ∧ W.cell? ⟨w.heap.size, 0, none⟩ = some (.slice a zs.length cap) ∧ W.cell? ⟨w.heap.size + 1, 0, none⟩ = some (.slice none 0 0) ∧ W.frozen? ⟨w.heap.size + 1, 0, none⟩ = false ∧ W.cell? ⟨w.heap.size + 1 + 1, 0, none⟩ = some (.slice a zs.length cap)) ∧ Below w.heap.size w W)
    (fun c k W => (c = .ret ∧ PM.el zs k ≠ 0 ∧ (∀ j : Nat, k < j → PM.el zs j = 0) ∧ W.cell? ⟨w.heap.size + 1, 0, none⟩ = some (.slice a (k + 1) cap)) ∧ Below w.heap.size w W)
    (OwnFrom.and (Own.from (fun s A B row hs hg hr => ⟨hs.1, cell_kept hs.2.1 hg hr, cell_kept hs.2.2.1 hg hr, (frozen_kept hs.2.2.1 hg hr).trans hs.2.2.2.1, cell_kept hs.2.2.2.2 hg hr⟩) _) (ownFrom_below (Nat.le_refl _) (by simp; omega)))
    (fun c => OwnFrom.and (Own.from (fun s A B row hs hg hr => ⟨hs.1, hs.2.1, hs.2.2.1, cell_kept hs.2.2.2 hg hr⟩) _) (ownFrom_below (Nat.le_refl _) (by simp; omega)))
    ⟨⟨fun j hj => by exact PM.el_ge hj, cell_later _ (cell_later _ c0), cell_later _ c1, frozen_later _ c1 f1, c2⟩, hB0⟩
    (fun k W h => h.1.2.2.2.2)
    (fun k W h hk => by
      obtain ⟨b, off, e, hc⟩ := hR.el k hk
      exact ⟨b, off, e, (h.2.cell (p := ⟨b, off + k, none⟩) (lt_of_cell hc)).trans hc⟩)
    (fun k => { tmps := #[.slice a zs.length cap, .pointer (some ⟨w.heap.size, 0, none⟩), .pointer (some ⟨w.heap.size + 1, 0, none⟩), .int .i64 (k : Int), .int .u8 ((PM.el zs k).v : Int), .slice a zs.length cap, .func (.func 90) #[] #[.pointer (some ⟨w.heap.size + 1 + 1, 0, none⟩)], .int .i64 (k : Int), .int .u8 ((PM.el zs k).v : Int), undef, undef, undef, undef, undef, undef], defers := [] }) ?assign ?body ?done ?stop
  case assign =>
    intro l k W K hk hK
    gi_wp2
    exact hK
  case body =>
    rintro l k W hl hrec ⟨⟨hz, hc0, hc1, hf1, hc2⟩, hB⟩ hk
    have hroom := hR.room
    have hmost := hR.most
    have hz' : ∀ j : Nat, k < j → PM.el zs j = 0 := fun j hj => hz j hj
    have HZ := Lib.hid hz
    have HZ' := Lib.hid hz'
    clear hz hz'
    by_cases hne : PM.el zs k = 0
    · have hb : (((PM.el zs k).v : Int) != 0) = false := gv_zero hne
      have HN := Lib.hid hne
      clear hne
      gi_wp2
      refine ⟨(KeepsOthers.refl _).from _, ⟨fun j hj => ?_, hc0, hc1, hf1, hc2⟩, hB⟩
      by_cases e : j = k
      · rw [e]; exact HN.out
      · exact HZ'.out j (by omega)
    · have hb : (((PM.el zs k).v : Int) != 0) = true := gv_ne hne
      have HN := Lib.hid hne
      clear hne
      gi_wp2
      exact ⟨(KeepsOthers.setCell _ _ _).from _, ⟨rfl, HN.out, HZ'.out, World.cell?_setCell_same' _ _ _ (by rw [hc1]; rfl)⟩, hB.setCell (p := ⟨w.heap.size + 1, 0, none⟩) (by simp) _⟩
  case done =>
    rintro D W hD ⟨⟨hz, _, hc1, hf1, _⟩, hB⟩ hK
    have HZ := Lib.hid (PM.trimL_none zs (fun j => hz j (Nat.zero_le _)))
    clear hz
    gi_wp2
    have hK' := (KeepsOthers.setCell W ⟨w.heap.size + 1, 0, none⟩ (.slice none 0 0)).same D _ hK rfl
    refine ⟨by simp, .inl ⟨_, _, rfl, run_takeDeferred hK', ?_⟩⟩
    have hc5 := cell_kept (World.cell?_setCell_same' W ⟨w.heap.size + 1, 0, none⟩ (.slice none 0 0) (by rw [hc1]; rfl)) (grownBy_putObj' _ D (.deferred none)) (fun r e => by cases e; exact ⟨_, hK', rfl⟩)
    refine ⟨.slice none 0 0, ?_, by rw [HZ.out]; rfl, (hB.setCell (p := ⟨w.heap.size + 1, 0, none⟩) (by simp) _).trans (belowK_b (w := w) (Nat.le_refl _) _ D _ _ (by simp at hD; omega) hK' rfl rfl)⟩
    simp [results, Try.f77, go_sem, hc5]
  case stop =>
    rintro D c k W hD hk ⟨⟨rfl, hne, hz, hc1⟩, hB⟩ hK
    have HZ := Lib.hid (PM.trimL_at zs k hne hz)
    clear hz hne
    gi_wp2
    refine ⟨by simp, .inl ⟨_, _, rfl, run_takeDeferred hK, ?_⟩⟩
    have hc5 := cell_kept hc1 (grownBy_putObj' _ D (.deferred none)) (fun r e => by cases e; exact ⟨_, hK, rfl⟩)
    refine ⟨.slice a (k + 1) cap, ?_, ?_, hB.trans (belowK_b (w := w) (Nat.le_refl _) W D _ _ (by simp at hD; omega) hK rfl rfl)⟩
    · simp [results, Try.f77, go_sem, hc5]
    · have hh := HZ.out
      unfold cut
      rw [if_neg (by intro e; rw [e] at hh; simp at hh), hh]


/-- A valid polynomial. -/
structure Pol (p : List PM.G) : Prop where
  can : PM.Can p
  len : p.length ≤ 255

set_option maxHeartbeats 400000 in
theorem valid_yes (a : Option Addr) (p : List PM.G) (cap : Nat) (w : World) (hR : Row w a p cap) (hp : Pol p) :
    Calls Try.prog 56 #[.slice a p.length cap] w fun e W' => e = .returned (.bool true) ∧ Below w.heap.size w W' := by
  have hroom := hR.room
  have hmost := hR.most
  have hlen := hp.len
  have ht := trimmed_any a p cap w hR
  obtain ⟨a', c', hc, _, _⟩ := hR.cut
  rw [hc, PM.trimL_can hp.can] at ht
  have HT := Lib.hid ht
  clear ht hc hR hp
  go_enter Try.func56, Try.ntmps56
  go_wp2_with (go_at_call 77; refine HT.out.mono ?_; rintro e w' ⟨rfl, hb⟩)
  go_ret
  exact ⟨rfl, by assumption⟩

set_option maxHeartbeats 400000 in
theorem valid_no (a : Option Addr) (p : List PM.G) (cap : Nat) (w : World) (hR : Row w a p cap) (hp : ¬ Pol p) :
    Calls Try.prog 56 #[.slice a p.length cap] w fun e W' => e = .returned (.bool false) ∧ Below w.heap.size w W' := by
  have hroom := hR.room
  have hmost := hR.most
  by_cases hlen : p.length ≤ 255
  · have ht := trimmed_any a p cap w hR
    obtain ⟨a', c', hc, _, _⟩ := hR.cut
    rw [hc] at ht
    have hne : (p.length : Int) ≠ ((PM.trimL p).length : Int) := by
      intro e
      have e' : (PM.trimL p).length = p.length := by omega
      have h2 : PM.trimL p = p := by have := PM.trimL_take p; rwa [e', List.take_length, eq_comm] at this
      exact hp ⟨by rw [← h2]; exact PM.can_trimL p, hlen⟩
    have HB := Lib.hid (show ((p.length : Int) == ((PM.trimL p).length : Int)) = false by simpa using hne)
    have hle := PM.trimL_len p
    generalize (PM.trimL p).length = n at *
    have HT := Lib.hid ht
    clear ht hc hR hp hne
    go_enter Try.func56, Try.ntmps56
    have hb := HB.out
    go_wp2_with (go_at_call 77; refine HT.out.mono ?_; rintro e w' ⟨rfl, hb⟩)
    go_ret
    exact ⟨rfl, by assumption⟩
  · clear hp
    go_enter Try.func56, Try.ntmps56
    go_wp2
    go_ret
    exact ⟨rfl, Below.refl _ _⟩
end Go.Proofs.Ytijkgplglfmfnaa.P

namespace Go.Proofs.Ytijkgplglfmfnaa
open Go Go.RowKit Go.Shelf

def lenRen : Go.Shelf.Ren := ⟨fun | 125 => 92 | 128 => 93 | 129 => 94 | n => n, fun | 46 => 67 | 3 => 3 | 51 => 105 | 53 => 107 | 4 => 4 | 5 => 5 | 9 => 9 | n => n, fun | n => n⟩
theorem lenLays : Go.Proofs.Lays.n125 Try.prog lenRen := {
  mixed := by kernel_rfl
  f125 := Try.func92.trans (congrArg some (by kernel_rfl))
  f128 := Try.func93.trans (congrArg some (by kernel_rfl))
  f129 := Try.func94.trans (congrArg some (by kernel_rfl))
  t3 := Try.underlying3
  a3 := Try.isAgg3
  z3 := Try.sizeOf3
  v3 := Try.zeroValue3
  t4 := Try.underlying4
  a4 := Try.isAgg4
  z4 := Try.sizeOf4
  v4 := Try.zeroValue4
  t5 := Try.underlying5
  a5 := Try.isAgg5
  z5 := Try.sizeOf5
  v5 := Try.zeroValue5
  t9 := Try.underlying9
  a9 := Try.isAgg9
  z9 := Try.sizeOf9
  v9 := Try.zeroValue9
  t46 := Try.underlying67
  a46 := Try.isAgg67
  z46 := Try.sizeOf67
  v46 := Try.zeroValue67
  t51 := Try.underlying105
  a51 := Try.isAgg105
  z51 := Try.sizeOf105
  v51 := Try.zeroValue105
  t53 := Try.underlying107
  a53 := Try.isAgg107
  z53 := Try.sizeOf107
  v53 := Try.zeroValue107 }
theorem bitsLen_any (x : Int) (w : World) (h0 : 0 ≤ x) (h1 : x ≤ 18446744073709551615) :
    Calls Try.prog 92 #[.int .u64 x] w fun e w' => e = .returned (.int .i64 (Lib.bitLen x.toNat)) ∧ w' = w := Any.bits_Len lenLays x w h0 h1
end Go.Proofs.Ytijkgplglfmfnaa

namespace Go.Proofs.Ytijkgplglfmfnaa
open Go Go.RowKit Go.Shelf

theorem ret_int {k : IntKind} {a b : Int} (h : a = b) : Ending.returned (.int k a) = .returned (.int k b) := by rw [h]
theorem u8_int {a b : Int} (h : a = b) : Value.int .u8 a = .int .u8 b := by rw [h]
theorem xor_u8 (a b : Nat) (ha : a < 256) (hb : b < 256) : bits BinOp.xor IntKind.u8 (a : Int) (b : Int) = ((a ^^^ b : Nat) : Int) := by
  show IntKind.u8.wrap ((BitVec.ofInt 8 a ^^^ BitVec.ofInt 8 b).toNat : Int) = _
  rw [BitVec.toNat_xor, BitVec.ofInt_natCast, BitVec.ofInt_natCast, BitVec.toNat_ofNat, BitVec.toNat_ofNat, Nat.mod_eq_of_lt ha, Nat.mod_eq_of_lt hb]
  have := FM.xor_lt ha hb
  have e : IntKind.u8.wrap ((a ^^^ b : Nat) : Int) = ((a ^^^ b : Nat) : Int) % 256 := by simp [IntKind.wrap, IntKind.bits, IntKind.signed]
  rw [e]
  omega
theorem dbl_bits (a : Nat) (ha : a < 256) : bits BinOp.xor IntKind.u8 ((a : Int) * 2 % 256) ((a : Int) / 128 * 29) = (FM.dbl a : Int) := by
  rw [show ((a : Int) * 2 % 256) = ((a * 2 % 256 : Nat) : Int) by omega, show ((a : Int) / 128 * 29) = ((a / 128 * 29 : Nat) : Int) by omega, xor_u8 _ _ (by omega) (by omega)]
  rfl

theorem double_any (a : Nat) (ha : a < 256) (w : World) :
    Calls Try.prog 91 #[.int .u8 (a : Int)] w fun e w' => e = .returned (.int .u8 (FM.dbl a : Int)) ∧ w = w' := by
  go_enter Try.func91, Try.ntmps91
  go_wp2
  go_ret
  exact ⟨ret_int (dbl_bits a ha), rfl⟩
/-- w' is w but for drawn answers. -/
def Dr (w w' : World) : Prop := ∃ m, w' = w.drewN m
theorem Dr.refl (w : World) : Dr w w := ⟨0, rfl⟩
theorem Dr.drewN {w w1 : World} (h : Dr w w1) (n : Nat) : Dr w (w1.drewN n) := by
  obtain ⟨m, rfl⟩ := h; exact ⟨m + n, by rw [World.drewN_drewN]⟩
theorem Dr.trans {w w1 w2 : World} (h : Dr w w1) (h2 : Dr w1 w2) : Dr w w2 := by
  obtain ⟨n, rfl⟩ := h2; exact h.drewN n

theorem mask_u8 (x : Nat) (hx : x < 256) : bits BinOp.and IntKind.u8 (x : Int) 1 = ((x % 2 : Nat) : Int) := by
  have h : ∀ n : Fin 256, bits BinOp.and IntKind.u8 (n.val : Int) 1 = ((n.val % 2 : Nat) : Int) := by decide +kernel
  exact h ⟨x, hx⟩
theorem mul_step (a b k : Nat) (ha : a < 256) (hb : b < 256) : bits BinOp.xor IntKind.u8 (FM.dbl (FM.mulTo a b k) : Int) ((a : Int) * bits BinOp.and IntKind.u8 ((b : Int) / 2 ^ (7 - k)) 1 % 256) = (FM.mulTo a b (k + 1) : Int) := by
  have hd : b / 2 ^ (7 - k) ≤ b := Nat.div_le_self _ _
  rw [show (b : Int) / 2 ^ (7 - k) = ((b / 2 ^ (7 - k) : Nat) : Int) by rw [Int.natCast_ediv, Int.natCast_pow]; rfl, mask_u8 _ (by omega)]
  have e : ((a : Int) * ((b / 2 ^ (7 - k) % 2 : Nat) : Int) % 256) = ((FM.bitOf b (7 - k) a : Nat) : Int) := by
    unfold FM.bitOf
    rw [Nat.testBit_eq_decide_div_mod_eq]
    by_cases h : b / 2 ^ (7 - k) % 2 = 1
    · rw [h]; simp; omega
    · rw [show b / 2 ^ (7 - k) % 2 = 0 by omega]; simp
  rw [e, xor_u8 _ _ (FM.dbl_lt (FM.mulTo_lt ha k)) (FM.bitOf_lt ha)]
  rfl
theorem mul_any (a b : Nat) (ha : a < 256) (hb : b < 256) (w : World) :
    Calls Try.prog 80 #[.int .u8 (a : Int), .int .u8 (b : Int)] w fun e w' => e = .returned (.int .u8 (FM.mul a b : Int)) ∧ Dr w w' := by
  go_enter Try.func80, Try.ntmps80
  go_wp2
  go_loopw [5, 7] (fun p i wr => ∃ k : Nat, k ≤ 8 ∧ i = .int .i64 (k : Int) ∧ p = .int .u8 (FM.mulTo a b k : Int) ∧ Dr w wr) (fun _ i _ => 8 - (intOf i).toNat)
  case atStart => exact ⟨0, Nat.zero_le _, rfl, rfl, Dr.refl _⟩
  case round =>
    obtain ⟨k, hk, rfl, rfl, hd⟩ := hrel
    have hl := FM.mulTo_lt (b := b) ha k
    by_cases hlt : k < 8
    · go_wp2
      go_quiet ((go_at_call 91; refine Calls.quiet_of_same ((double_any _ hl _).mono fun _ _ h => ⟨h.1, h.2.symm⟩)))
      go_wp2
      go_roundw
      case rel => exact ⟨k + 1, by omega, by go_num, u8_int (mul_step a b k ha hb), hd.drewN _⟩
      case measure => simp [intOf]; omega
    · go_wp2
      go_ret
      exact ⟨ret_int (by rw [show k = 8 by omega]; rfl), hd⟩
theorem lt_bitLen (n : Nat) (h : n < 2 ^ 64) : n < 2 ^ Lib.bitLen n := by
  induction n using Nat.strongRecOn with
  | ind n ih =>
    by_cases e : n = 0
    · subst e; decide
    · rw [Lib.bitLen_half n e h, Nat.add_comm, Nat.pow_succ]
      have := ih (n / 2) (by omega) (by omega)
      omega
theorem mask1 (x : Int) : bits BinOp.and IntKind.i64 x 1 = x % 2 := by
  show IntKind.i64.wrap ((BitVec.ofInt 64 x &&& BitVec.ofInt 64 1).toNat : Int) = _
  have h1 : ((BitVec.ofInt 64 x).toNat : Int) = x % 18446744073709551616 := by
    rw [BitVec.toNat_ofInt]
    have : 0 ≤ x % ((2 ^ 64 : Nat) : Int) := Int.emod_nonneg _ (by decide)
    rw [Int.toNat_of_nonneg this]; rfl
  have h2 : (BitVec.ofInt 64 1).toNat = 2 ^ 1 - 1 := by decide
  rw [BitVec.toNat_and, h2, Nat.and_two_pow_sub_one_eq_mod, IntKind.wrap_i64]
  omega
attribute [local go_sem] mask1

theorem power_E (i n : Nat) (hn : n < 9223372036854775808) (w : World) :
    Calls Try.prog 82 #[.int .u8 (FM.E i : Int), .int .i64 (n : Int)] w fun e w' => e = .returned (.int .u8 (FM.E (i * n) : Int)) ∧ Dr w w' := by
  have HL := Lib.hid (lt_bitLen n (by omega))
  have hlen := bitsLen_any (n : Int)
  rw [Int.toNat_natCast] at hlen
  have HLL := Lib.hid (Lib.bitLen_le n 64 (by omega) (by omega))
  generalize Lib.bitLen n = L at *
  have HLEN := Lib.hid hlen
  clear hlen
  go_enter Try.func82, Try.ntmps82
  go_wp2_with (go_at_call 92; refine (HLEN.out _ (by omega) (by omega)).mono ?_; rintro e w' ⟨rfl, rfl⟩)
  go_loopw [0, 5, 10] (fun a r c wr => ∃ k : Nat, k ≤ L ∧ c = .int .i64 (k : Int) ∧ a = .int .u8 (FM.E (i * 2 ^ k) : Int) ∧ r = .int .u8 (FM.E (i * (n % 2 ^ k)) : Int) ∧ Dr w' wr) (fun _ _ c _ => L - (intOf c).toNat)
  case atStart => exact ⟨0, Nat.zero_le _, rfl, by rw [Nat.pow_zero, Nat.mul_one], by rw [Nat.pow_zero, Nat.mod_one, Nat.mul_zero]; rfl, Dr.refl _⟩
  case round =>
    obtain ⟨k, hk, rfl, rfl, rfl, hd⟩ := hrel
    by_cases hlt : k < L
    · have hk64 : k < 64 := by have := HLL.out; omega
      have e1 := FM.E_lt (i * 2 ^ k)
      have e2 := FM.E_lt (i * (n % 2 ^ k))
      have hT : ((n : Int) / 2 ^ k % 2) = ((n / 2 ^ k % 2 : Nat) : Int) := by rw [Int.natCast_emod, Int.natCast_ediv, Int.natCast_pow]; rfl
      by_cases hb : n / 2 ^ k % 2 = 1
      · have HS := Lib.hid (FM.pow_step1 i n k hb)
        have HQ := Lib.hid (FM.pow_sq i k)
        have hT1 : ((n : Int) / 2 ^ k % 2 == 1) = true := by rw [hT, hb]; rfl
        clear hT hb
        go_wp2_with (go_at_call 80; refine (mul_any _ _ (by assumption) (by assumption) _).mono ?_; rintro e w1 ⟨rfl, hd1⟩)
        rename_i w1' hd1'
        go_roundw
        case rel => exact ⟨k + 1, by omega, by go_num, u8_int (by rw [HQ.out]), u8_int (by rw [HS.out]), (hd.trans hd1').trans hd1⟩
        case measure => simp [intOf]; omega
      · have HS := Lib.hid (FM.pow_step0 i n k hb)
        have HQ := Lib.hid (FM.pow_sq i k)
        have hT1 : ((n : Int) / 2 ^ k % 2 == 1) = false := by rw [hT]; simp; omega
        clear hT hb
        go_wp2_with (go_at_call 80; refine (mul_any _ _ (by assumption) (by assumption) _).mono ?_; rintro e w1 ⟨rfl, hd1⟩)
        go_roundw
        case rel => exact ⟨k + 1, by omega, by go_num, u8_int (by rw [HQ.out]), u8_int (by rw [HS.out]), hd.trans hd1⟩
        case measure => simp [intOf]; omega
    · go_wp2_with fail
      go_ret
      obtain rfl : k = L := by omega
      exact ⟨ret_int (by rw [Nat.mod_eq_of_lt HL.out]), hd⟩

/-- The powers of an element that is not 0. -/
theorem power_any (a n : Nat) (ha : a < 256) (h0 : a ≠ 0) (hn : n < 9223372036854775808) (w : World) :
    Calls Try.prog 82 #[.int .u8 (a : Int), .int .i64 (n : Int)] w fun e w' => e = .returned (.int .u8 (FM.pw a n : Int)) ∧ Dr w w' := by
  have := power_E (FM.lg a) n hn w
  rwa [FM.E_lg ha h0] at this
theorem ret_pair {k l : IntKind} {a b c d : Int} (h : a = b) (g : c = d) : Ending.returned (.tuple #[.int k a, .int l c]) = .returned (.tuple #[.int k b, .int l d]) := by rw [h, g]
theorem inverse_any (a : Nat) (ha : a < 256) (w : World) :
    Calls Try.prog 89 #[.int .u8 (a : Int)] w fun e w' => e = .returned (.tuple #[.int .u8 (FM.invV a : Int), .int .i64 (FM.errZ a)]) ∧ Dr w w' := by
  by_cases h0 : a = 0
  · subst h0
    go_enter Try.func89, Try.ntmps89
    go_wp2
    go_ret2
    exact ⟨rfl, Dr.refl _⟩
  · have ht : ((a : Int) == 0) = false := by simp; omega
    have hp := power_any a 254 ha h0 (by decide)
    have hi : FM.invV a = FM.pw a 254 := by unfold FM.invV; rw [if_neg h0]
    have he : FM.errZ a = 0 := by unfold FM.errZ; rw [if_neg h0]
    rw [hi, he]
    have HP := Lib.hid hp
    clear hp hi he h0
    go_enter Try.func89, Try.ntmps89
    go_wp2_with (go_at_call 82; refine (HP.out _).mono ?_; rintro e w1 ⟨rfl, hd⟩)
    go_ret2
    exact ⟨rfl, hd⟩
theorem invE_zero {a : Nat} (h : a ≠ 0) : FM.errZ a = 0 := by unfold FM.errZ; rw [if_neg h]
theorem divide_any (a b : Nat) (ha : a < 256) (hb : b < 256) (w : World) :
    Calls Try.prog 74 #[.int .u8 (a : Int), .int .u8 (b : Int)] w fun e w' => e = .returned (.tuple #[.int .u8 (FM.divV a b : Int), .int .i64 (FM.errZ b)]) ∧ Dr w w' := by
  have hI := inverse_any b hb
  have hl := FM.invV_lt b
  by_cases h0 : b = 0
  · subst h0
    have HI := Lib.hid hI
    clear hI
    go_enter Try.func74, Try.ntmps74
    go_wp2_with (go_at_call 89; refine (HI.out _).mono ?_; rintro e w1 ⟨rfl, hd⟩)
    go_ret2
    exact ⟨rfl, hd⟩
  · have hv : FM.divV a b = FM.mul a (FM.invV b) := by unfold FM.divV; rw [if_neg h0]
    have he := invE_zero h0
    rw [hv]
    rw [he] at hI ⊢
    have HI := Lib.hid hI
    clear hI he hv h0
    go_enter Try.func74, Try.ntmps74
    go_wp2_with (first | (go_at_call 89; refine (HI.out _).mono ?_; rintro e w1 ⟨rfl, hd⟩) | (go_at_call 80; refine (mul_any _ _ ha hl _).mono ?_; rintro e w2 ⟨rfl, hd2⟩))
    go_ret2
    exact ⟨rfl, hd.trans hd2⟩
end Go.Proofs.Ytijkgplglfmfnaa

namespace Go.Proofs.Ytijkgplglfmfnaa.P
open Go Go.RowKit Go.Shelf

theorem fmul_any (a b : PM.G) (w : World) :
    Calls Try.prog 80 #[.int .u8 (a.v : Int), .int .u8 (b.v : Int)] w fun e w' => e = .returned (.int .u8 ((a * b).v : Int)) ∧ Dr w w' := mul_any a.v b.v a.lt b.lt w
theorem xor_G (a b : PM.G) : bits BinOp.xor IntKind.u8 (a.v : Int) (b.v : Int) = ((a + b).v : Int) := xor_u8 a.v b.v a.lt b.lt

def AddRel (w : World) (B g cap off : Nat) (zs ps : List PM.G) (c : PM.G) (i : Value) (W : World) : Prop :=
  ∃ (k : Nat) (ys : List PM.G), i = .int .i64 (k : Int) ∧ k ≤ ps.length ∧ ys.length = zs.length ∧ (∀ j, PM.el ys j = PM.el zs j + if j < off ∨ off + k ≤ j then 0 else c * PM.el ps (j - off)) ∧
    Own W B (.slice (some ⟨g, 0, none⟩) ys.length cap) ys ∧ w.grownBy W (some g)
/-- What addMultiple leaves. -/
def AddPost (w : World) (B g cap off : Nat) (zs ps : List PM.G) (c : PM.G) (e : Ending) (W : World) : Prop :=
  ∃ ys : List PM.G, e = .returned (.tuple #[]) ∧ ys.length = zs.length ∧ (∀ j, PM.el ys j = PM.el zs j + if j < off then 0 else c * PM.el ps (j - off)) ∧
    Own W B (.slice (some ⟨g, 0, none⟩) ys.length cap) ys ∧ w.grownBy W (some g)

theorem add_step {w wr : World} {B g cap off : Nat} {zs ps ys : List PM.G} {c : PM.G} (k : Nat) (hlt : k < ps.length) (hfit : off + ps.length ≤ zs.length) (hlen : ys.length = zs.length)
    (hel : ∀ j, PM.el ys j = PM.el zs j + if j < off ∨ off + k ≤ j then 0 else c * PM.el ps (j - off)) (hown : Own wr B (.slice (some ⟨g, 0, none⟩) ys.length cap) ys) (hgr : w.grownBy wr (some g)) (m : Nat) :
    AddRel w B g cap off zs ps c (.int .i64 ((k : Int) + 1)) ((wr.drewN m).setCell ⟨g, off + k, none⟩ (.int .u8 (bits BinOp.xor IntKind.u8 ((PM.el ys (off + k)).v : Int) ((PM.el ps k * c).v : Int)))) := by
  rw [xor_G]
  refine ⟨k + 1, ys.set (off + k) (PM.el ys (off + k) + PM.el ps k * c), by go_num, hlt, by rw [List.length_set]; exact hlen, fun j => ?_, ?_, grown_set (grown_drewN hgr m) _ _⟩
  · rw [PM.el_set (by omega), hel, hel j]
    by_cases e : j = off + k
    · subst e
      rw [if_pos rfl, if_pos (.inr (Nat.le_refl _)), PM.G.add_zero, if_neg (by omega), Nat.add_sub_cancel_left, PM.G.mul_comm]
    · rw [if_neg e]
      congr 1
      by_cases h : j < off ∨ off + k ≤ j
      · rw [if_pos h, if_pos (by omega)]
      · rw [if_neg h, if_neg (by omega)]
  · have := (hown.drewN m).set (off + k) (PM.el ys (off + k) + PM.el ps k * c)
    rwa [List.length_set]

set_option maxRecDepth 100000 in
set_option maxHeartbeats 1000000 in
/-- **poly.addMultiple** -/
theorem addMul_any (B g cap off n cs cp : Nat) (zs ps : List PM.G) (ap : Option Addr) (c : PM.G) (w : World) (hown : Own w B (.slice (some ⟨g, 0, none⟩) zs.length cap) zs)
    (hp : Row w ap ps cp) (hfit : off + ps.length ≤ zs.length) (hn : ps.length ≤ n) (hcs : n ≤ cs) (hcs2 : cs ≤ 9223372036854775807) (hne : 0 < ps.length → ∀ b o, ap = some ⟨b, o, none⟩ → b ≠ g) :
    Calls Try.prog 81 #[.slice (some ⟨g, off, none⟩) n cs, .slice ap ps.length cp, .int .u8 (c.v : Int)] w (AddPost w B g cap off zs ps c) := by
  have hpm := hp.room
  have hpm2 := hp.most
  have HO0 := Lib.hid hown
  have HP := Lib.hid hp
  have HNE := Lib.hid hne
  clear hown hp hne
  go_enter Try.func81, Try.ntmps81
  go_wp2
  go_loopw [10] (fun i wr => AddRel w B g cap off zs ps c i wr) (fun i _ => ps.length - (intOf i).toNat)
  case atStart => exact ⟨0, zs, rfl, Nat.zero_le _, rfl, fun j => by rw [if_pos (by omega), PM.G.add_zero], HO0.out, World.grownBy.refl _ _⟩
  case round =>
    obtain ⟨k, ys, rfl, hk, hlen, hel, hown, hgr⟩ := hrel
    have HLN := Lib.hid hlen
    have HEL := Lib.hid hel
    have HO := Lib.hid hown
    have HG := Lib.hid hgr
    have hsz := hgr.size
    clear hlen hel hown hgr
    by_cases hlt : k < ps.length
    · have hP := HP.out.grown HG.out (fun b o e => by intro h; cases h; exact HNE.out (by omega) _ _ e rfl)
      obtain ⟨pb, po, rfl, hcp⟩ := hP.el k hlt
      obtain ⟨hgB, hgW, hcap, hcap2, hcz, hfz⟩ := HO.out.at (off + k) (by rw [HLN.out]; omega)
      rw [HLN.out] at hcap2
      clear hP
      go_wp2_with fail
      go_region_with (go_at_call 80; refine (fmul_any _ _ _).mono ?_; rintro e w1 ⟨rfl, hd1⟩; obtain ⟨m, rfl⟩ := hd1)
      all_goals go_wp2_with fail
      all_goals go_roundw
      all_goals first
        | exact add_step k hlt hfit HLN.out HEL.out HO.out HG.out _
        | (simp [intOf]; omega)
    · go_wp2
      refine bodyPost_ret (results_none rfl _ _ _) rfl ?_
      refine ⟨ys, rfl, HLN.out, fun j => ?_, HO.out, HG.out⟩
      rw [HEL.out]
      congr 1
      by_cases h1 : j < off
      · rw [if_pos (.inl h1), if_pos h1]
      · rw [if_neg h1]
        by_cases h2 : off + k ≤ j
        · rw [if_pos (.inr h2), PM.el_ge (by omega), PM.G.mul_zero]
        · rw [if_neg (by omega)]
end Go.Proofs.Ytijkgplglfmfnaa.P

namespace Go.Proofs.Ytijkgplglfmfnaa
open Go

/-- No operation of the region defers a call. -/
def noDefer (ops : Array Oper) : Bool := ops.all fun o => match o.op with | .defer _ => false | _ => true
theorem noDefer_at {ops : Array Oper} (h : noDefer ops = true) {i : Nat} {o : Oper} (ho : ops[i]? = some o) : ∀ c, o.op ≠ .defer c := by
  intro c e
  have h1 := Array.all_eq_true_iff_forall_mem.1 h o (Array.mem_of_getElem? ho)
  simp [e] at h1

theorem oper_round {P : Program} {n l : Nat} {o : Oper} {a : Act} {w : World} {K : Act → World → Prop} {Q : Exit → Act → World → Prop} (hd : ∀ c, o.op ≠ .defer c) (h : o.wp P a w K Q) :
    o.wpIn (Fence.wide.inRound l) n P a w K Q := by
  unfold Oper.wp at h
  unfold Oper.wpIn
  refine ⟨fun f _ => trivial, ?_⟩
  rw [Oper.semAt_eq _ _ _ hd]
  generalize (execOp a.eval o).run P w = r at *
  cases r with
  | ok x w' =>
    cases x with
    | value v => exact h
    | skip => exact h
    | defer d => exact h
    | enter f args => exact ⟨(fun h => (by cases h)), callsIn_wide.2 h⟩
    | row row args =>
      refine ⟨(fun h => (by cases h)), fun c cs _ => ?_⟩
      obtain ⟨v, w', r, s⟩ := h c cs
      exact ⟨v, w', r, stepsIn_wide.2 s⟩
    | _ => exact absurd h (by simp [Oper.upon])
  | halt x w' => cases x <;> first | exact h | exact absurd h (by simp [Oper.upon])

theorem wpOp_round {P : Program} {n l : Nat} {ops : Array Oper} {Q : Exit → Act → World → Prop} (hd : noDefer ops = true) (hout : ¬ LetsOut Q) {i : Nat} {K : Act → World → Prop} {a : Act} {w : World} (h : wpOp P ops Q i K a w) :
    wpOpIn (Fence.wide.inRound l) n P ops Q i K a w := by
  unfold wpOp at h
  unfold wpOpIn
  cases ho : ops[i]? with
  | none => rw [ho] at h; exact h
  | some o =>
    rw [ho] at h
    simp only at h ⊢
    by_cases hw : Region.wanted o (yielded ops a.tmps) = true
    · rw [if_pos hw] at h ⊢
      rcases h with h | ⟨_, h⟩
      · exact oper_round (noDefer_at hd ho) h
      · exact absurd h hout
    · rw [if_neg hw] at h ⊢
      exact ⟨fun f _ => trivial, h⟩

theorem wpAny_round {P : Program} {n l : Nat} {md : Region.Mode} {ops : Array Oper} {Q : Exit → Act → World → Prop} (hd : noDefer ops = true) (hout : ¬ LetsOut Q) :
    ∀ (fuel : Nat) (listed : Array Bool) (a : Act) (w : World), wpAny P md ops Q fuel listed a w → wpAnyIn (Fence.wide.inRound l) n P md ops Q fuel listed a w
  | 0, _, _, _, h => h
  | fuel + 1, _, _, _, h => ⟨h.1, fun i hi => wpOpIn_mono (fun a' w' h' => wpAny_round hd hout fuel _ a' w' h') (wpOp_round hd hout (h.2 i hi))⟩

/-- A region in a round, by the plain walk's law. -/
theorem wpIn_region_round {P : Program} {n l id : Nat} {ops : Array Oper} {Q : Exit → Act → World → Prop} {a : Act} {w : World} (hm : P.follows .mixedOrders = true) (hd : noDefer ops = true) (hout : ¬ LetsOut Q)
    (h : wpAny P .any ops Q ops.size (Array.replicate ops.size false) a w.drew) : (Code.region id ops true).wpIn (Fence.wide.inRound l) n P Q a w :=
  wpIn_region_any hm (wpAny_round hd hout _ _ _ _ h)

/-- .. and with cells that the operations read held. -/
theorem wpIn_region_held {P : Program} {n l id : Nat} {ops : Array Oper} {Q : Exit → Act → World → Prop} {S : World → Prop} {a : Act} {w : World} (hm : P.follows .mixedOrders = true) (hd : noDefer ops = true) (hout : ¬ LetsOut Q) (hS : S w.drew)
    (h : S w.drew → wpAnyH P .any ops Q S ops.size (Array.replicate ops.size false) a w.drew) : (Code.region id ops true).wpIn (Fence.wide.inRound l) n P Q a w :=
  wpIn_region_round hm hd hout (wpAny_of_held _ _ _ _ (h hS))

/-- An operation that is taken first, its slot named: so the state behind it can be laid out anew. -/
theorem wpAnyH_at {P : Program} {md : Region.Mode} {ops : Array Oper} {Q : Exit → Act → World → Prop} {S : World → Prop} (i : Nat) (d : Option Tmp) {oi : Oper} {v : Value} {fuel : Nat} {listed : Array Bool} {a : Act} {w : World} (hi : ops[i]? = some oi) (hd : oi.dst = d)
    (hs : Region.noSelect ops = true) (hf : Region.free md ops listed i = true) (hr : (Region.ready md ops listed).contains i = true)
    (hQ : ∀ c a w, Q (.panic c) (a.put d v) w → Q (.panic c) a w) (hy : YieldsIf P ops S oi v a) (hS : S w)
    (h : wpAnyH P md ops Q S fuel (listed.setIfInBounds i true) (a.put d v) w) : wpAnyH P md ops Q S (fuel + 1) listed a w := by
  subst hd
  exact wpAnyH_take hi hs hf hr hQ hy hS h
end Go.Proofs.Ytijkgplglfmfnaa

namespace Go.Proofs.Ytijkgplglfmfnaa.P
open Go Go.RowKit Go.Shelf
attribute [local go_sem] Oper.semAt_some

/-- The result is the polynomial with the coefficients f. -/
def PRes (f : PM.Co) (e : Ending) (W : World) : Prop := ∃ r a cap, e = .returned (.tuple #[.slice a r.length cap, .int .i64 0]) ∧ Row W a r cap ∧ Pol r ∧ ∀ k, PM.el r k = f k

theorem cell_below {w W : World} {p : Addr} {v : Value} (hb : Below w.heap.size w W) (h : w.cell? p = some v) : W.cell? p = some v := (hb.cell (lt_of_cell h)).trans h
theorem frozen_below {w W : World} {p : Addr} {v : Value} {t : Bool} (hb : Below w.heap.size w W) (h : w.cell? p = some v) (hf : w.frozen? p = t) : W.frozen? p = t := (hb.frozen (lt_of_cell h)).trans hf
theorem cell_grown {W W' : World} {r : Nat} {a : Addr} {v : Value} (hg : W.grownBy W' (some r)) (hne : a.block ≠ r) (h : W.cell? a = some v) : W'.cell? a = some v :=
  (World.cell?_of_block (hg.block a.block (lt_of_cell h) (by intro e; cases e; exact hne rfl))).trans h
theorem frozen_grown {W W' : World} {r : Nat} {a : Addr} {v : Value} {t : Bool} (hg : W.grownBy W' (some r)) (hne : a.block ≠ r) (h : W.cell? a = some v) (hf : W.frozen? a = t) : W'.frozen? a = t :=
  (World.frozen?_of_block (hg.block a.block (lt_of_cell h) (by intro e; cases e; exact hne rfl))).trans hf
theorem Own.fresh {W : World} {B n cap : Nat} {a : Option Addr} {zs : List PM.G} (h : Own W B (.slice a n cap) zs) (h0 : 0 < zs.length) : ∃ g, a = some ⟨g, 0, none⟩ ∧ B ≤ g ∧ g < W.heap.size := by
  rcases h.parts with ⟨e, rfl⟩ | ⟨g', cap', e, hb, h2, _⟩
  · simp at h0
  · cases e; exact ⟨g', rfl, hb, h2⟩

/-- What is owned from B on, while blocks that hold no cells turn beyond. -/
theorem ownFrom_own {β : Type} {B0 B : Nat} {v : Value} (f : β → List PM.G) : OwnFrom B0 (fun s W => Own W B v (f s)) := fun s W W' row hs hg hr =>
  World.ownsRow.kept hs hg (by
    cases hv : v.ownBlock with
    | none => exact .inl rfl
    | some k =>
      refine .inr ?_
      intro e
      obtain ⟨_, o, ho, hc⟩ := hr k e.symm
      obtain ⟨_, h2 | ⟨g, cap, cur, rfl, hb, hh, _⟩⟩ := hs
      · rw [h2.1] at hv; simp [Value.ownBlock] at hv
      · simp [Value.ownBlock] at hv
        subst hv
        rw [hh] at ho
        cases ho
        simp [Obj.isCells] at hc)

/-- The coefficients from k on. -/
def high (p : List PM.G) (k : Nat) : PM.Co := fun i => if i < k then 0 else PM.el p i

theorem high_end (p : List PM.G) : high p p.length = PM.zeroC := by
  funext i; unfold high
  by_cases h : i < p.length
  · rw [if_pos h]; rfl
  · rw [if_neg h]; exact PM.el_ge (by omega)
theorem high_zero (p : List PM.G) : high p 0 = PM.el p := by
  funext i; unfold high; rw [if_neg (Nat.not_lt_zero _)]
theorem high_step (p : List PM.G) (k i : Nat) : high p k i = if i = k then PM.el p k else high p (k + 1) i := by
  unfold high
  by_cases e : i = k
  · subst e; rw [if_neg (Nat.lt_irrefl _), if_pos rfl]
  · rw [if_neg e]
    by_cases h : i < k
    · rw [if_pos h, if_pos (by omega)]
    · rw [if_neg h, if_neg (by omega)]
theorem high_at (p : List PM.G) (k : Nat) : high p (k + 1) k = 0 := by unfold high; rw [if_pos (Nat.lt_succ_self k)]
theorem mul_pol {p q ys : List PM.G} (hp : Pol p) (hq : Pol q) (hp0 : 0 < p.length) (hq0 : 0 < q.length) (hl : p.length + q.length ≤ 256) (hlen : ys.length = p.length + q.length - 1) (hel : ∀ j, PM.el ys j = PM.conv (PM.el p) (PM.el q) j) : Pol ys := by
  refine ⟨fun _ => ?_, by omega⟩
  have e1 : p.length - 1 + 1 = p.length := by omega
  have e2 : q.length - 1 + 1 = q.length := by omega
  have := (PM.conv_top (PM.el p) (PM.el q) (p.length - 1) (q.length - 1) (by rw [e1]; exact PM.el_van p) (by rw [e2]; exact PM.el_van q)).1
  rw [hel, show ys.length - 1 = p.length - 1 + (q.length - 1) by omega, this]
  exact PM.G.mul_ne (hp.can hp0) (hq.can hq0)
/-- What holds in Mul's loop when k elements are still to come. -/
def MulI (w : World) (p5 bs g n cb ca : Nat) (a b : Option Addr) (p q : List PM.G) (k : Nat) (W : World) : Prop :=
  (W.cell? ⟨w.heap.size, 0, none⟩ = some (.slice b q.length cb) ∧ W.cell? ⟨p5, 0, none⟩ = some (.slice (some ⟨g, 0, none⟩) n n) ∧ W.cell? ⟨bs, 0, none⟩ = some (.slice a p.length ca)) ∧
  ∃ ys : List PM.G, Own W w.heap.size (.slice (some ⟨g, 0, none⟩) n n) ys ∧ ys.length = n ∧ (∀ j, PM.el ys j = PM.conv (high p k) (PM.el q) j) ∧ Below w.heap.size w W

theorem mulI_own {w : World} {p5 bs g n cb ca : Nat} {a b : Option Addr} {p q : List PM.G} {B0 : Nat} (hB0 : w.heap.size ≤ B0) : OwnFrom B0 (MulI w p5 bs g n cb ca a b p q) := by
  refine OwnFrom.and (Own.from (fun _ _ _ _ hs hg hr => ⟨cell_kept hs.1 hg hr, cell_kept hs.2.1 hg hr, cell_kept hs.2.2 hg hr⟩) _) ?_
  rintro s W W' row ⟨ys, h1, h2, h3, h4⟩ hg hr
  exact ⟨ys, ownFrom_own (B0 := B0) (fun (_ : Unit) => ys) () _ _ _ h1 hg hr, h2, h3, ownFrom_below (β := Unit) (Nat.le_refl _) hB0 () _ _ _ h4 hg hr⟩

set_option maxRecDepth 100000 in
set_option maxHeartbeats 1000000 in
theorem mul_fit (a b : Option Addr) (ca cb : Nat) (p q : List PM.G) (w : World) (ha : Row w a p ca) (hb : Row w b q cb) (hp : Pol p) (hq : Pol q) (hp0 : 0 < p.length) (hq0 : 0 < q.length) (hl : p.length + q.length ≤ 256) :
    Calls Try.prog 61 #[.slice a p.length ca, .slice b q.length cb] w fun e W => PRes (PM.conv (PM.el p) (PM.el q)) e W ∧ Below w.heap.size w W := by
  have hra := ha.room
  have hma := ha.most
  have hrb := hb.room
  have hmb := hb.most
  have HA := Lib.hid ha
  have HB := Lib.hid hb
  have HP := Lib.hid hp
  have HQ := Lib.hid hq
  have hb1 : Below w.heap.size w (w.alloc (.cells #[.slice b q.length cb] 30)) := (Below.refl _ w).alloc (Nat.le_refl _) _
  have c1 := cell_new w (.slice b q.length cb) 30
  have hs1 : (w.alloc (.cells #[.slice b q.length cb] 30)).heap.size = w.heap.size + 1 := by simp
  clear ha hb hp hq
  refine (callsIn_wide (n := 6)).1 ?_
  refine callsIn_of_wp_marks Try.func61 rfl trivial ?_ rfl
  refine wpIn_wide.2 ?_
  simp only [Try.ntmps61, List.size_toArray, List.length_cons, List.length_nil, Nat.reduceAdd, Nat.reduceSub, Array.replicate_succ, Array.replicate_zero, List.push_toArray, List.append_toArray, List.nil_append, List.cons_append]
  go_wp2_with fail
  generalize w.alloc (.cells #[.slice b q.length cb] 30) = w1 at *
  have HA1 := Lib.hid (HA.out.below hb1)
  have HB1 := Lib.hid (HB.out.below hb1)
  refine (valid_yes a p ca w1 HA1.out HP.out).mono ?_
  rintro e w2 ⟨rfl, hb2⟩
  have c2 := cell_below hb2 c1
  have HB2 := Lib.hid (HB1.out.below hb2)
  have hs2 := hb2.size
  go_wp2_with fail
  refine (valid_yes b q cb w2 HB2.out HQ.out).mono ?_
  rintro e w3 ⟨rfl, hb3⟩
  have c3 := cell_below hb3 c2
  have hs3 := hb3.size
  have HB03 := Lib.hid ((hb1.trans (hb2.mono (by omega))).trans (hb3.mono (by omega)))
  have HA3 := Lib.hid ((HA1.out.below hb2).below hb3)
  have HB3 := Lib.hid (HB2.out.below hb3)
  clear hb1 hb2 hb3 c1 c2 HA1 HB1 HB2
  have hz1 : ((p.length : Int) == 0) = false := beq_false_of_ne (by omega)
  have hz2 : ((q.length : Int) == 0) = false := beq_false_of_ne (by omega)
  obtain ⟨n, hn⟩ : ∃ n, p.length + q.length - 1 = n := ⟨_, rfl⟩
  go_wp2_with (at_make; refine wpList_make1 rfl _ _ rfl n rfl rfl (by omega) (by omega) (B := w3.heap.size) (Nat.le_refl _) ?_; intro w4 hown4 hb4; have HO4 := Lib.hid hown4; have HB4 := Lib.hid hb4; clear hown4 hb4)
  refine (backward_any _ _ _ _).mono ?_
  rintro e w' ⟨rfl, rfl⟩
  have hb4 := HB4.out
  have hs4 := hb4.size
  have g1 := cell_new w4 (.slice (some ⟨w3.heap.size, 0, none⟩) n n) 30
  have c4 := cell_below hb4 c3
  have hB6 := (((HB03.out.trans (hb4.mono (by omega))).alloc (by omega) (.cells #[.slice (some ⟨w3.heap.size, 0, none⟩) n n] 30))).alloc (by simp; omega) (.cells #[.slice a p.length ca] 30)
  have hO6 := (HO4.out.alloc (.cells #[.slice (some ⟨w3.heap.size, 0, none⟩) n n] 30)).alloc (.cells #[.slice a p.length ca] 30)
  rw [List.length_replicate] at hO6
  have hHI : MulI w w4.heap.size (w4.heap.size + 1) w3.heap.size n cb ca a b p q p.length ((w4.alloc (.cells #[.slice (some ⟨w3.heap.size, 0, none⟩) n n] 30)).alloc (.cells #[.slice a p.length ca] 30)) :=
    ⟨⟨cell_later _ (cell_later _ c4), cell_later _ g1, by simp⟩, _, hO6.mono (by omega), List.length_replicate, fun j => by
      rw [PM.el_replicate, show high p p.length = PM.zeroC from high_end p, PM.conv_zeroC_l], hB6⟩
  have HI := Lib.hid hHI
  have hAA := (((HA3.out.below hb4).alloc (.cells #[.slice (some ⟨w3.heap.size, 0, none⟩) n n] 30)).alloc (.cells #[.slice a p.length ca] 30))
  have HA6 := Lib.hid hAA
  have hs6 : ((w4.alloc (.cells #[.slice (some ⟨w3.heap.size, 0, none⟩) n n] 30)).alloc (.cells #[.slice a p.length ca] 30)).heap.size = w4.heap.size + 1 + 1 := by simp
  have hs5 : (w4.alloc (.cells #[.slice (some ⟨w3.heap.size, 0, none⟩) n n] 30)).heap.size = w4.heap.size + 1 := by simp
  rw [hs5]
  have hg4 := hO6.at 0 (by rw [List.length_replicate]; omega)
  have hgp : w3.heap.size < w4.heap.size := (HO4.out.at 0 (by rw [List.length_replicate]; omega)).2.1
  have hwg : w.heap.size < w3.heap.size := by omega
  clear hb4 g1 c4 hB6 hO6 hHI hAA hs5 hg4 HO4 HB4 HB03 HA3 HB3 hs4 hs3 hs2 hs1 c3
  generalize ((w4.alloc (.cells #[.slice (some ⟨w3.heap.size, 0, none⟩) n n] 30)).alloc (.cells #[.slice a p.length ca] 30)) = w6 at *
  generalize w4.heap.size = p5 at *
  generalize w3.heap.size = g at *
  go_wp2_with fail
  refine wpIn_wide.1 (wpIn_back (n := 6) (by omega) (Bs := p5 + 1) rfl rfl a p.length ca (by omega) (fun j => ((PM.el p j).v : Int)) (MulI w p5 (p5 + 1) g n cb ca a b p q) (fun _ _ _ => False) (mulI_own (by have := HI.out.2; obtain ⟨_, _, _, _, h⟩ := this; exact h.size)) (fun _ _ _ _ _ hs _ _ => hs) HI.out (fun k W h => h.1.2.2) ?read ?act ?assign ?body ?done ?stop)
  case read =>
    rintro k W ⟨_, _, _, _, _, hB⟩ hk
    obtain ⟨b', off, e, hc⟩ := (HA.out.below hB).el k hk
    exact ⟨b', off, e, hc⟩
  case assign =>
    intro l k W K hk hK
    gi_wp2
    exact hK
  case body =>
    rintro l k W hl hrec ⟨⟨hc0, hc5, hcb⟩, ys, hown, hlen, hel, hB⟩ hk
    clear hl hrec HI
    have hmx : Try.prog.follows .mixedOrders = true := by kernel_rfl
    have hkn : k < n := by omega
    have hkn1 : (k : Int) ≤ (n : Int) := by omega
    have hkn2 : (0 : Int) ≤ (k : Int) := by omega
    have HO := Lib.hid hown
    have HLN := Lib.hid hlen
    have HEL := Lib.hid hel
    have HBW := Lib.hid hB
    clear hown hlen hel hB
    refine wpIn_block ?_
    refine wpIn_region_held (S := fun W' => W'.cell? ⟨p5, 0, none⟩ = some (.slice (some ⟨g, 0, none⟩) n n) ∧ W'.cell? ⟨w.heap.size, 0, none⟩ = some (.slice b q.length cb)) hmx (by kernel_rfl) (by rintro ⟨_, _, h⟩; exact h) ⟨hc5, hc0⟩ (fun hHeld => ?_)
    refine wpAnyH_at 0 (some 42) (v := ?_) rfl rfl (by kernel_rfl) (by kernel_rfl) (by kernel_rfl) (fun _ _ _ h => h) (Or.inl ⟨by rfl, ?_⟩) hHeld ?_
    rotate_left
    · (intro W2 hSw; obtain ⟨j5, j0⟩ := hSw; go_simp; try with_reducible rfl)
    simp only [Act.put, List.setIfInBounds_toArray, List.set_cons_zero, List.set_cons_succ]
    refine wpAnyH_at 1 (some 43) (v := ?_) rfl rfl (by kernel_rfl) (by kernel_rfl) (by kernel_rfl) (fun _ _ _ h => h) (Or.inl ⟨by rfl, ?_⟩) hHeld ?_
    rotate_left
    · (intro W2 hSw; obtain ⟨j5, j0⟩ := hSw; go_simp; try with_reducible rfl)
    simp only [Act.put, List.setIfInBounds_toArray, List.set_cons_zero, List.set_cons_succ]
    refine wpAnyH_at 2 (some 44) (v := ?_) rfl rfl (by kernel_rfl) (by kernel_rfl) (by kernel_rfl) (fun _ _ _ h => h) (Or.inl ⟨by rfl, ?_⟩) hHeld ?_
    rotate_left
    · (intro W2 hSw; obtain ⟨j5, j0⟩ := hSw; go_simp; try with_reducible rfl)
    simp only [Act.put, List.setIfInBounds_toArray, List.set_cons_zero, List.set_cons_succ]
    refine wpAnyH_at 3 (some 45) (v := ?_) rfl rfl (by kernel_rfl) (by kernel_rfl) (by kernel_rfl) (fun _ _ _ h => h) (Or.inl ⟨by rfl, ?_⟩) hHeld ?_
    rotate_left
    · (intro W2 hSw; obtain ⟨j5, j0⟩ := hSw; go_simp; try with_reducible rfl)
    simp only [Act.put, List.setIfInBounds_toArray, List.set_cons_zero, List.set_cons_succ]
    refine wpAnyH_at 4 (some 46) (v := ?_) rfl rfl (by kernel_rfl) (by kernel_rfl) (by kernel_rfl) (fun _ _ _ h => h) (Or.inl ⟨by rfl, ?_⟩) hHeld ?_
    rotate_left
    · (intro W2 hSw; obtain ⟨j5, j0⟩ := hSw; go_simp; try with_reducible rfl)
    simp only [Act.put, List.setIfInBounds_toArray, List.set_cons_zero, List.set_cons_succ]
    refine wpAnyH_ready (rs := [5]) (by kernel_rfl) (by simp) ?_
    refine AllReadyH.cons rfl (fun K hK => ?_) AllReadyH.nil
    go_simp
    rw [if_neg (show ¬ n = k by omega)]
    have hBd : Below w.heap.size w W.drew := belowN HBW.out 1
    have ht := addMul_any w.heap.size g n k (n - k) (n - k) cb ys q b (PM.el p k) W.drew (by rw [HLN.out]; exact HO.out.drewN 1) (HB.out.below hBd) (by rw [HLN.out]; omega) (by omega) (Nat.le_refl _) (by omega)
      (by intro h0 b' o e; subst e; have := HB.out.lt h0; omega)
    refine ht.mono ?_
    clear ht
    rintro e W2 ⟨ys2, rfl, hl2, hel2, ho2, hg2⟩
    have hg2' : W.grownBy W2 (some g) := ⟨hg2.os, hg2.tape, hg2.output, hg2.size, hg2.block⟩
    have g0 := cell_grown hg2' (show (w.heap.size : Nat) ≠ g by omega) hc0
    have g5 := cell_grown hg2' (show (p5 : Nat) ≠ g by omega) hc5
    have gb := cell_grown hg2' (show (p5 + 1 : Nat) ≠ g by omega) hcb
    have hln2 : ys2.length = n := by rw [hl2]; exact HLN.out
    rw [hln2] at ho2
    refine hK.out _ _ ⟨g5, g0⟩ (fun _ => wpAnyH_done (by kernel_rfl) ?_ _)
    refine ⟨KeepsFrom.of_grownBy hg2' (fun j e => by cases e; omega), ⟨g0, g5, gb⟩, ys2, ho2, hln2, fun j => ?_, HBW.out.grown hg2' HBW.out.size (fun j e => by cases e; omega)⟩
    rw [hel2, HEL.out, PM.conv_put (high p (k + 1)) (high p k) (PM.el q) (PM.el p k) k (high_at p k) (high_step p k) j]
  case done =>
    rintro D W hD ⟨⟨hc0, hc5, hcb⟩, ys, hown, hlen, hel, hB⟩ hK
    have HO := Lib.hid hown
    have HLN := Lib.hid hlen
    have HEL := Lib.hid hel
    have HBW := Lib.hid hB
    have HK := Lib.hid hK
    clear hown hlen hel hB hK HI
    go_wp2_with fail
    have hK := HK.out
    refine ⟨by simp, .inl ⟨_, _, rfl, run_takeDeferred hK, ?_⟩⟩
    have hO := ownFrom_own (B0 := 0) (fun (_ : Unit) => ys) () _ _ _ HO.out (grownBy_putObj' _ D (.deferred none)) (fun r e => by cases e; exact ⟨Nat.zero_le _, _, hK, rfl⟩)
    have hcoef : ∀ j, PM.el ys j = PM.conv (PM.el p) (PM.el q) j := fun j => by rw [HEL.out, high_zero]
    refine ⟨.tuple #[.slice (some ⟨g, 0, none⟩) n n, .int .i64 0], ?_, ⟨ys, some ⟨g, 0, none⟩, n, by rw [HLN.out], ?_, mul_pol HP.out HQ.out hp0 hq0 hl (by rw [HLN.out]; omega) hcoef, hcoef⟩, ?_⟩
    · simp [results, Try.f61, go_sem]
    · exact (show Own _ w.heap.size (.slice (some ⟨g, 0, none⟩) ys.length n) ys by rw [HLN.out]; exact hO).rowAt
    · exact HBW.out.trans (belowK_b (w := w) (Nat.le_refl _) W D _ _ (by have h2 : w6.heap.size ≤ D := hD; omega) hK rfl rfl)
  case stop =>
    rintro D c k W _ _ h _
    exact h.elim
end Go.Proofs.Ytijkgplglfmfnaa.P

namespace Go.Proofs.Ytijkgplglfmfnaa.P
open Go Go.RowKit Go.Shelf
attribute [local go_sem] Oper.semAt_some

set_option maxRecDepth 100000 in
set_option maxHeartbeats 1000000 in
theorem mul_fitF (a b : Option Addr) (ca cb : Nat) (p q : List PM.G) (w : World) (ha : Row w a p ca) (hb : Row w b q cb) (hp : Pol p) (hq : Pol q) (hp0 : 0 < p.length) (hq0 : 0 < q.length) (hl : p.length + q.length ≤ 256) :
    Calls Try.prog 61 #[.slice a p.length ca, .slice b q.length cb] w fun e W => (∃ r a cap, e = .returned (.tuple #[.slice a (List.length r) cap, .int .i64 0]) ∧ Row W a r cap ∧ Pol r ∧ (∀ k, PM.el r k = PM.conv (PM.el p) (PM.el q) k) ∧ ∀ b o, a = some ⟨b, o, none⟩ → w.heap.size ≤ b) ∧ Below w.heap.size w W := by
  have hra := ha.room
  have hma := ha.most
  have hrb := hb.room
  have hmb := hb.most
  have HA := Lib.hid ha
  have HB := Lib.hid hb
  have HP := Lib.hid hp
  have HQ := Lib.hid hq
  have hb1 : Below w.heap.size w (w.alloc (.cells #[.slice b q.length cb] 30)) := (Below.refl _ w).alloc (Nat.le_refl _) _
  have c1 := cell_new w (.slice b q.length cb) 30
  have hs1 : (w.alloc (.cells #[.slice b q.length cb] 30)).heap.size = w.heap.size + 1 := by simp
  clear ha hb hp hq
  refine (callsIn_wide (n := 6)).1 ?_
  refine callsIn_of_wp_marks Try.func61 rfl trivial ?_ rfl
  refine wpIn_wide.2 ?_
  simp only [Try.ntmps61, List.size_toArray, List.length_cons, List.length_nil, Nat.reduceAdd, Nat.reduceSub, Array.replicate_succ, Array.replicate_zero, List.push_toArray, List.append_toArray, List.nil_append, List.cons_append]
  go_wp2_with fail
  generalize w.alloc (.cells #[.slice b q.length cb] 30) = w1 at *
  have HA1 := Lib.hid (HA.out.below hb1)
  have HB1 := Lib.hid (HB.out.below hb1)
  refine (valid_yes a p ca w1 HA1.out HP.out).mono ?_
  rintro e w2 ⟨rfl, hb2⟩
  have c2 := cell_below hb2 c1
  have HB2 := Lib.hid (HB1.out.below hb2)
  have hs2 := hb2.size
  go_wp2_with fail
  refine (valid_yes b q cb w2 HB2.out HQ.out).mono ?_
  rintro e w3 ⟨rfl, hb3⟩
  have c3 := cell_below hb3 c2
  have hs3 := hb3.size
  have HB03 := Lib.hid ((hb1.trans (hb2.mono (by omega))).trans (hb3.mono (by omega)))
  have HA3 := Lib.hid ((HA1.out.below hb2).below hb3)
  have HB3 := Lib.hid (HB2.out.below hb3)
  clear hb1 hb2 hb3 c1 c2 HA1 HB1 HB2
  have hz1 : ((p.length : Int) == 0) = false := beq_false_of_ne (by omega)
  have hz2 : ((q.length : Int) == 0) = false := beq_false_of_ne (by omega)
  obtain ⟨n, hn⟩ : ∃ n, p.length + q.length - 1 = n := ⟨_, rfl⟩
  go_wp2_with (at_make; refine wpList_make1 rfl _ _ rfl n rfl rfl (by omega) (by omega) (B := w3.heap.size) (Nat.le_refl _) ?_; intro w4 hown4 hb4; have HO4 := Lib.hid hown4; have HB4 := Lib.hid hb4; clear hown4 hb4)
  refine (backward_any _ _ _ _).mono ?_
  rintro e w' ⟨rfl, rfl⟩
  have hb4 := HB4.out
  have hs4 := hb4.size
  have g1 := cell_new w4 (.slice (some ⟨w3.heap.size, 0, none⟩) n n) 30
  have c4 := cell_below hb4 c3
  have hB6 := (((HB03.out.trans (hb4.mono (by omega))).alloc (by omega) (.cells #[.slice (some ⟨w3.heap.size, 0, none⟩) n n] 30))).alloc (by simp; omega) (.cells #[.slice a p.length ca] 30)
  have hO6 := (HO4.out.alloc (.cells #[.slice (some ⟨w3.heap.size, 0, none⟩) n n] 30)).alloc (.cells #[.slice a p.length ca] 30)
  rw [List.length_replicate] at hO6
  have hHI : MulI w w4.heap.size (w4.heap.size + 1) w3.heap.size n cb ca a b p q p.length ((w4.alloc (.cells #[.slice (some ⟨w3.heap.size, 0, none⟩) n n] 30)).alloc (.cells #[.slice a p.length ca] 30)) :=
    ⟨⟨cell_later _ (cell_later _ c4), cell_later _ g1, by simp⟩, _, hO6.mono (by omega), List.length_replicate, fun j => by
      rw [PM.el_replicate, show high p p.length = PM.zeroC from high_end p, PM.conv_zeroC_l], hB6⟩
  have HI := Lib.hid hHI
  have hAA := (((HA3.out.below hb4).alloc (.cells #[.slice (some ⟨w3.heap.size, 0, none⟩) n n] 30)).alloc (.cells #[.slice a p.length ca] 30))
  have HA6 := Lib.hid hAA
  have hs6 : ((w4.alloc (.cells #[.slice (some ⟨w3.heap.size, 0, none⟩) n n] 30)).alloc (.cells #[.slice a p.length ca] 30)).heap.size = w4.heap.size + 1 + 1 := by simp
  have hs5 : (w4.alloc (.cells #[.slice (some ⟨w3.heap.size, 0, none⟩) n n] 30)).heap.size = w4.heap.size + 1 := by simp
  rw [hs5]
  have hg4 := hO6.at 0 (by rw [List.length_replicate]; omega)
  have hgp : w3.heap.size < w4.heap.size := (HO4.out.at 0 (by rw [List.length_replicate]; omega)).2.1
  have hwg : w.heap.size < w3.heap.size := by omega
  clear hb4 g1 c4 hB6 hO6 hHI hAA hs5 hg4 HO4 HB4 HB03 HA3 HB3 hs4 hs3 hs2 hs1 c3
  generalize ((w4.alloc (.cells #[.slice (some ⟨w3.heap.size, 0, none⟩) n n] 30)).alloc (.cells #[.slice a p.length ca] 30)) = w6 at *
  generalize w4.heap.size = p5 at *
  generalize w3.heap.size = g at *
  go_wp2_with fail
  refine wpIn_wide.1 (wpIn_back (n := 6) (by omega) (Bs := p5 + 1) rfl rfl a p.length ca (by omega) (fun j => ((PM.el p j).v : Int)) (MulI w p5 (p5 + 1) g n cb ca a b p q) (fun _ _ _ => False) (mulI_own (by have := HI.out.2; obtain ⟨_, _, _, _, h⟩ := this; exact h.size)) (fun _ _ _ _ _ hs _ _ => hs) HI.out (fun k W h => h.1.2.2) ?read ?act ?assign ?body ?done ?stop)
  case read =>
    rintro k W ⟨_, _, _, _, _, hB⟩ hk
    obtain ⟨b', off, e, hc⟩ := (HA.out.below hB).el k hk
    exact ⟨b', off, e, hc⟩
  case assign =>
    intro l k W K hk hK
    gi_wp2
    exact hK
  case body =>
    rintro l k W hl hrec ⟨⟨hc0, hc5, hcb⟩, ys, hown, hlen, hel, hB⟩ hk
    clear hl hrec HI
    have hmx : Try.prog.follows .mixedOrders = true := by kernel_rfl
    have hkn : k < n := by omega
    have hkn1 : (k : Int) ≤ (n : Int) := by omega
    have hkn2 : (0 : Int) ≤ (k : Int) := by omega
    have HO := Lib.hid hown
    have HLN := Lib.hid hlen
    have HEL := Lib.hid hel
    have HBW := Lib.hid hB
    clear hown hlen hel hB
    refine wpIn_block ?_
    refine wpIn_region_held (S := fun W' => W'.cell? ⟨p5, 0, none⟩ = some (.slice (some ⟨g, 0, none⟩) n n) ∧ W'.cell? ⟨w.heap.size, 0, none⟩ = some (.slice b q.length cb)) hmx (by kernel_rfl) (by rintro ⟨_, _, h⟩; exact h) ⟨hc5, hc0⟩ (fun hHeld => ?_)
    refine wpAnyH_at 0 (some 42) (v := ?_) rfl rfl (by kernel_rfl) (by kernel_rfl) (by kernel_rfl) (fun _ _ _ h => h) (Or.inl ⟨by rfl, ?_⟩) hHeld ?_
    rotate_left
    · (intro W2 hSw; obtain ⟨j5, j0⟩ := hSw; go_simp; try with_reducible rfl)
    simp only [Act.put, List.setIfInBounds_toArray, List.set_cons_zero, List.set_cons_succ]
    refine wpAnyH_at 1 (some 43) (v := ?_) rfl rfl (by kernel_rfl) (by kernel_rfl) (by kernel_rfl) (fun _ _ _ h => h) (Or.inl ⟨by rfl, ?_⟩) hHeld ?_
    rotate_left
    · (intro W2 hSw; obtain ⟨j5, j0⟩ := hSw; go_simp; try with_reducible rfl)
    simp only [Act.put, List.setIfInBounds_toArray, List.set_cons_zero, List.set_cons_succ]
    refine wpAnyH_at 2 (some 44) (v := ?_) rfl rfl (by kernel_rfl) (by kernel_rfl) (by kernel_rfl) (fun _ _ _ h => h) (Or.inl ⟨by rfl, ?_⟩) hHeld ?_
    rotate_left
    · (intro W2 hSw; obtain ⟨j5, j0⟩ := hSw; go_simp; try with_reducible rfl)
    simp only [Act.put, List.setIfInBounds_toArray, List.set_cons_zero, List.set_cons_succ]
    refine wpAnyH_at 3 (some 45) (v := ?_) rfl rfl (by kernel_rfl) (by kernel_rfl) (by kernel_rfl) (fun _ _ _ h => h) (Or.inl ⟨by rfl, ?_⟩) hHeld ?_
    rotate_left
    · (intro W2 hSw; obtain ⟨j5, j0⟩ := hSw; go_simp; try with_reducible rfl)
    simp only [Act.put, List.setIfInBounds_toArray, List.set_cons_zero, List.set_cons_succ]
    refine wpAnyH_at 4 (some 46) (v := ?_) rfl rfl (by kernel_rfl) (by kernel_rfl) (by kernel_rfl) (fun _ _ _ h => h) (Or.inl ⟨by rfl, ?_⟩) hHeld ?_
    rotate_left
    · (intro W2 hSw; obtain ⟨j5, j0⟩ := hSw; go_simp; try with_reducible rfl)
    simp only [Act.put, List.setIfInBounds_toArray, List.set_cons_zero, List.set_cons_succ]
    refine wpAnyH_ready (rs := [5]) (by kernel_rfl) (by simp) ?_
    refine AllReadyH.cons rfl (fun K hK => ?_) AllReadyH.nil
    go_simp
    rw [if_neg (show ¬ n = k by omega)]
    have hBd : Below w.heap.size w W.drew := belowN HBW.out 1
    have ht := addMul_any w.heap.size g n k (n - k) (n - k) cb ys q b (PM.el p k) W.drew (by rw [HLN.out]; exact HO.out.drewN 1) (HB.out.below hBd) (by rw [HLN.out]; omega) (by omega) (Nat.le_refl _) (by omega)
      (by intro h0 b' o e; subst e; have := HB.out.lt h0; omega)
    refine ht.mono ?_
    clear ht
    rintro e W2 ⟨ys2, rfl, hl2, hel2, ho2, hg2⟩
    have hg2' : W.grownBy W2 (some g) := ⟨hg2.os, hg2.tape, hg2.output, hg2.size, hg2.block⟩
    have g0 := cell_grown hg2' (show (w.heap.size : Nat) ≠ g by omega) hc0
    have g5 := cell_grown hg2' (show (p5 : Nat) ≠ g by omega) hc5
    have gb := cell_grown hg2' (show (p5 + 1 : Nat) ≠ g by omega) hcb
    have hln2 : ys2.length = n := by rw [hl2]; exact HLN.out
    rw [hln2] at ho2
    refine hK.out _ _ ⟨g5, g0⟩ (fun _ => wpAnyH_done (by kernel_rfl) ?_ _)
    refine ⟨KeepsFrom.of_grownBy hg2' (fun j e => by cases e; omega), ⟨g0, g5, gb⟩, ys2, ho2, hln2, fun j => ?_, HBW.out.grown hg2' HBW.out.size (fun j e => by cases e; omega)⟩
    rw [hel2, HEL.out, PM.conv_put (high p (k + 1)) (high p k) (PM.el q) (PM.el p k) k (high_at p k) (high_step p k) j]
  case done =>
    rintro D W hD ⟨⟨hc0, hc5, hcb⟩, ys, hown, hlen, hel, hB⟩ hK
    have HO := Lib.hid hown
    have HLN := Lib.hid hlen
    have HEL := Lib.hid hel
    have HBW := Lib.hid hB
    have HK := Lib.hid hK
    clear hown hlen hel hB hK HI
    go_wp2_with fail
    have hK := HK.out
    refine ⟨by simp, .inl ⟨_, _, rfl, run_takeDeferred hK, ?_⟩⟩
    have hO := ownFrom_own (B0 := 0) (fun (_ : Unit) => ys) () _ _ _ HO.out (grownBy_putObj' _ D (.deferred none)) (fun r e => by cases e; exact ⟨Nat.zero_le _, _, hK, rfl⟩)
    have hcoef : ∀ j, PM.el ys j = PM.conv (PM.el p) (PM.el q) j := fun j => by rw [HEL.out, high_zero]
    refine ⟨.tuple #[.slice (some ⟨g, 0, none⟩) n n, .int .i64 0], ?_, ⟨ys, some ⟨g, 0, none⟩, n, by rw [HLN.out], ?_, mul_pol HP.out HQ.out hp0 hq0 hl (by rw [HLN.out]; omega) hcoef, hcoef, fun b o e => by cases e; omega⟩, ?_⟩
    · simp [results, Try.f61, go_sem]
    · exact (show Own _ w.heap.size (.slice (some ⟨g, 0, none⟩) ys.length n) ys by rw [HLN.out]; exact hO).rowAt
    · exact HBW.out.trans (belowK_b (w := w) (Nat.le_refl _) W D _ _ (by have h2 : w6.heap.size ≤ D := hD; omega) hK rfl rfl)
  case stop =>
    rintro D c k W _ _ h _
    exact h.elim
end Go.Proofs.Ytijkgplglfmfnaa.P

namespace Go.Proofs.Ytijkgplglfmfnaa.P
open Go Go.RowKit Go.Shelf

set_option maxRecDepth 100000 in
set_option maxHeartbeats 1000000 in
theorem mul_bad1 (a b : Option Addr) (ca cb : Nat) (p q : List PM.G) (w : World) (ha : Row w a p ca) (hb : Row w b q cb) (hp : ¬ Pol p) :
    Calls Try.prog 61 #[.slice a p.length ca, .slice b q.length cb] w fun e W => e = .returned (.tuple #[.slice none 0 0, .int .i64 1]) ∧ Below w.heap.size w W := by
  have hra := ha.room
  have hma := ha.most
  have hrb := hb.room
  have hmb := hb.most
  have HA := Lib.hid ha
  have HB := Lib.hid hb
  have HP := Lib.hid hp
  clear hp
  have hb1 : Below w.heap.size w (w.alloc (.cells #[.slice b q.length cb] 30)) := (Below.refl _ w).alloc (Nat.le_refl _) _
  have c1 := cell_new w (.slice b q.length cb) 30
  have hs1 : (w.alloc (.cells #[.slice b q.length cb] 30)).heap.size = w.heap.size + 1 := by simp
  clear ha hb
  refine (callsIn_wide (n := 6)).1 ?_
  refine callsIn_of_wp_marks Try.func61 rfl trivial ?_ rfl
  refine wpIn_wide.2 ?_
  simp only [Try.ntmps61, List.size_toArray, List.length_cons, List.length_nil, Nat.reduceAdd, Nat.reduceSub, Array.replicate_succ, Array.replicate_zero, List.push_toArray, List.append_toArray, List.nil_append, List.cons_append]
  go_wp2_with fail
  generalize w.alloc (.cells #[.slice b q.length cb] 30) = w1 at *
  have HA1 := Lib.hid (HA.out.below hb1)
  have HB1 := Lib.hid (HB.out.below hb1)
  refine (valid_no a p ca w1 HA1.out HP.out).mono ?_
  rintro e w2 ⟨rfl, hb2⟩
  have hs2 := hb2.size
  go_wp2
  exact ⟨.tuple #[.slice none 0 0, .int .i64 1], by simp [results, Try.f61, go_sem], rfl, hb1.trans (hb2.mono (by omega))⟩
set_option maxRecDepth 100000 in
set_option maxHeartbeats 1000000 in
theorem mul_bad2 (a b : Option Addr) (ca cb : Nat) (p q : List PM.G) (w : World) (ha : Row w a p ca) (hb : Row w b q cb) (hp : Pol p) (hq : ¬ Pol q) :
    Calls Try.prog 61 #[.slice a p.length ca, .slice b q.length cb] w fun e W => e = .returned (.tuple #[.slice none 0 0, .int .i64 1]) ∧ Below w.heap.size w W := by
  have hra := ha.room
  have hma := ha.most
  have hrb := hb.room
  have hmb := hb.most
  have HA := Lib.hid ha
  have HB := Lib.hid hb
  have HP := Lib.hid hp
  have HQ := Lib.hid hq
  clear hp hq
  have hb1 : Below w.heap.size w (w.alloc (.cells #[.slice b q.length cb] 30)) := (Below.refl _ w).alloc (Nat.le_refl _) _
  have c1 := cell_new w (.slice b q.length cb) 30
  have hs1 : (w.alloc (.cells #[.slice b q.length cb] 30)).heap.size = w.heap.size + 1 := by simp
  clear ha hb
  refine (callsIn_wide (n := 6)).1 ?_
  refine callsIn_of_wp_marks Try.func61 rfl trivial ?_ rfl
  refine wpIn_wide.2 ?_
  simp only [Try.ntmps61, List.size_toArray, List.length_cons, List.length_nil, Nat.reduceAdd, Nat.reduceSub, Array.replicate_succ, Array.replicate_zero, List.push_toArray, List.append_toArray, List.nil_append, List.cons_append]
  go_wp2_with fail
  generalize w.alloc (.cells #[.slice b q.length cb] 30) = w1 at *
  have HA1 := Lib.hid (HA.out.below hb1)
  have HB1 := Lib.hid (HB.out.below hb1)
  refine (valid_yes a p ca w1 HA1.out HP.out).mono ?_
  rintro e w2 ⟨rfl, hb2⟩
  have c2 := cell_below hb2 c1
  have HB2 := Lib.hid (HB1.out.below hb2)
  have hs2 := hb2.size
  go_wp2_with fail
  refine (valid_no b q cb w2 HB2.out HQ.out).mono ?_
  rintro e w3 ⟨rfl, hb3⟩
  have c3 := cell_below hb3 c2
  have hs3 := hb3.size
  go_wp2
  exact ⟨.tuple #[.slice none 0 0, .int .i64 1], by simp [results, Try.f61, go_sem], rfl, (hb1.trans (hb2.mono (by omega))).trans (hb3.mono (by omega))⟩
set_option maxRecDepth 100000 in
set_option maxHeartbeats 1000000 in
theorem mul_zero1 (a b : Option Addr) (ca cb : Nat) (p q : List PM.G) (w : World) (ha : Row w a p ca) (hb : Row w b q cb) (hp : Pol p) (hq : Pol q) (h0 : p.length = 0) :
    Calls Try.prog 61 #[.slice a p.length ca, .slice b q.length cb] w fun e W => e = .returned (.tuple #[.slice none 0 0, .int .i64 0]) ∧ Below w.heap.size w W := by
  have hra := ha.room
  have hma := ha.most
  have hrb := hb.room
  have hmb := hb.most
  have HA := Lib.hid ha
  have HB := Lib.hid hb
  have HP := Lib.hid hp
  have HQ := Lib.hid hq
  have H0 := Lib.hid h0
  clear hp hq h0
  have hb1 : Below w.heap.size w (w.alloc (.cells #[.slice b q.length cb] 30)) := (Below.refl _ w).alloc (Nat.le_refl _) _
  have c1 := cell_new w (.slice b q.length cb) 30
  have hs1 : (w.alloc (.cells #[.slice b q.length cb] 30)).heap.size = w.heap.size + 1 := by simp
  clear ha hb
  refine (callsIn_wide (n := 6)).1 ?_
  refine callsIn_of_wp_marks Try.func61 rfl trivial ?_ rfl
  refine wpIn_wide.2 ?_
  simp only [Try.ntmps61, List.size_toArray, List.length_cons, List.length_nil, Nat.reduceAdd, Nat.reduceSub, Array.replicate_succ, Array.replicate_zero, List.push_toArray, List.append_toArray, List.nil_append, List.cons_append]
  go_wp2_with fail
  generalize w.alloc (.cells #[.slice b q.length cb] 30) = w1 at *
  have HA1 := Lib.hid (HA.out.below hb1)
  have HB1 := Lib.hid (HB.out.below hb1)
  refine (valid_yes a p ca w1 HA1.out HP.out).mono ?_
  rintro e w2 ⟨rfl, hb2⟩
  have c2 := cell_below hb2 c1
  have HB2 := Lib.hid (HB1.out.below hb2)
  have hs2 := hb2.size
  go_wp2_with fail
  refine (valid_yes b q cb w2 HB2.out HQ.out).mono ?_
  rintro e w3 ⟨rfl, hb3⟩
  have c3 := cell_below hb3 c2
  have hs3 := hb3.size
  have hz1 : ((p.length : Int) == 0) = true := by rw [H0.out]; rfl
  go_wp2
  exact ⟨.tuple #[.slice none 0 0, .int .i64 0], by simp [results, Try.f61, go_sem], rfl, (hb1.trans (hb2.mono (by omega))).trans (hb3.mono (by omega))⟩
set_option maxRecDepth 100000 in
set_option maxHeartbeats 1000000 in
theorem mul_zero2 (a b : Option Addr) (ca cb : Nat) (p q : List PM.G) (w : World) (ha : Row w a p ca) (hb : Row w b q cb) (hp : Pol p) (hq : Pol q) (hp0 : 0 < p.length) (h0 : q.length = 0) :
    Calls Try.prog 61 #[.slice a p.length ca, .slice b q.length cb] w fun e W => e = .returned (.tuple #[.slice none 0 0, .int .i64 0]) ∧ Below w.heap.size w W := by
  have hra := ha.room
  have hma := ha.most
  have hrb := hb.room
  have hmb := hb.most
  have HA := Lib.hid ha
  have HB := Lib.hid hb
  have HP := Lib.hid hp
  have HQ := Lib.hid hq
  have H0 := Lib.hid h0
  clear hp hq h0
  have hb1 : Below w.heap.size w (w.alloc (.cells #[.slice b q.length cb] 30)) := (Below.refl _ w).alloc (Nat.le_refl _) _
  have c1 := cell_new w (.slice b q.length cb) 30
  have hs1 : (w.alloc (.cells #[.slice b q.length cb] 30)).heap.size = w.heap.size + 1 := by simp
  clear ha hb
  refine (callsIn_wide (n := 6)).1 ?_
  refine callsIn_of_wp_marks Try.func61 rfl trivial ?_ rfl
  refine wpIn_wide.2 ?_
  simp only [Try.ntmps61, List.size_toArray, List.length_cons, List.length_nil, Nat.reduceAdd, Nat.reduceSub, Array.replicate_succ, Array.replicate_zero, List.push_toArray, List.append_toArray, List.nil_append, List.cons_append]
  go_wp2_with fail
  generalize w.alloc (.cells #[.slice b q.length cb] 30) = w1 at *
  have HA1 := Lib.hid (HA.out.below hb1)
  have HB1 := Lib.hid (HB.out.below hb1)
  refine (valid_yes a p ca w1 HA1.out HP.out).mono ?_
  rintro e w2 ⟨rfl, hb2⟩
  have c2 := cell_below hb2 c1
  have HB2 := Lib.hid (HB1.out.below hb2)
  have hs2 := hb2.size
  go_wp2_with fail
  refine (valid_yes b q cb w2 HB2.out HQ.out).mono ?_
  rintro e w3 ⟨rfl, hb3⟩
  have c3 := cell_below hb3 c2
  have hs3 := hb3.size
  have hz1 : ((p.length : Int) == 0) = false := beq_false_of_ne (by omega)
  have hz2 : ((q.length : Int) == 0) = true := by rw [H0.out]; rfl
  go_wp2
  exact ⟨.tuple #[.slice none 0 0, .int .i64 0], by simp [results, Try.f61, go_sem], rfl, (hb1.trans (hb2.mono (by omega))).trans (hb3.mono (by omega))⟩
set_option maxRecDepth 100000 in
set_option maxHeartbeats 1000000 in
theorem mul_limit (a b : Option Addr) (ca cb : Nat) (p q : List PM.G) (w : World) (ha : Row w a p ca) (hb : Row w b q cb) (hp : Pol p) (hq : Pol q) (hp0 : 0 < p.length) (hq0 : 0 < q.length) (hl : 256 < p.length + q.length) :
    Calls Try.prog 61 #[.slice a p.length ca, .slice b q.length cb] w fun e W => e = .returned (.tuple #[.slice none 0 0, .int .i64 3]) ∧ Below w.heap.size w W := by
  have hra := ha.room
  have hma := ha.most
  have hrb := hb.room
  have hmb := hb.most
  have HA := Lib.hid ha
  have HB := Lib.hid hb
  have HP := Lib.hid hp
  have HQ := Lib.hid hq
  have hlp := hp.len
  have hlq := hq.len
  clear hp hq
  have hb1 : Below w.heap.size w (w.alloc (.cells #[.slice b q.length cb] 30)) := (Below.refl _ w).alloc (Nat.le_refl _) _
  have c1 := cell_new w (.slice b q.length cb) 30
  have hs1 : (w.alloc (.cells #[.slice b q.length cb] 30)).heap.size = w.heap.size + 1 := by simp
  clear ha hb
  refine (callsIn_wide (n := 6)).1 ?_
  refine callsIn_of_wp_marks Try.func61 rfl trivial ?_ rfl
  refine wpIn_wide.2 ?_
  simp only [Try.ntmps61, List.size_toArray, List.length_cons, List.length_nil, Nat.reduceAdd, Nat.reduceSub, Array.replicate_succ, Array.replicate_zero, List.push_toArray, List.append_toArray, List.nil_append, List.cons_append]
  go_wp2_with fail
  generalize w.alloc (.cells #[.slice b q.length cb] 30) = w1 at *
  have HA1 := Lib.hid (HA.out.below hb1)
  have HB1 := Lib.hid (HB.out.below hb1)
  refine (valid_yes a p ca w1 HA1.out HP.out).mono ?_
  rintro e w2 ⟨rfl, hb2⟩
  have c2 := cell_below hb2 c1
  have HB2 := Lib.hid (HB1.out.below hb2)
  have hs2 := hb2.size
  go_wp2_with fail
  refine (valid_yes b q cb w2 HB2.out HQ.out).mono ?_
  rintro e w3 ⟨rfl, hb3⟩
  have c3 := cell_below hb3 c2
  have hs3 := hb3.size
  have hz1 : ((p.length : Int) == 0) = false := beq_false_of_ne (by omega)
  have hz2 : ((q.length : Int) == 0) = false := beq_false_of_ne (by omega)
  go_wp2
  exact ⟨.tuple #[.slice none 0 0, .int .i64 3], by simp [results, Try.f61, go_sem], rfl, (hb1.trans (hb2.mono (by omega))).trans (hb3.mono (by omega))⟩

/-- **poly.Mul** of two valid polynomials. -/
theorem mul_yes (a b : Option Addr) (ca cb : Nat) (p q : List PM.G) (w : World) (ha : Row w a p ca) (hb : Row w b q cb) (hp : Pol p) (hq : Pol q) (hl : p.length + q.length ≤ 256) :
    Calls Try.prog 61 #[.slice a p.length ca, .slice b q.length cb] w fun e W => PRes (PM.conv (PM.el p) (PM.el q)) e W ∧ Below w.heap.size w W := by
  have nil : ∀ W : World, (∀ k, PM.conv (PM.el p) (PM.el q) k = 0) → PRes (PM.conv (PM.el p) (PM.el q)) (.returned (.tuple #[.slice none 0 0, .int .i64 0])) W :=
    fun W h => ⟨[], none, 0, rfl, Row.nil _ _ _ (by omega), ⟨PM.can_nil, Nat.zero_le _⟩, fun k => (h k).symm⟩
  by_cases hp0 : p.length = 0
  · refine (mul_zero1 a b ca cb p q w ha hb hp hq hp0).mono ?_
    rintro e W ⟨rfl, hB⟩
    refine ⟨nil W (fun k => ?_), hB⟩
    rw [List.length_eq_zero_iff.1 hp0]; exact PM.conv_zeroC_l _ k
  · by_cases hq0 : q.length = 0
    · refine (mul_zero2 a b ca cb p q w ha hb hp hq (by omega) hq0).mono ?_
      rintro e W ⟨rfl, hB⟩
      refine ⟨nil W (fun k => ?_), hB⟩
      rw [PM.conv_comm, List.length_eq_zero_iff.1 hq0]; exact PM.conv_zeroC_l _ k
    · exact mul_fit a b ca cb p q w ha hb hp hq (by omega) (by omega) hl
end Go.Proofs.Ytijkgplglfmfnaa.P

namespace Go.Proofs.Ytijkgplglfmfnaa.P
open Go Go.RowKit Go.Shelf

theorem map_splice (zs ps : List PM.G) (off : Nat) : splice (zs.map gv) off (ps.map gv) = (splice zs off ps).map gv := by
  unfold splice; simp [List.map_take, List.map_drop]
theorem el_splice (zs ps : List PM.G) (off k : Nat) (h : off + ps.length ≤ zs.length) : PM.el (splice zs off ps) k = if k < off then PM.el zs k else if k < off + ps.length then PM.el ps (k - off) else PM.el zs k := by
  unfold splice
  rw [PM.el_append, PM.el_append, PM.el_take, PM.el_drop, List.length_take, Nat.min_eq_left (by omega)]
  by_cases h1 : k < off
  · rw [if_pos h1, if_pos h1, if_pos h1]
  · rw [if_neg h1, if_neg h1]
    by_cases h2 : k < off + ps.length
    · rw [if_pos (by omega), if_pos h2]
    · rw [if_neg (by omega), if_neg h2]; congr 1; omega
theorem info_one : (Try.prog.info? 5).map (·.size) = some 1 := by kernel_rfl

/-- **copy(s[off:], p)** into a slice that was made with this length. -/
theorem wpList_copy1 {w : World} {ops : Array Oper} {rest : List Oper} {o : Oper} {a : Act} {Q : Exit → Act → World → Prop} (hgd : o.guard = none) (d s : Operand)
    (ho : o.op = .call { callee := .builtin .copy, args := #[d, s], argTypes := #[30, 30] }) {B g n off dLen dCap cp : Nat} {dp sp : Option Addr} {zs ps : List PM.G} (hown : Own w B (.slice (some ⟨g, 0, none⟩) n n) zs)
    (hd : a.eval d = .slice dp dLen dCap) (hs : a.eval s = .slice sp ps.length cp) (hdp : 0 < ps.length → dp = some ⟨g, off, none⟩) (hdl : ps.length ≤ dLen) (hr : Row w sp ps cp) (hfit : off + ps.length ≤ zs.length)
    (h : ∀ w', Own w' B (.slice (some ⟨g, 0, none⟩) n n) (splice zs off ps) → Below g w w' → wpList Try.prog ops Q rest (a.put o.dst (goInt ps.length)) w') : wpList Try.prog ops Q (o :: rest) a w := by
  have hlen := hown.len
  obtain ⟨h1, h2 | ⟨g', cap, cur, hv, hB, hh, r1, r2, r3, r4⟩⟩ := hown
  · have := h2.1; cases this
  · cases hv
    have hcur : cur = ((zs.map gv).toArray) := by
      have : cur.toList.take (zs.length * 1) = cur.toList := List.take_of_length_le (by rw [Array.length_toList, r3]; exact Nat.le_refl _)
      rw [← r4, this]
    subst hcur
    have hcs : (ps.map gv).length = ps.length := List.length_map _
    refine wpList_copy_splice (P := Try.prog) hgd d s 30 30 ho 5 Try.underlying30 info_one dp sp dLen dCap ps.length cp hd hs g off (zs.map gv) 5 hh (ps.map gv) (by rw [hcs]; exact (Nat.min_eq_left hdl).symm) ?_ (by rw [hcs, List.length_map]; exact hfit) ?_ g w (Below.refl _ _) (Nat.le_refl _) ?_
    · intro h0
      rw [hcs] at h0
      obtain ⟨b, off', e, hc⟩ := hr.el 0 h0
      refine ⟨hdp h0, ⟨b, off', none⟩, e, fun j v hj => ?_⟩
      subst e
      rw [List.getElem?_map] at hj
      by_cases hlt : j < ps.length
      · have hc := hr.cell j hlt
        rw [List.getElem?_eq_getElem hlt] at hj
        simp only [Option.map_some, Option.some.injEq] at hj
        subst hj
        rw [PM.el_lt hlt] at hc
        by_cases hj0 : j = 0
        · subst hj0; simpa [Addr.add, gv] using hc
        · simpa [Addr.add, hj0, gv] using hc
      · rw [List.getElem?_eq_none (by omega)] at hj; simp at hj
    · intro v hv
      obtain ⟨z, _, rfl⟩ := List.mem_map.1 hv
      rfl
    · intro w' hw' hb'
      rw [hcs]
      refine h w' ?_ hb'
      have hl2 : (splice zs off ps).length = zs.length := length_splice _ _ _ hfit
      have hh' := hw'.out
      rw [map_splice] at hh'
      refine ⟨by simp, .inr ⟨g, zs.length, _, by rw [hl2], hB, hh', by rw [hl2]; exact Nat.le_refl _, r2, by simp [hl2], ?_⟩⟩
      rw [List.take_of_length_le (by simp)]

theorem one_int : ((PM.G.one.v : Nat) : Int) = 1 := rfl
/-- What a call leaves that trims a slice of its own: the polynomial. -/
theorem trim_res {w : World} (f : PM.Co) {n cap g B : Nat} {ys : List PM.G} (hown : Own w B (.slice (some ⟨g, 0, none⟩) n cap) ys) (hl : ys.length ≤ 255) (hf : ∀ k, PM.el ys k = f k) :
    Calls Try.prog 77 #[.slice (some ⟨g, 0, none⟩) n cap] w fun e W => (∃ r a c, e = .returned (.slice a r.length c) ∧ Row W a r c ∧ Pol r ∧ (∀ k, PM.el r k = f k) ∧ (∀ b o, a = some ⟨b, o, none⟩ → b = g)) ∧ Below w.heap.size w W := by
  have hn := hown.len
  subst hn
  refine (trimmed_any _ ys cap w hown.rowAt).mono ?_
  rintro e W ⟨rfl, hB⟩
  obtain ⟨a', c', hc, hr, ha⟩ := hown.rowAt.cut
  rw [hc]
  refine ⟨⟨PM.trimL ys, a', c', rfl, hr.below hB, ⟨PM.can_trimL ys, by have := PM.trimL_len ys; omega⟩, fun k => by rw [PM.el_trimL, hf], fun b o e => ?_⟩, hB⟩
  have := ha b o e
  cases this; rfl

set_option maxRecDepth 100000 in
set_option maxHeartbeats 1000000 in
/-- **poly.Add** of two valid polynomials. -/
theorem add_yes (a b : Option Addr) (ca cb : Nat) (p q : List PM.G) (w : World) (ha : Row w a p ca) (hb : Row w b q cb) (hp : Pol p) (hq : Pol q) :
    Calls Try.prog 87 #[.slice a p.length ca, .slice b q.length cb] w fun e W => PRes (PM.addC (PM.el p) (PM.el q)) e W ∧ Below w.heap.size w W := by
  have hra := ha.room
  have hma := ha.most
  have hrb := hb.room
  have hmb := hb.most
  have hlp := hp.len
  have hlq := hq.len
  have HA := Lib.hid ha
  have HB := Lib.hid hb
  have HP := Lib.hid hp
  have HQ := Lib.hid hq
  clear ha hb hp hq
  obtain ⟨n, hn⟩ : ∃ n, max p.length q.length = n := ⟨_, rfl⟩
  have hn1 : p.length ≤ n := by omega
  have hn2 : q.length ≤ n := by omega
  have hn3 : n ≤ 255 := by omega
  have hmax : max (p.length : Int) (q.length : Int) = (n : Int) := by omega
  go_enter Try.func87, Try.ntmps87
  go_wp2_with fail
  refine (valid_yes a p ca w HA.out HP.out).mono ?_
  rintro e w1 ⟨rfl, hb1⟩
  have HB1 := Lib.hid (HB.out.below hb1)
  have HA1 := Lib.hid (HA.out.below hb1)
  go_wp2_with fail
  refine (valid_yes b q cb w1 HB1.out HQ.out).mono ?_
  rintro e w2 ⟨rfl, hb2⟩
  have HA2 := Lib.hid (HA1.out.below hb2)
  have HB2 := Lib.hid (HB1.out.below hb2)
  have HD2 := Lib.hid (hb1.trans (hb2.mono hb1.size))
  have hs2 := HD2.out.size
  clear hb1 hb2 HA1 HB1
  go_wp2_with (first
    | (at_make; refine wpList_make1 rfl _ _ rfl n rfl rfl (by omega) (by omega) (B := w2.heap.size) (Nat.le_refl _) ?_; intro w3 hown3 hb3; have HO3 := Lib.hid hown3; have HB3 := Lib.hid hb3; have HA3 := Lib.hid (HA2.out.below hb3); have HQ3 := Lib.hid (HB2.out.below hb3); clear hown3 hb3)
    | (refine wpList_copy1 (g := w2.heap.size) (B := w2.heap.size) (n := n) (off := 0) (zs := List.replicate n 0) (ps := p) rfl _ _ rfl (by have := HO3.out; rw [List.length_replicate] at this; exact this) rfl rfl (fun _ => rfl) (by omega) HA3.out (by rw [List.length_replicate]; omega) ?_; intro w4 hown4 hb4; have HO4 := Lib.hid hown4; have HB4 := Lib.hid hb4; clear hown4 hb4))
  have hlr : (List.replicate n (0 : PM.G)).length = n := List.length_replicate
  have hl4 : (splice (List.replicate n (0 : PM.G)) 0 p).length = n := by rw [length_splice _ _ _ (by rw [hlr]; omega), hlr]
  have hb3 := HB3.out
  have hb4 := HB4.out
  have hB24 : Below w2.heap.size w2 w4 := hb3.trans hb4
  have hO := HO4.out
  have hel4 : ∀ j, PM.el (splice (List.replicate n (0 : PM.G)) 0 p) j = PM.el p j := fun j => by
    rw [el_splice _ _ _ _ (by rw [hlr]; omega), if_neg (Nat.not_lt_zero _), Nat.sub_zero]
    split
    · rfl
    · rename_i h; rw [PM.el_replicate, PM.el_ge (by omega)]
  generalize splice (List.replicate n (0 : PM.G)) 0 p = zs at *
  have hlq2 : q.length ≤ zs.length := by omega
  have ht := addMul_any w2.heap.size w2.heap.size n 0 n n cb zs q b PM.G.one w4 (by rw [hl4]; exact hO) (HB2.out.below hB24) (by omega) hn2 (Nat.le_refl _) (by omega) (by
    intro h0 b' o e; subst e
    have := HB2.out.lt h0; omega)
  rw [one_int] at ht
  refine ht.mono ?_
  clear ht
  rintro e w5 ⟨ys, rfl, hl5, hel5, ho5, hg5⟩
  rw [hl5, hl4] at ho5
  have hs4 := hB24.size
  have hB5 : Below w2.heap.size w2 w5 := hB24.trans (grown_below hg5 (Nat.le_refl _) hs4)
  have hel : ∀ j, PM.el ys j = PM.addC (PM.el p) (PM.el q) j := fun j => by
    rw [hel5, hel4, if_neg (Nat.not_lt_zero _), PM.G.one_mul, Nat.sub_zero]; rfl
  have HT := Lib.hid (trim_res (PM.addC (PM.el p) (PM.el q)) ho5 (by omega) hel)
  have HB5 := Lib.hid (HD2.out.trans (hB5.mono hs2))
  have hs5 := HB5.out.size
  clear hB5 hel hg5 ho5 hel5 hl5 hel4 hO hB24 hb3 hb4 hlr hlq2 HO4 HB4 HO3 HB3 HA3 HQ3
  go_wp2_with fail
  refine HT.out.mono ?_
  rintro e w6 ⟨⟨r, a6, c6, rfl, hr, hpol, hco, _⟩, hb6⟩
  go_wp2_with fail
  exact bodyPost_ret (v := .tuple #[.slice a6 r.length c6, .int .i64 0]) (by simp [results, Try.results87, go_sem]) rfl ⟨⟨r, a6, c6, rfl, hr, hpol, hco⟩, HB5.out.trans (hb6.mono hs5)⟩

set_option maxHeartbeats 400000 in
theorem add_bad1 (a b : Option Addr) (ca cb : Nat) (p q : List PM.G) (w : World) (ha : Row w a p ca) (hp : ¬ Pol p) :
    Calls Try.prog 87 #[.slice a p.length ca, .slice b q.length cb] w fun e W => e = .returned (.tuple #[.slice none 0 0, .int .i64 1]) ∧ Below w.heap.size w W := by
  have HA := Lib.hid ha
  have HP := Lib.hid hp
  clear ha hp
  go_enter Try.func87, Try.ntmps87
  go_wp2_with fail
  refine (valid_no a p ca w HA.out HP.out).mono ?_
  rintro e w1 ⟨rfl, hb1⟩
  go_wp2
  exact bodyPost_ret (v := .tuple #[.slice none 0 0, .int .i64 1]) (by simp [results, Try.results87, go_sem]) rfl ⟨rfl, hb1⟩
set_option maxHeartbeats 400000 in
theorem add_bad2 (a b : Option Addr) (ca cb : Nat) (p q : List PM.G) (w : World) (ha : Row w a p ca) (hb : Row w b q cb) (hp : Pol p) (hq : ¬ Pol q) :
    Calls Try.prog 87 #[.slice a p.length ca, .slice b q.length cb] w fun e W => e = .returned (.tuple #[.slice none 0 0, .int .i64 1]) ∧ Below w.heap.size w W := by
  have HA := Lib.hid ha
  have HB := Lib.hid hb
  have HP := Lib.hid hp
  have HQ := Lib.hid hq
  clear ha hp hb hq
  go_enter Try.func87, Try.ntmps87
  go_wp2_with fail
  refine (valid_yes a p ca w HA.out HP.out).mono ?_
  rintro e w1 ⟨rfl, hb1⟩
  have HB1 := Lib.hid (HB.out.below hb1)
  go_wp2_with fail
  refine (valid_no b q cb w1 HB1.out HQ.out).mono ?_
  rintro e w2 ⟨rfl, hb2⟩
  go_wp2
  exact bodyPost_ret (v := .tuple #[.slice none 0 0, .int .i64 1]) (by simp [results, Try.results87, go_sem]) rfl ⟨rfl, hb1.trans (hb2.mono hb1.size)⟩
end Go.Proofs.Ytijkgplglfmfnaa.P
