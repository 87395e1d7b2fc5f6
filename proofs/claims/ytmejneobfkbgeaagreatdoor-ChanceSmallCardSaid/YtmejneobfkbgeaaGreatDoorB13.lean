/- poly.trimmed and poly.Valid. field's functions that poly calls. poly.addMultiple. poly.Mul. poly.Mul of two polynomials that are not zero: the product lies in memory of the call's own. poly.Mul, where a factor is zero, the product is too long, or a factor is no polynomial. copy into a slice that a call has made; poly.Add. append of any slice of bytes to one of the call's own; slices.Clone. The reference's field: Mul, Inverse, Power, Exp. Bytes as elements of the field; a matrix in memory: a slice of slices, each row in a block of its own. append as a step of a region that draws its order. symbol's codes: isWithin, ValidCode, isSymbolCode, length. slices.Reverse at bytes, by the shelf's contract; poly.Trim; symbol.polynomial. field.Exp (of field's texts). symbol.roots. Euclid's algorithm, stopped halfway: the factor's roots are the elements of the wrong places. Plain mathematics. Words as polynomials, plain mathematics: syndromes are values; the polynomial with given roots. ref04.Same (of XPAwake). poly.Eval. poly.divide. symbol.withRoots, syndromes, Syndromes. symbol.weigh, locator, locators, power. slices.Index, Contains, IndexFunc, ContainsFunc, Grow, Concat as symbol calls them. symbol.isZero, ascends, errorOfPlaces, differences. symbol.errorOfPlaces, differences. -/
import Derived.Test.YtmejneobfkbgeaaGreatDoorB12
import Derived.Lib.Hide
import Derived.WalkKit
import Derived.LoopTactic
import Derived.BigQuiet
import Derived.IntWalk
import Derived.Deep.QuietTactic
import Derived.Laws.Bits64
import Derived.Deep.RegionLaw
import Derived.Shelf.SlicesE.Reverse
import Derived.Shelf.Spec.SlicesGrow
import Derived.Shelf.GgClosure.Gives
namespace Go.Proofs.YtmejneobfkbgeaaGreatDoor.P
open Go Go.RowKit Go.Shelf
attribute [local go_sem] Oper.semAt_some

set_option maxRecDepth 100000 in
set_option maxHeartbeats 2000000 in
/-- **poly.trimmed**: the slice without the zeros at its end. -/
theorem trimmed_any (a : Option Addr) (zs : List PM.G) (cap : Nat) (w : World) (hR : Row w a zs cap) :
    Calls Tryz.prog 145 #[.slice a zs.length cap] w fun e W' => e = .returned (cut a cap (PM.trimL zs)) ∧ Below w.heap.size w W' := by
  refine (callsIn_wide (n := 6)).1 ?_
  refine callsIn_of_wp_marks Tryz.func145 rfl trivial ?_ rfl
  simp only [Tryz.ntmps145, List.size_toArray, List.length_cons, List.length_nil, Nat.reduceAdd, Nat.reduceSub, Array.replicate_succ, Array.replicate_zero, List.push_toArray, List.append_toArray, List.nil_append, List.cons_append]
  gi_wp2_with (refine ⟨trivial, ?_⟩; gi_at_call 123; refine (callsIn_wide.2 (backward_any _ _ _ _)).mono ?_; rintro e w' ⟨rfl, rfl⟩)
  have c0 := cell_new w (.slice a zs.length cap) 34
  have c1 := cell_new (w.alloc (.cells #[.slice a zs.length cap] 34)) (.slice none 0 0) 34
  have f1 := frozen_new (w.alloc (.cells #[.slice a zs.length cap] 34)) (.slice none 0 0) 34
  have c2 := cell_new ((w.alloc (.cells #[.slice a zs.length cap] 34)).alloc (.cells #[.slice none 0 0] 34)) (.slice a zs.length cap) 34
  simp only [World.size_alloc] at c1 f1 c2
  have hB0 : Below w.heap.size w (((w.alloc (.cells #[.slice a zs.length cap] 34)).alloc (.cells #[.slice none 0 0] 34)).alloc (.cells #[.slice a zs.length cap] 34)) := (((Below.refl _ w).alloc (Nat.le_refl _) _).alloc (by simp) _).alloc (by simp; omega) _
  refine wpIn_back (n := 6) (by omega) (Bs := w.heap.size + 1 + 1) rfl rfl a zs.length cap (by have := hR.room; have := hR.most; omega) (fun j => ((PM.el zs j).v : Int))
    (fun k W => ((∀ j : Nat, k ≤ j → PM.el zs j = 0) ∧ W.cell? ⟨w.heap.size, 0, none⟩ = some (.slice a zs.length cap) ∧ W.cell? ⟨w.heap.size + 1, 0, none⟩ = some (.slice none 0 0) ∧ W.frozen? ⟨w.heap.size + 1, 0, none⟩ = false ∧ W.cell? ⟨w.heap.size + 1 + 1, 0, none⟩ = some (.slice a zs.length cap)) ∧ Below w.heap.size w W)
    (fun c k W => (c = .ret ∧ PM.el zs k ≠ 0 ∧ (∀ j : Nat, k < j → PM.el zs j = 0) ∧ W.cell? ⟨w.heap.size + 1, 0, none⟩ = some (.slice a (k + 1) cap)) ∧ Below w.heap.size w W)
    (OwnFrom.and (Own.from (fun s A B row hs hg hr => ⟨hs.1, cell_kept hs.2.1 hg hr, cell_kept hs.2.2.1 hg hr, (frozen_kept hs.2.2.1 hg hr).trans hs.2.2.2.1, cell_kept hs.2.2.2.2 hg hr⟩) _) (ownFrom_below (Nat.le_refl _) (by simp; omega)))
    (fun c => OwnFrom.and (Own.from (fun s A B row hs hg hr => ⟨hs.1, hs.2.1, hs.2.2.1, cell_kept hs.2.2.2 hg hr⟩) _) (ownFrom_below (Nat.le_refl _) (by simp; omega)))
    ⟨⟨fun j hj => by exact PM.el_ge hj, cell_later _ (cell_later _ c0), cell_later _ c1, frozen_later _ c1 f1, c2⟩, hB0⟩
    (fun k W h => h.1.2.2.2.2)
    (fun k W h hk => by
      obtain ⟨b, off, e, hc⟩ := hR.el k hk
      exact ⟨b, off, e, (h.2.cell (p := ⟨b, off + k, none⟩) (lt_of_cell hc)).trans hc⟩)
    (fun k => { tmps := #[.slice a zs.length cap, .pointer (some ⟨w.heap.size, 0, none⟩), .pointer (some ⟨w.heap.size + 1, 0, none⟩), .int .i64 (k : Int), .int .u8 ((PM.el zs k).v : Int), .slice a zs.length cap, .func (.func 146) #[] #[.pointer (some ⟨w.heap.size + 1 + 1, 0, none⟩)], .int .i64 (k : Int), .int .u8 ((PM.el zs k).v : Int), undef, undef, undef, undef, undef, undef], defers := [] }) ?assign ?body ?done ?stop
  case assign =>
    intro l k W K hk hK
    gi_wp2
    exact hK
  case body =>
    rintro l k W hl hrec ⟨⟨hz, hc0, hc1, hf1, hc2⟩, hB⟩ hk
    have hroom := hR.room
    have hmost := hR.most
    have hz' : ∀ j : Nat, k < j → PM.el zs j = 0 := fun j hj => hz j hj
    have HZ := Lib.hid hz
    have HZ' := Lib.hid hz'
    clear hz hz'
    by_cases hne : PM.el zs k = 0
    · have hb : (((PM.el zs k).v : Int) != 0) = false := gv_zero hne
      have HN := Lib.hid hne
      clear hne
      gi_wp2
      refine ⟨(KeepsOthers.refl _).from _, ⟨fun j hj => ?_, hc0, hc1, hf1, hc2⟩, hB⟩
      by_cases e : j = k
      · rw [e]; exact HN.out
      · exact HZ'.out j (by omega)
    · have hb : (((PM.el zs k).v : Int) != 0) = true := gv_ne hne
      have HN := Lib.hid hne
      clear hne
      gi_wp2
      exact ⟨(KeepsOthers.setCell _ _ _).from _, ⟨rfl, HN.out, HZ'.out, World.cell?_setCell_same' _ _ _ (by rw [hc1]; rfl)⟩, hB.setCell (p := ⟨w.heap.size + 1, 0, none⟩) (by simp) _⟩
  case done =>
    rintro D W hD ⟨⟨hz, _, hc1, hf1, _⟩, hB⟩ hK
    have HZ := Lib.hid (PM.trimL_none zs (fun j => hz j (Nat.zero_le _)))
    clear hz
    gi_wp2
    have hK' := (KeepsOthers.setCell W ⟨w.heap.size + 1, 0, none⟩ (.slice none 0 0)).same D _ hK rfl
    refine ⟨by simp, .inl ⟨_, _, rfl, run_takeDeferred hK', ?_⟩⟩
    have hc5 := cell_kept (World.cell?_setCell_same' W ⟨w.heap.size + 1, 0, none⟩ (.slice none 0 0) (by rw [hc1]; rfl)) (grownBy_putObj' _ D (.deferred none)) (fun r e => by cases e; exact ⟨_, hK', rfl⟩)
    refine ⟨.slice none 0 0, ?_, by rw [HZ.out]; rfl, (hB.setCell (p := ⟨w.heap.size + 1, 0, none⟩) (by simp) _).trans (belowK_b (w := w) (Nat.le_refl _) _ D _ _ (by simp at hD; omega) hK' rfl rfl)⟩
    simp [results, Tryz.f145, go_sem, hc5]
  case stop =>
    rintro D c k W hD hk ⟨⟨rfl, hne, hz, hc1⟩, hB⟩ hK
    have HZ := Lib.hid (PM.trimL_at zs k hne hz)
    clear hz hne
    gi_wp2
    refine ⟨by simp, .inl ⟨_, _, rfl, run_takeDeferred hK, ?_⟩⟩
    have hc5 := cell_kept hc1 (grownBy_putObj' _ D (.deferred none)) (fun r e => by cases e; exact ⟨_, hK, rfl⟩)
    refine ⟨.slice a (k + 1) cap, ?_, ?_, hB.trans (belowK_b (w := w) (Nat.le_refl _) W D _ _ (by simp at hD; omega) hK rfl rfl)⟩
    · simp [results, Tryz.f145, go_sem, hc5]
    · have hh := HZ.out
      unfold cut
      rw [if_neg (by intro e; rw [e] at hh; simp at hh), hh]


/-- A valid polynomial. -/
structure Pol (p : List PM.G) : Prop where
  can : PM.Can p
  len : p.length ≤ 255

set_option maxHeartbeats 400000 in
theorem valid_yes (a : Option Addr) (p : List PM.G) (cap : Nat) (w : World) (hR : Row w a p cap) (hp : Pol p) :
    Calls Tryz.prog 126 #[.slice a p.length cap] w fun e W' => e = .returned (.bool true) ∧ Below w.heap.size w W' := by
  have hroom := hR.room
  have hmost := hR.most
  have hlen := hp.len
  have ht := trimmed_any a p cap w hR
  obtain ⟨a', c', hc, _, _⟩ := hR.cut
  rw [hc, PM.trimL_can hp.can] at ht
  have HT := Lib.hid ht
  clear ht hc hR hp
  go_enter Tryz.func126, Tryz.ntmps126
  go_wp2_with (go_at_call 145; refine HT.out.mono ?_; rintro e w' ⟨rfl, hb⟩)
  go_ret
  exact ⟨rfl, by assumption⟩

set_option maxHeartbeats 400000 in
theorem valid_no (a : Option Addr) (p : List PM.G) (cap : Nat) (w : World) (hR : Row w a p cap) (hp : ¬ Pol p) :
    Calls Tryz.prog 126 #[.slice a p.length cap] w fun e W' => e = .returned (.bool false) ∧ Below w.heap.size w W' := by
  have hroom := hR.room
  have hmost := hR.most
  by_cases hlen : p.length ≤ 255
  · have ht := trimmed_any a p cap w hR
    obtain ⟨a', c', hc, _, _⟩ := hR.cut
    rw [hc] at ht
    have hne : (p.length : Int) ≠ ((PM.trimL p).length : Int) := by
      intro e
      have e' : (PM.trimL p).length = p.length := by omega
      have h2 : PM.trimL p = p := by have := PM.trimL_take p; rwa [e', List.take_length, eq_comm] at this
      exact hp ⟨by rw [← h2]; exact PM.can_trimL p, hlen⟩
    have HB := Lib.hid (show ((p.length : Int) == ((PM.trimL p).length : Int)) = false by simpa using hne)
    have hle := PM.trimL_len p
    generalize (PM.trimL p).length = n at *
    have HT := Lib.hid ht
    clear ht hc hR hp hne
    go_enter Tryz.func126, Tryz.ntmps126
    have hb := HB.out
    go_wp2_with (go_at_call 145; refine HT.out.mono ?_; rintro e w' ⟨rfl, hb⟩)
    go_ret
    exact ⟨rfl, by assumption⟩
  · clear hp
    go_enter Tryz.func126, Tryz.ntmps126
    go_wp2
    go_ret
    exact ⟨rfl, Below.refl _ _⟩
end Go.Proofs.YtmejneobfkbgeaaGreatDoor.P

namespace Go.Proofs.YtmejneobfkbgeaaGreatDoor
open Go Go.RowKit Go.Shelf

theorem ret_int {k : IntKind} {a b : Int} (h : a = b) : Ending.returned (.int k a) = .returned (.int k b) := by rw [h]
theorem u8_int {a b : Int} (h : a = b) : Value.int .u8 a = .int .u8 b := by rw [h]
theorem xor_u8 (a b : Nat) (ha : a < 256) (hb : b < 256) : bits BinOp.xor IntKind.u8 (a : Int) (b : Int) = ((a ^^^ b : Nat) : Int) := by
  show IntKind.u8.wrap ((BitVec.ofInt 8 a ^^^ BitVec.ofInt 8 b).toNat : Int) = _
  rw [BitVec.toNat_xor, BitVec.ofInt_natCast, BitVec.ofInt_natCast, BitVec.toNat_ofNat, BitVec.toNat_ofNat, Nat.mod_eq_of_lt ha, Nat.mod_eq_of_lt hb]
  have := FM.xor_lt ha hb
  have e : IntKind.u8.wrap ((a ^^^ b : Nat) : Int) = ((a ^^^ b : Nat) : Int) % 256 := by simp [IntKind.wrap, IntKind.bits, IntKind.signed]
  rw [e]
  omega
theorem dbl_bits (a : Nat) (ha : a < 256) : bits BinOp.xor IntKind.u8 ((a : Int) * 2 % 256) ((a : Int) / 128 * 29) = (FM.dbl a : Int) := by
  rw [show ((a : Int) * 2 % 256) = ((a * 2 % 256 : Nat) : Int) by omega, show ((a : Int) / 128 * 29) = ((a / 128 * 29 : Nat) : Int) by omega, xor_u8 _ _ (by omega) (by omega)]
  rfl

theorem double_any (a : Nat) (ha : a < 256) (w : World) :
    Calls Tryz.prog 144 #[.int .u8 (a : Int)] w fun e w' => e = .returned (.int .u8 (FM.dbl a : Int)) ∧ w = w' := by
  go_enter Tryz.func144, Tryz.ntmps144
  go_wp2
  go_ret
  exact ⟨ret_int (dbl_bits a ha), rfl⟩
/-- w' is w but for drawn answers. -/
def Dr (w w' : World) : Prop := ∃ m, w' = w.drewN m
theorem Dr.refl (w : World) : Dr w w := ⟨0, rfl⟩
theorem Dr.drewN {w w1 : World} (h : Dr w w1) (n : Nat) : Dr w (w1.drewN n) := by
  obtain ⟨m, rfl⟩ := h; exact ⟨m + n, by rw [World.drewN_drewN]⟩
theorem Dr.trans {w w1 w2 : World} (h : Dr w w1) (h2 : Dr w1 w2) : Dr w w2 := by
  obtain ⟨n, rfl⟩ := h2; exact h.drewN n

theorem mask_u8 (x : Nat) (hx : x < 256) : bits BinOp.and IntKind.u8 (x : Int) 1 = ((x % 2 : Nat) : Int) := by
  have h : ∀ n : Fin 256, bits BinOp.and IntKind.u8 (n.val : Int) 1 = ((n.val % 2 : Nat) : Int) := by decide +kernel
  exact h ⟨x, hx⟩
theorem mul_step (a b k : Nat) (ha : a < 256) (hb : b < 256) : bits BinOp.xor IntKind.u8 (FM.dbl (FM.mulTo a b k) : Int) ((a : Int) * bits BinOp.and IntKind.u8 ((b : Int) / 2 ^ (7 - k)) 1 % 256) = (FM.mulTo a b (k + 1) : Int) := by
  have hd : b / 2 ^ (7 - k) ≤ b := Nat.div_le_self _ _
  rw [show (b : Int) / 2 ^ (7 - k) = ((b / 2 ^ (7 - k) : Nat) : Int) by rw [Int.natCast_ediv, Int.natCast_pow]; rfl, mask_u8 _ (by omega)]
  have e : ((a : Int) * ((b / 2 ^ (7 - k) % 2 : Nat) : Int) % 256) = ((FM.bitOf b (7 - k) a : Nat) : Int) := by
    unfold FM.bitOf
    rw [Nat.testBit_eq_decide_div_mod_eq]
    by_cases h : b / 2 ^ (7 - k) % 2 = 1
    · rw [h]; simp; omega
    · rw [show b / 2 ^ (7 - k) % 2 = 0 by omega]; simp
  rw [e, xor_u8 _ _ (FM.dbl_lt (FM.mulTo_lt ha k)) (FM.bitOf_lt ha)]
  rfl
theorem fo_mul_any (a b : Nat) (ha : a < 256) (hb : b < 256) (w : World) :
    Calls Tryz.prog 120 #[.int .u8 (a : Int), .int .u8 (b : Int)] w fun e w' => e = .returned (.int .u8 (FM.mul a b : Int)) ∧ Dr w w' := by
  go_enter Tryz.func120, Tryz.ntmps120
  go_wp2
  go_loopw [5, 7] (fun p i wr => ∃ k : Nat, k ≤ 8 ∧ i = .int .i64 (k : Int) ∧ p = .int .u8 (FM.mulTo a b k : Int) ∧ Dr w wr) (fun _ i _ => 8 - (intOf i).toNat)
  case atStart => exact ⟨0, Nat.zero_le _, rfl, rfl, Dr.refl _⟩
  case round =>
    obtain ⟨k, hk, rfl, rfl, hd⟩ := hrel
    have hl := FM.mulTo_lt (b := b) ha k
    by_cases hlt : k < 8
    · go_wp2
      go_quiet ((go_at_call 144; refine Calls.quiet_of_same ((double_any _ hl _).mono fun _ _ h => ⟨h.1, h.2.symm⟩)))
      go_wp2
      go_roundw
      case rel => exact ⟨k + 1, by omega, by go_num, u8_int (mul_step a b k ha hb), hd.drewN _⟩
      case measure => simp [intOf]; omega
    · go_wp2
      go_ret
      exact ⟨ret_int (by rw [show k = 8 by omega]; rfl), hd⟩
theorem fo_lt_bitLen (n : Nat) (h : n < 2 ^ 64) : n < 2 ^ Lib.bitLen n := by
  induction n using Nat.strongRecOn with
  | ind n ih =>
    by_cases e : n = 0
    · subst e; decide
    · rw [Lib.bitLen_half n e h, Nat.add_comm, Nat.pow_succ]
      have := ih (n / 2) (by omega) (by omega)
      omega
theorem fo_mask1 (x : Int) : bits BinOp.and IntKind.i64 x 1 = x % 2 := by
  show IntKind.i64.wrap ((BitVec.ofInt 64 x &&& BitVec.ofInt 64 1).toNat : Int) = _
  have h1 : ((BitVec.ofInt 64 x).toNat : Int) = x % 18446744073709551616 := by
    rw [BitVec.toNat_ofInt]
    have : 0 ≤ x % ((2 ^ 64 : Nat) : Int) := Int.emod_nonneg _ (by decide)
    rw [Int.toNat_of_nonneg this]; rfl
  have h2 : (BitVec.ofInt 64 1).toNat = 2 ^ 1 - 1 := by decide
  rw [BitVec.toNat_and, h2, Nat.and_two_pow_sub_one_eq_mod, IntKind.wrap_i64]
  omega
attribute [local go_sem] fo_mask1

theorem power_E (i n : Nat) (hn : n < 9223372036854775808) (w : World) :
    Calls Tryz.prog 147 #[.int .u8 (FM.E i : Int), .int .i64 (n : Int)] w fun e w' => e = .returned (.int .u8 (FM.E (i * n) : Int)) ∧ Dr w w' := by
  have HL := Lib.hid (fo_lt_bitLen n (by omega))
  have hlen := bitsLen_any (n : Int)
  rw [Int.toNat_natCast] at hlen
  have HLL := Lib.hid (Lib.bitLen_le n 64 (by omega) (by omega))
  generalize Lib.bitLen n = L at *
  have HLEN := Lib.hid hlen
  clear hlen
  go_enter Tryz.func147, Tryz.ntmps147
  go_wp2_with (go_at_call 141; refine (HLEN.out _ (by omega) (by omega)).mono ?_; rintro e w' ⟨rfl, rfl⟩)
  go_loopw [0, 5, 10] (fun a r c wr => ∃ k : Nat, k ≤ L ∧ c = .int .i64 (k : Int) ∧ a = .int .u8 (FM.E (i * 2 ^ k) : Int) ∧ r = .int .u8 (FM.E (i * (n % 2 ^ k)) : Int) ∧ Dr w' wr) (fun _ _ c _ => L - (intOf c).toNat)
  case atStart => exact ⟨0, Nat.zero_le _, rfl, by rw [Nat.pow_zero, Nat.mul_one], by rw [Nat.pow_zero, Nat.mod_one, Nat.mul_zero]; rfl, Dr.refl _⟩
  case round =>
    obtain ⟨k, hk, rfl, rfl, rfl, hd⟩ := hrel
    by_cases hlt : k < L
    · have hk64 : k < 64 := by have := HLL.out; omega
      have e1 := FM.E_lt (i * 2 ^ k)
      have e2 := FM.E_lt (i * (n % 2 ^ k))
      have hT : ((n : Int) / 2 ^ k % 2) = ((n / 2 ^ k % 2 : Nat) : Int) := by rw [Int.natCast_emod, Int.natCast_ediv, Int.natCast_pow]; rfl
      by_cases hb : n / 2 ^ k % 2 = 1
      · have HS := Lib.hid (FM.pow_step1 i n k hb)
        have HQ := Lib.hid (FM.pow_sq i k)
        have hT1 : ((n : Int) / 2 ^ k % 2 == 1) = true := by rw [hT, hb]; rfl
        clear hT hb
        go_wp2_with (go_at_call 120; refine (fo_mul_any _ _ (by assumption) (by assumption) _).mono ?_; rintro e w1 ⟨rfl, hd1⟩)
        rename_i w1' hd1'
        go_roundw
        case rel => exact ⟨k + 1, by omega, by go_num, u8_int (by rw [HQ.out]), u8_int (by rw [HS.out]), (hd.trans hd1').trans hd1⟩
        case measure => simp [intOf]; omega
      · have HS := Lib.hid (FM.pow_step0 i n k hb)
        have HQ := Lib.hid (FM.pow_sq i k)
        have hT1 : ((n : Int) / 2 ^ k % 2 == 1) = false := by rw [hT]; simp; omega
        clear hT hb
        go_wp2_with (go_at_call 120; refine (fo_mul_any _ _ (by assumption) (by assumption) _).mono ?_; rintro e w1 ⟨rfl, hd1⟩)
        go_roundw
        case rel => exact ⟨k + 1, by omega, by go_num, u8_int (by rw [HQ.out]), u8_int (by rw [HS.out]), hd.trans hd1⟩
        case measure => simp [intOf]; omega
    · go_wp2_with fail
      go_ret
      obtain rfl : k = L := by omega
      exact ⟨ret_int (by rw [Nat.mod_eq_of_lt HL.out]), hd⟩

/-- The powers of an element that is not 0. -/
theorem fo_power_any (a n : Nat) (ha : a < 256) (h0 : a ≠ 0) (hn : n < 9223372036854775808) (w : World) :
    Calls Tryz.prog 147 #[.int .u8 (a : Int), .int .i64 (n : Int)] w fun e w' => e = .returned (.int .u8 (FM.pw a n : Int)) ∧ Dr w w' := by
  have := power_E (FM.lg a) n hn w
  rwa [FM.E_lg ha h0] at this
theorem ret_pair {k l : IntKind} {a b c d : Int} (h : a = b) (g : c = d) : Ending.returned (.tuple #[.int k a, .int l c]) = .returned (.tuple #[.int k b, .int l d]) := by rw [h, g]
theorem inverse_any (a : Nat) (ha : a < 256) (w : World) :
    Calls Tryz.prog 128 #[.int .u8 (a : Int)] w fun e w' => e = .returned (.tuple #[.int .u8 (FM.invV a : Int), .int .i64 (FM.errZ a)]) ∧ Dr w w' := by
  by_cases h0 : a = 0
  · subst h0
    go_enter Tryz.func128, Tryz.ntmps128
    go_wp2
    go_ret2
    exact ⟨rfl, Dr.refl _⟩
  · have ht : ((a : Int) == 0) = false := by simp; omega
    have hp := fo_power_any a 254 ha h0 (by decide)
    have hi : FM.invV a = FM.pw a 254 := by unfold FM.invV; rw [if_neg h0]
    have he : FM.errZ a = 0 := by unfold FM.errZ; rw [if_neg h0]
    rw [hi, he]
    have HP := Lib.hid hp
    clear hp hi he h0
    go_enter Tryz.func128, Tryz.ntmps128
    go_wp2_with (go_at_call 147; refine (HP.out _).mono ?_; rintro e w1 ⟨rfl, hd⟩)
    go_ret2
    exact ⟨rfl, hd⟩
theorem invE_zero {a : Nat} (h : a ≠ 0) : FM.errZ a = 0 := by unfold FM.errZ; rw [if_neg h]
theorem fo_divide_any (a b : Nat) (ha : a < 256) (hb : b < 256) (w : World) :
    Calls Tryz.prog 81 #[.int .u8 (a : Int), .int .u8 (b : Int)] w fun e w' => e = .returned (.tuple #[.int .u8 (FM.divV a b : Int), .int .i64 (FM.errZ b)]) ∧ Dr w w' := by
  have hI := inverse_any b hb
  have hl := FM.invV_lt b
  by_cases h0 : b = 0
  · subst h0
    have HI := Lib.hid hI
    clear hI
    go_enter Tryz.func81, Tryz.ntmps81
    go_wp2_with (go_at_call 128; refine (HI.out _).mono ?_; rintro e w1 ⟨rfl, hd⟩)
    go_ret2
    exact ⟨rfl, hd⟩
  · have hv : FM.divV a b = FM.mul a (FM.invV b) := by unfold FM.divV; rw [if_neg h0]
    have he := invE_zero h0
    rw [hv]
    rw [he] at hI ⊢
    have HI := Lib.hid hI
    clear hI he hv h0
    go_enter Tryz.func81, Tryz.ntmps81
    go_wp2_with (first | (go_at_call 128; refine (HI.out _).mono ?_; rintro e w1 ⟨rfl, hd⟩) | (go_at_call 120; refine (fo_mul_any _ _ ha hl _).mono ?_; rintro e w2 ⟨rfl, hd2⟩))
    go_ret2
    exact ⟨rfl, hd.trans hd2⟩
end Go.Proofs.YtmejneobfkbgeaaGreatDoor

namespace Go.Proofs.YtmejneobfkbgeaaGreatDoor.P
open Go Go.RowKit Go.Shelf

theorem fmul_any (a b : PM.G) (w : World) :
    Calls Tryz.prog 120 #[.int .u8 (a.v : Int), .int .u8 (b.v : Int)] w fun e w' => e = .returned (.int .u8 ((a * b).v : Int)) ∧ Dr w w' := fo_mul_any a.v b.v a.lt b.lt w
theorem xor_G (a b : PM.G) : bits BinOp.xor IntKind.u8 (a.v : Int) (b.v : Int) = ((a + b).v : Int) := xor_u8 a.v b.v a.lt b.lt

def AddRel (w : World) (B g cap off : Nat) (zs ps : List PM.G) (c : PM.G) (i : Value) (W : World) : Prop :=
  ∃ (k : Nat) (ys : List PM.G), i = .int .i64 (k : Int) ∧ k ≤ ps.length ∧ ys.length = zs.length ∧ (∀ j, PM.el ys j = PM.el zs j + if j < off ∨ off + k ≤ j then 0 else c * PM.el ps (j - off)) ∧
    Own W B (.slice (some ⟨g, 0, none⟩) ys.length cap) ys ∧ w.grownBy W (some g)
/-- What addMultiple leaves. -/
def AddPost (w : World) (B g cap off : Nat) (zs ps : List PM.G) (c : PM.G) (e : Ending) (W : World) : Prop :=
  ∃ ys : List PM.G, e = .returned (.tuple #[]) ∧ ys.length = zs.length ∧ (∀ j, PM.el ys j = PM.el zs j + if j < off then 0 else c * PM.el ps (j - off)) ∧
    Own W B (.slice (some ⟨g, 0, none⟩) ys.length cap) ys ∧ w.grownBy W (some g)

theorem add_step {w wr : World} {B g cap off : Nat} {zs ps ys : List PM.G} {c : PM.G} (k : Nat) (hlt : k < ps.length) (hfit : off + ps.length ≤ zs.length) (hlen : ys.length = zs.length)
    (hel : ∀ j, PM.el ys j = PM.el zs j + if j < off ∨ off + k ≤ j then 0 else c * PM.el ps (j - off)) (hown : Own wr B (.slice (some ⟨g, 0, none⟩) ys.length cap) ys) (hgr : w.grownBy wr (some g)) (m : Nat) :
    AddRel w B g cap off zs ps c (.int .i64 ((k : Int) + 1)) ((wr.drewN m).setCell ⟨g, off + k, none⟩ (.int .u8 (bits BinOp.xor IntKind.u8 ((PM.el ys (off + k)).v : Int) ((PM.el ps k * c).v : Int)))) := by
  rw [xor_G]
  refine ⟨k + 1, ys.set (off + k) (PM.el ys (off + k) + PM.el ps k * c), by go_num, hlt, by rw [List.length_set]; exact hlen, fun j => ?_, ?_, grown_set (grown_drewN hgr m) _ _⟩
  · rw [PM.el_set (by omega), hel, hel j]
    by_cases e : j = off + k
    · subst e
      rw [if_pos rfl, if_pos (.inr (Nat.le_refl _)), PM.G.add_zero, if_neg (by omega), Nat.add_sub_cancel_left, PM.G.mul_comm]
    · rw [if_neg e]
      congr 1
      by_cases h : j < off ∨ off + k ≤ j
      · rw [if_pos h, if_pos (by omega)]
      · rw [if_neg h, if_neg (by omega)]
  · have := (hown.drewN m).set (off + k) (PM.el ys (off + k) + PM.el ps k * c)
    rwa [List.length_set]

set_option maxRecDepth 100000 in
set_option maxHeartbeats 1000000 in
/-- **poly.addMultiple** -/
theorem addMul_any (B g cap off n cs cp : Nat) (zs ps : List PM.G) (ap : Option Addr) (c : PM.G) (w : World) (hown : Own w B (.slice (some ⟨g, 0, none⟩) zs.length cap) zs)
    (hp : Row w ap ps cp) (hfit : off + ps.length ≤ zs.length) (hn : ps.length ≤ n) (hcs : n ≤ cs) (hcs2 : cs ≤ 9223372036854775807) (hne : 0 < ps.length → ∀ b o, ap = some ⟨b, o, none⟩ → b ≠ g) :
    Calls Tryz.prog 143 #[.slice (some ⟨g, off, none⟩) n cs, .slice ap ps.length cp, .int .u8 (c.v : Int)] w (AddPost w B g cap off zs ps c) := by
  have hpm := hp.room
  have hpm2 := hp.most
  have HO0 := Lib.hid hown
  have HP := Lib.hid hp
  have HNE := Lib.hid hne
  clear hown hp hne
  go_enter Tryz.func143, Tryz.ntmps143
  go_wp2
  go_loopw [10] (fun i wr => AddRel w B g cap off zs ps c i wr) (fun i _ => ps.length - (intOf i).toNat)
  case atStart => exact ⟨0, zs, rfl, Nat.zero_le _, rfl, fun j => by rw [if_pos (by omega), PM.G.add_zero], HO0.out, World.grownBy.refl _ _⟩
  case round =>
    obtain ⟨k, ys, rfl, hk, hlen, hel, hown, hgr⟩ := hrel
    have HLN := Lib.hid hlen
    have HEL := Lib.hid hel
    have HO := Lib.hid hown
    have HG := Lib.hid hgr
    have hsz := hgr.size
    clear hlen hel hown hgr
    by_cases hlt : k < ps.length
    · have hP := HP.out.grown HG.out (fun b o e => by intro h; cases h; exact HNE.out (by omega) _ _ e rfl)
      obtain ⟨pb, po, rfl, hcp⟩ := hP.el k hlt
      obtain ⟨hgB, hgW, hcap, hcap2, hcz, hfz⟩ := HO.out.at (off + k) (by rw [HLN.out]; omega)
      rw [HLN.out] at hcap2
      clear hP
      go_wp2_with fail
      go_region_with (go_at_call 120; refine (fmul_any _ _ _).mono ?_; rintro e w1 ⟨rfl, hd1⟩; obtain ⟨m, rfl⟩ := hd1)
      all_goals go_wp2_with fail
      all_goals go_roundw
      all_goals first
        | exact add_step k hlt hfit HLN.out HEL.out HO.out HG.out _
        | (simp [intOf]; omega)
    · go_wp2
      refine bodyPost_ret (results_none rfl _ _ _) rfl ?_
      refine ⟨ys, rfl, HLN.out, fun j => ?_, HO.out, HG.out⟩
      rw [HEL.out]
      congr 1
      by_cases h1 : j < off
      · rw [if_pos (.inl h1), if_pos h1]
      · rw [if_neg h1]
        by_cases h2 : off + k ≤ j
        · rw [if_pos (.inr h2), PM.el_ge (by omega), PM.G.mul_zero]
        · rw [if_neg (by omega)]
end Go.Proofs.YtmejneobfkbgeaaGreatDoor.P

namespace Go.Proofs.YtmejneobfkbgeaaGreatDoor.P
open Go Go.RowKit Go.Shelf
attribute [local go_sem] Oper.semAt_some

/-- The result is the polynomial with the coefficients f. -/
def PRes (f : PM.Co) (e : Ending) (W : World) : Prop := ∃ r a cap, e = .returned (.tuple #[.slice a r.length cap, .int .i64 0]) ∧ Row W a r cap ∧ Pol r ∧ ∀ k, PM.el r k = f k

theorem cell_below {w W : World} {p : Addr} {v : Value} (hb : Below w.heap.size w W) (h : w.cell? p = some v) : W.cell? p = some v := (hb.cell (lt_of_cell h)).trans h
theorem frozen_below {w W : World} {p : Addr} {v : Value} {t : Bool} (hb : Below w.heap.size w W) (h : w.cell? p = some v) (hf : w.frozen? p = t) : W.frozen? p = t := (hb.frozen (lt_of_cell h)).trans hf
theorem cell_grown {W W' : World} {r : Nat} {a : Addr} {v : Value} (hg : W.grownBy W' (some r)) (hne : a.block ≠ r) (h : W.cell? a = some v) : W'.cell? a = some v :=
  (World.cell?_of_block (hg.block a.block (lt_of_cell h) (by intro e; cases e; exact hne rfl))).trans h
theorem frozen_grown {W W' : World} {r : Nat} {a : Addr} {v : Value} {t : Bool} (hg : W.grownBy W' (some r)) (hne : a.block ≠ r) (h : W.cell? a = some v) (hf : W.frozen? a = t) : W'.frozen? a = t :=
  (World.frozen?_of_block (hg.block a.block (lt_of_cell h) (by intro e; cases e; exact hne rfl))).trans hf
theorem Own.fresh {W : World} {B n cap : Nat} {a : Option Addr} {zs : List PM.G} (h : Own W B (.slice a n cap) zs) (h0 : 0 < zs.length) : ∃ g, a = some ⟨g, 0, none⟩ ∧ B ≤ g ∧ g < W.heap.size := by
  rcases h.parts with ⟨e, rfl⟩ | ⟨g', cap', e, hb, h2, _⟩
  · simp at h0
  · cases e; exact ⟨g', rfl, hb, h2⟩

/-- What is owned from B on, while blocks that hold no cells turn beyond. -/
theorem ownFrom_own {β : Type} {B0 B : Nat} {v : Value} (f : β → List PM.G) : OwnFrom B0 (fun s W => Own W B v (f s)) := fun s W W' row hs hg hr =>
  World.ownsRow.kept hs hg (by
    cases hv : v.ownBlock with
    | none => exact .inl rfl
    | some k =>
      refine .inr ?_
      intro e
      obtain ⟨_, o, ho, hc⟩ := hr k e.symm
      obtain ⟨_, h2 | ⟨g, cap, cur, rfl, hb, hh, _⟩⟩ := hs
      · rw [h2.1] at hv; simp [Value.ownBlock] at hv
      · simp [Value.ownBlock] at hv
        subst hv
        rw [hh] at ho
        cases ho
        simp [Obj.isCells] at hc)

/-- The coefficients from k on. -/
def high (p : List PM.G) (k : Nat) : PM.Co := fun i => if i < k then 0 else PM.el p i

theorem high_end (p : List PM.G) : high p p.length = PM.zeroC := by
  funext i; unfold high
  by_cases h : i < p.length
  · rw [if_pos h]; rfl
  · rw [if_neg h]; exact PM.el_ge (by omega)
theorem high_zero (p : List PM.G) : high p 0 = PM.el p := by
  funext i; unfold high; rw [if_neg (Nat.not_lt_zero _)]
theorem high_step (p : List PM.G) (k i : Nat) : high p k i = if i = k then PM.el p k else high p (k + 1) i := by
  unfold high
  by_cases e : i = k
  · subst e; rw [if_neg (Nat.lt_irrefl _), if_pos rfl]
  · rw [if_neg e]
    by_cases h : i < k
    · rw [if_pos h, if_pos (by omega)]
    · rw [if_neg h, if_neg (by omega)]
theorem high_at (p : List PM.G) (k : Nat) : high p (k + 1) k = 0 := by unfold high; rw [if_pos (Nat.lt_succ_self k)]
theorem mul_pol {p q ys : List PM.G} (hp : Pol p) (hq : Pol q) (hp0 : 0 < p.length) (hq0 : 0 < q.length) (hl : p.length + q.length ≤ 256) (hlen : ys.length = p.length + q.length - 1) (hel : ∀ j, PM.el ys j = PM.conv (PM.el p) (PM.el q) j) : Pol ys := by
  refine ⟨fun _ => ?_, by omega⟩
  have e1 : p.length - 1 + 1 = p.length := by omega
  have e2 : q.length - 1 + 1 = q.length := by omega
  have := (PM.conv_top (PM.el p) (PM.el q) (p.length - 1) (q.length - 1) (by rw [e1]; exact PM.el_van p) (by rw [e2]; exact PM.el_van q)).1
  rw [hel, show ys.length - 1 = p.length - 1 + (q.length - 1) by omega, this]
  exact PM.G.mul_ne (hp.can hp0) (hq.can hq0)
/-- What holds in Mul's loop when k elements are still to come. -/
def MulI (w : World) (p5 bs g n cb ca : Nat) (a b : Option Addr) (p q : List PM.G) (k : Nat) (W : World) : Prop :=
  (W.cell? ⟨w.heap.size, 0, none⟩ = some (.slice b q.length cb) ∧ W.cell? ⟨p5, 0, none⟩ = some (.slice (some ⟨g, 0, none⟩) n n) ∧ W.cell? ⟨bs, 0, none⟩ = some (.slice a p.length ca)) ∧
  ∃ ys : List PM.G, Own W w.heap.size (.slice (some ⟨g, 0, none⟩) n n) ys ∧ ys.length = n ∧ (∀ j, PM.el ys j = PM.conv (high p k) (PM.el q) j) ∧ Below w.heap.size w W

theorem mulI_own {w : World} {p5 bs g n cb ca : Nat} {a b : Option Addr} {p q : List PM.G} {B0 : Nat} (hB0 : w.heap.size ≤ B0) : OwnFrom B0 (MulI w p5 bs g n cb ca a b p q) := by
  refine OwnFrom.and (Own.from (fun _ _ _ _ hs hg hr => ⟨cell_kept hs.1 hg hr, cell_kept hs.2.1 hg hr, cell_kept hs.2.2 hg hr⟩) _) ?_
  rintro s W W' row ⟨ys, h1, h2, h3, h4⟩ hg hr
  exact ⟨ys, ownFrom_own (B0 := B0) (fun (_ : Unit) => ys) () _ _ _ h1 hg hr, h2, h3, ownFrom_below (β := Unit) (Nat.le_refl _) hB0 () _ _ _ h4 hg hr⟩

set_option maxRecDepth 100000 in
set_option maxHeartbeats 1000000 in
theorem mul_fit (a b : Option Addr) (ca cb : Nat) (p q : List PM.G) (w : World) (ha : Row w a p ca) (hb : Row w b q cb) (hp : Pol p) (hq : Pol q) (hp0 : 0 < p.length) (hq0 : 0 < q.length) (hl : p.length + q.length ≤ 256) :
    Calls Tryz.prog 119 #[.slice a p.length ca, .slice b q.length cb] w fun e W => PRes (PM.conv (PM.el p) (PM.el q)) e W ∧ Below w.heap.size w W := by
  have hra := ha.room
  have hma := ha.most
  have hrb := hb.room
  have hmb := hb.most
  have HA := Lib.hid ha
  have HB := Lib.hid hb
  have HP := Lib.hid hp
  have HQ := Lib.hid hq
  have hb1 : Below w.heap.size w (w.alloc (.cells #[.slice b q.length cb] 34)) := (Below.refl _ w).alloc (Nat.le_refl _) _
  have c1 := cell_new w (.slice b q.length cb) 34
  have hs1 : (w.alloc (.cells #[.slice b q.length cb] 34)).heap.size = w.heap.size + 1 := by simp
  clear ha hb hp hq
  refine (callsIn_wide (n := 6)).1 ?_
  refine callsIn_of_wp_marks Tryz.func119 rfl trivial ?_ rfl
  refine wpIn_wide.2 ?_
  simp only [Tryz.ntmps119, List.size_toArray, List.length_cons, List.length_nil, Nat.reduceAdd, Nat.reduceSub, Array.replicate_succ, Array.replicate_zero, List.push_toArray, List.append_toArray, List.nil_append, List.cons_append]
  go_wp2_with fail
  generalize w.alloc (.cells #[.slice b q.length cb] 34) = w1 at *
  have HA1 := Lib.hid (HA.out.below hb1)
  have HB1 := Lib.hid (HB.out.below hb1)
  refine (valid_yes a p ca w1 HA1.out HP.out).mono ?_
  rintro e w2 ⟨rfl, hb2⟩
  have c2 := cell_below hb2 c1
  have HB2 := Lib.hid (HB1.out.below hb2)
  have hs2 := hb2.size
  go_wp2_with fail
  refine (valid_yes b q cb w2 HB2.out HQ.out).mono ?_
  rintro e w3 ⟨rfl, hb3⟩
  have c3 := cell_below hb3 c2
  have hs3 := hb3.size
  have HB03 := Lib.hid ((hb1.trans (hb2.mono (by omega))).trans (hb3.mono (by omega)))
  have HA3 := Lib.hid ((HA1.out.below hb2).below hb3)
  have HB3 := Lib.hid (HB2.out.below hb3)
  clear hb1 hb2 hb3 c1 c2 HA1 HB1 HB2
  have hz1 : ((p.length : Int) == 0) = false := beq_false_of_ne (by omega)
  have hz2 : ((q.length : Int) == 0) = false := beq_false_of_ne (by omega)
  obtain ⟨n, hn⟩ : ∃ n, p.length + q.length - 1 = n := ⟨_, rfl⟩
  go_wp2_with (at_make; refine wpList_make1 rfl _ _ rfl n rfl rfl (by omega) (by omega) (B := w3.heap.size) (Nat.le_refl _) ?_; intro w4 hown4 hb4; have HO4 := Lib.hid hown4; have HB4 := Lib.hid hb4; clear hown4 hb4)
  refine (backward_any _ _ _ _).mono ?_
  rintro e w' ⟨rfl, rfl⟩
  have hb4 := HB4.out
  have hs4 := hb4.size
  have g1 := cell_new w4 (.slice (some ⟨w3.heap.size, 0, none⟩) n n) 34
  have c4 := cell_below hb4 c3
  have hB6 := (((HB03.out.trans (hb4.mono (by omega))).alloc (by omega) (.cells #[.slice (some ⟨w3.heap.size, 0, none⟩) n n] 34))).alloc (by simp; omega) (.cells #[.slice a p.length ca] 34)
  have hO6 := (HO4.out.alloc (.cells #[.slice (some ⟨w3.heap.size, 0, none⟩) n n] 34)).alloc (.cells #[.slice a p.length ca] 34)
  rw [List.length_replicate] at hO6
  have hHI : MulI w w4.heap.size (w4.heap.size + 1) w3.heap.size n cb ca a b p q p.length ((w4.alloc (.cells #[.slice (some ⟨w3.heap.size, 0, none⟩) n n] 34)).alloc (.cells #[.slice a p.length ca] 34)) :=
    ⟨⟨cell_later _ (cell_later _ c4), cell_later _ g1, by simp⟩, _, hO6.mono (by omega), List.length_replicate, fun j => by
      rw [PM.el_replicate, show high p p.length = PM.zeroC from high_end p, PM.conv_zeroC_l], hB6⟩
  have HI := Lib.hid hHI
  have hAA := (((HA3.out.below hb4).alloc (.cells #[.slice (some ⟨w3.heap.size, 0, none⟩) n n] 34)).alloc (.cells #[.slice a p.length ca] 34))
  have HA6 := Lib.hid hAA
  have hs6 : ((w4.alloc (.cells #[.slice (some ⟨w3.heap.size, 0, none⟩) n n] 34)).alloc (.cells #[.slice a p.length ca] 34)).heap.size = w4.heap.size + 1 + 1 := by simp
  have hs5 : (w4.alloc (.cells #[.slice (some ⟨w3.heap.size, 0, none⟩) n n] 34)).heap.size = w4.heap.size + 1 := by simp
  rw [hs5]
  have hg4 := hO6.at 0 (by rw [List.length_replicate]; omega)
  have hgp : w3.heap.size < w4.heap.size := (HO4.out.at 0 (by rw [List.length_replicate]; omega)).2.1
  have hwg : w.heap.size < w3.heap.size := by omega
  clear hb4 g1 c4 hB6 hO6 hHI hAA hs5 hg4 HO4 HB4 HB03 HA3 HB3 hs4 hs3 hs2 hs1 c3
  generalize ((w4.alloc (.cells #[.slice (some ⟨w3.heap.size, 0, none⟩) n n] 34)).alloc (.cells #[.slice a p.length ca] 34)) = w6 at *
  generalize w4.heap.size = p5 at *
  generalize w3.heap.size = g at *
  go_wp2_with fail
  refine wpIn_wide.1 (wpIn_back (n := 6) (by omega) (Bs := p5 + 1) rfl rfl a p.length ca (by omega) (fun j => ((PM.el p j).v : Int)) (MulI w p5 (p5 + 1) g n cb ca a b p q) (fun _ _ _ => False) (mulI_own (by have := HI.out.2; obtain ⟨_, _, _, _, h⟩ := this; exact h.size)) (fun _ _ _ _ _ hs _ _ => hs) HI.out (fun k W h => h.1.2.2) ?read ?act ?assign ?body ?done ?stop)
  case read =>
    rintro k W ⟨_, _, _, _, _, hB⟩ hk
    obtain ⟨b', off, e, hc⟩ := (HA.out.below hB).el k hk
    exact ⟨b', off, e, hc⟩
  case assign =>
    intro l k W K hk hK
    gi_wp2
    exact hK
  case body =>
    rintro l k W hl hrec ⟨⟨hc0, hc5, hcb⟩, ys, hown, hlen, hel, hB⟩ hk
    clear hl hrec HI
    have hmx : Tryz.prog.follows .mixedOrders = true := by kernel_rfl
    have hkn : k < n := by omega
    have hkn1 : (k : Int) ≤ (n : Int) := by omega
    have hkn2 : (0 : Int) ≤ (k : Int) := by omega
    have HO := Lib.hid hown
    have HLN := Lib.hid hlen
    have HEL := Lib.hid hel
    have HBW := Lib.hid hB
    clear hown hlen hel hB
    refine wpIn_block ?_
    refine wpIn_region_held (S := fun W' => W'.cell? ⟨p5, 0, none⟩ = some (.slice (some ⟨g, 0, none⟩) n n) ∧ W'.cell? ⟨w.heap.size, 0, none⟩ = some (.slice b q.length cb)) hmx (by kernel_rfl) (by rintro ⟨_, _, h⟩; exact h) ⟨hc5, hc0⟩ (fun hHeld => ?_)
    refine wpAnyH_at 0 (some 42) (v := ?_) rfl rfl (by kernel_rfl) (by kernel_rfl) (by kernel_rfl) (fun _ _ _ h => h) (Or.inl ⟨by rfl, ?_⟩) hHeld ?_
    rotate_left
    · (intro W2 hSw; obtain ⟨j5, j0⟩ := hSw; go_simp; try with_reducible rfl)
    simp only [Act.put, List.setIfInBounds_toArray, List.set_cons_zero, List.set_cons_succ]
    refine wpAnyH_at 1 (some 43) (v := ?_) rfl rfl (by kernel_rfl) (by kernel_rfl) (by kernel_rfl) (fun _ _ _ h => h) (Or.inl ⟨by rfl, ?_⟩) hHeld ?_
    rotate_left
    · (intro W2 hSw; obtain ⟨j5, j0⟩ := hSw; go_simp; try with_reducible rfl)
    simp only [Act.put, List.setIfInBounds_toArray, List.set_cons_zero, List.set_cons_succ]
    refine wpAnyH_at 2 (some 44) (v := ?_) rfl rfl (by kernel_rfl) (by kernel_rfl) (by kernel_rfl) (fun _ _ _ h => h) (Or.inl ⟨by rfl, ?_⟩) hHeld ?_
    rotate_left
    · (intro W2 hSw; obtain ⟨j5, j0⟩ := hSw; go_simp; try with_reducible rfl)
    simp only [Act.put, List.setIfInBounds_toArray, List.set_cons_zero, List.set_cons_succ]
    refine wpAnyH_at 3 (some 45) (v := ?_) rfl rfl (by kernel_rfl) (by kernel_rfl) (by kernel_rfl) (fun _ _ _ h => h) (Or.inl ⟨by rfl, ?_⟩) hHeld ?_
    rotate_left
    · (intro W2 hSw; obtain ⟨j5, j0⟩ := hSw; go_simp; try with_reducible rfl)
    simp only [Act.put, List.setIfInBounds_toArray, List.set_cons_zero, List.set_cons_succ]
    refine wpAnyH_at 4 (some 46) (v := ?_) rfl rfl (by kernel_rfl) (by kernel_rfl) (by kernel_rfl) (fun _ _ _ h => h) (Or.inl ⟨by rfl, ?_⟩) hHeld ?_
    rotate_left
    · (intro W2 hSw; obtain ⟨j5, j0⟩ := hSw; go_simp; try with_reducible rfl)
    simp only [Act.put, List.setIfInBounds_toArray, List.set_cons_zero, List.set_cons_succ]
    refine wpAnyH_ready (rs := [5]) (by kernel_rfl) (by simp) ?_
    refine AllReadyH.cons rfl (fun K hK => ?_) AllReadyH.nil
    go_simp
    rw [if_neg (show ¬ n = k by omega)]
    have hBd : Below w.heap.size w W.drew := belowN HBW.out 1
    have ht := addMul_any w.heap.size g n k (n - k) (n - k) cb ys q b (PM.el p k) W.drew (by rw [HLN.out]; exact HO.out.drewN 1) (HB.out.below hBd) (by rw [HLN.out]; omega) (by omega) (Nat.le_refl _) (by omega)
      (by intro h0 b' o e; subst e; have := HB.out.lt h0; omega)
    refine ht.mono ?_
    clear ht
    rintro e W2 ⟨ys2, rfl, hl2, hel2, ho2, hg2⟩
    have hg2' : W.grownBy W2 (some g) := ⟨hg2.os, hg2.tape, hg2.output, hg2.size, hg2.block⟩
    have g0 := cell_grown hg2' (show (w.heap.size : Nat) ≠ g by omega) hc0
    have g5 := cell_grown hg2' (show (p5 : Nat) ≠ g by omega) hc5
    have gb := cell_grown hg2' (show (p5 + 1 : Nat) ≠ g by omega) hcb
    have hln2 : ys2.length = n := by rw [hl2]; exact HLN.out
    rw [hln2] at ho2
    refine hK.out _ _ ⟨g5, g0⟩ (fun _ => wpAnyH_done (by kernel_rfl) ?_ _)
    refine ⟨KeepsFrom.of_grownBy hg2' (fun j e => by cases e; omega), ⟨g0, g5, gb⟩, ys2, ho2, hln2, fun j => ?_, HBW.out.grown hg2' HBW.out.size (fun j e => by cases e; omega)⟩
    rw [hel2, HEL.out, PM.conv_put (high p (k + 1)) (high p k) (PM.el q) (PM.el p k) k (high_at p k) (high_step p k) j]
  case done =>
    rintro D W hD ⟨⟨hc0, hc5, hcb⟩, ys, hown, hlen, hel, hB⟩ hK
    have HO := Lib.hid hown
    have HLN := Lib.hid hlen
    have HEL := Lib.hid hel
    have HBW := Lib.hid hB
    have HK := Lib.hid hK
    clear hown hlen hel hB hK HI
    go_wp2_with fail
    have hK := HK.out
    refine ⟨by simp, .inl ⟨_, _, rfl, run_takeDeferred hK, ?_⟩⟩
    have hO := ownFrom_own (B0 := 0) (fun (_ : Unit) => ys) () _ _ _ HO.out (grownBy_putObj' _ D (.deferred none)) (fun r e => by cases e; exact ⟨Nat.zero_le _, _, hK, rfl⟩)
    have hcoef : ∀ j, PM.el ys j = PM.conv (PM.el p) (PM.el q) j := fun j => by rw [HEL.out, high_zero]
    refine ⟨.tuple #[.slice (some ⟨g, 0, none⟩) n n, .int .i64 0], ?_, ⟨ys, some ⟨g, 0, none⟩, n, by rw [HLN.out], ?_, mul_pol HP.out HQ.out hp0 hq0 hl (by rw [HLN.out]; omega) hcoef, hcoef⟩, ?_⟩
    · simp [results, Tryz.f119, go_sem]
    · exact (show Own _ w.heap.size (.slice (some ⟨g, 0, none⟩) ys.length n) ys by rw [HLN.out]; exact hO).rowAt
    · exact HBW.out.trans (belowK_b (w := w) (Nat.le_refl _) W D _ _ (by have h2 : w6.heap.size ≤ D := hD; omega) hK rfl rfl)
  case stop =>
    rintro D c k W _ _ h _
    exact h.elim
end Go.Proofs.YtmejneobfkbgeaaGreatDoor.P

namespace Go.Proofs.YtmejneobfkbgeaaGreatDoor.P
open Go Go.RowKit Go.Shelf
attribute [local go_sem] Oper.semAt_some

set_option maxRecDepth 100000 in
set_option maxHeartbeats 1000000 in
theorem mul_fitF (a b : Option Addr) (ca cb : Nat) (p q : List PM.G) (w : World) (ha : Row w a p ca) (hb : Row w b q cb) (hp : Pol p) (hq : Pol q) (hp0 : 0 < p.length) (hq0 : 0 < q.length) (hl : p.length + q.length ≤ 256) :
    Calls Tryz.prog 119 #[.slice a p.length ca, .slice b q.length cb] w fun e W => (∃ r a cap, e = .returned (.tuple #[.slice a (List.length r) cap, .int .i64 0]) ∧ Row W a r cap ∧ Pol r ∧ (∀ k, PM.el r k = PM.conv (PM.el p) (PM.el q) k) ∧ ∀ b o, a = some ⟨b, o, none⟩ → w.heap.size ≤ b) ∧ Below w.heap.size w W := by
  have hra := ha.room
  have hma := ha.most
  have hrb := hb.room
  have hmb := hb.most
  have HA := Lib.hid ha
  have HB := Lib.hid hb
  have HP := Lib.hid hp
  have HQ := Lib.hid hq
  have hb1 : Below w.heap.size w (w.alloc (.cells #[.slice b q.length cb] 34)) := (Below.refl _ w).alloc (Nat.le_refl _) _
  have c1 := cell_new w (.slice b q.length cb) 34
  have hs1 : (w.alloc (.cells #[.slice b q.length cb] 34)).heap.size = w.heap.size + 1 := by simp
  clear ha hb hp hq
  refine (callsIn_wide (n := 6)).1 ?_
  refine callsIn_of_wp_marks Tryz.func119 rfl trivial ?_ rfl
  refine wpIn_wide.2 ?_
  simp only [Tryz.ntmps119, List.size_toArray, List.length_cons, List.length_nil, Nat.reduceAdd, Nat.reduceSub, Array.replicate_succ, Array.replicate_zero, List.push_toArray, List.append_toArray, List.nil_append, List.cons_append]
  go_wp2_with fail
  generalize w.alloc (.cells #[.slice b q.length cb] 34) = w1 at *
  have HA1 := Lib.hid (HA.out.below hb1)
  have HB1 := Lib.hid (HB.out.below hb1)
  refine (valid_yes a p ca w1 HA1.out HP.out).mono ?_
  rintro e w2 ⟨rfl, hb2⟩
  have c2 := cell_below hb2 c1
  have HB2 := Lib.hid (HB1.out.below hb2)
  have hs2 := hb2.size
  go_wp2_with fail
  refine (valid_yes b q cb w2 HB2.out HQ.out).mono ?_
  rintro e w3 ⟨rfl, hb3⟩
  have c3 := cell_below hb3 c2
  have hs3 := hb3.size
  have HB03 := Lib.hid ((hb1.trans (hb2.mono (by omega))).trans (hb3.mono (by omega)))
  have HA3 := Lib.hid ((HA1.out.below hb2).below hb3)
  have HB3 := Lib.hid (HB2.out.below hb3)
  clear hb1 hb2 hb3 c1 c2 HA1 HB1 HB2
  have hz1 : ((p.length : Int) == 0) = false := beq_false_of_ne (by omega)
  have hz2 : ((q.length : Int) == 0) = false := beq_false_of_ne (by omega)
  obtain ⟨n, hn⟩ : ∃ n, p.length + q.length - 1 = n := ⟨_, rfl⟩
  go_wp2_with (at_make; refine wpList_make1 rfl _ _ rfl n rfl rfl (by omega) (by omega) (B := w3.heap.size) (Nat.le_refl _) ?_; intro w4 hown4 hb4; have HO4 := Lib.hid hown4; have HB4 := Lib.hid hb4; clear hown4 hb4)
  refine (backward_any _ _ _ _).mono ?_
  rintro e w' ⟨rfl, rfl⟩
  have hb4 := HB4.out
  have hs4 := hb4.size
  have g1 := cell_new w4 (.slice (some ⟨w3.heap.size, 0, none⟩) n n) 34
  have c4 := cell_below hb4 c3
  have hB6 := (((HB03.out.trans (hb4.mono (by omega))).alloc (by omega) (.cells #[.slice (some ⟨w3.heap.size, 0, none⟩) n n] 34))).alloc (by simp; omega) (.cells #[.slice a p.length ca] 34)
  have hO6 := (HO4.out.alloc (.cells #[.slice (some ⟨w3.heap.size, 0, none⟩) n n] 34)).alloc (.cells #[.slice a p.length ca] 34)
  rw [List.length_replicate] at hO6
  have hHI : MulI w w4.heap.size (w4.heap.size + 1) w3.heap.size n cb ca a b p q p.length ((w4.alloc (.cells #[.slice (some ⟨w3.heap.size, 0, none⟩) n n] 34)).alloc (.cells #[.slice a p.length ca] 34)) :=
    ⟨⟨cell_later _ (cell_later _ c4), cell_later _ g1, by simp⟩, _, hO6.mono (by omega), List.length_replicate, fun j => by
      rw [PM.el_replicate, show high p p.length = PM.zeroC from high_end p, PM.conv_zeroC_l], hB6⟩
  have HI := Lib.hid hHI
  have hAA := (((HA3.out.below hb4).alloc (.cells #[.slice (some ⟨w3.heap.size, 0, none⟩) n n] 34)).alloc (.cells #[.slice a p.length ca] 34))
  have HA6 := Lib.hid hAA
  have hs6 : ((w4.alloc (.cells #[.slice (some ⟨w3.heap.size, 0, none⟩) n n] 34)).alloc (.cells #[.slice a p.length ca] 34)).heap.size = w4.heap.size + 1 + 1 := by simp
  have hs5 : (w4.alloc (.cells #[.slice (some ⟨w3.heap.size, 0, none⟩) n n] 34)).heap.size = w4.heap.size + 1 := by simp
  rw [hs5]
  have hg4 := hO6.at 0 (by rw [List.length_replicate]; omega)
  have hgp : w3.heap.size < w4.heap.size := (HO4.out.at 0 (by rw [List.length_replicate]; omega)).2.1
  have hwg : w.heap.size < w3.heap.size := by omega
  clear hb4 g1 c4 hB6 hO6 hHI hAA hs5 hg4 HO4 HB4 HB03 HA3 HB3 hs4 hs3 hs2 hs1 c3
  generalize ((w4.alloc (.cells #[.slice (some ⟨w3.heap.size, 0, none⟩) n n] 34)).alloc (.cells #[.slice a p.length ca] 34)) = w6 at *
  generalize w4.heap.size = p5 at *
  generalize w3.heap.size = g at *
  go_wp2_with fail
  refine wpIn_wide.1 (wpIn_back (n := 6) (by omega) (Bs := p5 + 1) rfl rfl a p.length ca (by omega) (fun j => ((PM.el p j).v : Int)) (MulI w p5 (p5 + 1) g n cb ca a b p q) (fun _ _ _ => False) (mulI_own (by have := HI.out.2; obtain ⟨_, _, _, _, h⟩ := this; exact h.size)) (fun _ _ _ _ _ hs _ _ => hs) HI.out (fun k W h => h.1.2.2) ?read ?act ?assign ?body ?done ?stop)
  case read =>
    rintro k W ⟨_, _, _, _, _, hB⟩ hk
    obtain ⟨b', off, e, hc⟩ := (HA.out.below hB).el k hk
    exact ⟨b', off, e, hc⟩
  case assign =>
    intro l k W K hk hK
    gi_wp2
    exact hK
  case body =>
    rintro l k W hl hrec ⟨⟨hc0, hc5, hcb⟩, ys, hown, hlen, hel, hB⟩ hk
    clear hl hrec HI
    have hmx : Tryz.prog.follows .mixedOrders = true := by kernel_rfl
    have hkn : k < n := by omega
    have hkn1 : (k : Int) ≤ (n : Int) := by omega
    have hkn2 : (0 : Int) ≤ (k : Int) := by omega
    have HO := Lib.hid hown
    have HLN := Lib.hid hlen
    have HEL := Lib.hid hel
    have HBW := Lib.hid hB
    clear hown hlen hel hB
    refine wpIn_block ?_
    refine wpIn_region_held (S := fun W' => W'.cell? ⟨p5, 0, none⟩ = some (.slice (some ⟨g, 0, none⟩) n n) ∧ W'.cell? ⟨w.heap.size, 0, none⟩ = some (.slice b q.length cb)) hmx (by kernel_rfl) (by rintro ⟨_, _, h⟩; exact h) ⟨hc5, hc0⟩ (fun hHeld => ?_)
    refine wpAnyH_at 0 (some 42) (v := ?_) rfl rfl (by kernel_rfl) (by kernel_rfl) (by kernel_rfl) (fun _ _ _ h => h) (Or.inl ⟨by rfl, ?_⟩) hHeld ?_
    rotate_left
    · (intro W2 hSw; obtain ⟨j5, j0⟩ := hSw; go_simp; try with_reducible rfl)
    simp only [Act.put, List.setIfInBounds_toArray, List.set_cons_zero, List.set_cons_succ]
    refine wpAnyH_at 1 (some 43) (v := ?_) rfl rfl (by kernel_rfl) (by kernel_rfl) (by kernel_rfl) (fun _ _ _ h => h) (Or.inl ⟨by rfl, ?_⟩) hHeld ?_
    rotate_left
    · (intro W2 hSw; obtain ⟨j5, j0⟩ := hSw; go_simp; try with_reducible rfl)
    simp only [Act.put, List.setIfInBounds_toArray, List.set_cons_zero, List.set_cons_succ]
    refine wpAnyH_at 2 (some 44) (v := ?_) rfl rfl (by kernel_rfl) (by kernel_rfl) (by kernel_rfl) (fun _ _ _ h => h) (Or.inl ⟨by rfl, ?_⟩) hHeld ?_
    rotate_left
    · (intro W2 hSw; obtain ⟨j5, j0⟩ := hSw; go_simp; try with_reducible rfl)
    simp only [Act.put, List.setIfInBounds_toArray, List.set_cons_zero, List.set_cons_succ]
    refine wpAnyH_at 3 (some 45) (v := ?_) rfl rfl (by kernel_rfl) (by kernel_rfl) (by kernel_rfl) (fun _ _ _ h => h) (Or.inl ⟨by rfl, ?_⟩) hHeld ?_
    rotate_left
    · (intro W2 hSw; obtain ⟨j5, j0⟩ := hSw; go_simp; try with_reducible rfl)
    simp only [Act.put, List.setIfInBounds_toArray, List.set_cons_zero, List.set_cons_succ]
    refine wpAnyH_at 4 (some 46) (v := ?_) rfl rfl (by kernel_rfl) (by kernel_rfl) (by kernel_rfl) (fun _ _ _ h => h) (Or.inl ⟨by rfl, ?_⟩) hHeld ?_
    rotate_left
    · (intro W2 hSw; obtain ⟨j5, j0⟩ := hSw; go_simp; try with_reducible rfl)
    simp only [Act.put, List.setIfInBounds_toArray, List.set_cons_zero, List.set_cons_succ]
    refine wpAnyH_ready (rs := [5]) (by kernel_rfl) (by simp) ?_
    refine AllReadyH.cons rfl (fun K hK => ?_) AllReadyH.nil
    go_simp
    rw [if_neg (show ¬ n = k by omega)]
    have hBd : Below w.heap.size w W.drew := belowN HBW.out 1
    have ht := addMul_any w.heap.size g n k (n - k) (n - k) cb ys q b (PM.el p k) W.drew (by rw [HLN.out]; exact HO.out.drewN 1) (HB.out.below hBd) (by rw [HLN.out]; omega) (by omega) (Nat.le_refl _) (by omega)
      (by intro h0 b' o e; subst e; have := HB.out.lt h0; omega)
    refine ht.mono ?_
    clear ht
    rintro e W2 ⟨ys2, rfl, hl2, hel2, ho2, hg2⟩
    have hg2' : W.grownBy W2 (some g) := ⟨hg2.os, hg2.tape, hg2.output, hg2.size, hg2.block⟩
    have g0 := cell_grown hg2' (show (w.heap.size : Nat) ≠ g by omega) hc0
    have g5 := cell_grown hg2' (show (p5 : Nat) ≠ g by omega) hc5
    have gb := cell_grown hg2' (show (p5 + 1 : Nat) ≠ g by omega) hcb
    have hln2 : ys2.length = n := by rw [hl2]; exact HLN.out
    rw [hln2] at ho2
    refine hK.out _ _ ⟨g5, g0⟩ (fun _ => wpAnyH_done (by kernel_rfl) ?_ _)
    refine ⟨KeepsFrom.of_grownBy hg2' (fun j e => by cases e; omega), ⟨g0, g5, gb⟩, ys2, ho2, hln2, fun j => ?_, HBW.out.grown hg2' HBW.out.size (fun j e => by cases e; omega)⟩
    rw [hel2, HEL.out, PM.conv_put (high p (k + 1)) (high p k) (PM.el q) (PM.el p k) k (high_at p k) (high_step p k) j]
  case done =>
    rintro D W hD ⟨⟨hc0, hc5, hcb⟩, ys, hown, hlen, hel, hB⟩ hK
    have HO := Lib.hid hown
    have HLN := Lib.hid hlen
    have HEL := Lib.hid hel
    have HBW := Lib.hid hB
    have HK := Lib.hid hK
    clear hown hlen hel hB hK HI
    go_wp2_with fail
    have hK := HK.out
    refine ⟨by simp, .inl ⟨_, _, rfl, run_takeDeferred hK, ?_⟩⟩
    have hO := ownFrom_own (B0 := 0) (fun (_ : Unit) => ys) () _ _ _ HO.out (grownBy_putObj' _ D (.deferred none)) (fun r e => by cases e; exact ⟨Nat.zero_le _, _, hK, rfl⟩)
    have hcoef : ∀ j, PM.el ys j = PM.conv (PM.el p) (PM.el q) j := fun j => by rw [HEL.out, high_zero]
    refine ⟨.tuple #[.slice (some ⟨g, 0, none⟩) n n, .int .i64 0], ?_, ⟨ys, some ⟨g, 0, none⟩, n, by rw [HLN.out], ?_, mul_pol HP.out HQ.out hp0 hq0 hl (by rw [HLN.out]; omega) hcoef, hcoef, fun b o e => by cases e; omega⟩, ?_⟩
    · simp [results, Tryz.f119, go_sem]
    · exact (show Own _ w.heap.size (.slice (some ⟨g, 0, none⟩) ys.length n) ys by rw [HLN.out]; exact hO).rowAt
    · exact HBW.out.trans (belowK_b (w := w) (Nat.le_refl _) W D _ _ (by have h2 : w6.heap.size ≤ D := hD; omega) hK rfl rfl)
  case stop =>
    rintro D c k W _ _ h _
    exact h.elim
end Go.Proofs.YtmejneobfkbgeaaGreatDoor.P

namespace Go.Proofs.YtmejneobfkbgeaaGreatDoor.P
open Go Go.RowKit Go.Shelf

set_option maxRecDepth 100000 in
set_option maxHeartbeats 1000000 in
theorem mul_bad1 (a b : Option Addr) (ca cb : Nat) (p q : List PM.G) (w : World) (ha : Row w a p ca) (hb : Row w b q cb) (hp : ¬ Pol p) :
    Calls Tryz.prog 119 #[.slice a p.length ca, .slice b q.length cb] w fun e W => e = .returned (.tuple #[.slice none 0 0, .int .i64 1]) ∧ Below w.heap.size w W := by
  have hra := ha.room
  have hma := ha.most
  have hrb := hb.room
  have hmb := hb.most
  have HA := Lib.hid ha
  have HB := Lib.hid hb
  have HP := Lib.hid hp
  clear hp
  have hb1 : Below w.heap.size w (w.alloc (.cells #[.slice b q.length cb] 34)) := (Below.refl _ w).alloc (Nat.le_refl _) _
  have c1 := cell_new w (.slice b q.length cb) 34
  have hs1 : (w.alloc (.cells #[.slice b q.length cb] 34)).heap.size = w.heap.size + 1 := by simp
  clear ha hb
  refine (callsIn_wide (n := 6)).1 ?_
  refine callsIn_of_wp_marks Tryz.func119 rfl trivial ?_ rfl
  refine wpIn_wide.2 ?_
  simp only [Tryz.ntmps119, List.size_toArray, List.length_cons, List.length_nil, Nat.reduceAdd, Nat.reduceSub, Array.replicate_succ, Array.replicate_zero, List.push_toArray, List.append_toArray, List.nil_append, List.cons_append]
  go_wp2_with fail
  generalize w.alloc (.cells #[.slice b q.length cb] 34) = w1 at *
  have HA1 := Lib.hid (HA.out.below hb1)
  have HB1 := Lib.hid (HB.out.below hb1)
  refine (valid_no a p ca w1 HA1.out HP.out).mono ?_
  rintro e w2 ⟨rfl, hb2⟩
  have hs2 := hb2.size
  go_wp2
  exact ⟨.tuple #[.slice none 0 0, .int .i64 1], by simp [results, Tryz.f119, go_sem], rfl, hb1.trans (hb2.mono (by omega))⟩
set_option maxRecDepth 100000 in
set_option maxHeartbeats 1000000 in
theorem mul_bad2 (a b : Option Addr) (ca cb : Nat) (p q : List PM.G) (w : World) (ha : Row w a p ca) (hb : Row w b q cb) (hp : Pol p) (hq : ¬ Pol q) :
    Calls Tryz.prog 119 #[.slice a p.length ca, .slice b q.length cb] w fun e W => e = .returned (.tuple #[.slice none 0 0, .int .i64 1]) ∧ Below w.heap.size w W := by
  have hra := ha.room
  have hma := ha.most
  have hrb := hb.room
  have hmb := hb.most
  have HA := Lib.hid ha
  have HB := Lib.hid hb
  have HP := Lib.hid hp
  have HQ := Lib.hid hq
  clear hp hq
  have hb1 : Below w.heap.size w (w.alloc (.cells #[.slice b q.length cb] 34)) := (Below.refl _ w).alloc (Nat.le_refl _) _
  have c1 := cell_new w (.slice b q.length cb) 34
  have hs1 : (w.alloc (.cells #[.slice b q.length cb] 34)).heap.size = w.heap.size + 1 := by simp
  clear ha hb
  refine (callsIn_wide (n := 6)).1 ?_
  refine callsIn_of_wp_marks Tryz.func119 rfl trivial ?_ rfl
  refine wpIn_wide.2 ?_
  simp only [Tryz.ntmps119, List.size_toArray, List.length_cons, List.length_nil, Nat.reduceAdd, Nat.reduceSub, Array.replicate_succ, Array.replicate_zero, List.push_toArray, List.append_toArray, List.nil_append, List.cons_append]
  go_wp2_with fail
  generalize w.alloc (.cells #[.slice b q.length cb] 34) = w1 at *
  have HA1 := Lib.hid (HA.out.below hb1)
  have HB1 := Lib.hid (HB.out.below hb1)
  refine (valid_yes a p ca w1 HA1.out HP.out).mono ?_
  rintro e w2 ⟨rfl, hb2⟩
  have c2 := cell_below hb2 c1
  have HB2 := Lib.hid (HB1.out.below hb2)
  have hs2 := hb2.size
  go_wp2_with fail
  refine (valid_no b q cb w2 HB2.out HQ.out).mono ?_
  rintro e w3 ⟨rfl, hb3⟩
  have c3 := cell_below hb3 c2
  have hs3 := hb3.size
  go_wp2
  exact ⟨.tuple #[.slice none 0 0, .int .i64 1], by simp [results, Tryz.f119, go_sem], rfl, (hb1.trans (hb2.mono (by omega))).trans (hb3.mono (by omega))⟩
set_option maxRecDepth 100000 in
set_option maxHeartbeats 1000000 in
theorem mul_zero1 (a b : Option Addr) (ca cb : Nat) (p q : List PM.G) (w : World) (ha : Row w a p ca) (hb : Row w b q cb) (hp : Pol p) (hq : Pol q) (h0 : p.length = 0) :
    Calls Tryz.prog 119 #[.slice a p.length ca, .slice b q.length cb] w fun e W => e = .returned (.tuple #[.slice none 0 0, .int .i64 0]) ∧ Below w.heap.size w W := by
  have hra := ha.room
  have hma := ha.most
  have hrb := hb.room
  have hmb := hb.most
  have HA := Lib.hid ha
  have HB := Lib.hid hb
  have HP := Lib.hid hp
  have HQ := Lib.hid hq
  have H0 := Lib.hid h0
  clear hp hq h0
  have hb1 : Below w.heap.size w (w.alloc (.cells #[.slice b q.length cb] 34)) := (Below.refl _ w).alloc (Nat.le_refl _) _
  have c1 := cell_new w (.slice b q.length cb) 34
  have hs1 : (w.alloc (.cells #[.slice b q.length cb] 34)).heap.size = w.heap.size + 1 := by simp
  clear ha hb
  refine (callsIn_wide (n := 6)).1 ?_
  refine callsIn_of_wp_marks Tryz.func119 rfl trivial ?_ rfl
  refine wpIn_wide.2 ?_
  simp only [Tryz.ntmps119, List.size_toArray, List.length_cons, List.length_nil, Nat.reduceAdd, Nat.reduceSub, Array.replicate_succ, Array.replicate_zero, List.push_toArray, List.append_toArray, List.nil_append, List.cons_append]
  go_wp2_with fail
  generalize w.alloc (.cells #[.slice b q.length cb] 34) = w1 at *
  have HA1 := Lib.hid (HA.out.below hb1)
  have HB1 := Lib.hid (HB.out.below hb1)
  refine (valid_yes a p ca w1 HA1.out HP.out).mono ?_
  rintro e w2 ⟨rfl, hb2⟩
  have c2 := cell_below hb2 c1
  have HB2 := Lib.hid (HB1.out.below hb2)
  have hs2 := hb2.size
  go_wp2_with fail
  refine (valid_yes b q cb w2 HB2.out HQ.out).mono ?_
  rintro e w3 ⟨rfl, hb3⟩
  have c3 := cell_below hb3 c2
  have hs3 := hb3.size
  have hz1 : ((p.length : Int) == 0) = true := by rw [H0.out]; rfl
  go_wp2
  exact ⟨.tuple #[.slice none 0 0, .int .i64 0], by simp [results, Tryz.f119, go_sem], rfl, (hb1.trans (hb2.mono (by omega))).trans (hb3.mono (by omega))⟩
set_option maxRecDepth 100000 in
set_option maxHeartbeats 1000000 in
theorem mul_zero2 (a b : Option Addr) (ca cb : Nat) (p q : List PM.G) (w : World) (ha : Row w a p ca) (hb : Row w b q cb) (hp : Pol p) (hq : Pol q) (hp0 : 0 < p.length) (h0 : q.length = 0) :
    Calls Tryz.prog 119 #[.slice a p.length ca, .slice b q.length cb] w fun e W => e = .returned (.tuple #[.slice none 0 0, .int .i64 0]) ∧ Below w.heap.size w W := by
  have hra := ha.room
  have hma := ha.most
  have hrb := hb.room
  have hmb := hb.most
  have HA := Lib.hid ha
  have HB := Lib.hid hb
  have HP := Lib.hid hp
  have HQ := Lib.hid hq
  have H0 := Lib.hid h0
  clear hp hq h0
  have hb1 : Below w.heap.size w (w.alloc (.cells #[.slice b q.length cb] 34)) := (Below.refl _ w).alloc (Nat.le_refl _) _
  have c1 := cell_new w (.slice b q.length cb) 34
  have hs1 : (w.alloc (.cells #[.slice b q.length cb] 34)).heap.size = w.heap.size + 1 := by simp
  clear ha hb
  refine (callsIn_wide (n := 6)).1 ?_
  refine callsIn_of_wp_marks Tryz.func119 rfl trivial ?_ rfl
  refine wpIn_wide.2 ?_
  simp only [Tryz.ntmps119, List.size_toArray, List.length_cons, List.length_nil, Nat.reduceAdd, Nat.reduceSub, Array.replicate_succ, Array.replicate_zero, List.push_toArray, List.append_toArray, List.nil_append, List.cons_append]
  go_wp2_with fail
  generalize w.alloc (.cells #[.slice b q.length cb] 34) = w1 at *
  have HA1 := Lib.hid (HA.out.below hb1)
  have HB1 := Lib.hid (HB.out.below hb1)
  refine (valid_yes a p ca w1 HA1.out HP.out).mono ?_
  rintro e w2 ⟨rfl, hb2⟩
  have c2 := cell_below hb2 c1
  have HB2 := Lib.hid (HB1.out.below hb2)
  have hs2 := hb2.size
  go_wp2_with fail
  refine (valid_yes b q cb w2 HB2.out HQ.out).mono ?_
  rintro e w3 ⟨rfl, hb3⟩
  have c3 := cell_below hb3 c2
  have hs3 := hb3.size
  have hz1 : ((p.length : Int) == 0) = false := beq_false_of_ne (by omega)
  have hz2 : ((q.length : Int) == 0) = true := by rw [H0.out]; rfl
  go_wp2
  exact ⟨.tuple #[.slice none 0 0, .int .i64 0], by simp [results, Tryz.f119, go_sem], rfl, (hb1.trans (hb2.mono (by omega))).trans (hb3.mono (by omega))⟩
set_option maxRecDepth 100000 in
set_option maxHeartbeats 1000000 in
theorem mul_limit (a b : Option Addr) (ca cb : Nat) (p q : List PM.G) (w : World) (ha : Row w a p ca) (hb : Row w b q cb) (hp : Pol p) (hq : Pol q) (hp0 : 0 < p.length) (hq0 : 0 < q.length) (hl : 256 < p.length + q.length) :
    Calls Tryz.prog 119 #[.slice a p.length ca, .slice b q.length cb] w fun e W => e = .returned (.tuple #[.slice none 0 0, .int .i64 3]) ∧ Below w.heap.size w W := by
  have hra := ha.room
  have hma := ha.most
  have hrb := hb.room
  have hmb := hb.most
  have HA := Lib.hid ha
  have HB := Lib.hid hb
  have HP := Lib.hid hp
  have HQ := Lib.hid hq
  have hlp := hp.len
  have hlq := hq.len
  clear hp hq
  have hb1 : Below w.heap.size w (w.alloc (.cells #[.slice b q.length cb] 34)) := (Below.refl _ w).alloc (Nat.le_refl _) _
  have c1 := cell_new w (.slice b q.length cb) 34
  have hs1 : (w.alloc (.cells #[.slice b q.length cb] 34)).heap.size = w.heap.size + 1 := by simp
  clear ha hb
  refine (callsIn_wide (n := 6)).1 ?_
  refine callsIn_of_wp_marks Tryz.func119 rfl trivial ?_ rfl
  refine wpIn_wide.2 ?_
  simp only [Tryz.ntmps119, List.size_toArray, List.length_cons, List.length_nil, Nat.reduceAdd, Nat.reduceSub, Array.replicate_succ, Array.replicate_zero, List.push_toArray, List.append_toArray, List.nil_append, List.cons_append]
  go_wp2_with fail
  generalize w.alloc (.cells #[.slice b q.length cb] 34) = w1 at *
  have HA1 := Lib.hid (HA.out.below hb1)
  have HB1 := Lib.hid (HB.out.below hb1)
  refine (valid_yes a p ca w1 HA1.out HP.out).mono ?_
  rintro e w2 ⟨rfl, hb2⟩
  have c2 := cell_below hb2 c1
  have HB2 := Lib.hid (HB1.out.below hb2)
  have hs2 := hb2.size
  go_wp2_with fail
  refine (valid_yes b q cb w2 HB2.out HQ.out).mono ?_
  rintro e w3 ⟨rfl, hb3⟩
  have c3 := cell_below hb3 c2
  have hs3 := hb3.size
  have hz1 : ((p.length : Int) == 0) = false := beq_false_of_ne (by omega)
  have hz2 : ((q.length : Int) == 0) = false := beq_false_of_ne (by omega)
  go_wp2
  exact ⟨.tuple #[.slice none 0 0, .int .i64 3], by simp [results, Tryz.f119, go_sem], rfl, (hb1.trans (hb2.mono (by omega))).trans (hb3.mono (by omega))⟩

/-- **poly.Mul** of two valid polynomials. -/
theorem mul_yes (a b : Option Addr) (ca cb : Nat) (p q : List PM.G) (w : World) (ha : Row w a p ca) (hb : Row w b q cb) (hp : Pol p) (hq : Pol q) (hl : p.length + q.length ≤ 256) :
    Calls Tryz.prog 119 #[.slice a p.length ca, .slice b q.length cb] w fun e W => PRes (PM.conv (PM.el p) (PM.el q)) e W ∧ Below w.heap.size w W := by
  have nil : ∀ W : World, (∀ k, PM.conv (PM.el p) (PM.el q) k = 0) → PRes (PM.conv (PM.el p) (PM.el q)) (.returned (.tuple #[.slice none 0 0, .int .i64 0])) W :=
    fun W h => ⟨[], none, 0, rfl, Row.nil _ _ _ (by omega), ⟨PM.can_nil, Nat.zero_le _⟩, fun k => (h k).symm⟩
  by_cases hp0 : p.length = 0
  · refine (mul_zero1 a b ca cb p q w ha hb hp hq hp0).mono ?_
    rintro e W ⟨rfl, hB⟩
    refine ⟨nil W (fun k => ?_), hB⟩
    rw [List.length_eq_zero_iff.1 hp0]; exact PM.conv_zeroC_l _ k
  · by_cases hq0 : q.length = 0
    · refine (mul_zero2 a b ca cb p q w ha hb hp hq (by omega) hq0).mono ?_
      rintro e W ⟨rfl, hB⟩
      refine ⟨nil W (fun k => ?_), hB⟩
      rw [PM.conv_comm, List.length_eq_zero_iff.1 hq0]; exact PM.conv_zeroC_l _ k
    · exact mul_fit a b ca cb p q w ha hb hp hq (by omega) (by omega) hl
end Go.Proofs.YtmejneobfkbgeaaGreatDoor.P

namespace Go.Proofs.YtmejneobfkbgeaaGreatDoor.P
open Go Go.RowKit Go.Shelf

theorem map_splice (zs ps : List PM.G) (off : Nat) : splice (zs.map gv) off (ps.map gv) = (splice zs off ps).map gv := by
  unfold splice; simp [List.map_take, List.map_drop]
theorem el_splice (zs ps : List PM.G) (off k : Nat) (h : off + ps.length ≤ zs.length) : PM.el (splice zs off ps) k = if k < off then PM.el zs k else if k < off + ps.length then PM.el ps (k - off) else PM.el zs k := by
  unfold splice
  rw [PM.el_append, PM.el_append, PM.el_take, PM.el_drop, List.length_take, Nat.min_eq_left (by omega)]
  by_cases h1 : k < off
  · rw [if_pos h1, if_pos h1, if_pos h1]
  · rw [if_neg h1, if_neg h1]
    by_cases h2 : k < off + ps.length
    · rw [if_pos (by omega), if_pos h2]
    · rw [if_neg (by omega), if_neg h2]; congr 1; omega
theorem info_one : (Tryz.prog.info? 5).map (·.size) = some 1 := by kernel_rfl

/-- **copy(s[off:], p)** into a slice that was made with this length. -/
theorem wpList_copy1 {w : World} {ops : Array Oper} {rest : List Oper} {o : Oper} {a : Act} {Q : Exit → Act → World → Prop} (hgd : o.guard = none) (d s : Operand)
    (ho : o.op = .call { callee := .builtin .copy, args := #[d, s], argTypes := #[34, 34] }) {B g n off dLen dCap cp : Nat} {dp sp : Option Addr} {zs ps : List PM.G} (hown : Own w B (.slice (some ⟨g, 0, none⟩) n n) zs)
    (hd : a.eval d = .slice dp dLen dCap) (hs : a.eval s = .slice sp ps.length cp) (hdp : 0 < ps.length → dp = some ⟨g, off, none⟩) (hdl : ps.length ≤ dLen) (hr : Row w sp ps cp) (hfit : off + ps.length ≤ zs.length)
    (h : ∀ w', Own w' B (.slice (some ⟨g, 0, none⟩) n n) (splice zs off ps) → Below g w w' → wpList Tryz.prog ops Q rest (a.put o.dst (goInt ps.length)) w') : wpList Tryz.prog ops Q (o :: rest) a w := by
  have hlen := hown.len
  obtain ⟨h1, h2 | ⟨g', cap, cur, hv, hB, hh, r1, r2, r3, r4⟩⟩ := hown
  · have := h2.1; cases this
  · cases hv
    have hcur : cur = ((zs.map gv).toArray) := by
      have : cur.toList.take (zs.length * 1) = cur.toList := List.take_of_length_le (by rw [Array.length_toList, r3]; exact Nat.le_refl _)
      rw [← r4, this]
    subst hcur
    have hcs : (ps.map gv).length = ps.length := List.length_map _
    refine wpList_copy_splice (P := Tryz.prog) hgd d s 34 34 ho 5 Tryz.underlying34 info_one dp sp dLen dCap ps.length cp hd hs g off (zs.map gv) 5 hh (ps.map gv) (by rw [hcs]; exact (Nat.min_eq_left hdl).symm) ?_ (by rw [hcs, List.length_map]; exact hfit) ?_ g w (Below.refl _ _) (Nat.le_refl _) ?_
    · intro h0
      rw [hcs] at h0
      obtain ⟨b, off', e, hc⟩ := hr.el 0 h0
      refine ⟨hdp h0, ⟨b, off', none⟩, e, fun j v hj => ?_⟩
      subst e
      rw [List.getElem?_map] at hj
      by_cases hlt : j < ps.length
      · have hc := hr.cell j hlt
        rw [List.getElem?_eq_getElem hlt] at hj
        simp only [Option.map_some, Option.some.injEq] at hj
        subst hj
        rw [PM.el_lt hlt] at hc
        by_cases hj0 : j = 0
        · subst hj0; simpa [Addr.add, gv] using hc
        · simpa [Addr.add, hj0, gv] using hc
      · rw [List.getElem?_eq_none (by omega)] at hj; simp at hj
    · intro v hv
      obtain ⟨z, _, rfl⟩ := List.mem_map.1 hv
      rfl
    · intro w' hw' hb'
      rw [hcs]
      refine h w' ?_ hb'
      have hl2 : (splice zs off ps).length = zs.length := length_splice _ _ _ hfit
      have hh' := hw'.out
      rw [map_splice] at hh'
      refine ⟨by simp, .inr ⟨g, zs.length, _, by rw [hl2], hB, hh', by rw [hl2]; exact Nat.le_refl _, r2, by simp [hl2], ?_⟩⟩
      rw [List.take_of_length_le (by simp)]

theorem one_int : ((PM.G.one.v : Nat) : Int) = 1 := rfl
/-- What a call leaves that trims a slice of its own: the polynomial. -/
theorem trim_res {w : World} (f : PM.Co) {n cap g B : Nat} {ys : List PM.G} (hown : Own w B (.slice (some ⟨g, 0, none⟩) n cap) ys) (hl : ys.length ≤ 255) (hf : ∀ k, PM.el ys k = f k) :
    Calls Tryz.prog 145 #[.slice (some ⟨g, 0, none⟩) n cap] w fun e W => (∃ r a c, e = .returned (.slice a r.length c) ∧ Row W a r c ∧ Pol r ∧ (∀ k, PM.el r k = f k) ∧ (∀ b o, a = some ⟨b, o, none⟩ → b = g)) ∧ Below w.heap.size w W := by
  have hn := hown.len
  subst hn
  refine (trimmed_any _ ys cap w hown.rowAt).mono ?_
  rintro e W ⟨rfl, hB⟩
  obtain ⟨a', c', hc, hr, ha⟩ := hown.rowAt.cut
  rw [hc]
  refine ⟨⟨PM.trimL ys, a', c', rfl, hr.below hB, ⟨PM.can_trimL ys, by have := PM.trimL_len ys; omega⟩, fun k => by rw [PM.el_trimL, hf], fun b o e => ?_⟩, hB⟩
  have := ha b o e
  cases this; rfl

set_option maxRecDepth 100000 in
set_option maxHeartbeats 1000000 in
/-- **poly.Add** of two valid polynomials. -/
theorem add_yes (a b : Option Addr) (ca cb : Nat) (p q : List PM.G) (w : World) (ha : Row w a p ca) (hb : Row w b q cb) (hp : Pol p) (hq : Pol q) :
    Calls Tryz.prog 122 #[.slice a p.length ca, .slice b q.length cb] w fun e W => PRes (PM.addC (PM.el p) (PM.el q)) e W ∧ Below w.heap.size w W := by
  have hra := ha.room
  have hma := ha.most
  have hrb := hb.room
  have hmb := hb.most
  have hlp := hp.len
  have hlq := hq.len
  have HA := Lib.hid ha
  have HB := Lib.hid hb
  have HP := Lib.hid hp
  have HQ := Lib.hid hq
  clear ha hb hp hq
  obtain ⟨n, hn⟩ : ∃ n, max p.length q.length = n := ⟨_, rfl⟩
  have hn1 : p.length ≤ n := by omega
  have hn2 : q.length ≤ n := by omega
  have hn3 : n ≤ 255 := by omega
  have hmax : max (p.length : Int) (q.length : Int) = (n : Int) := by omega
  go_enter Tryz.func122, Tryz.ntmps122
  go_wp2_with fail
  refine (valid_yes a p ca w HA.out HP.out).mono ?_
  rintro e w1 ⟨rfl, hb1⟩
  have HB1 := Lib.hid (HB.out.below hb1)
  have HA1 := Lib.hid (HA.out.below hb1)
  go_wp2_with fail
  refine (valid_yes b q cb w1 HB1.out HQ.out).mono ?_
  rintro e w2 ⟨rfl, hb2⟩
  have HA2 := Lib.hid (HA1.out.below hb2)
  have HB2 := Lib.hid (HB1.out.below hb2)
  have HD2 := Lib.hid (hb1.trans (hb2.mono hb1.size))
  have hs2 := HD2.out.size
  clear hb1 hb2 HA1 HB1
  go_wp2_with (first
    | (at_make; refine wpList_make1 rfl _ _ rfl n rfl rfl (by omega) (by omega) (B := w2.heap.size) (Nat.le_refl _) ?_; intro w3 hown3 hb3; have HO3 := Lib.hid hown3; have HB3 := Lib.hid hb3; have HA3 := Lib.hid (HA2.out.below hb3); have HQ3 := Lib.hid (HB2.out.below hb3); clear hown3 hb3)
    | (refine wpList_copy1 (g := w2.heap.size) (B := w2.heap.size) (n := n) (off := 0) (zs := List.replicate n 0) (ps := p) rfl _ _ rfl (by have := HO3.out; rw [List.length_replicate] at this; exact this) rfl rfl (fun _ => rfl) (by omega) HA3.out (by rw [List.length_replicate]; omega) ?_; intro w4 hown4 hb4; have HO4 := Lib.hid hown4; have HB4 := Lib.hid hb4; clear hown4 hb4))
  have hlr : (List.replicate n (0 : PM.G)).length = n := List.length_replicate
  have hl4 : (splice (List.replicate n (0 : PM.G)) 0 p).length = n := by rw [length_splice _ _ _ (by rw [hlr]; omega), hlr]
  have hb3 := HB3.out
  have hb4 := HB4.out
  have hB24 : Below w2.heap.size w2 w4 := hb3.trans hb4
  have hO := HO4.out
  have hel4 : ∀ j, PM.el (splice (List.replicate n (0 : PM.G)) 0 p) j = PM.el p j := fun j => by
    rw [el_splice _ _ _ _ (by rw [hlr]; omega), if_neg (Nat.not_lt_zero _), Nat.sub_zero]
    split
    · rfl
    · rename_i h; rw [PM.el_replicate, PM.el_ge (by omega)]
  generalize splice (List.replicate n (0 : PM.G)) 0 p = zs at *
  have hlq2 : q.length ≤ zs.length := by omega
  have ht := addMul_any w2.heap.size w2.heap.size n 0 n n cb zs q b PM.G.one w4 (by rw [hl4]; exact hO) (HB2.out.below hB24) (by omega) hn2 (Nat.le_refl _) (by omega) (by
    intro h0 b' o e; subst e
    have := HB2.out.lt h0; omega)
  rw [one_int] at ht
  refine ht.mono ?_
  clear ht
  rintro e w5 ⟨ys, rfl, hl5, hel5, ho5, hg5⟩
  rw [hl5, hl4] at ho5
  have hs4 := hB24.size
  have hB5 : Below w2.heap.size w2 w5 := hB24.trans (grown_below hg5 (Nat.le_refl _) hs4)
  have hel : ∀ j, PM.el ys j = PM.addC (PM.el p) (PM.el q) j := fun j => by
    rw [hel5, hel4, if_neg (Nat.not_lt_zero _), PM.G.one_mul, Nat.sub_zero]; rfl
  have HT := Lib.hid (trim_res (PM.addC (PM.el p) (PM.el q)) ho5 (by omega) hel)
  have HB5 := Lib.hid (HD2.out.trans (hB5.mono hs2))
  have hs5 := HB5.out.size
  clear hB5 hel hg5 ho5 hel5 hl5 hel4 hO hB24 hb3 hb4 hlr hlq2 HO4 HB4 HO3 HB3 HA3 HQ3
  go_wp2_with fail
  refine HT.out.mono ?_
  rintro e w6 ⟨⟨r, a6, c6, rfl, hr, hpol, hco, _⟩, hb6⟩
  go_wp2_with fail
  exact bodyPost_ret (v := .tuple #[.slice a6 r.length c6, .int .i64 0]) (by simp [results, Tryz.results122, go_sem]) rfl ⟨⟨r, a6, c6, rfl, hr, hpol, hco⟩, HB5.out.trans (hb6.mono hs5)⟩

set_option maxHeartbeats 400000 in
theorem add_bad1 (a b : Option Addr) (ca cb : Nat) (p q : List PM.G) (w : World) (ha : Row w a p ca) (hp : ¬ Pol p) :
    Calls Tryz.prog 122 #[.slice a p.length ca, .slice b q.length cb] w fun e W => e = .returned (.tuple #[.slice none 0 0, .int .i64 1]) ∧ Below w.heap.size w W := by
  have HA := Lib.hid ha
  have HP := Lib.hid hp
  clear ha hp
  go_enter Tryz.func122, Tryz.ntmps122
  go_wp2_with fail
  refine (valid_no a p ca w HA.out HP.out).mono ?_
  rintro e w1 ⟨rfl, hb1⟩
  go_wp2
  exact bodyPost_ret (v := .tuple #[.slice none 0 0, .int .i64 1]) (by simp [results, Tryz.results122, go_sem]) rfl ⟨rfl, hb1⟩
set_option maxHeartbeats 400000 in
theorem add_bad2 (a b : Option Addr) (ca cb : Nat) (p q : List PM.G) (w : World) (ha : Row w a p ca) (hb : Row w b q cb) (hp : Pol p) (hq : ¬ Pol q) :
    Calls Tryz.prog 122 #[.slice a p.length ca, .slice b q.length cb] w fun e W => e = .returned (.tuple #[.slice none 0 0, .int .i64 1]) ∧ Below w.heap.size w W := by
  have HA := Lib.hid ha
  have HB := Lib.hid hb
  have HP := Lib.hid hp
  have HQ := Lib.hid hq
  clear ha hp hb hq
  go_enter Tryz.func122, Tryz.ntmps122
  go_wp2_with fail
  refine (valid_yes a p ca w HA.out HP.out).mono ?_
  rintro e w1 ⟨rfl, hb1⟩
  have HB1 := Lib.hid (HB.out.below hb1)
  go_wp2_with fail
  refine (valid_no b q cb w1 HB1.out HQ.out).mono ?_
  rintro e w2 ⟨rfl, hb2⟩
  go_wp2
  exact bodyPost_ret (v := .tuple #[.slice none 0 0, .int .i64 1]) (by simp [results, Tryz.results122, go_sem]) rfl ⟨rfl, hb1.trans (hb2.mono hb1.size)⟩
end Go.Proofs.YtmejneobfkbgeaaGreatDoor.P

namespace Go.Proofs.YtmejneobfkbgeaaGreatDoor.P
open Go Go.RowKit Go.Shelf

theorem run_append_nil {P : Program} {w : World} (base : Nat) (t ty e : TypeId) (i : TypeInfo) (size : Nat) (ht : P.underlying t = some (.slice e)) (hi : P.info? e = some i)
    (v : Value) (n : Nat) (xs : List Value) (c : Nat) (hown : w.ownsRow base e size v n xs) :
    (Builtin.append_ #[t, t] ty #[v, .slice none 0 c]).run P w = .ok v w := by
  rcases hown.2 with ⟨rfl, rfl⟩ | ⟨g, cap, cur, rfl, _, _, hnc, _⟩
  · simp [Builtin.append_, run_underlying ht, sizeOf, typeInfo, hi, Builtin.lenOf, Builtin.firstCells]
  · simp [Builtin.append_, run_underlying ht, sizeOf, typeInfo, hi, Builtin.lenOf, Builtin.firstCells, hnc, storeCells]

theorem wp_appAny {W : World} {o : Oper} {a : Act} {K : Act → World → Prop} {Q : Exit → Act → World → Prop} (s x : Operand) (ho : o.op = .call { callee := .builtin .append, args := #[s, x], argTypes := #[34, 34] })
    {B : Nat} {v : Value} {zs ys : List PM.G} (hs : a.eval s = v) (hown : Own W B v zs) {ad : Option Addr} {cap : Nat} (hx : a.eval x = .slice ad ys.length cap) (hr : Row W ad ys cap)
    (hl : zs.length + ys.length < 1000000) (hbase : B ≤ W.heap.size)
    (h : ∀ a' cap' W', Own W' B (.slice a' (zs ++ ys).length cap') (zs ++ ys) → Below B W W' → K (a.put o.dst (.slice a' (zs.length + ys.length) cap')) W') : Oper.wp Tryz.prog o a W K Q := by
  obtain ⟨i0, hi, hz0, hz1, hz2⟩ := info_parts info_byte
  cases ad with
  | none =>
    have hy : ys = [] := by
      cases ys with
      | nil => rfl
      | cons y ys =>
        obtain ⟨b, off, e, _⟩ := hr.el 0 (by simp)
        cases e
    subst hy
    have hrun := run_append_nil (P := Tryz.prog) B 34 o.type 5 i0 1 Tryz.underlying34 hi v zs.length (zs.map gv) cap hown
    obtain ⟨a', cap', rfl, _⟩ := hown.row
    unfold Oper.wp execOp
    simp only [ho, resolve, invoke, builtin, Sem.run_bind, Sem.run_pure, Result.andThen_ok, List.map_toArray, List.map_cons, List.map_nil, hs, hx, List.length_nil, hrun]
    have := h a' cap' W (by simpa using hown) (Below.refl _ _)
    exact (show K (a.put o.dst (.slice a' zs.length cap')) W by simpa using this)
  | some ad =>
    refine wp_append_own W s x 34 ho B 5 i0 (.int .u8 0) 1 1 Tryz.underlying34 hi hz0 hz1 hz2 rfl (by decide) v zs.length (zs.map gv) hs hown ad ys.length cap (ys.map gv) hx (by simp) ?_ ?_ (by unfold maxLen; omega) (by omega) hbase ?_
    · intro j u hj
      rw [List.getElem?_map] at hj
      by_cases hlt : j < ys.length
      · obtain ⟨b, off, e, hc⟩ := hr.el j hlt
        cases e
        rw [List.getElem?_eq_getElem hlt] at hj
        simp only [Option.map_some, Option.some.injEq] at hj
        subst hj
        rw [PM.el_lt hlt] at hc
        by_cases hj0 : j = 0
        · subst hj0; simpa [Addr.add, gv] using hc
        · simpa [Addr.add, hj0, gv] using hc
      · rw [List.getElem?_eq_none (by omega)] at hj; simp at hj
    · intro u hu
      obtain ⟨z, _, rfl⟩ := List.mem_map.1 hu
      rfl
    · intro v' W' hown' hgrow _
      have ho2 : Own W' B v' (zs ++ ys) := by unfold Own; rw [List.length_append, List.map_append]; exact hown'
      have hB2 : Below B W W' := (Below.refl B W).grown hgrow hbase (fun k e => (World.ownsRow.lt hown k e).1)
      obtain ⟨a', cap', rfl, _⟩ := ho2.row
      have := h a' cap' W' ho2 hB2
      simpa using this

/-- **append(s, t...)**, s owned, t any slice, nil too. -/
theorem wpList_appAny {W : World} {ops : Array Oper} {rest : List Oper} {o : Oper} {a : Act} {Q : Exit → Act → World → Prop} (hgd : o.guard = none) (s x : Operand)
    (ho : o.op = .call { callee := .builtin .append, args := #[s, x], argTypes := #[34, 34] }) {B : Nat} {v : Value} {zs ys : List PM.G} (hs : a.eval s = v) (hown : Own W B v zs)
    {ad : Option Addr} {cap : Nat} (hx : a.eval x = .slice ad ys.length cap) (hr : Row W ad ys cap) (hl : zs.length + ys.length < 1000000) (hbase : B ≤ W.heap.size)
    (h : ∀ a' cap' W', Own W' B (.slice a' (zs ++ ys).length cap') (zs ++ ys) → Below B W W' → wpList Tryz.prog ops Q rest (a.put o.dst (.slice a' (zs.length + ys.length) cap')) W') : wpList Tryz.prog ops Q (o :: rest) a W :=
  wpList_plain hgd fun _ hK => wp_appAny s x ho hs hown hx hr hl hbase fun a' c' W' h1 h2 => hK _ _ (h a' c' W' h1 h2)

/-- .. as a step of a region that draws its order. -/
theorem step_appAny {W : World} {ops : Array Oper} {o : Oper} {a : Act} {K : Act → World → Prop} {Q : Exit → Act → World → Prop} {E : Prop} (hgd : o.guard = none) (s x : Operand)
    (ho : o.op = .call { callee := .builtin .append, args := #[s, x], argTypes := #[34, 34] }) {B : Nat} {v : Value} {zs ys : List PM.G} (hs : a.eval s = v) (hown : Own W B v zs)
    {ad : Option Addr} {cap : Nat} (hx : a.eval x = .slice ad ys.length cap) (hr : Row W ad ys cap) (hl : zs.length + ys.length < 1000000) (hbase : B ≤ W.heap.size)
    (h : ∀ a' cap' W', Own W' B (.slice a' (zs ++ ys).length cap') (zs ++ ys) → Below B W W' → K (a.put o.dst (.slice a' (zs.length + ys.length) cap')) W') :
    if Region.wanted o (yielded ops a.tmps) = true then Oper.wp Tryz.prog o a W K Q else E := by
  have hw : Region.wanted o (yielded ops a.tmps) = true := by simp [Region.wanted, hgd]
  rw [if_pos hw]
  exact wp_appAny s x ho hs hown hx hr hl hbase h

set_option maxRecDepth 100000 in
set_option maxHeartbeats 1000000 in
/-- **slices.Clone** of any slice of bytes. -/
theorem clone_any (a : Option Addr) (zs : List PM.G) (cap : Nat) (w : World) (hR : Row w a zs cap) (hl : zs.length < 100000) :
    Calls Tryz.prog 129 #[.slice a zs.length cap] w fun e W' => ∃ a' cap', e = .returned (.slice a' zs.length cap') ∧ Own W' w.heap.size (.slice a' zs.length cap') zs ∧ Below w.heap.size w W' := by
  have HR := Lib.hid (hR.alloc (.cells #[] 5))
  have HO := Lib.hid (own_empty w w.heap.size (Nat.le_refl _))
  have q22 : ∀ (w : World) (a : Option Addr) (n c n' c' : Nat), (binOp .eql 34 (.slice a n c) (.slice none n' c')).run Tryz.prog w = .ok (.bool a.isNone) w := fun w a n c n' c' => Lib.run_eql_slice_nil w _ _ a n c n' c' Tryz.underlying34
  cases a with
  | none =>
    have hy : zs = [] := by
      cases zs with
      | nil => rfl
      | cons y ys =>
        obtain ⟨b, off, e, _⟩ := hR.el 0 (by simp)
        cases e
    subst hy
    clear hR
    go_enter Tryz.func129, Tryz.ntmps129
    go_wp2_with fail
    go_ret
    exact ⟨none, 0, rfl, Own.nil _ _, Below.refl _ _⟩
  | some ad =>
    clear hR
    go_enter Tryz.func129, Tryz.ntmps129
    go_wp2_with (at_builtin; refine wpList_appAny rfl _ _ rfl rfl HO.out rfl HR.out (by simp; omega) (by simp) ?_; intro a' cap' W' hown' hb')
    go_ret
    exact ⟨a', cap', rfl, by simpa using hown', ((Below.refl _ w).alloc (Nat.le_refl _) _).trans hb'⟩
end Go.Proofs.YtmejneobfkbgeaaGreatDoor.P

namespace Go.Proofs.YtmejneobfkbgeaaGreatDoor.RF
open Go Go.RowKit Go.Shelf

theorem mask_u8 (x : Nat) (hx : x < 256) : bits BinOp.and IntKind.u8 (x : Int) 1 = ((x % 2 : Nat) : Int) := by
  have h : ∀ n : Fin 256, bits BinOp.and IntKind.u8 (n.val : Int) 1 = ((n.val % 2 : Nat) : Int) := by decide +kernel
  exact h ⟨x, hx⟩
theorem ret_int {k : IntKind} {a b : Int} (h : a = b) : Ending.returned (.int k a) = .returned (.int k b) := by rw [h]
theorem ret_pair {k l : IntKind} {a b c d : Int} (h : a = b) (g : c = d) : Ending.returned (.tuple #[.int k a, .int l c]) = .returned (.tuple #[.int k b, .int l d]) := by rw [h, g]
theorem invE_zero {a : Nat} (h : a ≠ 0) : FM.errZ a = 0 := by unfold FM.errZ; rw [if_neg h]
theorem xor_i64 (a b : Nat) (ha : a < 65536) (hb : b < 65536) : bits BinOp.xor IntKind.i64 (a : Int) (b : Int) = ((a ^^^ b : Nat) : Int) := by
  show IntKind.i64.wrap ((BitVec.ofInt 64 a ^^^ BitVec.ofInt 64 b).toNat : Int) = _
  rw [BitVec.toNat_xor, BitVec.ofInt_natCast, BitVec.ofInt_natCast, BitVec.toNat_ofNat, BitVec.toNat_ofNat, Nat.mod_eq_of_lt (by omega), Nat.mod_eq_of_lt (by omega)]
  have : a ^^^ b < 65536 := Nat.xor_lt_two_pow (n := 16) ha hb
  have e : IntKind.i64.wrap ((a ^^^ b : Nat) : Int) = (((a ^^^ b : Nat) : Int) + 9223372036854775808) % 18446744073709551616 - 9223372036854775808 := IntKind.wrap_i64 _
  rw [e]
  omega
theorem dbl_hi : ∀ x : Fin 256, 128 ≤ x.val → (x.val * 2) ^^^ 285 = FM.dbl x.val := by decide +kernel
theorem dbl_lo : ∀ x : Fin 256, x.val < 128 → x.val * 2 = FM.dbl x.val := by decide +kernel
theorem rmulTo_lt {a b : Nat} (ha : a < 256) : ∀ k, FM.rmulTo a b k < 256
  | 0 => by simp [FM.rmulTo]
  | k + 1 => FM.xor_lt (rmulTo_lt ha k) (FM.bitOf_lt (FM.dblN_lt ha k))
theorem rx_hi (a k : Nat) (ha : a < 256) (h : 256 ≤ (FM.dblN k a : Int) * 2) : bits BinOp.xor IntKind.i64 ((FM.dblN k a : Int) * 2) 285 = (FM.dblN (k + 1) a : Int) := by
  have hl := FM.dblN_lt ha k
  have := dbl_hi ⟨_, hl⟩ (by simp only; omega)
  have e := xor_i64 (FM.dblN k a * 2) 285 (by omega) (by decide)
  rw [show ((FM.dblN k a * 2 : Nat) : Int) = (FM.dblN k a : Int) * 2 by omega] at e
  simp only at this
  rw [this] at e
  exact e
theorem rx_lo (a k : Nat) (ha : a < 256) (h : (FM.dblN k a : Int) * 2 < 256) : (FM.dblN k a : Int) * 2 = (FM.dblN (k + 1) a : Int) := by
  have := dbl_lo ⟨_, FM.dblN_lt ha k⟩ (by simp only; omega)
  simp only at this
  show _ = (FM.dbl (FM.dblN k a) : Int)
  rw [← this]; omega
theorem rv_bit (b k : Nat) (hb : b < 256) : bits BinOp.and IntKind.u8 ((b : Int) / 2 ^ k) 1 = ((b / 2 ^ k % 2 : Nat) : Int) := by
  have hd : b / 2 ^ k ≤ b := Nat.div_le_self _ _
  rw [show (b : Int) / 2 ^ k = ((b / 2 ^ k : Nat) : Int) by rw [Int.natCast_ediv, Int.natCast_pow]; rfl, mask_u8 _ (by omega)]
theorem rv_one (a b k : Nat) (ha : a < 256) (h : b / 2 ^ k % 2 = 1) : bits BinOp.xor IntKind.i64 (FM.rmulTo a b k : Int) (FM.dblN k a : Int) = (FM.rmulTo a b (k + 1) : Int) := by
  have h1 := rmulTo_lt (b := b) ha k
  have h2 := FM.dblN_lt ha k
  rw [xor_i64 _ _ (by omega) (by omega)]
  have e : FM.bitOf b k (FM.dblN k a) = FM.dblN k a := by unfold FM.bitOf; rw [Nat.testBit_eq_decide_div_mod_eq, h]; simp
  show _ = ((FM.rmulTo a b k ^^^ FM.bitOf b k (FM.dblN k a) : Nat) : Int)
  rw [e]
theorem rv_zero (a b k : Nat) (h : b / 2 ^ k % 2 ≠ 1) : (FM.rmulTo a b k : Int) = (FM.rmulTo a b (k + 1) : Int) := by
  have e : FM.bitOf b k (FM.dblN k a) = 0 := by unfold FM.bitOf; rw [Nat.testBit_eq_decide_div_mod_eq]; simp [h]
  show _ = ((FM.rmulTo a b k ^^^ FM.bitOf b k (FM.dblN k a) : Nat) : Int)
  rw [e, Nat.xor_zero]
theorem npow_step (a k : Nat) (ha : a < 256) (h0 : a ≠ 0) : FM.mul (FM.pw a k) a = FM.pw a (k + 1) := by
  show FM.mul (FM.E (FM.lg a * k)) a = FM.E (FM.lg a * (k + 1))
  conv => lhs; arg 2; rw [← FM.E_lg ha h0]
  rw [FM.E_mul, Nat.mul_succ]
theorem pw_zero (a : Nat) : FM.pw a 0 = 1 := rfl
theorem dblN_zero (a : Nat) : FM.dblN 0 a = a := rfl
theorem rmulTo_zero (a b : Nat) : FM.rmulTo a b 0 = 0 := rfl
attribute [local irreducible] FM.mul FM.pw FM.dblN FM.rmulTo FM.E FM.lg
theorem pw_split (a n k : Nat) (ha : a < 256) (h0 : a ≠ 0) (h : k < n) : FM.mul (FM.pw a (n - (k + 1))) a = FM.pw a (n - k) := by
  rw [npow_step a _ ha h0, show n - (k + 1) + 1 = n - k by omega]
theorem powV_zero (n : Int) : FM.powV 0 n = if n = 0 then 1 else 0 := by unfold FM.powV; rw [if_pos rfl]
theorem powE_zero (n : Int) : FM.powE 0 n = if n < 0 then 4 else 0 := by unfold FM.powE; rw [if_pos rfl]
theorem tmod_cyc (n : Int) (h : ¬ n.tmod 255 < 0) : n.tmod 255 = (FM.cyc n : Int) := by
  rw [FM.cyc_int]
  rcases Int.le_total 0 n with hn | hn
  · rw [Int.tmod_eq_emod_of_nonneg hn]
  · have := Int.neg_tmod (a := -n) (b := 255)
    rw [Int.neg_neg, Int.tmod_eq_emod_of_nonneg (by omega : 0 ≤ -n)] at this
    omega
theorem tmod_cyc' (n : Int) (h : n.tmod 255 < 0) : n.tmod 255 + 255 = (FM.cyc n : Int) ∧ -255 < n.tmod 255 := by
  rw [FM.cyc_int]
  rcases Int.le_total 0 n with hn | hn
  · rw [Int.tmod_eq_emod_of_nonneg hn] at h; omega
  · have := Int.neg_tmod (a := -n) (b := 255)
    rw [Int.neg_neg, Int.tmod_eq_emod_of_nonneg (by omega : 0 ≤ -n)] at this
    omega
theorem powV_two (n : Int) : FM.powV 2 n = FM.E (FM.cyc n) := by
  unfold FM.powV
  rw [if_neg (by decide)]
  show FM.pw 2 _ = _
  unfold FM.pw
  rw [FM.lg_two, Nat.one_mul]
end Go.Proofs.YtmejneobfkbgeaaGreatDoor.RF

namespace Go.Proofs.YtmejneobfkbgeaaGreatDoor.G
open Go Go.RowKit Go.Shelf
open Elt
instance eltG : Elt PM.G := { gv := fun x => .int .u8 (x.v : Int), z := 0, ty := 5, sl := 34, wide := 1, wide_le := by decide, info := by kernel_rfl, under := Tryz.underlying34, one := fun _ => rfl, plain := fun _ => rfl }
theorem Row.elG {w : World} {a : Option Addr} {zs : List PM.G} {cap : Nat} (h : Row w a zs cap) (j : Nat) (hj : j < zs.length) : ∃ b off, a = some ⟨b, off, none⟩ ∧ w.cell? ⟨b, off + j, none⟩ = some (.int .u8 ((G.el zs j).v : Int)) := h.el j hj
theorem Own.setG {W : World} {B n : Nat} {g cap : Nat} {zs : List PM.G} (h : Own W B (.slice (some ⟨g, 0, none⟩) n cap) zs) (j : Nat) (c : PM.G) : Own (W.setCell ⟨g, j, none⟩ (.int .u8 (c.v : Int))) B (.slice (some ⟨g, 0, none⟩) n cap) (zs.set j c) := h.set j c
theorem Own.cellG {W : World} {B g cap n : Nat} {zs : List PM.G} (h : Own W B (.slice (some ⟨g, 0, none⟩) n cap) zs) (k : Nat) (hk : k < zs.length) : W.cell? ⟨g, k, none⟩ = some (.int .u8 ((el zs k).v : Int)) := (h.at k hk).2.2.2.2.1
end Go.Proofs.YtmejneobfkbgeaaGreatDoor.G
namespace Go.Proofs.YtmejneobfkbgeaaGreatDoor.G.S
open Go Go.RowKit Go.Shelf
open PM (G)
open RF

theorem xor_u8n (a b : Nat) (ha : a < 256) (hb : b < 256) : bits BinOp.xor IntKind.u8 (a : Int) (b : Int) = ((a ^^^ b : Nat) : Int) := by
  show IntKind.u8.wrap ((BitVec.ofInt 8 a ^^^ BitVec.ofInt 8 b).toNat : Int) = _
  rw [BitVec.toNat_xor, BitVec.ofInt_natCast, BitVec.ofInt_natCast, BitVec.toNat_ofNat, BitVec.toNat_ofNat, Nat.mod_eq_of_lt (by omega), Nat.mod_eq_of_lt (by omega)]
  have : a ^^^ b < 256 := Nat.xor_lt_two_pow (n := 8) ha hb
  simp [IntKind.wrap, IntKind.bits, IntKind.signed]; omega
theorem xor_G (a b : G) : bits BinOp.xor IntKind.u8 (a.v : Int) (b.v : Int) = ((a + b).v : Int) := xor_u8n _ _ a.lt b.lt
theorem eq0_G (a : G) : ((a.v : Int) == 0) = decide (a = 0) := by
  rw [Bool.eq_iff_iff, beq_iff_eq, decide_eq_true_iff]
  exact ⟨fun h => G.v_zero.1 (by omega), fun h => by rw [h]; rfl⟩
theorem ne0_G (a : G) : ((a.v : Int) != 0) = !decide (a = 0) := by
  unfold bne; rw [eq0_G]

/-- Element (r0, c0) is x. -/
def updM (M : Nat → Nat → G) (r0 c0 : Nat) (x : G) : Nat → Nat → G := fun r c => if r = r0 ∧ c = c0 then x else M r c
/-- R rows of U + 1 elements. -/
structure Mat (W : World) (B go R U : Nat) (blk cp : Nat → Nat) (M : Nat → Nat → G) : Prop where
  out : ∀ r, r < R → W.cell? ⟨go, r, none⟩ = some (.slice (some ⟨blk r, 0, none⟩) (U + 1) (cp r))
  fout : ∀ r, r < R → W.frozen? ⟨go, r, none⟩ = false
  el : ∀ r, r < R → ∀ c, c ≤ U → W.cell? ⟨blk r, c, none⟩ = some (.int .u8 ((M r c).v : Int))
  fel : ∀ r, r < R → ∀ c, c ≤ U → W.frozen? ⟨blk r, c, none⟩ = false
  cap : ∀ r, r < R → U + 1 ≤ cp r ∧ cp r ≤ 9223372036854775807
  ne : ∀ r, r < R → blk r ≠ go
  inj : ∀ r, r < R → ∀ s, s < R → blk r = blk s → r = s
  base : ∀ r, r < R → B ≤ blk r
  bgo : 0 < R → B ≤ go
section
variable {W : World} {B go R U : Nat} {blk cp : Nat → Nat} {M : Nat → Nat → G}
theorem Mat.below {W' : World} (h : Mat W B go R U blk cp M) (hb : Below W.heap.size W W') : Mat W' B go R U blk cp M :=
  ⟨fun r hr => cell_below hb (h.out r hr), fun r hr => frozen_below hb (h.out r hr) (h.fout r hr), fun r hr c hc => cell_below hb (h.el r hr c hc), fun r hr c hc => frozen_below hb (h.el r hr c hc) (h.fel r hr c hc), h.cap, h.ne, h.inj, h.base, h.bgo⟩
theorem Mat.drewN (h : Mat W B go R U blk cp M) (n : Nat) : Mat (W.drewN n) B go R U blk cp M := ⟨h.out, h.fout, h.el, h.fel, h.cap, h.ne, h.inj, h.base, h.bgo⟩
theorem Mat.as {M' : Nat → Nat → G} (h : Mat W B go R U blk cp M) (e : ∀ r, r < R → ∀ c, c ≤ U → M r c = M' r c) : Mat W B go R U blk cp M' :=
  ⟨h.out, h.fout, fun r hr c hc => by rw [← e r hr c hc]; exact h.el r hr c hc, h.fel, h.cap, h.ne, h.inj, h.base, h.bgo⟩
theorem Mat.put (h : Mat W B go R U blk cp M) {r0 c0 : Nat} (hr0 : r0 < R) (hc0 : c0 ≤ U) (x : G) : Mat (W.setCell ⟨blk r0, c0, none⟩ (.int .u8 (x.v : Int))) B go R U blk cp (updM M r0 c0 x) := by
  refine ⟨fun r hr => (cell_other _ (show go ≠ blk r0 from fun e => h.ne r0 hr0 e.symm)).trans (h.out r hr), fun r hr => (World.frozen?_setCell _ _ _ _).trans (h.fout r hr), fun r hr c hc => ?_, fun r hr c hc => (World.frozen?_setCell _ _ _ _).trans (h.fel r hr c hc), h.cap, h.ne, h.inj, h.base, h.bgo⟩
  unfold updM
  by_cases e : r = r0 ∧ c = c0
  · obtain ⟨rfl, rfl⟩ := e
    rw [if_pos ⟨rfl, rfl⟩]
    exact World.cell?_setCell_same' _ _ _ (by rw [h.el r hr c hc]; rfl)
  · rw [if_neg e]
    refine (World.cell?_setCell_other _ _ _ _ ?_).trans (h.el r hr c hc)
    intro e2
    have e3 := congrArg Addr.block e2
    have e4 := congrArg Addr.off e2
    exact e ⟨h.inj r hr r0 hr0 e3.symm, e4.symm⟩
/-- Rows k and p have changed places. -/
theorem Mat.swapped (h : Mat W B go R U blk cp M) {k p : Nat} (hk : k < R) (hp : p < R) :
    Mat ((W.setCell ⟨go, k, none⟩ (.slice (some ⟨blk p, 0, none⟩) (U + 1) (cp p))).setCell ⟨go, p, none⟩ (.slice (some ⟨blk k, 0, none⟩) (U + 1) (cp k))) B go R U (fun r => if r = k then blk p else if r = p then blk k else blk r) (fun r => if r = k then cp p else if r = p then cp k else cp r) (SM.swapR M k p) := by
  have h1 : ∀ r, r < R → (W.setCell ⟨go, k, none⟩ (.slice (some ⟨blk p, 0, none⟩) (U + 1) (cp p))).cell? ⟨go, r, none⟩ = some (.slice (some ⟨if r = k then blk p else blk r, 0, none⟩) (U + 1) (if r = k then cp p else cp r)) := fun r hr => by
    by_cases e : r = k
    · subst e
      rw [if_pos rfl, if_pos rfl]
      exact World.cell?_setCell_same' _ _ _ (by rw [h.out r hr]; rfl)
    · rw [if_neg e, if_neg e]
      exact (World.cell?_setCell_other _ _ _ _ (by intro e2; exact e (congrArg Addr.off e2).symm)).trans (h.out r hr)
  have pick : ∀ r, r < R → ∃ s, s < R ∧ (if r = k then blk p else if r = p then blk k else blk r) = blk s ∧ (if r = k then cp p else if r = p then cp k else cp r) = cp s ∧ SM.swapR M k p r = M s ∧ s = (if r = k then p else if r = p then k else r) := fun r hr => by
    unfold SM.swapR
    by_cases e : r = k
    · exact ⟨p, hp, if_pos e, if_pos e, if_pos e, (if_pos e).symm⟩
    · rw [if_neg e, if_neg e, if_neg e, if_neg e]
      by_cases e2 : r = p
      · exact ⟨k, hk, if_pos e2, if_pos e2, if_pos e2, (if_pos e2).symm⟩
      · exact ⟨r, hr, if_neg e2, if_neg e2, if_neg e2, (if_neg e2).symm⟩
  refine ⟨fun r hr => ?_, fun r hr => ?_, fun r hr c hc => ?_, fun r hr c hc => ?_, fun r hr => ?_, fun r hr => ?_, fun r hr s hs e => ?_, fun r hr => ?_, h.bgo⟩
  · by_cases e : r = p
    · subst e
      rw [World.cell?_setCell_same' _ _ _ (by rw [h1 r hr]; rfl)]
      by_cases e2 : r = k
      · subst e2; rw [if_pos rfl, if_pos rfl]
      · rw [if_neg e2, if_pos rfl, if_neg e2, if_pos rfl]
    · rw [World.cell?_setCell_other _ _ _ _ (by intro e2; exact e (congrArg Addr.off e2).symm), h1 r hr]
      by_cases e2 : r = k
      · rw [if_pos e2, if_pos e2, if_pos e2, if_pos e2]
      · rw [if_neg e2, if_neg e2, if_neg e2, if_neg e2, if_neg e, if_neg e]
  · rw [World.frozen?_setCell, World.frozen?_setCell]; exact h.fout r hr
  · obtain ⟨s, hs, e1, _, e3, _⟩ := pick r hr
    rw [e1, e3]
    have hne := h.ne s hs
    exact (cell_other _ (show blk s ≠ go from hne)).trans ((cell_other _ (show blk s ≠ go from hne)).trans (h.el s hs c hc))
  · obtain ⟨s, hs, e1, _, e3, _⟩ := pick r hr
    rw [e1, World.frozen?_setCell, World.frozen?_setCell]
    exact h.fel s hs c hc
  · obtain ⟨s, hs, _, e2, _⟩ := pick r hr
    show U + 1 ≤ (if r = k then cp p else if r = p then cp k else cp r) ∧ _
    rw [e2]; exact h.cap s hs
  · obtain ⟨s, hs, e1, _⟩ := pick r hr
    show (if r = k then blk p else if r = p then blk k else blk r) ≠ go
    rw [e1]; exact h.ne s hs
  · obtain ⟨r', hr', e1, _, _, f1⟩ := pick r hr
    obtain ⟨s', hs', e2, _, _, f2⟩ := pick s hs
    have e' : blk r' = blk s' := by rw [← e1, ← e2]; exact e
    have := h.inj r' hr' s' hs' e'
    rw [f1, f2] at this
    split at this <;> split at this <;> (try split at this) <;> (try split at this) <;> omega
  · obtain ⟨s, hs, e1, _⟩ := pick r hr
    show B ≤ (if r = k then blk p else if r = p then blk k else blk r)
    rw [e1]; exact h.base s hs
end
end Go.Proofs.YtmejneobfkbgeaaGreatDoor.G.S

namespace Go.Proofs.YtmejneobfkbgeaaGreatDoor.G
open Go Go.RowKit Go.Shelf

theorem step_app1 {α : Type} [Elt α] {W : World} {ops : Array Oper} {o : Oper} {a : Act} {K : Act → World → Prop} {Q : Exit → Act → World → Prop} {E : Prop} (hgd : o.guard = none) (s x : Operand)
    (ho : o.op = .call { callee := .builtin .append, args := #[s, x], argTypes := #[Elt.sl α, Elt.sl α] }) {B : Nat} {v : Value} {zs : List α} (c : α) (hs : a.eval s = v) (hown : Own W B v zs)
    {b : Nat} (hx : a.eval x = .slice (some ⟨b, 0, none⟩) 1 1) (hc : W.cell? ⟨b, 0, none⟩ = some (Elt.gv c)) (hl : zs.length < 1000000) (hbase : B ≤ W.heap.size)
    (h : ∀ a' cap' W', Own W' B (.slice a' (zs.length + 1) cap') (zs ++ [c]) → W.grownBy W' v.ownBlock → Below B W W' → (∀ b' o', a' = some ⟨b', o', none⟩ → v.ownBlock = some b' ∨ b' = W.heap.size) → K (a.put o.dst (.slice a' (zs.length + 1) cap')) W') :
    if Region.wanted o (yielded ops a.tmps) = true then Oper.wp Tryz.prog o a W K Q else E := by
  have hw : Region.wanted o (yielded ops a.tmps) = true := by simp [Region.wanted, hgd]
  rw [if_pos hw]
  exact wp_app1 s x ho c hs hown hx hc hl hbase h
/-- A slice that a call has made does not lie in an older block. -/
theorem own_ne {α : Type} [Elt α] {W : World} {B p : Nat} {v : Value} {zs : List α} (h : Own W B v zs) (hp : p < B) : v.ownBlock ≠ some p := fun e => by
  have := (World.ownsRow.lt h _ e).1
  omega
end Go.Proofs.YtmejneobfkbgeaaGreatDoor.G

namespace Go.Proofs.YtmejneobfkbgeaaGreatDoor.G.S
open Go Go.RowKit Go.Shelf

/-- A code of symbols. -/
def codeV (D C F : Nat) : Value := .agg #[.int .i64 2, .int .i64 (D : Int), .int .i64 (C : Int), .int .i64 (F : Int)]
/-- The sizes that the statements give codes. -/
structure Cd (D C F : Nat) : Prop where
  d1 : 1 ≤ D
  d2 : D ≤ 32
  c1 : 1 ≤ C
  c2 : C ≤ 8
  f2 : F ≤ 100

theorem within_yes (n l h : Int) (h1 : l ≤ n) (h2 : n ≤ h) (w : World) : Calls Tryz.prog 68 #[.int .i64 n, .int .i64 l, .int .i64 h] w fun e w' => e = .returned (.bool true) ∧ w = w' := by
  go_enter Tryz.func68, Tryz.ntmps68
  go_wp2_with fail
  go_ret
  exact ⟨rfl, rfl⟩
theorem within_no (n l h : Int) (h1 : l ≤ n) (h2 : ¬ n ≤ h) (w : World) : Calls Tryz.prog 68 #[.int .i64 n, .int .i64 l, .int .i64 h] w fun e w' => e = .returned (.bool false) ∧ w = w' := by
  go_enter Tryz.func68, Tryz.ntmps68
  go_wp2_with fail
  go_ret
  exact ⟨rfl, rfl⟩
theorem within_low (n l h : Int) (h1 : ¬ l ≤ n) (w : World) : Calls Tryz.prog 68 #[.int .i64 n, .int .i64 l, .int .i64 h] w fun e w' => e = .returned (.bool false) ∧ w = w' := by
  go_enter Tryz.func68, Tryz.ntmps68
  go_wp2_with fail
  go_ret
  exact ⟨rfl, rfl⟩
theorem box4_at {W : World} {p : Nat} {t : TypeId} {v0 v1 v2 v3 : Value} (h : Box W p t [v0, v1, v2, v3]) : W.cell? ⟨p, 0, none⟩ = some v0 ∧ W.cell? ⟨p, 1, none⟩ = some v1 ∧ W.cell? ⟨p, 2, none⟩ = some v2 ∧ W.cell? ⟨p, 3, none⟩ = some v3 :=
  ⟨h.cell 0 rfl, h.cell 1 rfl, h.cell 2 rfl, h.cell 3 rfl⟩
/-- The box of a parameter that is a code. -/
theorem code_box (w : World) (D C F : Nat) (t : TypeId) : ∃ w1, w.alloc (.cells #[.int .i64 2, .int .i64 (D : Int), .int .i64 (C : Int), .int .i64 (F : Int)] t) = w1 ∧ w1.cell? ⟨w.heap.size, 0, none⟩ = some (.int .i64 2) ∧ w1.cell? ⟨w.heap.size, 1, none⟩ = some (.int .i64 (D : Int)) ∧
    w1.cell? ⟨w.heap.size, 2, none⟩ = some (.int .i64 (C : Int)) ∧ w1.cell? ⟨w.heap.size, 3, none⟩ = some (.int .i64 (F : Int)) ∧ Below w.heap.size w w1 ∧ Box w1 w.heap.size t [.int .i64 2, .int .i64 (D : Int), .int .i64 (C : Int), .int .i64 (F : Int)] := by
  have hb := Box.new w t [.int .i64 2, .int .i64 (D : Int), .int .i64 (C : Int), .int .i64 (F : Int)]
  obtain ⟨h0, h1, h2, h3⟩ := box4_at hb
  exact ⟨_, rfl, h0, h1, h2, h3, (Below.refl _ w).alloc (Nat.le_refl _) _, hb⟩

theorem validCode_any {D C F : Nat} (hc : Cd D C F) (t : Bool) (ht : decide (F ≤ C / 2) = t) (w : World) : Calls Tryz.prog 85 #[codeV D C F] w fun e w' => e = .returned (.bool t) ∧ Below w.heap.size w w' := by
  unfold codeV
  obtain ⟨h1, h2, h3, h4, h5⟩ := hc
  obtain ⟨w1, hw1, c0, c1, c2, c3, hB, _⟩ := code_box w D C F 23
  have HB := Lib.hid hB
  have a1 : (1 : Int) ≤ (D : Int) := by omega
  have a2 : (D : Int) ≤ 32 := by omega
  have a3 : (1 : Int) ≤ (C : Int) := by omega
  have a4 : (C : Int) ≤ 8 := by omega
  have a5 : (0 : Int) ≤ (F : Int) := by omega
  have hw : Calls Tryz.prog 68 #[.int .i64 (F : Int), .int .i64 0, .int .i64 ((C : Int) / 2)] w1 fun e w' => e = .returned (.bool t) ∧ w1 = w' := by
    cases t with
    | true => exact within_yes _ _ _ a5 (by have := of_decide_eq_true ht; omega) w1
    | false => exact within_no _ _ _ a5 (by have := of_decide_eq_false ht; omega) w1
  have HW := Lib.hid hw
  clear hB ht hw
  go_enter Tryz.func85, Tryz.ntmps85
  go_wp2_with (go_at_call 68; (first | (with_reducible refine (within_yes _ _ _ (by assumption) (by assumption) _).mono ?_; rintro e w2 ⟨rfl, rfl⟩) | (with_reducible refine HW.out.mono ?_; rintro e w2 ⟨rfl, rfl⟩)))
  go_ret
  exact ⟨rfl, HB.out⟩
theorem isSymbol_any {D C F : Nat} (hc : Cd D C F) (t : Bool) (ht : decide (F ≤ C / 2) = t) (w : World) : Calls Tryz.prog 65 #[codeV D C F] w fun e w' => e = .returned (.bool t) ∧ Below w.heap.size w w' := by
  have hv := fun W => validCode_any hc t ht W
  unfold codeV at *
  obtain ⟨w1, hw1, c0, c1, c2, c3, hB, _⟩ := code_box w D C F 23
  have HB := Lib.hid hB
  have HV := Lib.hid hv
  clear hB ht hv
  go_enter Tryz.func65, Tryz.ntmps65
  go_wp2_with fail
  (with_reducible refine (HV.out _).mono ?_)
  rintro e w2 ⟨rfl, hb2⟩
  go_wp2_with fail
  go_ret
  exact ⟨rfl, HB.out.trans (hb2.mono HB.out.size)⟩
theorem length_any {D C F : Nat} (hc : Cd D C F) (w : World) : Calls Tryz.prog 66 #[codeV D C F] w fun e w' => e = .returned (.int .i64 ((D + C : Nat) : Int)) ∧ Below w.heap.size w w' := by
  obtain ⟨h1, h2, h3, h4, h5⟩ := hc
  unfold codeV at *
  obtain ⟨w1, hw1, c0, c1, c2, c3, hB, _⟩ := code_box w D C F 23
  have HB := Lib.hid hB
  clear hB
  go_enter Tryz.func66, Tryz.ntmps66
  go_wp2_with fail
  go_ret
  exact ⟨ret_int (by omega), HB.out⟩
end Go.Proofs.YtmejneobfkbgeaaGreatDoor.G.S

namespace Go.Proofs.YtmejneobfkbgeaaGreatDoor.P
open Go Go.RowKit Go.Shelf Go.Sort

def revRen : Go.Shelf.Ren := ⟨fun | 35 => 50 | n => n, fun | 0 => 0 | 3 => 3 | 4 => 4 | 22 => 34 | 23 => 5 | n => n, fun | n => n⟩
theorem revLays : Go.Proofs.SlLaysE.n35 Tryz.prog revRen := {
  mixed := by kernel_rfl
  f35 := ⟨Tryz.f50.name, by decide, Tryz.func50.trans (congrArg some (by kernel_rfl))⟩
  t0 := Tryz.underlying0
  a0 := Tryz.isAgg0
  z0 := Tryz.sizeOf0
  v0 := Tryz.zeroValue0
  t3 := Tryz.underlying3
  a3 := Tryz.isAgg3
  z3 := Tryz.sizeOf3
  v3 := Tryz.zeroValue3
  t4 := Tryz.underlying4
  a4 := Tryz.isAgg4
  z4 := Tryz.sizeOf4
  v4 := Tryz.zeroValue4
  t22 := Tryz.underlying34
  a22 := Tryz.isAgg34
  z22 := Tryz.sizeOf34
  v22 := Tryz.zeroValue34
  a23 := Tryz.isAgg5
  z23 := Tryz.sizeOf5 }

/-- **slices.Reverse** of a slice that is owned. -/
theorem reverse_any (a : Option Addr) (cap B : Nat) (zs : List PM.G) (w : World) (hO : Own w B (.slice a zs.length cap) zs) (hB : B ≤ w.heap.size) (hl : zs.length ≤ 100000) :
    Calls Tryz.prog 50 #[.slice a zs.length cap] w fun e w' => e = .returned (.tuple #[]) ∧ Row w' a zs.reverse cap ∧ Below B w w' := by
  rcases hO.parts with ⟨hv, rfl⟩ | ⟨g, cap', hv, hg, hgs, h1, h2, hc⟩
  · cases hv
    refine (AnyE.slices_Reverse_empty revLays none 0 w).mono ?_
    rintro e w' ⟨rfl, rfl⟩
    exact ⟨rfl, Row.nil _ _ _ (by omega), Below.refl _ _⟩
  · cases hv
    have hH : Holds gv w g 0 zs.toArray := fun j hj => by
      have hj' : j < zs.length := by simpa using hj
      obtain ⟨h1, h2⟩ := hc j hj'
      rw [Nat.zero_add]
      refine ⟨?_, h2⟩
      rw [h1, PM.el_lt hj']
      simp [getElem!_pos, hj', gv]
    refine (AnyE.slices_Reverse revLays gv (fun _ => rfl) g 0 cap zs w hH (by omega)).mono ?_
    rintro e w' ⟨he, n, rfl⟩
    refine ⟨he, ⟨by rw [List.length_reverse]; exact h1, h2, fun j hj => ⟨g, 0, rfl, ?_⟩⟩, ?_⟩
    · have h := (holds_putRow gv _ g 0 zs.toArray zs.reverse.toArray (holds_ahead _ w n g 0 _ hH) (by simp) j (by simpa using hj)).1
      rw [h, PM.el_lt hj]
      simp only [List.length_reverse] at hj
      simp [getElem!_pos, hj, gv]
    · refine ⟨rfl, rfl, rfl, by simp [putRow, mapBlock], fun k hk => ?_⟩
      simp only [putRow, mapBlock, Array.getElem?_modify]
      rw [if_neg (by omega)]
      rfl

set_option maxHeartbeats 400000 in
/-- **poly.Trim** -/
theorem ptrim_any (a : Option Addr) (zs : List PM.G) (cap : Nat) (w : World) (hR : Row w a zs cap) (hl : zs.length < 100000) :
    Calls Tryz.prog 130 #[.slice a zs.length cap] w fun e W' => (∃ a' cap', e = .returned (.slice a' (PM.trimL zs).length cap') ∧ Row W' a' (PM.trimL zs) cap') ∧ Below w.heap.size w W' := by
  obtain ⟨a2, c2, hc, hr, _⟩ := hR.cut
  have ht := trimmed_any a zs cap w hR
  rw [hc] at ht
  have HT := Lib.hid ht
  have HR2 := Lib.hid hr
  have hlt := PM.trimL_len zs
  clear ht hc hr hR
  go_enter Tryz.func130, Tryz.ntmps130
  go_wp2_with fail
  (with_reducible refine HT.out.mono ?_)
  rintro e w1 ⟨rfl, hb1⟩
  have HC := Lib.hid (clone_any a2 (PM.trimL zs) c2 w1 (HR2.out.below hb1) (by omega))
  have HB1 := Lib.hid hb1
  clear hb1
  go_wp2_with fail
  (with_reducible refine HC.out.mono ?_)
  rintro e w2 ⟨a3, c3, rfl, ho, hb2⟩
  go_wp2_with fail
  go_ret
  exact ⟨⟨a3, c3, rfl, ho.rowAt⟩, HB1.out.trans (hb2.mono HB1.out.size)⟩

/-- The polynomial whose highest coefficient comes first in the list. -/
def pol (zs : List PM.G) : List PM.G := PM.trimL zs.reverse
theorem pol_pol (zs : List PM.G) (hl : zs.length ≤ 255) : Pol (pol zs) := ⟨PM.can_trimL _, by have := PM.trimL_len zs.reverse; rw [List.length_reverse] at this; unfold pol; omega⟩
theorem pol_el (zs : List PM.G) (k : Nat) : PM.el (pol zs) k = if k < zs.length then PM.el zs (zs.length - 1 - k) else 0 := by
  unfold pol
  rw [PM.el_trimL]
  by_cases h : k < zs.length
  · rw [if_pos h, PM.el_lt (by rw [List.length_reverse]; exact h), PM.el_lt (by omega), List.getElem_reverse]
  · rw [if_neg h, PM.el_ge (by rw [List.length_reverse]; omega)]
attribute [irreducible] pol

set_option maxHeartbeats 400000 in
/-- **symbol.polynomial** -/
theorem polynomial_any (a : Option Addr) (zs : List PM.G) (cap : Nat) (w : World) (hR : Row w a zs cap) (hl : zs.length ≤ 255) :
    Calls Tryz.prog 83 #[.slice a zs.length cap] w fun e W' => (∃ a' cap', e = .returned (.slice a' (pol zs).length cap') ∧ Row W' a' (pol zs) cap') ∧ Below w.heap.size w W' := by
  have HC := Lib.hid (clone_any a zs cap w hR (by omega))
  clear hR
  go_enter Tryz.func83, Tryz.ntmps83
  go_wp2_with fail
  (with_reducible refine HC.out.mono ?_)
  rintro e w1 ⟨a1, c1, rfl, ho, hb1⟩
  have HR1 := Lib.hid (reverse_any a1 c1 w.heap.size zs w1 ho hb1.size (by omega))
  have HB1 := Lib.hid hb1
  clear hb1 ho HC
  go_wp2_with fail
  (with_reducible refine HR1.out.mono ?_)
  rintro e w2 ⟨rfl, hr2, hb2⟩
  have ht := ptrim_any a1 zs.reverse c1 w2 hr2 (by rw [List.length_reverse]; omega)
  rw [List.length_reverse, show PM.trimL zs.reverse = pol zs by unfold pol; rfl] at ht
  have HT := Lib.hid ht
  have HB2 := Lib.hid (HB1.out.trans hb2)
  clear ht hr2 hb2 HR1 HB1
  go_wp2_with fail
  (with_reducible refine HT.out.mono ?_)
  rintro e w3 ⟨⟨a3, c3, rfl, hr3⟩, hb3⟩
  go_wp2_with fail
  go_ret
  exact ⟨⟨a3, c3, rfl, hr3⟩, HB2.out.trans (hb3.mono HB2.out.size)⟩
end Go.Proofs.YtmejneobfkbgeaaGreatDoor.P

namespace Go.Proofs.YtmejneobfkbgeaaGreatDoor
open Go Go.RowKit Go.Shelf

theorem cyc_wrap (n : Int) (h0 : -9223372036854775808 ≤ n) (h1 : n ≤ 9223372036854775807) : (wrap64 (n.tmod 255 + 255)).tmod 255 = (FM.cyc n : Int) := by
  rw [FM.cyc_int]
  have hw : wrap64 (n.tmod 255 + 255) = n.tmod 255 + 255 := by
    rcases Int.le_total 0 n with h | h
    · rw [Int.tmod_eq_emod_of_nonneg h]; unfold wrap64; omega
    · have := Int.neg_tmod (a := -n) (b := 255)
      rw [Int.neg_neg, Int.tmod_eq_emod_of_nonneg (by omega : 0 ≤ -n)] at this
      rw [this]; unfold wrap64; omega
  rw [hw]
  rcases Int.le_total 0 n with h | h
  · rw [Int.tmod_eq_emod_of_nonneg h, Int.tmod_eq_emod_of_nonneg (by omega)]; omega
  · have := Int.neg_tmod (a := -n) (b := 255)
    rw [Int.neg_neg, Int.tmod_eq_emod_of_nonneg (by omega : 0 ≤ -n)] at this
    rw [this, Int.tmod_eq_emod_of_nonneg (by omega)]; omega
theorem cycle_any (n : Int) (h0 : -9223372036854775808 ≤ n) (h1 : n ≤ 9223372036854775807) (w : World) :
    Calls Tryz.prog 148 #[.int .i64 n] w fun e w' => e = .returned (.int .i64 (FM.cyc n : Int)) ∧ w = w' := by
  go_enter Tryz.func148, Tryz.ntmps148
  go_wp2
  go_ret
  exact ⟨ret_int (cyc_wrap n h0 h1), rfl⟩

theorem exp_any (n : Int) (hn0 : -9223372036854775808 ≤ n) (hn1 : n ≤ 9223372036854775807) (w : World) :
    Calls Tryz.prog 124 #[.int .i64 n] w fun e w' => e = .returned (.int .u8 (FM.E (FM.cyc n) : Int)) ∧ Dr w w' := by
  have hp := power_E 1 (FM.cyc n) (by have := FM.cyc_lt n; omega)
  rw [Nat.one_mul] at hp
  have HP := Lib.hid hp
  clear hp
  go_enter Tryz.func124, Tryz.ntmps124
  go_wp2_with (first | (go_at_call 148; refine (cycle_any _ hn0 hn1 _).mono ?_; rintro e w1 ⟨rfl, rfl⟩) | (go_at_call 147; refine (HP.out _).mono ?_; rintro e w2 ⟨rfl, hd⟩))
  go_ret
  exact ⟨rfl, hd⟩
end Go.Proofs.YtmejneobfkbgeaaGreatDoor

namespace Go.Proofs.YtmejneobfkbgeaaGreatDoor.P
open Go Go.RowKit Go.Shelf
open G.S (codeV Cd code_box)

/-- 2 to the power of k. -/
def EE (k : Nat) : PM.G := ⟨FM.E k, FM.E_lt k⟩
theorem cyc_nat (k : Nat) : FM.E (FM.cyc (k : Int)) = FM.E k := by
  rw [← FM.E_mod k]
  congr 1
theorem gexp (k : Nat) (hk : k ≤ 100000) (W : World) : Calls Tryz.prog 124 #[.int .i64 (k : Int)] W fun e w' => e = .returned (.int .u8 ((EE k).v : Int)) ∧ Dr W w' := by
  have := exp_any (k : Int) (by omega) (by omega) W
  rwa [cyc_nat] at this
/-- The list of the first m values of f. -/
def tab (m : Nat) (f : Nat → PM.G) : List PM.G := (List.range m).map f
theorem tab_len (m : Nat) (f : Nat → PM.G) : (tab m f).length = m := by simp [tab]
theorem el_tab (m : Nat) (f : Nat → PM.G) (k : Nat) (h : k < m) : PM.el (tab m f) k = f k := by
  rw [PM.el_lt (by rw [tab_len]; exact h)]; simp [tab]
theorem tab_ext {m : Nat} {f g : Nat → PM.G} (h : ∀ k, k < m → f k = g k) : tab m f = tab m g := by
  refine PM.ext_el (by rw [tab_len, tab_len]) (fun k hk => ?_)
  rw [tab_len] at hk
  rw [el_tab _ _ _ hk, el_tab _ _ _ hk, h k hk]
def upd (f : Nat → PM.G) (j : Nat) (x : PM.G) : Nat → PM.G := fun k => if k = j then x else f k
theorem tab_set (m : Nat) (f : Nat → PM.G) (j : Nat) (x : PM.G) (hj : j < m) : (tab m f).set j x = tab m (upd f j x) := by
  refine PM.ext_el (by rw [List.length_set, tab_len, tab_len]) (fun k hk => ?_)
  rw [List.length_set, tab_len] at hk
  rw [PM.el_set (by rw [tab_len]; exact hj), el_tab _ _ _ hk, el_tab _ _ _ hk]; rfl
theorem tab_replicate (m : Nat) (x : PM.G) : List.replicate m x = tab m (fun _ => x) :=
  PM.ext_el (by rw [tab_len, List.length_replicate]) (fun k hk => by
    rw [List.length_replicate] at hk
    rw [el_tab _ _ _ hk, PM.el_lt (by rw [List.length_replicate]; exact hk)]; simp)
theorem tab_el (zs : List PM.G) : tab zs.length (PM.el zs) = zs := PM.ext_el (tab_len _ _) (fun k hk => el_tab _ _ _ (by rwa [tab_len] at hk))
/-- The first k values are there, then others. -/
def part2 (f g : Nat → PM.G) (k : Nat) : Nat → PM.G := fun j => if j < k then f j else g j
theorem part2_step (m : Nat) (f g : Nat → PM.G) (k : Nat) (hk : k < m) : (tab m (part2 f g k)).set k (f k) = tab m (part2 f g (k + 1)) := by
  rw [tab_set _ _ _ _ hk]
  refine tab_ext (fun j _ => ?_)
  unfold upd part2
  by_cases e : j = k
  · subst e; rw [if_pos rfl, if_pos (by omega)]
  · rw [if_neg e]
    by_cases h : j < k
    · rw [if_pos h, if_pos (by omega)]
    · rw [if_neg h, if_neg (by omega)]
theorem part2_0 (m : Nat) (f g : Nat → PM.G) : tab m (part2 f g 0) = tab m g := tab_ext (fun j _ => by unfold part2; rw [if_neg (Nat.not_lt_zero j)])
theorem part2_all (m : Nat) (f g : Nat → PM.G) : tab m (part2 f g m) = tab m f := tab_ext (fun j h => by unfold part2; rw [if_pos h])

set_option maxRecDepth 100000 in
set_option maxHeartbeats 1000000 in
/-- **symbol.roots** -/
theorem roots_any {D C F : Nat} (hc : Cd D C F) (w : World) :
    Calls Tryz.prog 84 #[codeV D C F] w fun e W => ∃ g, e = .returned (.slice (some ⟨g, 0, none⟩) C C) ∧ w.heap.size ≤ g ∧ Own W w.heap.size (.slice (some ⟨g, 0, none⟩) C C) (tab C EE) ∧ Below w.heap.size w W := by
  obtain ⟨h1, h2, h3, h4, h5⟩ := hc
  unfold codeV
  obtain ⟨w1, hw1, c0, c1, c2, c3, hB, _⟩ := code_box w D C F 23
  have HB := Lib.hid hB
  clear hB
  go_enter Tryz.func84, Tryz.ntmps84
  go_wp2_with (at_make; refine wpList_make1 rfl _ _ rfl C rfl rfl (by omega) (by omega) (B := w.heap.size) HB.out.size ?_; intro w2 ho2 hb2)
  obtain ⟨g, hg⟩ : ∃ g, w1.heap.size = g := ⟨_, rfl⟩
  rw [hg] at ho2 ⊢
  have hgw : w.heap.size ≤ g := by have := HB.out.size; omega
  have HB2 := Lib.hid (HB.out.trans hb2)
  rw [List.length_replicate, tab_replicate, ← part2_0 C EE] at ho2
  have HO2 := Lib.hid ho2
  clear ho2 hb2 c0 c1 c2 c3 hw1 HB hg
  go_loopw [10] (fun k wr => ∃ i : Nat, k = .int .i64 (i : Int) ∧ i ≤ C ∧ Own wr w.heap.size (.slice (some ⟨g, 0, none⟩) C C) (tab C (part2 EE (fun _ => 0) i)) ∧ Below w.heap.size w wr) (fun k _ => C - (intOf k).toNat)
  case atStart => exact ⟨0, rfl, by omega, HO2.out, HB2.out⟩
  case round =>
    clear HO2 HB2
    obtain ⟨i, rfl, hi, ho, hb⟩ := hrel
    have HO := Lib.hid ho
    have HB := Lib.hid hb
    clear ho hb
    by_cases hlt : i < C
    · have HE := Lib.hid (fun W => gexp i (by omega) W)
      have ha := (HO.out.at i (by rw [tab_len]; exact hlt)).2.2.2.2
      obtain ⟨ha1, ha2⟩ := ha
      go_wp2_with fail
      refine (HE.out _).mono ?_
      rintro e w2 ⟨rfl, m, rfl⟩
      have hst := (HO.out.drewN m)
      have hst2 : Own ((wr.drewN m).setCell ⟨g, i, none⟩ (.int .u8 ((EE i).v : Int))) w.heap.size (.slice (some ⟨g, 0, none⟩) C C) ((tab C (part2 EE (fun _ => 0) i)).set i (EE i)) := by
        have := Own.set (zs := tab C (part2 EE (fun _ => 0) i)) (cap := C) (g := g) (by rw [tab_len]; exact hst) i (EE i)
        rwa [tab_len] at this
      rw [part2_step _ _ _ _ hlt] at hst2
      have HST := Lib.hid hst2
      have HBT := Lib.hid ((belowN HB.out m).setCell (p := ⟨g, i, none⟩) hgw (.int .u8 ((EE i).v : Int)))
      clear hst hst2 HO HB
      go_wp2_with fail
      go_roundw
      case rel => exact ⟨i + 1, by go_num, hlt, HST.out, HBT.out⟩
      case measure => simp [intOf]; omega
    · obtain rfl : i = C := by omega
      rw [part2_all] at HO
      go_wp2_with fail
      go_ret
      exact ⟨g, rfl, hgw, HO.out, HB.out⟩
end Go.Proofs.YtmejneobfkbgeaaGreatDoor.P

namespace Go.Proofs.YtmejneobfkbgeaaGreatDoor.SM
open PM (G Co Van conv evn el ev addC smul)

theorem conv_ext_r {g g' : Co} : ∀ (k : Nat) (f : Co), (∀ j, j ≤ k → g j = g' j) → conv f g k = conv f g' k
  | 0, f, h => by rw [PM.conv_zero, PM.conv_zero, h 0 (Nat.le_refl 0)]
  | k + 1, f, h => by rw [PM.conv_succ, PM.conv_succ, h (k + 1) (Nat.le_refl _), conv_ext_r k (PM.sh f) (fun j hj => h j (by omega))]
theorem conv_ext_l {f f' g : Co} (k : Nat) (h : ∀ j, j ≤ k → f j = f' j) : conv f g k = conv f' g k := by
  rw [PM.conv_comm f, PM.conv_comm f', conv_ext_r k g h]
theorem evn_ext {f g : Co} (x : G) : ∀ n, (∀ k, k < n → f k = g k) → evn n f x = evn n g x := fun n h => by
  rw [evn_sum, evn_sum]
  exact lsum_ext (fun k hk => by rw [List.mem_range] at hk; rw [h k hk])
theorem evn_mono (x c : G) (L : Nat) : evn (L + 1) (PM.mono c L) x = c * pw x L := by
  rw [evn_sum, range_succ_sum, lsum_zero, G.zero_add]
  · unfold PM.mono; rw [if_pos rfl]
  · intro k hk
    rw [List.mem_range] at hk
    unfold PM.mono
    rw [if_neg (by omega), G.zero_mul]
/-- The value does not depend on the bound. -/
theorem evn_at {f : Co} {n N : Nat} (x : G) (h : Van f n) (hN : n ≤ N) : evn N f x = evn n f x := PM.evn_van x n N f h hN
theorem evn_conv' {f g : Co} {m n N : Nat} (x : G) (hf : Van f m) (hg : Van g n) (hN : m + n ≤ N) : evn N (conv f g) x = evn m f x * evn n g x := by
  cases n with
  | zero =>
    have h0 : ∀ k, conv f g k = 0 := fun k => by rw [PM.conv_comm, PM.van_zero hg, PM.conv_zeroC_l]
    rw [evn_sum, lsum_zero (fun k _ => by rw [h0, G.zero_mul]), show evn 0 g x = 0 from rfl, G.mul_zero]
  | succ n =>
    rw [evn_at (n := m + n) x (PM.conv_van f g m n hf hg) (by omega), ← PM.evn_conv x g (n + 1) hg m f hf]
    exact (evn_at x (PM.conv_van f g m n hf hg) (by omega)).symm
theorem conv_van' {f g : Co} {m n N : Nat} (hf : Van f m) (hg : Van g n) (hN : m + n ≤ N + 1) (hm : 0 < m ∨ 0 < n) : Van (conv f g) N := by
  cases n with
  | zero =>
    have h0 : ∀ k, conv f g k = 0 := fun k => by rw [PM.conv_comm, PM.van_zero hg, PM.conv_zeroC_l]
    exact fun k _ => h0 k
  | succ n => exact (PM.conv_van f g m n hf hg).mono (by omega)

/-- The sequence as a polynomial, its last element first. -/
def turned (L : Nat) (u : Nat → G) : Co := fun k => if k < L then u (L - 1 - k) else 0
theorem geo_lin (r : G) (L k : Nat) (hk : k < L) : conv (PM.lin r) (turned L (fun j => pw r j)) k = PM.mono (pw r L) 0 k := by
  rw [PM.conv_lin]
  unfold turned PM.mono
  rw [if_pos hk]
  cases k with
  | zero =>
    rw [if_pos rfl]
    show r * pw r (L - 1 - 0) + 0 = _
    rw [G.add_zero, G.mul_comm, ← pw_succ]
    congr 1; omega
  | succ k =>
    rw [if_neg (by omega)]
    show r * pw r (L - 1 - (k + 1)) + (if k < L then pw r (L - 1 - k) else 0) = 0
    rw [if_pos (by omega), G.mul_comm, ← pw_succ, show L - 1 - (k + 1) + 1 = L - 1 - k by omega, G.add_self]
theorem lin_conv_van {r : G} {f : Co} {n : Nat} (h : Van f n) : Van (conv (PM.lin r) f) (n + 1) := fun k hk => by
  rw [PM.conv_lin, h k (by omega), G.mul_zero, G.zero_add]
  cases k with
  | zero => rfl
  | succ k => exact h k (by omega)
theorem lin_evn (r x : G) {f : Co} {n N : Nat} (h : Van f n) (hN : n + 1 ≤ N) : evn N (conv (PM.lin r) f) x = (r + x) * evn n f x := by
  rw [evn_at x (lin_conv_van h) hN, ← evn_at (N := n + 2) x (lin_conv_van h) (by omega), evn_conv' x (PM.lin_van r) h (by omega), PM.evn_lin]
/-- The locator of the places, and what is left of its product with the sequence. -/
theorem lam_om {α : Type} (X a : α → G) (L : Nat) : ∀ (S : List α), S.Pairwise (fun i k => X i ≠ X k) → (∀ o ∈ S, a o ≠ 0) → (∀ o ∈ S, X o ≠ 0) →
    ∃ Lam Om : Co, Van Lam (S.length + 1) ∧ Van Om S.length ∧ (∀ k, k < L → conv Lam (turned L (fun j => lsum S (fun o => a o * pw (X o) j))) k = Om k) ∧
      (∀ y, evn (S.length + 1) Lam y = 0 ↔ ∃ o ∈ S, X o = y) ∧ ∀ o ∈ S, evn S.length Om (X o) ≠ 0
  | [], _, _, _ => by
    refine ⟨PM.oneC, PM.zeroC, fun k hk => by show (if k = 0 then G.one else 0) = 0; rw [if_neg (show ¬ k = 0 from fun h => by rw [h] at hk; exact absurd hk (by simp))], fun _ _ => rfl, fun k hk => ?_, fun y => ?_, fun o ho => absurd ho List.not_mem_nil⟩
    · rw [PM.conv_oneC]; unfold turned; rw [if_pos hk]; rfl
    · refine ⟨fun h => ?_, fun ⟨o, ho, _⟩ => absurd ho List.not_mem_nil⟩
      have : evn 1 PM.oneC y = G.one := by
        rw [show PM.oneC = PM.mono G.one 0 from rfl, evn_mono, pw_0, G.mul_one]
      rw [show ([] : List α).length + 1 = 1 from rfl, this] at h
      exact absurd h G.one_ne
  | o :: T, hX, ha, hne => by
    rw [List.pairwise_cons] at hX
    obtain ⟨Lam, Om, h1, h2, h3, h4, h5⟩ := lam_om X a L T hX.2 (fun o h => ha o (List.mem_cons_of_mem _ h)) (fun o h => hne o (List.mem_cons_of_mem _ h))
    have hL : Van (conv (PM.lin (X o)) Lam) (T.length + 1 + 1) := lin_conv_van h1
    have e1 : Van (conv (PM.lin (X o)) Om) (T.length + 1) := lin_conv_van h2
    have e2 : Van (smul (a o * pw (X o) L) Lam) (T.length + 1) := h1.smul _
    have hval : ∀ y, evn (T.length + 1) (addC (conv (PM.lin (X o)) Om) (smul (a o * pw (X o) L) Lam)) y = (X o + y) * evn T.length Om y + (a o * pw (X o) L) * evn (T.length + 1) Lam y := fun y => by
      rw [PM.evn_addC, PM.evn_smul, lin_evn _ _ h2 (by omega)]
    refine ⟨conv (PM.lin (X o)) Lam, addC (conv (PM.lin (X o)) Om) (smul (a o * pw (X o) L) Lam), by rw [List.length_cons]; exact hL, by rw [List.length_cons]; exact e1.addC e2, fun k hk => ?_, fun y => ?_, fun o' ho' => ?_⟩
    · have hs : turned L (fun j => lsum (o :: T) (fun o => a o * pw (X o) j)) = addC (turned L (fun j => lsum T (fun o => a o * pw (X o) j))) (smul (a o) (turned L (fun j => pw (X o) j))) := by
        funext j
        unfold turned addC smul
        by_cases h : j < L
        · simp only [if_pos h]; rw [lsum_cons, G.add_comm]
        · simp only [if_neg h]; rw [G.mul_zero, G.add_zero]
      rw [hs, PM.conv_add_r, PM.conv_smul_r, PM.conv_assoc]
      show _ = conv (PM.lin (X o)) Om k + (a o * pw (X o) L) * Lam k
      congr 1
      · exact conv_ext_r k _ (fun j hj => h3 j (by omega))
      · rw [conv_ext_l (f' := conv Lam (PM.lin (X o))) k (fun j _ => PM.conv_comm _ _ j), PM.conv_assoc, conv_ext_r (g' := PM.mono (pw (X o) L) 0) k Lam (fun j hj => geo_lin _ _ _ (by omega)), PM.conv_comm, PM.conv_mono, if_neg (Nat.not_lt_zero k), Nat.sub_zero, G.mul_assoc]
    · rw [List.length_cons, lin_evn _ _ h1 (by omega), G.mul_eq_zero, G.add_eq_zero, h4]
      constructor
      · rintro (h | ⟨o', h, e⟩)
        · exact ⟨o, List.mem_cons_self, h⟩
        · exact ⟨o', List.mem_cons_of_mem _ h, e⟩
      · rintro ⟨o', h, e⟩
        rcases List.mem_cons.1 h with rfl | h
        · exact .inl e
        · exact .inr ⟨o', h, e⟩
    · rw [List.length_cons, hval]
      rcases List.mem_cons.1 ho' with rfl | ho'
      · rw [G.add_self, G.zero_mul, G.zero_add]
        refine G.mul_ne (G.mul_ne (ha o' List.mem_cons_self) (pw_ne (hne o' List.mem_cons_self) L)) (fun h => ?_)
        obtain ⟨o2, h6, e⟩ := (h4 _).1 h
        exact hX.1 o2 h6 e.symm
      · rw [(h4 _).2 ⟨o', ho', rfl⟩, G.mul_zero, G.add_zero]
        exact G.mul_ne (fun h => hX.1 o' ho' (G.add_eq_zero.1 h)) (h5 o' ho')

/-- What Euclid's loop keeps. -/
structure Euc (L : Nat) (S : Co) (last next lf f : List G) : Prop where
  cl : PM.Can last
  cn : PM.Can next
  clf : PM.Can lf
  cf : PM.Can f
  less : next.length < last.length
  lessf : lf.length < f.length
  sum : last.length + f.length = L + 2
  det : ∀ k, conv (el f) (el last) k + conv (el lf) (el next) k = PM.mono G.one L k
  ln : ∀ k, k < L → el next k = conv (el f) S k
  ll : ∀ k, k < L → el last k = conv (el lf) S k
theorem can_top {p : List G} {n : Nat} (h : PM.Can p) (hp : p.length = n + 1) : el p n ≠ 0 := by
  have := h (by omega)
  rwa [show p.length - 1 = n by omega] at this
theorem len_of {p : List G} {f : Co} {n : Nat} (h : PM.Can p) (he : ∀ k, el p k = f k) (hv : Van f (n + 1)) (ht : f n ≠ 0) : p.length = n + 1 := by
  have h1 := PM.can_len h (n := n + 1) (fun k hk => by rw [he]; exact hv k hk)
  rcases Nat.lt_or_ge n p.length with h2 | h2
  · omega
  · exact absurd (PM.el_ge h2) (by rw [he]; exact ht)
theorem Euc.step {L : Nat} {S : Co} {last next lf f A r P s : List G} (h : Euc L S last next lf f) (heq : ∀ j, el last j = conv (el A) (el next) j + el r j) (hless : r.length < next.length) (hr : PM.Can r) (hA : PM.Can A)
    (hAl : A.length = last.length + 1 - next.length) (hP : ∀ k, el P k = conv (el A) (el f) k) (hs : PM.Can s) (hsum : ∀ k, el s k = addC (el lf) (el P) k) : Euc L S next r f s ∧ s.length = A.length + f.length - 1 := by
  have hl := h.less
  have hlf := h.lessf
  have hsu := h.sum
  have hs' : ∀ k, el s k = el lf k + conv (el A) (el f) k := fun k => by rw [hsum]; unfold addC; rw [hP]
  obtain ⟨m, hm⟩ : ∃ m, A.length = m + 1 := ⟨A.length - 1, by omega⟩
  obtain ⟨n, hn⟩ : ∃ n, f.length = n + 1 := ⟨f.length - 1, by omega⟩
  have hm1 : 1 ≤ m := by omega
  have htop := PM.conv_top (el A) (el f) m n (by rw [← hm]; exact PM.el_van A) (by rw [← hn]; exact PM.el_van f)
  have hsl : s.length = m + n + 1 := by
    refine len_of hs (f := fun k => el lf k + conv (el A) (el f) k) hs' (fun k hk => ?_) ?_
    · show el lf k + conv (el A) (el f) k = 0
      rw [PM.el_ge (by omega), htop.2 k hk, G.add_zero]
    · show el lf (m + n) + conv (el A) (el f) (m + n) ≠ 0
      rw [PM.el_ge (by omega), htop.1, G.zero_add]
      exact G.mul_ne (can_top hA hm) (can_top h.cf hn)
  have hrr : ∀ k, el r k = el last k + conv (el A) (el next) k := fun k => by
    rw [heq, G.add_comm (conv _ _ _), G.add_assoc, G.add_self, G.add_zero]
  refine ⟨⟨h.cn, hr, h.cf, hs, hless, by omega, by omega, fun k => ?_, fun k hk => ?_, h.ln⟩, by omega⟩
  · rw [← h.det k]
    have e1 : conv (el s) (el next) k = conv (el lf) (el next) k + conv (conv (el A) (el f)) (el next) k := by
      rw [conv_ext_l (f' := addC (el lf) (conv (el A) (el f))) k (fun j _ => hs' j), PM.conv_add_l]
    have e2 : conv (el f) (el r) k = conv (el f) (el last) k + conv (el f) (conv (el A) (el next)) k := by
      rw [conv_ext_r (g' := addC (el last) (conv (el A) (el next))) k _ (fun j _ => hrr j), PM.conv_add_r]
    have e3 : conv (conv (el A) (el f)) (el next) k = conv (el f) (conv (el A) (el next)) k := by
      rw [← PM.conv_assoc]
      exact conv_ext_l k (fun j _ => PM.conv_comm _ _ j)
    rw [e1, e2, e3, G.add_comm (conv (el f) (el last) k), ← G.add_assoc, G.add_assoc (conv (el lf) (el next) k), G.add_self, G.add_zero, G.add_comm]
  · rw [hrr, h.ll k hk, conv_ext_l (f' := addC (el lf) (conv (el A) (el f))) k (fun j _ => hs' j), PM.conv_add_l, PM.conv_assoc]
    congr 1
    exact conv_ext_r k _ (fun j hj => h.ln j (by omega))
/-- **The roots of the factor** that is left halfway are the elements of the wrong places. -/
theorem Euc.roots {α : Type} {X a : α → G} {W : List α} {L : Nat} {last next lf f : List G} {u : Nat → G} (h : Euc L (turned L u) last next lf f) (hstop : 2 * next.length < L + 2) (hgo : L + 2 ≤ 2 * last.length)
    (hX : W.Pairwise (fun i k => X i ≠ X k)) (ha : ∀ o ∈ W, a o ≠ 0) (hne : ∀ o ∈ W, X o ≠ 0) (hu : ∀ j, j < L → u j = lsum W (fun o => a o * pw (X o) j)) (hW : 2 * W.length ≤ L) (y : G) (hy : y ≠ 0) :
    ev f y = 0 ↔ ∃ o ∈ W, X o = y := by
  obtain ⟨Lam, Om, h1, h2, h3, h4, h5⟩ := lam_om X a L W hX ha hne
  have hsu := h.sum
  have hl := h.less
  have hlf := h.lessf
  have htu : turned L u = turned L (fun j => lsum W (fun o => a o * pw (X o) j)) := by
    funext k
    unfold turned
    by_cases hk : k < L
    · rw [if_pos hk, if_pos hk, hu _ (by omega)]
    · rw [if_neg hk, if_neg hk]
  rw [← htu] at h3
  have hv1 : Van (conv Lam (el next)) L := conv_van' h1 (PM.el_van next) (by omega) (.inl (by omega))
  have hv2 : Van (conv (el f) Om) L := conv_van' (PM.el_van f) h2 (by omega) (.inl (by omega))
  have hid : ∀ k, conv Lam (el next) k = conv (el f) Om k := fun k => by
    by_cases hk : k < L
    · rw [conv_ext_r (g' := conv (el f) (turned L u)) k Lam (fun j hj => h.ln j (by omega)), ← PM.conv_assoc, conv_ext_l (f' := conv (el f) Lam) k (fun j _ => PM.conv_comm _ _ j), PM.conv_assoc]
      exact conv_ext_r k _ (fun j hj => h3 j (by omega))
    · rw [hv1 k (by omega), hv2 k (by omega)]
  have hid' : ∀ y, evn (W.length + 1) Lam y * ev next y = ev f y * evn W.length Om y := fun y => by
    have e1 := evn_conv' (N := W.length + 1 + next.length + f.length + W.length) y h1 (PM.el_van next) (by omega)
    have e2 := evn_conv' (N := W.length + 1 + next.length + f.length + W.length) y (PM.el_van f) h2 (by omega)
    rw [show conv Lam (el next) = conv (el f) Om from funext hid] at e1
    exact e1.symm.trans e2
  constructor
  · intro h0
    have hd : ev f y * ev last y + ev lf y * ev next y = pw y L := by
      have e1 := evn_conv' (N := f.length + last.length + lf.length + next.length) y (PM.el_van f) (PM.el_van last) (by omega)
      have e2 := evn_conv' (N := f.length + last.length + lf.length + next.length) y (PM.el_van lf) (PM.el_van next) (by omega)
      have e3 : evn (f.length + last.length + lf.length + next.length) (PM.mono G.one L) y = pw y L := by
        rw [evn_at (n := L + 1) y (fun k hk => by unfold PM.mono; rw [if_neg (by omega)]) (by omega), evn_mono, G.one_mul]
      rw [show ev f y = evn f.length (el f) y from rfl, show ev last y = evn last.length (el last) y from rfl, show ev lf y = evn lf.length (el lf) y from rfl, show ev next y = evn next.length (el next) y from rfl, ← e1, ← e2, ← PM.evn_addC, ← e3]
      exact congrArg (fun g => evn _ g y) (funext h.det)
    rw [h0, G.zero_mul, G.zero_add] at hd
    have hn : ev next y ≠ 0 := fun e => pw_ne hy L (by rw [← hd, e, G.mul_zero])
    have := hid' y
    rw [h0, G.zero_mul] at this
    exact (h4 y).1 ((G.mul_eq_zero.1 this).resolve_right hn)
  · rintro ⟨o, ho, rfl⟩
    have := hid' (X o)
    rw [(h4 _).2 ⟨o, ho, rfl⟩, G.zero_mul] at this
    exact (G.mul_eq_zero.1 this.symm).resolve_right (h5 o ho)
/-- Where it begins. -/
theorem Euc.start {L : Nat} {u : Nat → G} {p0 p1 f0 : List G} (h0 : p0.length = L + 1) (h1 : ∀ k, el p0 k = PM.mono G.one L k) (hc1 : PM.Can p1) (h2 : ∀ k, el p1 k = turned L u k) (h3 : f0 = [G.one]) : Euc L (turned L u) p0 p1 [] f0 := by
  subst h3
  have hone : ∀ g k, conv (el [G.one]) g k = g k := fun g k => by
    rw [show el [G.one] = PM.oneC from funext (fun k => by cases k with | zero => rfl | succ k => rfl), PM.conv_oneC]
  have hl1 : p1.length ≤ L := PM.can_len hc1 (fun k hk => by rw [h2]; unfold turned; rw [if_neg (by omega)])
  refine ⟨fun _ => ?_, hc1, PM.can_nil, fun _ => by show G.one ≠ 0; exact G.one_ne, by omega, by simp, by simp; omega, fun k => ?_, fun k _ => ?_, fun k hk => ?_⟩
  · rw [h1, h0]; unfold PM.mono; rw [if_pos (by omega)]; exact G.one_ne
  · rw [hone, h1, show el ([] : List G) = PM.zeroC from rfl, PM.conv_zeroC_l, G.add_zero]
  · rw [hone, h2]
  · rw [h1, show el ([] : List G) = PM.zeroC from rfl, PM.conv_zeroC_l]; unfold PM.mono; rw [if_neg (by omega)]
end Go.Proofs.YtmejneobfkbgeaaGreatDoor.SM

namespace Go.Proofs.YtmejneobfkbgeaaGreatDoor.P
open Go
open PM (G el ev evn conv)
open SM (pw lsum lsum_ext range_shift range_succ_sum syn XE)

theorem EE_mul (i j : Nat) : EE i * EE j = EE (i + j) := G.ext' (FM.E_mul i j)
theorem EE_0 : EE 0 = G.one := rfl
theorem EE_pw (a : Nat) : ∀ b, pw (EE a) b = EE (a * b)
  | 0 => rfl
  | b + 1 => by rw [SM.pw_succ, EE_pw a b, EE_mul, Nat.mul_succ]
theorem EE_ne (k : Nat) : EE k ≠ 0 := fun h => FM.E_ne _ (congrArg G.v h)
theorem XE_EE (n i : Nat) : XE n i = EE (n - 1 - i) := rfl
theorem EE_inj {i j : Nat} (hi : i < 255) (hj : j < 255) (h : EE i = EE j) : i = j := by
  have := FM.E_inj (congrArg G.v h)
  rwa [Nat.mod_eq_of_lt hi, Nat.mod_eq_of_lt hj] at this
theorem lsum_rev (f : Nat → G) : ∀ n, lsum (List.range n) f = lsum (List.range n) (fun k => f (n - 1 - k))
  | 0 => rfl
  | n + 1 => by
    rw [range_succ_sum, lsum_rev f n, range_shift, G.add_comm]
    congr 1
    · exact lsum_ext (fun k hk => by rw [List.mem_range] at hk; congr 1; omega)
/-- The value of a word's polynomial is a syndrome. -/
theorem ev_syn (zs : List G) (j : Nat) : ev (pol zs) (EE j) = syn zs.length (XE zs.length) (el zs) j := by
  have hl : (pol zs).length ≤ zs.length := by
    refine PM.can_len ?_ (fun k hk => ?_)
    · unfold pol; exact PM.can_trimL _
    · rw [pol_el, if_neg (by omega)]
  rw [← PM.ev_any (pol zs) (EE j) hl, SM.evn_sum, lsum_rev]
  unfold syn
  refine lsum_ext (fun i hi => ?_)
  rw [List.mem_range] at hi
  rw [pol_el, if_pos (by omega), show zs.length - 1 - (zs.length - 1 - i) = i by omega, XE_EE, EE_pw, EE_pw, Nat.mul_comm]

/-- p has just the roots rs, and its last element is 1. -/
structure RootsP (rs p : List G) : Prop where
  pol : Pol p
  len : p.length = rs.length + 1
  top : el p rs.length = G.one
  val : ∀ y, ev p y = SM.prodY rs y
theorem ev_one (y : G) : ev [G.one] y = G.one := by
  show evn 1 (el [G.one]) y = _
  rw [PM.evn_succ]
  show G.one + y * 0 = G.one
  rw [G.mul_zero, G.add_zero]
theorem RootsP.nil : RootsP [] [G.one] := ⟨⟨fun _ => G.one_ne, by simp⟩, rfl, rfl, fun y => ev_one y⟩
theorem prodY_snoc (r y : G) : ∀ rs : List G, SM.prodY (rs ++ [r]) y = SM.prodY rs y * (y + r)
  | [] => by
    show (y + r) * G.one = G.one * (y + r)
    rw [G.mul_comm]
  | x :: rs => by
    show (y + x) * SM.prodY (rs ++ [r]) y = (y + x) * SM.prodY rs y * (y + r)
    rw [prodY_snoc r y rs, G.mul_assoc]
theorem el_two (r : G) : el [r, G.one] = PM.lin r := by
  funext k
  unfold PM.lin
  match k with
  | 0 => rfl
  | 1 => rfl
  | k + 2 => rw [if_neg (by omega), if_neg (by omega)]; rfl
theorem pol_two (r : G) : Pol [r, G.one] := ⟨fun _ => G.one_ne, by simp⟩
theorem RootsP.step {rs p q : List G} {r : G} (h : RootsP rs p) (hq : Pol q) (he : ∀ k, el q k = conv (el p) (el [r, G.one]) k) : RootsP (rs ++ [r]) q := by
  have hvan : PM.Van (el p) (rs.length + 1) := by rw [← h.len]; exact PM.el_van p
  have ht := PM.conv_top (el p) (el [r, G.one]) rs.length 1 hvan (PM.el_van [r, G.one])
  have h1 : el [r, G.one] 1 = G.one := rfl
  have hlen : q.length = rs.length + 1 + 1 := SM.len_of hq.can he ht.2 (by rw [ht.1, h.top, h1, G.mul_one]; exact G.one_ne)
  refine ⟨hq, by rw [List.length_append]; exact hlen, by rw [List.length_append]; show el q (rs.length + 1) = _; rw [he, ht.1, h.top, h1, G.mul_one], fun y => ?_⟩
  rw [prodY_snoc, ← h.val]
  have e1 := SM.evn_conv' (N := q.length + p.length + 2) y (PM.el_van p) (PM.el_van [r, G.one]) (by simp)
  rw [show conv (el p) (el [r, G.one]) = el q from (funext he).symm, PM.ev_any q y (by omega)] at e1
  rw [e1]
  show ev p y * evn 2 (el [r, G.one]) y = _
  rw [el_two, PM.evn_lin, G.add_comm]
/-- The values of the word that Encode makes. -/
theorem enc_syn {D C : Nat} {zs ws A r g : List G} (hn : zs.length = D + C) (hw : ws.length = D + C) (hz : ∀ i, D ≤ i → el zs i = 0) (hg : RootsP (tab C EE) g) (heq : ∀ j, el (pol zs) j = conv (el A) (el g) j + el r j) (hr : r.length < g.length)
    (hws : ∀ i, i < D + C → el ws i = if D ≤ i then el r (D + C - 1 - i) else el zs i) : ∀ j, j < C → syn ws.length (XE ws.length) (el ws) j = 0 := by
  intro j hj
  rw [← ev_syn]
  have hgl := hg.len
  rw [tab_len] at hgl
  have hconv : ∀ k, el (pol ws) k = conv (el A) (el g) k := fun k => by
    have hz' : conv (el A) (el g) k = el (pol zs) k + el r k := by rw [heq, G.add_assoc, G.add_self, G.add_zero]
    rw [hz', pol_el, pol_el, hw, hn]
    by_cases h : k < D + C
    · rw [if_pos h, if_pos h, hws _ (by omega)]
      by_cases h2 : D ≤ D + C - 1 - k
      · rw [if_pos h2, hz _ h2, G.zero_add]; congr 1; omega
      · rw [if_neg h2, PM.el_ge (p := r) (k := k) (by omega), G.add_zero]
    · rw [if_neg h, if_neg h, PM.el_ge (p := r) (k := k) (by omega), G.add_zero]
  have e1 := SM.evn_conv' (N := A.length + g.length + (pol ws).length) (EE j) (PM.el_van A) (PM.el_van g) (by omega)
  rw [show conv (el A) (el g) = el (pol ws) from (funext hconv).symm, PM.ev_any (pol ws) (EE j) (by omega)] at e1
  rw [e1]
  show _ * ev g (EE j) = 0
  rw [hg.val, SM.prodY_zero, G.mul_zero]
  unfold tab
  exact List.mem_map.2 ⟨j, List.mem_range.2 hj, rfl⟩
end Go.Proofs.YtmejneobfkbgeaaGreatDoor.P

namespace Go.Proofs.YtmejneobfkbgeaaGreatDoor.P
open Go Go.RowKit Go.Shelf

/-- A slice of two bytes that is written out. -/
theorem row_two (w : World) (c d : PM.G) (t : TypeId) : Row (w.alloc (.cells #[.int .u8 (c.v : Int), .int .u8 (d.v : Int)] t)) (some ⟨w.heap.size, 0, none⟩) [c, d] 2 := by
  refine ⟨Nat.le_refl _, by omega, fun j hj => ⟨w.heap.size, 0, rfl, ?_⟩⟩
  have hb : (w.alloc (.cells #[.int .u8 (c.v : Int), .int .u8 (d.v : Int)] t)).heap[w.heap.size]? = some (.cells #[.int .u8 (c.v : Int), .int .u8 (d.v : Int)] t) := Array.getElem?_push_size
  rw [cell_of_row _ _ _ _ _ _ hb]
  match j, hj with
  | 0, _ => rfl
  | 1, _ => rfl
theorem row_one (w : World) (c : PM.G) (t : TypeId) : Row (w.alloc (.cells #[.int .u8 (c.v : Int)] t)) (some ⟨w.heap.size, 0, none⟩) [c] 1 := by
  refine ⟨Nat.le_refl _, by omega, fun j hj => ⟨w.heap.size, 0, rfl, ?_⟩⟩
  have hb : (w.alloc (.cells #[.int .u8 (c.v : Int)] t)).heap[w.heap.size]? = some (.cells #[.int .u8 (c.v : Int)] t) := Array.getElem?_push_size
  rw [cell_of_row _ _ _ _ _ _ hb]
  match j, hj with
  | 0, _ => rfl

def eqB (p q : List PM.G) : Bool := decide (p = q)
end Go.Proofs.YtmejneobfkbgeaaGreatDoor.P

namespace Go.Proofs.YtmejneobfkbgeaaGreatDoor.P
open Go Go.RowKit Go.Shelf
attribute [local go_sem] Oper.semAt_some

/-- What Eval has reckoned when k elements are still to come. -/
def hor (p : List PM.G) (x : PM.G) (k : Nat) : PM.G := PM.evn (p.length - k) (fun i => PM.el p (k + i)) x
theorem hor_all (p : List PM.G) (x : PM.G) : hor p x p.length = 0 := by unfold hor; rw [Nat.sub_self]; rfl
theorem hor_zero (p : List PM.G) (x : PM.G) : hor p x 0 = PM.ev p x := by
  unfold hor PM.ev
  rw [Nat.sub_zero]; congr 1; funext i; rw [Nat.zero_add]
theorem hor_step (p : List PM.G) (x : PM.G) (k : Nat) (hk : k < p.length) : hor p x (k + 1) * x + PM.el p k = hor p x k := by
  unfold hor
  rw [show p.length - k = p.length - (k + 1) + 1 by omega, PM.evn_drop, PM.G.mul_comm, PM.G.add_comm]

def EvalI (w : World) (a : Option Addr) (cap : Nat) (p : List PM.G) (x : PM.G) (k : Nat) (W : World) : Prop :=
  (W.cell? ⟨w.heap.size, 0, none⟩ = some (.int .u8 (x.v : Int)) ∧ W.cell? ⟨w.heap.size + 1, 0, none⟩ = some (.int .u8 ((hor p x k).v : Int)) ∧ W.frozen? ⟨w.heap.size + 1, 0, none⟩ = false ∧ W.cell? ⟨w.heap.size + 1 + 1, 0, none⟩ = some (.slice a p.length cap)) ∧ Below w.heap.size w W

theorem evalI_own {w : World} {a : Option Addr} {cap : Nat} {p : List PM.G} {x : PM.G} {B0 : Nat} (hB0 : w.heap.size ≤ B0) : OwnFrom B0 (EvalI w a cap p x) :=
  OwnFrom.and (Own.from (fun _ _ _ _ hs hg hr => ⟨cell_kept hs.1 hg hr, cell_kept hs.2.1 hg hr, (frozen_kept hs.2.1 hg hr).trans hs.2.2.1, cell_kept hs.2.2.2 hg hr⟩) _) (ownFrom_below (Nat.le_refl _) hB0)

theorem eval_step {w W : World} {a : Option Addr} {cap : Nat} {p : List PM.G} {x : PM.G} {k B0 m : Nat} (hk : k < p.length) (hc0 : W.cell? ⟨w.heap.size, 0, none⟩ = some (.int .u8 (x.v : Int))) (hc1 : W.cell? ⟨w.heap.size + 1, 0, none⟩ = some (.int .u8 ((hor p x (k + 1)).v : Int)))
    (hf1 : W.frozen? ⟨w.heap.size + 1, 0, none⟩ = false) (hcb : W.cell? ⟨w.heap.size + 1 + 1, 0, none⟩ = some (.slice a p.length cap)) (hB : Below w.heap.size w W) :
    KeepsFrom B0 W ((W.drewN m).setCell ⟨w.heap.size + 1, 0, none⟩ (.int .u8 (bits BinOp.xor IntKind.u8 ((hor p x (k + 1) * x).v : Int) ((PM.el p k).v : Int)))) ∧
    EvalI w a cap p x k ((W.drewN m).setCell ⟨w.heap.size + 1, 0, none⟩ (.int .u8 (bits BinOp.xor IntKind.u8 ((hor p x (k + 1) * x).v : Int) ((PM.el p k).v : Int)))) := by
  rw [xor_G, hor_step p x k hk]
  have d0 : (W.drewN m).cell? ⟨w.heap.size, 0, none⟩ = some (.int .u8 (x.v : Int)) := hc0
  have d1 : (W.drewN m).cell? ⟨w.heap.size + 1, 0, none⟩ = some (.int .u8 ((hor p x (k + 1)).v : Int)) := hc1
  have df : (W.drewN m).frozen? ⟨w.heap.size + 1, 0, none⟩ = false := hf1
  have db : (W.drewN m).cell? ⟨w.heap.size + 1 + 1, 0, none⟩ = some (.slice a p.length cap) := hcb
  have dB : Below w.heap.size w (W.drewN m) := belowN hB m
  have dK : KeepsFrom B0 W (W.drewN m) := KeepsOthers.from (W := W) (W' := W.drewN m) ⟨Nat.le_refl _, fun _ _ h _ => h⟩ _
  generalize W.drewN m = W2 at *
  refine ⟨dK.trans ((KeepsOthers.setCell _ _ _).from _), ⟨(cell_other _ (by simp)).trans d0, World.cell?_setCell_same' _ _ _ (by rw [d1]; rfl), (World.frozen?_setCell _ _ _ _).trans df, (cell_other _ (by simp)).trans db⟩, dB.setCell (p := ⟨w.heap.size + 1, 0, none⟩) (by simp) _⟩

set_option maxRecDepth 100000 in
set_option maxHeartbeats 1000000 in
/-- **poly.Eval** -/
theorem eval_any (a : Option Addr) (cap : Nat) (p : List PM.G) (x : PM.G) (w : World) (hR : Row w a p cap) :
    Calls Tryz.prog 77 #[.slice a p.length cap, .int .u8 (x.v : Int)] w fun e W' => e = .returned (.int .u8 ((PM.ev p x).v : Int)) ∧ Below w.heap.size w W' := by
  have hroom := hR.room
  have hmost := hR.most
  refine (callsIn_wide (n := 6)).1 ?_
  refine callsIn_of_wp_marks Tryz.func77 rfl trivial ?_ rfl
  simp only [Tryz.ntmps77, List.size_toArray, List.length_cons, List.length_nil, Nat.reduceAdd, Nat.reduceSub, Array.replicate_succ, Array.replicate_zero, List.push_toArray, List.append_toArray, List.nil_append, List.cons_append]
  gi_wp2_with (refine ⟨trivial, ?_⟩; gi_at_call 123; refine (callsIn_wide.2 (backward_any _ _ _ _)).mono ?_; rintro e w' ⟨rfl, rfl⟩)
  have c0 := cell_new w (.int .u8 (x.v : Int)) 5
  have c1 := cell_new (w.alloc (.cells #[.int .u8 (x.v : Int)] 5)) (.int .u8 0) 5
  have f1 := frozen_new (w.alloc (.cells #[.int .u8 (x.v : Int)] 5)) (.int .u8 0) 5
  have c2 := cell_new ((w.alloc (.cells #[.int .u8 (x.v : Int)] 5)).alloc (.cells #[.int .u8 0] 5)) (.slice a p.length cap) 34
  simp only [World.size_alloc] at c1 f1 c2
  have hB0 : Below w.heap.size w (((w.alloc (.cells #[.int .u8 (x.v : Int)] 5)).alloc (.cells #[.int .u8 0] 5)).alloc (.cells #[.slice a p.length cap] 34)) := (((Below.refl _ w).alloc (Nat.le_refl _) _).alloc (by simp) _).alloc (by simp; omega) _
  refine wpIn_back (n := 6) (by omega) (Bs := w.heap.size + 1 + 1) rfl rfl a p.length cap (by omega) (fun j => ((PM.el p j).v : Int)) (EvalI w a cap p x) (fun _ _ _ => False) (evalI_own hB0.size) (fun _ _ _ _ _ hs _ _ => hs)
    ⟨⟨cell_later _ (cell_later _ c0), by rw [hor_all]; exact cell_later _ c1, frozen_later _ c1 f1, c2⟩, hB0⟩
    (fun k W h => h.1.2.2.2)
    (fun k W h hk => by
      obtain ⟨b, off, e, hc⟩ := (hR.below h.2).el k hk
      exact ⟨b, off, e, hc⟩)
    (fun k => { tmps := #[.slice a p.length cap, .int .u8 (x.v : Int), undef, .pointer (some ⟨w.heap.size, 0, none⟩), .int .u8 0, .pointer (some ⟨w.heap.size + 1, 0, none⟩), undef, .int .u8 ((PM.el p k).v : Int), .slice a p.length cap, .func (.func 146) #[] #[.pointer (some ⟨w.heap.size + 1 + 1, 0, none⟩)], .int .i64 (k : Int), .int .u8 ((PM.el p k).v : Int), undef, undef, undef, undef, undef, undef], defers := [] }) ?assign ?body ?done ?stop
  case assign =>
    intro l k W K hk hK
    gi_wp2
    exact hK
  case body =>
    clear c0 c1 f1 c2 hB0
    rintro l k W hl hrec ⟨⟨hc0, hc1, hf1, hcb⟩, hB⟩ hk
    clear hl hrec
    have HB := Lib.hid hB
    clear hB
    gi_wp2_with (refine ⟨trivial, ?_⟩; gi_at_call 120; refine (callsIn_wide.2 (fmul_any _ _ _)).mono ?_; rintro e w1 ⟨rfl, hd⟩; obtain ⟨m, rfl⟩ := hd)
    exact eval_step hk hc0 hc1 hf1 hcb HB.out
  case done =>
    rintro D W hD ⟨⟨hc0, hc1, hf1, hcb⟩, hB⟩ hK
    rw [hor_zero] at hc1
    have HB := Lib.hid hB
    clear hB c0 f1 c2 hB0
    gi_wp2
    refine ⟨by simp, .inl ⟨_, _, rfl, run_takeDeferred hK, ?_⟩⟩
    refine ⟨.int .u8 ((PM.ev p x).v : Int), ?_, rfl, HB.out.trans (belowK_b (w := w) (Nat.le_refl _) W D _ _ (by simp at hD; omega) hK rfl rfl)⟩
    simp [results, Tryz.f77, go_sem]
  case stop =>
    rintro D c k W _ _ h _
    exact h.elim
end Go.Proofs.YtmejneobfkbgeaaGreatDoor.P

namespace Go.Proofs.YtmejneobfkbgeaaGreatDoor.P
open Go Go.RowKit Go.Shelf
attribute [local go_sem] Oper.semAt_some

/-- The slice lies in memory that is made behind w. -/
def Loc (w : World) (a : Option Addr) : Prop := ∀ b o, a = some ⟨b, o, none⟩ → w.heap.size ≤ b
theorem own_loc {w W : World} {B n c : Nat} {a : Option Addr} {zs : List PM.G} (h : Own W B (.slice a n c) zs) (hB : w.heap.size ≤ B) : Loc w a := fun b o e => by
  subst e
  rcases h.parts with ⟨e, _⟩ | ⟨g, cap, e, hg, _⟩
  · cases e
  · cases e; omega
/-- The inverse of the top element. -/
theorem top_any (a : Option Addr) (cap : Nat) (q : List PM.G) (w : World) (hR : Row w a q cap) (h0 : 0 < q.length) :
    Calls Tryz.prog 149 #[.slice a q.length cap] w fun e W => e = .returned (.int .u8 ((PM.el q (q.length - 1)).inv.v : Int)) ∧ Dr w W := by
  obtain ⟨n, hn⟩ : ∃ n, q.length = n + 1 := ⟨q.length - 1, by omega⟩
  have hroom := hR.room
  have hmost := hR.most
  have hln : q.length - 1 = n := by omega
  rw [hln]
  obtain ⟨b, off, rfl, hc⟩ := hR.el n (by omega)
  rw [hn] at hroom ⊢
  have hn2 : n < 9223372036854775807 := by omega
  have e1 : ((n + 1 : Nat) : Int) = (n : Int) + 1 := rfl
  have HI := Lib.hid (inverse_any (PM.el q n).v (PM.el q n).lt)
  clear hR hln
  go_enter Tryz.func149, Tryz.ntmps149
  go_wp2_with (go_at_call 128; refine (HI.out _).mono ?_; rintro e w1 ⟨rfl, hd⟩)
  go_ret
  exact ⟨rfl, hd⟩

/-- What lies in memory when divide begins: its boxes. -/
structure Div3 (w w3 : World) (b : Option Addr) (cb n : Nat) : Prop where
  size : w3.heap.size = w.heap.size + 3
  below : Below w.heap.size w w3
  c0 : w3.cell? ⟨w.heap.size, 0, none⟩ = some (.slice b n cb)
  c1 : w3.cell? ⟨w.heap.size + 1, 0, none⟩ = some (.slice none 0 0)
  f1 : w3.frozen? ⟨w.heap.size + 1, 0, none⟩ = false
  c2 : w3.cell? ⟨w.heap.size + 1 + 1, 0, none⟩ = some (.slice none 0 0)
  f2 : w3.frozen? ⟨w.heap.size + 1 + 1, 0, none⟩ = false
theorem div3 (w : World) (b : Option Addr) (cb n : Nat) : Div3 w (((w.alloc (.cells #[.slice b n cb] 34)).alloc (.cells #[.slice none 0 0] 34)).alloc (.cells #[.slice none 0 0] 34)) b cb n := by
  have c0 := cell_new w (.slice b n cb) 34
  have c1 := cell_new (w.alloc (.cells #[.slice b n cb] 34)) (.slice none 0 0) 34
  have f1 := frozen_new (w.alloc (.cells #[.slice b n cb] 34)) (.slice none 0 0) 34
  have c2 := cell_new ((w.alloc (.cells #[.slice b n cb] 34)).alloc (.cells #[.slice none 0 0] 34)) (.slice none 0 0) 34
  have f2 := frozen_new ((w.alloc (.cells #[.slice b n cb] 34)).alloc (.cells #[.slice none 0 0] 34)) (.slice none 0 0) 34
  simp only [World.size_alloc] at c1 f1 c2 f2
  exact ⟨by simp, (((Below.refl _ w).alloc (Nat.le_refl _) _).alloc (by simp) _).alloc (by simp; omega) _, cell_later _ (cell_later _ c0), cell_later _ c1, frozen_later _ c1 f1, c2, f2⟩
/-- .. and when p has been cloned. -/
structure Div4 (w w4 : World) (a1 b : Option Addr) (c1 cb n : Nat) (p : List PM.G) : Prop where
  size : w.heap.size + 3 ≤ w4.heap.size
  below : Below w.heap.size w w4
  own : Own w4 (w.heap.size + 3) (.slice a1 p.length c1) p
  c0 : w4.cell? ⟨w.heap.size, 0, none⟩ = some (.slice b n cb)
  c1 : w4.cell? ⟨w.heap.size + 1, 0, none⟩ = some (.slice none 0 0)
  f1 : w4.frozen? ⟨w.heap.size + 1, 0, none⟩ = false
  c2 : w4.cell? ⟨w.heap.size + 1 + 1, 0, none⟩ = some (.slice none 0 0)
  f2 : w4.frozen? ⟨w.heap.size + 1 + 1, 0, none⟩ = false
theorem Div3.next {w w3 w4 : World} {a1 b : Option Addr} {c1 cb n : Nat} {p : List PM.G} (h : Div3 w w3 b cb n) (ho : Own w4 w3.heap.size (.slice a1 p.length c1) p) (hb : Below w3.heap.size w3 w4) : Div4 w w4 a1 b c1 cb n p := by
  have hs := h.size
  have hs4 := hb.size
  exact ⟨by omega, h.below.trans (hb.mono (by omega)), by rw [hs] at ho; exact ho, cell_below hb h.c0, cell_below hb h.c1, frozen_below hb h.c1 h.f1, cell_below hb h.c2, frozen_below hb h.c2 h.f2⟩

set_option maxRecDepth 100000 in
set_option maxHeartbeats 1000000 in
theorem divide_short (a b : Option Addr) (ca cb : Nat) (p q : List PM.G) (w : World) (ha : Row w a p ca) (hb : Row w b q cb) (hp : Pol p) (hl : p.length < q.length) :
    Calls Tryz.prog 127 #[.slice a p.length ca, .slice b q.length cb] w fun e W => (∃ a' cap', e = .returned (.tuple #[.slice none 0 0, .slice a' p.length cap']) ∧ Row W a' p cap' ∧ Loc w a') ∧ Below w.heap.size w W := by
  have hra := ha.room
  have hma := ha.most
  have hrb := hb.room
  have hmb := hb.most
  have hlp := hp.len
  have h3 := div3 w b cb q.length
  have HCL := Lib.hid (clone_any a p ca _ (ha.below h3.below) (by omega))
  have H3 := Lib.hid h3
  clear h3
  refine (callsIn_wide (n := 6)).1 ?_
  refine callsIn_of_wp_marks Tryz.func127 rfl trivial ?_ rfl
  refine wpIn_wide.2 ?_
  simp only [Tryz.ntmps127, List.size_toArray, List.length_cons, List.length_nil, Nat.reduceAdd, Nat.reduceSub, Array.replicate_succ, Array.replicate_zero, List.push_toArray, List.append_toArray, List.nil_append, List.cons_append]
  go_wp2_with fail
  generalize ((w.alloc (.cells #[.slice b q.length cb] 34)).alloc (.cells #[.slice none 0 0] 34)).alloc (.cells #[.slice none 0 0] 34) = w3 at *
  refine HCL.out.mono ?_
  rintro e w4 ⟨a1, c1, rfl, hown, hb4⟩
  have h4 := H3.out.next hown hb4
  have d0 := h4.c0
  have d1 := h4.c1
  have e1 := h4.f1
  have d2 := h4.c2
  have e2 := h4.f2
  have H4 := Lib.hid h4
  clear HCL H3 hown hb4 h4
  go_wp2_with fail
  go_region
  go_wp2
  have hs := H4.out.size
  have hO := ((((H4.out.own).setBelow (p := ⟨w.heap.size + 1 + 1, 0, none⟩) (by simp) (.slice a1 p.length c1)).setBelow (p := ⟨w.heap.size + 1, 0, none⟩) (by simp) (.slice none 0 0)).setBelow (p := ⟨w.heap.size + 1 + 1, 0, none⟩) (by simp) (.slice a1 p.length c1)).drewN 1
  have hB := belowN (((H4.out.below.setCell (p := ⟨w.heap.size + 1 + 1, 0, none⟩) (by simp; omega) (.slice a1 p.length c1)).setCell (p := ⟨w.heap.size + 1, 0, none⟩) (by simp) (.slice none 0 0)).setCell (p := ⟨w.heap.size + 1 + 1, 0, none⟩) (by simp; omega) (.slice a1 p.length c1)) 1
  refine ⟨.tuple #[.slice none 0 0, .slice a1 p.length c1], ?_, ⟨a1, c1, rfl, hO.rowAt, own_loc hO (by omega)⟩, hB⟩
  simp [results, Tryz.f127, go_sem, d1, d2]
end Go.Proofs.YtmejneobfkbgeaaGreatDoor.P

namespace Go.Proofs.YtmejneobfkbgeaaGreatDoor.P
open Go Go.RowKit Go.Shelf
open G.S (codeV Cd code_box)

/-- A store into another block. -/
theorem Row.other {W : World} {a : Option Addr} {zs : List PM.G} {cap : Nat} (h : Row W a zs cap) {p : Addr} (u : Value) (hp : ∀ b off, a = some ⟨b, off, none⟩ → 0 < zs.length → b ≠ p.block) : Row (W.setCell p u) a zs cap :=
  ⟨h.room, h.most, fun j hj => by
    obtain ⟨b, off, e, hc⟩ := h.el j hj
    exact ⟨b, off, e, (cell_other u (show b ≠ p.block from hp b off e (by omega))).trans hc⟩⟩
theorem Own.rowAtN {W : World} {B n cap : Nat} {a : Option Addr} {zs : List PM.G} (h : Own W B (.slice a n cap) zs) (hn : zs.length = n) : Row W a zs cap := by subst hn; exact h.rowAt
theorem el_split (zs : List PM.G) (k : Nat) (hk : k < zs.length) : zs.take (k + 1) = zs.take k ++ [PM.el zs k] := by
  rw [List.take_add_one, List.getElem?_eq_getElem hk, PM.el_lt hk]; rfl

set_option maxRecDepth 100000 in
set_option maxHeartbeats 1000000 in
/-- **symbol.withRoots** -/
theorem withRoots_any (a : Option Addr) (rs : List PM.G) (cap : Nat) (w : World) (hR : Row w a rs cap) (hl : rs.length ≤ 100) :
    Calls Tryz.prog 73 #[.slice a rs.length cap] w fun e W => (∃ p a' c', e = .returned (.slice a' p.length c') ∧ Row W a' p c' ∧ RootsP rs p ∧ Loc w a') ∧ Below w.heap.size w W := by
  have hroom := hR.room
  have hmost := hR.most
  have hr1 := row_one w PM.G.one 5
  have hb1 : Below w.heap.size w (w.alloc (.cells #[.int .u8 1] 5)) := (Below.refl _ w).alloc (Nat.le_refl _) _
  rw [one_int] at hr1
  have HR := Lib.hid hR
  obtain ⟨w1, hw1⟩ : ∃ w1, w.alloc (.cells #[.int .u8 1] 5) = w1 := ⟨_, rfl⟩
  rw [hw1] at hr1 hb1
  have HR1 := Lib.hid hr1
  have HB1 := Lib.hid hb1
  clear hR hr1 hb1
  go_enter Tryz.func73, Tryz.ntmps73
  go_wp2_with fail
  go_loopw [3, 9] (fun s k wr => ∃ (i : Nat) (p : List PM.G) (a' : Option Addr) (c' : Nat), k = .int .i64 (i : Int) ∧ i ≤ rs.length ∧ s = .slice a' p.length c' ∧ Row wr a' p c' ∧ RootsP (rs.take i) p ∧ Loc w a' ∧ Below w.heap.size w wr) (fun _ k _ => rs.length - (intOf k).toNat)
  case atStart => exact ⟨0, [PM.G.one], some ⟨w.heap.size, 0, none⟩, 1, rfl, by omega, rfl, HR1.out, RootsP.nil, (fun b o e => by cases e; exact Nat.le_refl _), HB1.out⟩
  case round =>
    clear HR1 HB1
    obtain ⟨i, p, a', c', rfl, hi, rfl, hr, hp, hlo, hb⟩ := hrel
    have HLO := Lib.hid hlo
    clear hlo
    have HRP := Lib.hid hr
    have HP := Lib.hid hp
    have HB := Lib.hid hb
    have HRS := Lib.hid (HR.out.below hb)
    clear hr hp hb
    by_cases hlt : i < rs.length
    · obtain ⟨b, off, rfl, hc⟩ := HRS.out.el i hlt
      obtain ⟨x, hx⟩ : ∃ x, PM.el rs i = x := ⟨_, rfl⟩
      rw [hx] at hc
      have HX := Lib.hid hx
      have ht := row_two wr x PM.G.one 5
      rw [one_int] at ht
      have hb2 : Below wr.heap.size wr (wr.alloc (.cells #[.int .u8 (x.v : Int), .int .u8 1] 5)) := (Below.refl _ wr).alloc (Nat.le_refl _) _
      obtain ⟨w2, hw2⟩ : ∃ w2, wr.alloc (.cells #[.int .u8 (x.v : Int), .int .u8 1] 5) = w2 := ⟨_, rfl⟩
      rw [hw2] at ht hb2
      have hm := mul_fitF a' (some ⟨wr.heap.size, 0, none⟩) c' 2 p [x, PM.G.one] w2 (HRP.out.below hb2) ht HP.out.pol (pol_two x) (by have := HP.out.len; omega) (by simp) (by have := HP.out.len; rw [List.length_take] at this; simp; omega)
      rw [show [x, PM.G.one].length = 2 from rfl] at hm
      have HM := Lib.hid hm
      have HB2 := Lib.hid (HB.out.trans (hb2.mono HB.out.size))
      clear hx ht hb2 hm
      go_wp2_with fail
      (with_reducible refine HM.out.mono ?_)
      rintro e w3 ⟨⟨q, a3, c3, rfl, hr3, hq, he, hl3⟩, hb3⟩
      have HL3 := Lib.hid (show Loc w a3 from fun b o e => Nat.le_trans HB2.out.size (hl3 b o e))
      clear hl3
      have HR3 := Lib.hid hr3
      have hs := HP.out.step hq he
      rw [← HX.out, ← el_split _ _ hlt] at hs
      have HS := Lib.hid hs
      have HB3 := Lib.hid (HB2.out.trans (hb3.mono HB2.out.size))
      clear hr3 hq he hb3 hs
      go_wp2_with fail
      go_roundw
      case rel => exact ⟨i + 1, q, a3, c3, by go_num, hlt, rfl, HR3.out, HS.out, HL3.out, HB3.out⟩
      case measure => simp [intOf]; omega
    · obtain rfl : i = rs.length := by omega
      rw [List.take_length] at HP
      go_wp2_with fail
      go_ret
      exact ⟨⟨p, a', c', rfl, HRP.out, HP.out, HLO.out⟩, HB.out⟩

set_option maxRecDepth 100000 in
set_option maxHeartbeats 1000000 in
/-- **symbol.syndromes** -/
theorem syndromes_in {D C F : Nat} (hc : Cd D C F) (a : Option Addr) (zs : List PM.G) (cap : Nat) (w : World) (hR : Row w a zs cap) (hl : zs.length ≤ 255) :
    Calls Tryz.prog 35 #[codeV D C F, .slice a zs.length cap] w fun e W => ∃ g, e = .returned (.slice (some ⟨g, 0, none⟩) C C) ∧ w.heap.size ≤ g ∧ Own W w.heap.size (.slice (some ⟨g, 0, none⟩) C C) (tab C (SM.syn zs.length (SM.XE zs.length) (PM.el zs))) ∧ Below w.heap.size w W := by
  obtain ⟨f, hf⟩ : ∃ f, SM.syn zs.length (SM.XE zs.length) (PM.el zs) = f := ⟨_, rfl⟩
  rw [hf]
  have HF := Lib.hid (show ∀ j, PM.ev (pol zs) (EE j) = f j from fun j => by rw [← hf]; exact ev_syn zs j)
  clear hf
  have HRT := Lib.hid (fun W => roots_any hc W)
  have hC := hc.c2
  unfold codeV at *
  obtain ⟨w1, hw1, c0, c1, c2, c3, hB, _⟩ := code_box w D C F 23
  have HB := Lib.hid hB
  have HPO := Lib.hid (polynomial_any a zs cap w1 (hR.below hB) hl)
  clear hB hR hc
  go_enter Tryz.func35, Tryz.ntmps35
  go_wp2_with fail
  (with_reducible refine HPO.out.mono ?_)
  rintro e w2 ⟨⟨a2, c2', rfl, hr2⟩, hb2⟩
  replace c0 := cell_below hb2 c0
  replace c1 := cell_below hb2 c1
  replace c2 := cell_below hb2 c2
  replace c3 := cell_below hb2 c3
  have HR2 := Lib.hid hr2
  have HB2 := Lib.hid (HB.out.trans (hb2.mono HB.out.size))
  clear hr2 hb2 HPO HB
  go_wp2_with fail
  (with_reducible refine (HRT.out _).mono ?_)
  rintro e w3 ⟨g, rfl, hg, ho, hb3⟩
  have HR3 := Lib.hid (HR2.out.below hb3)
  have HB3 := Lib.hid (HB2.out.trans (hb3.mono HB2.out.size))
  have hlt2 : ∀ b off, a2 = some ⟨b, off, none⟩ → 0 < (pol zs).length → b < g := fun b off e h0 => by
    subst e; have := HR2.out.lt h0; omega
  have HLT := Lib.hid hlt2
  have hgw : w.heap.size ≤ g := by have := HB2.out.size; omega
  rw [← part2_0 C f] at ho
  have HO := Lib.hid (ho.mono HB2.out.size)
  clear hb3 hlt2 ho c0 c1 c2 c3 hw1 HRT HR2 HB2 hg
  go_wp2_with fail
  go_loopw [15] (fun k wr => ∃ i : Nat, k = .int .i64 (i : Int) ∧ i ≤ C ∧ Own wr w.heap.size (.slice (some ⟨g, 0, none⟩) C C) (tab C (part2 f EE i)) ∧ Row wr a2 (pol zs) c2' ∧ Below w.heap.size w wr) (fun k _ => C - (intOf k).toNat)
  case atStart => exact ⟨0, rfl, by omega, HO.out, HR3.out, HB3.out⟩
  case round =>
    clear HO HR3 HB3
    obtain ⟨i, rfl, hi, ho, hr, hb⟩ := hrel
    have HO := Lib.hid ho
    have HRR := Lib.hid hr
    have HB := Lib.hid hb
    clear ho hr hb
    by_cases hlt : i < C
    · have ha := (HO.out.at i (by rw [tab_len]; exact hlt)).2.2.2.2
      rw [el_tab _ _ _ hlt, show part2 f EE i i = EE i by unfold part2; rw [if_neg (by omega)]] at ha
      obtain ⟨ha1, ha2⟩ := ha
      have he := eval_any a2 c2' (pol zs) (EE i) wr HRR.out
      rw [HF.out i] at he
      have HE := Lib.hid he
      obtain ⟨x, hx⟩ : ∃ x, EE i = x := ⟨_, rfl⟩
      rw [hx] at ha1 HE
      obtain ⟨y, hy⟩ : ∃ y, f i = y := ⟨_, rfl⟩
      rw [hy] at HE
      clear he hx
      go_wp2_with fail
      (with_reducible refine HE.out.mono ?_)
      rintro e w4 ⟨rfl, hb4⟩
      replace ha1 := cell_below hb4 ha1
      replace ha2 : w4.frozen? ⟨g, i, none⟩ = false := (((HO.out.below hb4).at i (by rw [tab_len]; exact hlt)).2.2.2.2).2
      have hst2 : Own (w4.setCell ⟨g, i, none⟩ (.int .u8 (y.v : Int))) w.heap.size (.slice (some ⟨g, 0, none⟩) C C) ((tab C (part2 f EE i)).set i y) := by
        have := Own.set (zs := tab C (part2 f EE i)) (cap := C) (g := g) (by rw [tab_len]; exact HO.out.below hb4) i y
        rwa [tab_len] at this
      rw [← hy, part2_step _ _ _ _ hlt, hy] at hst2
      have HST := Lib.hid hst2
      have HBT := Lib.hid ((HB.out.trans (hb4.mono HB.out.size)).setCell (p := ⟨g, i, none⟩) hgw (.int .u8 (y.v : Int)))
      have HRT := Lib.hid ((HRR.out.below hb4).other (p := ⟨g, i, none⟩) (.int .u8 (y.v : Int)) (fun b off e h0 => Nat.ne_of_lt (HLT.out b off e h0)))
      clear hst2 HO HB HRR hb4 HE hy
      go_wp2_with fail
      go_roundw
      case rel => exact ⟨i + 1, by go_num, hlt, HST.out, HRT.out, HBT.out⟩
      case measure => simp [intOf]; omega
    · obtain rfl : i = C := by omega
      rw [part2_all] at HO
      go_wp2_with fail
      go_ret
      exact ⟨g, rfl, hgw, HO.out, HB.out⟩
end Go.Proofs.YtmejneobfkbgeaaGreatDoor.P

namespace Go.Proofs.YtmejneobfkbgeaaGreatDoor.P
open Go Go.RowKit Go.Shelf
open G.S (codeV Cd code_box length_any box4_at)
open G (Box)

/-- The sum of p's elements times those of vs. -/
def weighV (vs p : List PM.G) (k : Nat) : PM.G := SM.lsum (List.range k) (fun k => PM.el p k * PM.el vs k)
theorem weighV_0 (vs p : List PM.G) : weighV vs p 0 = 0 := rfl
theorem weighV_step (vs p : List PM.G) (k : Nat) : weighV vs p (k + 1) = weighV vs p k + PM.el p k * PM.el vs k := SM.range_succ_sum _ _
attribute [irreducible] weighV

set_option maxRecDepth 100000 in
set_option maxHeartbeats 1000000 in
/-- **symbol.weigh** -/
theorem weigh_any (a b : Option Addr) (vs p : List PM.G) (ca cb : Nat) (w : World) (hV : Row w a vs ca) (hP : Row w b p cb) (hl : p.length ≤ vs.length) (_hl2 : vs.length ≤ 1000) :
    Calls Tryz.prog 75 #[.slice a vs.length ca, .slice b p.length cb] w fun e W => e = .returned (.int .u8 ((weighV vs p p.length).v : Int)) ∧ Dr w W := by
  have hr1 := hV.room
  have hm1 := hV.most
  have hr2 := hP.room
  have hm2 := hP.most
  have HV := Lib.hid hV
  have HP := Lib.hid hP
  clear hV hP
  go_enter Tryz.func75, Tryz.ntmps75
  go_wp2_with fail
  go_loopw [5, 10] (fun s k wr => ∃ i : Nat, k = .int .i64 (i : Int) ∧ i ≤ p.length ∧ s = .int .u8 ((weighV vs p i).v : Int) ∧ Dr w wr) (fun _ k _ => p.length - (intOf k).toNat)
  case atStart => exact ⟨0, rfl, by omega, by rw [weighV_0]; rfl, Dr.refl _⟩
  case round =>
    obtain ⟨i, rfl, hi, rfl, hd⟩ := hrel
    obtain ⟨m, rfl⟩ := hd
    obtain ⟨s, hs⟩ : ∃ s, weighV vs p i = s := ⟨_, rfl⟩
    have HS := Lib.hid hs
    rw [hs]
    clear hs
    by_cases hlt : i < p.length
    · obtain ⟨b1, off1, rfl, hc1⟩ := HP.out.el i hlt
      obtain ⟨b2, off2, rfl, hc2⟩ := HV.out.el i (by omega)
      obtain ⟨x, hx⟩ : ∃ x, PM.el p i = x := ⟨_, rfl⟩
      obtain ⟨y, hy⟩ : ∃ y, PM.el vs i = y := ⟨_, rfl⟩
      rw [hx] at hc1
      rw [hy] at hc2
      have hc1' : (w.drewN m).cell? ⟨b1, off1 + i, none⟩ = some (.int .u8 (x.v : Int)) := hc1
      have hc2' : (w.drewN m).cell? ⟨b2, off2 + i, none⟩ = some (.int .u8 (y.v : Int)) := hc2
      have hiv : i < vs.length := by omega
      have hst := weighV_step vs p i
      rw [hx, hy, HS.out] at hst
      have HST := Lib.hid hst
      have hxor := xor_G s (x * y)
      obtain ⟨z, hz⟩ : ∃ z, x * y = z := ⟨_, rfl⟩
      have HM := Lib.hid (fun W => fmul_any x y W)
      rw [hz] at hxor HM HST
      clear hx hy hc1 hc2 hst hz
      go_wp2_with fail
      (with_reducible refine (HM.out _).mono ?_)
      rintro e w2 ⟨rfl, m2, rfl⟩
      go_wp2_with fail
      go_roundw
      case rel => exact ⟨i + 1, by go_num, hlt, by rw [HST.out], ⟨m + m2, rfl⟩⟩
      case measure => simp [intOf]; omega
    · obtain rfl : i = p.length := by omega
      rw [← HS.out]
      go_wp2_with fail
      go_ret
      exact ⟨rfl, ⟨m, rfl⟩⟩

set_option maxRecDepth 100000 in
set_option maxHeartbeats 1000000 in
/-- **symbol.locator** -/
theorem locator_any {D C F : Nat} (hc : Cd D C F) (p : Nat) (hp : p < D + C) (w : World) :
    Calls Tryz.prog 78 #[codeV D C F, .int .i64 (p : Int)] w fun e W => e = .returned (.int .u8 ((SM.XE (D + C) p).v : Int)) ∧ Below w.heap.size w W := by
  have HLE := Lib.hid (fun W => length_any hc W)
  obtain ⟨h1, h2, h3, h4, h5⟩ := hc
  unfold codeV at *
  obtain ⟨w1, hw1, c0, c1, c2, c3, hB, _⟩ := code_box w D C F 23
  have HB := Lib.hid hB
  obtain ⟨d, hd⟩ : ∃ d, D + C - 1 - p = d := ⟨_, rfl⟩
  have HE := Lib.hid (fun W => gexp d (by omega) W)
  have HX := Lib.hid (show SM.XE (D + C) p = EE d by rw [XE_EE, hd])
  obtain ⟨m, hm⟩ : ∃ m, D + C = m := ⟨_, rfl⟩
  rw [hm] at HLE
  have hix : (m : Int) - 1 - (p : Int) = (d : Int) := by omega
  have hm1 : m ≤ 40 := by omega
  have hpm : p < m := by omega
  clear hB hd hm
  go_enter Tryz.func78, Tryz.ntmps78
  go_wp2_with fail
  (with_reducible refine (HLE.out _).mono ?_)
  rintro e w2 ⟨rfl, hb2⟩
  have HB2 := Lib.hid (HB.out.trans (hb2.mono HB.out.size))
  clear hb2
  go_wp2_with fail
  (with_reducible refine (HE.out _).mono ?_)
  rintro e w3 ⟨rfl, m3, rfl⟩
  go_wp2_with fail
  go_ret
  exact ⟨by rw [HX.out]; rfl, belowN HB2.out m3⟩

/-- The elements of places. -/
def locL (n : Nat) (ps : List Nat) : Nat → PM.G := fun k => SM.XE n (G.el ps k)
theorem loc_map (n : Nat) (ps : List Nat) : tab ps.length (locL n ps) = ps.map (SM.XE n) := by
  refine PM.ext_el (by rw [tab_len, List.length_map]) (fun k hk => ?_)
  rw [tab_len] at hk
  rw [el_tab _ _ _ hk, PM.el_lt (by rw [List.length_map]; exact hk), List.getElem_map]
  unfold locL
  rw [G.el_lt hk]
set_option maxRecDepth 100000 in
set_option maxHeartbeats 1000000 in
/-- **symbol.locators** -/
theorem locators_any {D C F : Nat} (hc : Cd D C F) (a : Option Addr) (ps : List Nat) (cap : Nat) (w : World) (hR : G.Row w a ps cap) (hl : ps.length ≤ 1000) (hp : ∀ k, k < ps.length → G.el ps k < D + C) :
    Calls Tryz.prog 74 #[codeV D C F, .slice a ps.length cap] w fun e W => ∃ g, e = .returned (.slice (some ⟨g, 0, none⟩) ps.length ps.length) ∧ w.heap.size ≤ g ∧ Own W w.heap.size (.slice (some ⟨g, 0, none⟩) ps.length ps.length) (tab ps.length (locL (D + C) ps)) ∧ Below w.heap.size w W := by
  have hroom := hR.room
  have hmost := hR.most
  have HR := Lib.hid hR
  have HLO := Lib.hid (fun p hp W => locator_any hc p hp W)
  have HPP := Lib.hid hp
  unfold codeV at *
  obtain ⟨w1, hw1, _, _, _, _, hB, hX⟩ := code_box w D C F 23
  have HB := Lib.hid hB
  have HX := Lib.hid hX
  obtain ⟨f, hf⟩ : ∃ f, locL (D + C) ps = f := ⟨_, rfl⟩
  have HF := Lib.hid hf
  rw [hf]
  have hbx := hX.lt
  clear hB hR hp hX hc hf
  go_enter Tryz.func74, Tryz.ntmps74
  go_wp2_with (at_make; refine wpList_make1 rfl _ _ rfl ps.length rfl rfl (by omega) (by omega) (B := w1.heap.size) (Nat.le_refl _) ?_; intro w2 ho2 hb2)
  obtain ⟨g, hg⟩ : ∃ g, w1.heap.size = g := ⟨_, rfl⟩
  have HX2 := Lib.hid (HX.out.below hb2)
  have HB2 := Lib.hid (HB.out.trans (hb2.mono HB.out.size))
  have hgw : w.heap.size ≤ g := by have := HB.out.size; omega
  have hbg : w.heap.size ≠ g := by omega
  rw [hg] at ho2 ⊢
  rw [List.length_replicate, tab_replicate, ← part2_0 ps.length f] at ho2
  have HO2 := Lib.hid (ho2.mono hgw)
  clear ho2 hb2 hw1 HB HX hg
  go_loopw [13] (fun k wr => ∃ i : Nat, k = .int .i64 (i : Int) ∧ i ≤ ps.length ∧ Own wr w.heap.size (.slice (some ⟨g, 0, none⟩) ps.length ps.length) (tab ps.length (part2 f (fun _ => 0) i)) ∧ Box wr w.heap.size 23 [.int .i64 2, .int .i64 (D : Int), .int .i64 (C : Int), .int .i64 (F : Int)] ∧ Below w.heap.size w wr) (fun k _ => ps.length - (intOf k).toNat)
  case atStart => exact ⟨0, rfl, by omega, HO2.out, HX2.out, HB2.out⟩
  case round =>
    clear HO2 HB2 HX2
    obtain ⟨i, rfl, hi, ho, hx, hb⟩ := hrel
    have HO := Lib.hid ho
    have HX := Lib.hid hx
    have HB := Lib.hid hb
    clear ho hb
    by_cases hlt : i < ps.length
    · obtain ⟨b, off, rfl, hcp⟩ := (HR.out.below HB.out).elN i hlt
      obtain ⟨c0, c1, c2, c3⟩ := box4_at hx
      have hpl := HPP.out i hlt
      obtain ⟨q, hq⟩ : ∃ q, G.el ps i = q := ⟨_, rfl⟩
      rw [hq] at hpl hcp
      have hfi : f i = SM.XE (D + C) q := by rw [← HF.out, ← hq]; rfl
      have HL := Lib.hid (HLO.out q hpl wr)
      rw [← hfi] at HL
      obtain ⟨y, hy⟩ : ∃ y, f i = y := ⟨_, rfl⟩
      rw [hy] at HL
      have HY := Lib.hid hy
      clear hx hq hy hfi
      go_wp2_with fail
      (with_reducible refine HL.out.mono ?_)
      rintro e w4 ⟨rfl, hb4⟩
      have ho4 := HO.out.below hb4
      have ha := (ho4.at i (by rw [tab_len]; exact hlt)).2.2.2.2
      obtain ⟨ha1, ha2⟩ := ha
      have hst2 : Own (w4.setCell ⟨g, i, none⟩ (.int .u8 (y.v : Int))) w.heap.size (.slice (some ⟨g, 0, none⟩) ps.length ps.length) ((tab ps.length (part2 f (fun _ => 0) i)).set i y) := by
        have := Own.set (zs := tab ps.length (part2 f (fun _ => 0) i)) (cap := ps.length) (g := g) (by rw [tab_len]; exact ho4) i y
        rwa [tab_len] at this
      rw [← HY.out, part2_step _ _ _ _ hlt, HY.out] at hst2
      have HST := Lib.hid hst2
      have HBT := Lib.hid ((HB.out.trans (hb4.mono HB.out.size)).setCell (p := ⟨g, i, none⟩) hgw (.int .u8 (y.v : Int)))
      have HXT := Lib.hid ((HX.out.below hb4).other (q := ⟨g, i, none⟩) (fun e => hbg e.symm) (.int .u8 (y.v : Int)))
      clear hst2 HO HB HX hb4 HL c0 c1 c2 c3 ho4
      go_wp2_with fail
      go_roundw
      case rel => exact ⟨i + 1, by go_num, hlt, HST.out, HXT.out, HBT.out⟩
      case measure => simp [intOf]; omega
    · obtain rfl : i = ps.length := by omega
      rw [part2_all] at HO
      go_wp2_with fail
      go_ret
      exact ⟨g, rfl, hgw, HO.out, HB.out⟩

set_option maxRecDepth 100000 in
set_option maxHeartbeats 1000000 in
/-- **symbol.power** -/
theorem spower_any (n : Nat) (hn : n ≤ 1000) (w : World) :
    Calls Tryz.prog 121 #[.int .i64 (n : Int)] w fun e W => ∃ p a c, e = .returned (.slice a p.length c) ∧ Row W a p c ∧ p.length = n + 1 ∧ (∀ k, PM.el p k = PM.mono PM.G.one n k) ∧ Below w.heap.size w W := by
  have e1 : ((n + 1 : Nat) : Int) = (n : Int) + 1 := rfl
  go_enter Tryz.func121, Tryz.ntmps121
  go_wp2_with (at_make; refine wpList_make1 rfl _ _ rfl (n + 1) rfl rfl (by omega) (by omega) (B := w.heap.size) (Nat.le_refl _) ?_; intro w2 ho2 hb2; have ha := (ho2.at n (by rw [List.length_replicate]; omega)).2.2.2.2; obtain ⟨ha1, ha2⟩ := ha)
  go_ret
  have hst := Own.set ho2 n PM.G.one
  refine ⟨(List.replicate (n + 1) (0 : PM.G)).set n PM.G.one, _, _, by rw [List.length_set, List.length_replicate]; rfl, ?_, by rw [List.length_set, List.length_replicate], fun k => ?_, hb2.setCell (p := ⟨w.heap.size, n, none⟩) (Nat.le_refl _) _⟩
  · have := hst.rowAtN (by rw [List.length_set])
    exact this
  · rw [PM.el_set (by rw [List.length_replicate]; omega), PM.el_replicate]; rfl
end Go.Proofs.YtmejneobfkbgeaaGreatDoor.P

namespace Go.Proofs.YtmejneobfkbgeaaGreatDoor.G
open Go Go.RowKit Go.Shelf

/-- r is where the first of the n is that is as wanted; -1: there is none. -/
def Idx (p : Nat → Prop) (n : Nat) (r : Int) : Prop :=
  (r = -1 ∧ ∀ j, j < n → ¬ p j) ∨ ∃ k : Nat, r = (k : Int) ∧ k < n ∧ p k ∧ ∀ j, j < k → ¬ p j
theorem Idx.any {p : Nat → Prop} {n : Nat} {r : Int} {t : Bool} (h : Idx p n r) (ht : t = true ↔ ∃ j, j < n ∧ p j) : decide (0 ≤ r) = t := by
  rw [Bool.eq_iff_iff, decide_eq_true_iff, ht]
  rcases h with ⟨rfl, h⟩ | ⟨k, rfl, h1, h2, _⟩
  · exact ⟨fun h => absurd h (by decide), fun ⟨j, h1, h2⟩ => absurd h2 (h j h1)⟩
  · exact ⟨fun _ => ⟨k, h1, h2⟩, fun _ => by omega⟩
theorem ret_bool {a b : Bool} (h : a = b) : Ending.returned (.bool a) = .returned (.bool b) := by rw [h]

set_option maxRecDepth 100000 in
set_option maxHeartbeats 1000000 in
/-- **slices.Index** of an int from 0 on. -/
theorem indexN_any (a : Option Addr) (zs : List Nat) (cap : Nat) (y : Nat) (w : World) (hR : Row w a zs cap) :
    Calls Tryz.prog 125 #[.slice a zs.length cap, .int .i64 (y : Int)] w fun e W => (∃ r, e = .returned (.int .i64 r) ∧ Idx (fun j => el zs j = y) zs.length r) ∧ w = W := by
  have hroom := hR.room
  have hmost := hR.most
  have HR := Lib.hid hR
  clear hR
  go_enter Tryz.func125, Tryz.ntmps125
  go_wp2_with fail
  go_loop [8] (fun i => ∃ k : Nat, i = .int .i64 (k : Int) ∧ k ≤ zs.length ∧ Hid (∀ j, j < k → ¬ el zs j = y)) (fun i => zs.length - (intOf i).toNat)
  case atStart => exact ⟨0, rfl, Nat.zero_le _, Lib.hid (fun j h => absurd h (Nat.not_lt_zero j))⟩
  case round =>
    obtain ⟨k, rfl, hk, HN⟩ := hrel
    by_cases hlt : k < zs.length
    · obtain ⟨b, off, rfl, hc⟩ := HR.out.elN k hlt
      by_cases he : el zs k = y
      · have HI := Lib.hid he
        have hb : ((y : Int) == ((el zs k : Nat) : Int)) = true := by rw [he]; simp
        clear he
        go_wp2_with fail
        go_ret
        exact ⟨⟨_, rfl, .inr ⟨k, rfl, hlt, HI.out, HN.out⟩⟩, rfl⟩
      · have hb : ((y : Int) == ((el zs k : Nat) : Int)) = false := by
          rw [beq_eq_false_iff_ne]
          intro e
          exact he (by omega)
        have HE := Lib.hid he
        clear he
        go_wp2_with fail
        go_round
        case rel => exact ⟨k + 1, by go_num, hlt, Lib.hid (fun j hj => by
          by_cases e : j = k
          · rw [e]; exact HE.out
          · exact HN.out j (by omega))⟩
        case measure => simp [intOf]; omega
    · obtain rfl : k = zs.length := by omega
      go_wp2_with fail
      go_ret
      exact ⟨⟨_, rfl, .inl ⟨rfl, HN.out⟩⟩, rfl⟩
/-- **slices.Contains** -/
theorem containsN_any (a : Option Addr) (zs : List Nat) (cap : Nat) (y : Nat) (t : Bool) (w : World) (hR : Row w a zs cap) (ht : decide (y ∈ zs) = t) :
    Calls Tryz.prog 79 #[.slice a zs.length cap, .int .i64 (y : Int)] w fun e W => e = .returned (.bool t) ∧ w = W := by
  have HI := Lib.hid (indexN_any a zs cap y w hR)
  have HT := Lib.hid (show t = true ↔ ∃ j, j < zs.length ∧ el zs j = y by
    rw [← ht, decide_eq_true_iff]
    constructor
    · intro h
      obtain ⟨j, h1, h2⟩ := List.getElem_of_mem h
      exact ⟨j, h1, by rw [el_lt h1]; exact h2⟩
    · rintro ⟨j, h1, h2⟩; rw [← h2]; exact el_mem h1)
  clear ht hR
  go_enter Tryz.func79, Tryz.ntmps79
  go_wp2_with fail
  refine HI.out.mono ?_
  rintro e w1 ⟨⟨r, rfl, hi⟩, rfl⟩
  have HX := Lib.hid (hi.any HT.out)
  clear hi
  go_wp2
  go_ret
  exact ⟨ret_bool HX.out, rfl⟩

set_option maxRecDepth 100000 in
set_option maxHeartbeats 1000000 in
/-- **slices.IndexFunc** of ints: the function only makes memory. -/
theorem indexFuncI_any (a : Option Addr) (cap : Nat) (zs : List Int) (w : World) (hR : IRow w a zs cap) (g : Nat) (lb : Array Value) (eg : ∀ args w, (callFunc g args).run Tryz.prog w = .ok (.enter g args) w) (p : Int → Bool)
    (hp : ∀ (x : Int) (W : World), Below w.heap.size w W → -9223372036854775808 ≤ x → x ≤ 9223372036854775807 → Calls Tryz.prog g (#[.int .i64 x] ++ lb) W fun e w' => e = .returned (.bool (p x)) ∧ Below W.heap.size W w')
    (hz : ∀ j, j < zs.length → -9223372036854775808 ≤ IN.el zs j ∧ IN.el zs j ≤ 9223372036854775807) :
    Calls Tryz.prog 117 #[.slice a zs.length cap, .func (.func g) #[] lb] w fun e w' => (∃ r, e = .returned (.int .i64 r) ∧ Idx (fun j => p (IN.el zs j) = true) zs.length r) ∧ Below w.heap.size w w' := by
  have hroom := hR.room
  have hmost := hR.most
  have HR := Lib.hid hR
  have HP := Lib.hid hp
  have HZ := Lib.hid hz
  clear hR hp hz
  go_enter Tryz.func117, Tryz.ntmps117
  go_wp2
  go_loopw [8] (fun i wr => ∃ k : Nat, i = .int .i64 (k : Int) ∧ k ≤ zs.length ∧ Hid (∀ j, j < k → ¬ p (IN.el zs j) = true) ∧ Below w.heap.size w wr) (fun i _ => zs.length - (intOf i).toNat)
  case atStart => exact ⟨0, rfl, Nat.zero_le _, Lib.hid (fun j hj => absurd hj (Nat.not_lt_zero _)), Below.refl _ _⟩
  case round =>
    obtain ⟨k, rfl, hk, hA, hb⟩ := hrel
    by_cases hlt : k < zs.length
    · obtain ⟨b, off, rfl, hcell⟩ := (HR.out.below hb).el k hlt
      obtain ⟨z1, z2⟩ := HZ.out k hlt
      obtain ⟨x, hx⟩ : ∃ x, IN.el zs k = x := ⟨_, rfl⟩
      rw [hx] at hcell z1 z2
      have hcall := HP.out x wr hb z1 z2
      have HX := Lib.hid hx
      have HB := Lib.hid hb
      clear hx hb
      cases hq : p x with
      | true =>
        rw [hq] at hcall
        have HQ := Lib.hid hq
        have HC := Lib.hid hcall
        clear hq hcall
        go_wp2_with (go_at_fn g; refine HC.out.mono ?_; rintro e w' ⟨rfl, hw⟩)
        go_ret
        exact ⟨⟨_, rfl, .inr ⟨k, rfl, hlt, by show p (IN.el zs k) = true; rw [HX.out]; exact HQ.out, hA.out⟩⟩, HB.out.trans (by first | (exact hw.mono HB.out.size) | (rename_i hw2 _; exact hw2.mono HB.out.size))⟩
      | false =>
        rw [hq] at hcall
        have HQ := Lib.hid hq
        have HC := Lib.hid hcall
        clear hq hcall
        go_wp2_with (go_at_fn g; refine HC.out.mono ?_; rintro e w' ⟨rfl, hw⟩; have HW := Lib.hid hw; clear hw)
        go_roundw
        case rel =>
          refine ⟨k + 1, by go_num, by omega, Lib.hid (fun j hj => ?_), HB.out.trans (HW.out.mono HB.out.size)⟩
          by_cases e : j = k
          · subst e; show ¬ p (IN.el zs j) = true; rw [HX.out, HQ.out]; decide
          · exact hA.out j (by omega)
        case measure => simp [intOf]; omega
    · go_wp2
      go_ret
      exact ⟨⟨_, rfl, .inl ⟨rfl, fun j hj => hA.out j (by omega)⟩⟩, hb⟩

def growRen : Go.Shelf.Ren := ⟨fun | 4 => 82 | n => n, fun | 0 => 0 | 3 => 3 | 4 => 4 | 9 => 9 | 20 => 20 | 22 => 24 | 25 => 3 | n => n, fun | n => n⟩
theorem growLays : Go.Proofs.Lays8.n4 Tryz.prog growRen := {
  mixed := by kernel_rfl
  f4 := ⟨Tryz.f82.name, by decide, Tryz.func82.trans (congrArg some (by kernel_rfl))⟩
  t0 := Tryz.underlying0
  a0 := Tryz.isAgg0
  z0 := Tryz.sizeOf0
  v0 := Tryz.zeroValue0
  t3 := Tryz.underlying3
  a3 := Tryz.isAgg3
  z3 := Tryz.sizeOf3
  v3 := Tryz.zeroValue3
  t4 := Tryz.underlying4
  a4 := Tryz.isAgg4
  z4 := Tryz.sizeOf4
  v4 := Tryz.zeroValue4
  t9 := Tryz.underlying9
  a9 := Tryz.isAgg9
  z9 := Tryz.sizeOf9
  v9 := Tryz.zeroValue9
  t20 := Tryz.underlying20
  a20 := Tryz.isAgg20
  z20 := Tryz.sizeOf20
  v20 := Tryz.zeroValue20
  t22 := Tryz.underlying24
  a22 := Tryz.isAgg24
  z22 := Tryz.sizeOf24
  v22 := Tryz.zeroValue24 }
/-- **slices.Grow** of nil. -/
theorem grow_nil (n : Nat) (hn : n ≤ 1000) (w : World) :
    Calls Tryz.prog 82 #[.slice none 0 0, .int .i64 (n : Int)] w fun e W => ∃ a c, e = .returned (.slice a 0 c) ∧ Own (α := Nat) W w.heap.size (.slice a 0 c) [] ∧ Below w.heap.size w W := by
  cases n with
  | zero =>
    refine (Any8.slices_Grow_room growLays none 0 0 0 w (Nat.le_refl _) (by omega) (by omega) (Nat.le_refl _)).mono ?_
    rintro e W ⟨rfl, rfl⟩
    exact ⟨none, 0, rfl, Own.nil _ _, Below.refl _ _⟩
  | succ n =>
    obtain ⟨i0, hi, hz0, hz1, hz2⟩ := info_parts (Elt.info (α := Nat))
    refine (Any8.slices_Grow_grow growLays i0 (.int .i64 0) hi hz0 (by rw [hz1]; decide) none 0 0 (n + 1) [] w (Nat.le_refl _) (by omega) (by rw [hz2]; show _ * 8 ≤ _; omega) (by omega) (by simp) (fun _ => rfl) (fun a h => by cases h)).mono ?_
    rintro e W ⟨rfl, rfl⟩
    have hc := grownCap_le_maxLen w (0 + (n + 1)) 0 (growRen.t 25) (by unfold maxLen; omega)
    have hge := grownCap_ge w (0 + (n + 1)) 0 (growRen.t 25)
    obtain ⟨G, hG⟩ : ∃ G, grownCap w (0 + (n + 1)) 0 (growRen.t 25) = G := ⟨_, rfl⟩
    rw [hG] at hc hge ⊢
    refine ⟨_, G, rfl, World.ownsRow_made (base := w.heap.size) (e := 3) (size := 1) w.drew _ G (Nat.le_refl _) hc ?_, (Below.refl _ w).drew.alloc (Nat.le_refl _) _⟩
    rw [Array.size_append, Array.size_append, size_zeroCells, size_zeroCells]
    simp [Value.cells]
    omega

set_option maxRecDepth 100000 in
set_option maxHeartbeats 1000000 in
/-- **slices.Concat** of two slices. -/
theorem concat_any (b : Nat) (a1 a2 : Option Addr) (ps qs : List Nat) (k1 k2 : Nat) (w : World) (hc0 : w.cell? ⟨b, 0, none⟩ = some (.slice a1 ps.length k1)) (hc1 : w.cell? ⟨b, 1, none⟩ = some (.slice a2 qs.length k2)) (h1 : Row w a1 ps k1) (h2 : Row w a2 qs k2) (hl1 : ps.length ≤ 400) (hl2 : qs.length ≤ 400) :
    Calls Tryz.prog 34 #[.slice (some ⟨b, 0, none⟩) 2 2] w fun e W => ∃ a c, e = .returned (.slice a (ps ++ qs).length c) ∧ Own W w.heap.size (.slice a (ps ++ qs).length c) (ps ++ qs) ∧ Below w.heap.size w W := by
  have hr1 := h1.room
  have hm1 := h1.most
  have hr2 := h2.room
  have hm2 := h2.most
  have H1 := Lib.hid h1
  have H2 := Lib.hid h2
  have HG := Lib.hid (grow_nil (ps.length + qs.length) (by omega) w)
  have e1 : ((ps.length + qs.length : Nat) : Int) = (ps.length : Int) + (qs.length : Int) := by omega
  rw [e1] at HG
  clear h1 h2 e1
  go_enter Tryz.func34, Tryz.ntmps34
  go_wp2
  go_loop [3, 11] (fun s k => (s = .int .i64 0 ∧ k = .int .i64 0) ∨ (s = .int .i64 (ps.length : Int) ∧ k = .int .i64 1) ∨ (s = .int .i64 ((ps.length : Int) + (qs.length : Int)) ∧ k = .int .i64 2)) (fun _ k => 2 - (intOf k).toNat)
  case atStart => exact .inl ⟨rfl, rfl⟩
  case round =>
    rcases hrel with ⟨rfl, rfl⟩ | ⟨rfl, rfl⟩ | ⟨rfl, rfl⟩
    · go_wp2_with fail
      go_round
      case rel => exact .inr (.inl ⟨by go_num, rfl⟩)
      case measure => simp [intOf]
    · go_wp2_with fail
      go_round
      case rel => exact .inr (.inr ⟨by go_num, rfl⟩)
      case measure => simp [intOf]
    · go_wp2_with fail
      refine HG.out.mono ?_
      rintro e w1 ⟨a, c, rfl, ho, hb⟩
      have HO := Lib.hid ho
      have HB := Lib.hid hb
      clear ho hb HG
      go_wp2
      go_loopw [6, 27] (fun s k wr => ∃ (xs : List Nat) (a' : Option Addr) (c' : Nat), s = .slice a' xs.length c' ∧ Own wr w.heap.size (.slice a' xs.length c') xs ∧ Below w.heap.size w wr ∧ ((xs = [] ∧ k = .int .i64 0) ∨ (xs = ps ∧ k = .int .i64 1) ∨ (xs = ps ++ qs ∧ k = .int .i64 2))) (fun _ k _ => 2 - (intOf k).toNat)
      case atStart => exact ⟨[], a, c, rfl, HO.out, HB.out, .inl ⟨rfl, rfl⟩⟩
      case round =>
        clear HO HB
        obtain ⟨xs, a', c', rfl, ho, hb, hk⟩ := hrel
        have HB := Lib.hid hb
        have HO := Lib.hid ho
        have H1' := Lib.hid (H1.out.below hb)
        have H2' := Lib.hid (H2.out.below hb)
        replace hc0 := cell_below hb hc0
        replace hc1 := cell_below hb hc1
        clear hb ho
        rcases hk with ⟨rfl, rfl⟩ | ⟨rfl, rfl⟩ | ⟨rfl, rfl⟩
        · go_wp2_with (at_builtin; refine wpList_appAny (α := Nat) (zs := []) (ys := ps) (B := w.heap.size) rfl _ _ rfl rfl HO.out rfl H1'.out (by simp; omega) HB.out.size ?_; intro a3 c3 w3 ho3 hb3)
          go_roundw
          case rel => exact ⟨ps, a3, c3, by simp, by simpa using ho3, HB.out.trans hb3, .inr (.inl ⟨rfl, rfl⟩)⟩
          case measure => simp [intOf]
        · go_wp2_with (at_builtin; refine wpList_appAny (α := Nat) (zs := xs) (ys := qs) (B := w.heap.size) rfl _ _ rfl rfl HO.out rfl H2'.out (by omega) HB.out.size ?_; intro a3 c3 w3 ho3 hb3)
          go_roundw
          case rel => exact ⟨xs ++ qs, a3, c3, by simp, by rw [List.length_append]; exact ho3, HB.out.trans hb3, .inr (.inr ⟨rfl, rfl⟩)⟩
          case measure => simp [intOf]
        · go_wp2_with fail
          go_ret
          exact ⟨a', c', rfl, HO.out, HB.out⟩
end Go.Proofs.YtmejneobfkbgeaaGreatDoor.G

namespace Go.Proofs.YtmejneobfkbgeaaGreatDoor.P
open Go Go.RowKit Go.Shelf
open G.S (codeV Cd code_box length_any within_yes within_no within_low box4_at)
open G (Box IRow Idx ret_bool)

theorem nz_any (x : PM.G) (w : World) :
    Calls Tryz.prog 72 #[.int .u8 (x.v : Int)] w fun e w' => e = .returned (.bool ((x.v : Int) != 0)) ∧ w' = w := by
  go_enter Tryz.func72, Tryz.ntmps72
  go_wp2
  go_ret
  exact ⟨rfl, rfl⟩
theorem enters_nz : ∀ args w, (callFunc 72 args).run Tryz.prog w = .ok (.enter 72 args) w := enters_of Tryz.func72 (by kernel_rfl) rfl
set_option maxRecDepth 100000 in
set_option maxHeartbeats 1000000 in
theorem indexFuncB_any (a : Option Addr) (cap : Nat) (zs : List PM.G) (w : World) (hR : Row w a zs cap) :
    Calls Tryz.prog 118 #[.slice a zs.length cap, .func (.func 72) #[] #[]] w fun e w' => (∃ r, e = .returned (.int .i64 r) ∧ Idx (fun j => PM.el zs j ≠ 0) zs.length r) ∧ w = w' := by
  have hroom := hR.room
  have hmost := hR.most
  have HR := Lib.hid hR
  have eg := enters_nz
  clear hR
  go_enter Tryz.func118, Tryz.ntmps118
  go_wp2
  go_loopw [8] (fun i wr => ∃ k : Nat, i = .int .i64 (k : Int) ∧ k ≤ zs.length ∧ Hid (∀ j, j < k → ¬ PM.el zs j ≠ 0) ∧ wr = w) (fun i _ => zs.length - (intOf i).toNat)
  case atStart => exact ⟨0, rfl, Nat.zero_le _, Lib.hid (fun j hj => absurd hj (Nat.not_lt_zero _)), rfl⟩
  case round =>
    obtain ⟨k, rfl, hk, hA, rfl⟩ := hrel
    by_cases hlt : k < zs.length
    · obtain ⟨b, off, rfl, hcell⟩ := HR.out.el k hlt
      obtain ⟨x, hx⟩ : ∃ x, PM.el zs k = x := ⟨_, rfl⟩
      rw [hx] at hcell
      have HX := Lib.hid hx
      have hcall := fun W => nz_any x W
      clear hx
      by_cases h0 : x = 0
      · rw [gv_zero h0] at hcall
        have H0 := Lib.hid h0
        have HC := Lib.hid hcall
        clear h0 hcall
        go_wp2_with (go_at_fn 72; refine (HC.out _).mono ?_; rintro e w' ⟨rfl, hw⟩; obtain rfl := hw.symm)
        go_roundw
        case rel =>
          refine ⟨k + 1, by go_num, by omega, Lib.hid (fun j hj => ?_), by first | rfl | trivial⟩
          by_cases e : j = k
          · subst e; rw [HX.out, H0.out]; exact fun h => h rfl
          · exact hA.out j (by omega)
        case measure => simp [intOf]; omega
      · rw [gv_ne h0] at hcall
        have H0 := Lib.hid h0
        have HC := Lib.hid hcall
        clear h0 hcall
        go_wp2_with (go_at_fn 72; refine (HC.out _).mono ?_; rintro e w' ⟨rfl, hw⟩; obtain rfl := hw.symm)
        go_ret
        exact ⟨⟨_, rfl, .inr ⟨k, rfl, hlt, by show PM.el zs k ≠ 0; rw [HX.out]; exact H0.out, hA.out⟩⟩, rfl⟩
    · go_wp2
      go_ret
      exact ⟨⟨_, rfl, .inl ⟨rfl, fun j hj => hA.out j (by omega)⟩⟩, rfl⟩
theorem containsB_any (a : Option Addr) (cap : Nat) (zs : List PM.G) (w : World) (hR : Row w a zs cap) (t : Bool) (ht : t = true ↔ ∃ j, j < zs.length ∧ PM.el zs j ≠ 0) :
    Calls Tryz.prog 71 #[.slice a zs.length cap, .func (.func 72) #[] #[]] w fun e w' => e = .returned (.bool t) ∧ w = w' := by
  have HI := Lib.hid (indexFuncB_any a cap zs w hR)
  have HT := Lib.hid ht
  clear hR ht
  go_enter Tryz.func71, Tryz.ntmps71
  go_wp2_with fail
  refine HI.out.mono ?_
  rintro e w1 ⟨⟨r, rfl, hi⟩, rfl⟩
  have HX := Lib.hid (hi.any HT.out)
  clear hi
  go_wp2
  go_ret
  exact ⟨ret_bool HX.out, rfl⟩
/-- **symbol.isZero** -/
theorem isZero_any (a : Option Addr) (cap : Nat) (zs : List PM.G) (w : World) (hR : Row w a zs cap) (t : Bool) (ht : t = true ↔ ∀ j, j < zs.length → PM.el zs j = 0) :
    Calls Tryz.prog 30 #[.slice a zs.length cap] w fun e w' => e = .returned (.bool t) ∧ w = w' := by
  have HC := Lib.hid (containsB_any a cap zs w hR (!t) (by
    cases t with
    | true => exact ⟨fun h => (by cases h), fun ⟨j, h1, h2⟩ => absurd (ht.1 rfl j h1) h2⟩
    | false =>
      refine ⟨fun _ => ?_, fun _ => rfl⟩
      apply Classical.byContradiction
      intro h
      have := ht.2 (fun j hj => Classical.byContradiction (fun h2 => h ⟨j, hj, h2⟩))
      cases this))
  clear hR ht
  go_enter Tryz.func30, Tryz.ntmps30
  go_wp2_with fail
  refine HC.out.mono ?_
  rintro e w1 ⟨rfl, rfl⟩
  go_wp2
  go_ret
  exact ⟨ret_bool (by cases t <;> rfl), rfl⟩

set_option maxRecDepth 100000 in
set_option maxHeartbeats 1000000 in
/-- **symbol.ascends** -/
theorem ascends_any (a : Option Addr) (cap : Nat) (zs : List Int) (w : World) (hR : IRow w a zs cap) (t : Bool) (ht : t = true ↔ ∀ k, k + 1 < zs.length → IN.el zs k < IN.el zs (k + 1)) :
    Calls Tryz.prog 70 #[.slice a zs.length cap] w fun e w' => e = .returned (.bool t) ∧ Dr w w' := by
  have hroom := hR.room
  have hmost := hR.most
  have HR := Lib.hid hR
  have HT := Lib.hid ht
  clear hR ht
  go_enter Tryz.func70, Tryz.ntmps70
  go_wp2_with fail
  go_loopw [3] (fun i wr => ∃ k : Nat, i = .int .i64 (k : Int) ∧ 1 ≤ k ∧ (k ≤ zs.length ∨ k = 1) ∧ Hid (∀ j, j + 1 < k → IN.el zs j < IN.el zs (j + 1)) ∧ Dr w wr) (fun i _ => zs.length - (intOf i).toNat)
  case atStart => exact ⟨1, rfl, Nat.le_refl _, .inr rfl, Lib.hid (fun j hj => by omega), Dr.refl _⟩
  case round =>
    obtain ⟨k, rfl, hk1, hk, hA, hd⟩ := hrel
    have HD := Lib.hid hd
    clear hd
    by_cases hlt : k < zs.length
    · obtain ⟨j, rfl⟩ : ∃ j, k = j + 1 := ⟨k - 1, by omega⟩
      obtain ⟨b, off, rfl, hcell⟩ := HR.out.el (j + 1) hlt
      obtain ⟨b', off', e', hcell'⟩ := HR.out.el j (by omega)
      cases e'
      have q1 : wr.drew.cell? ⟨b, off + (j + 1), none⟩ = some (.int .i64 (IN.el zs (j + 1))) := by obtain ⟨m, e⟩ := HD.out; rw [e]; exact hcell
      have q2 : wr.drew.cell? ⟨b, off + j, none⟩ = some (.int .i64 (IN.el zs j)) := by obtain ⟨m, e⟩ := HD.out; rw [e]; exact hcell'
      have hj0 : (0 : Int) ≤ (j : Int) + 1 := by omega
      obtain ⟨x, hx⟩ : ∃ x, IN.el zs j = x := ⟨_, rfl⟩
      obtain ⟨y, hy⟩ : ∃ y, IN.el zs (j + 1) = y := ⟨_, rfl⟩
      rw [hx] at q2
      rw [hy] at q1
      have HX := Lib.hid (And.intro hx hy)
      have ej : ((j + 1 : Nat) : Int) = (j : Int) + 1 := rfl
      clear hx hy hcell hcell'
      by_cases hle : y ≤ x
      · obtain rfl : t = false := by
          cases t with
          | false => rfl
          | true =>
            have := HT.out.1 rfl j hlt
            rw [HX.out.1, HX.out.2] at this
            omega
        clear HT HX
        go_wp2_with fail
        go_region
        go_wp2_with fail
        go_ret
        exact ⟨rfl, HD.out.drewN 1⟩
      · have HL := Lib.hid hle
        go_wp2_with fail
        go_region
        go_wp2_with fail
        go_roundw
        case rel =>
          refine ⟨j + 1 + 1, by go_num, by omega, .inl hlt, Lib.hid (fun i hi => ?_), HD.out.drewN 1⟩
          by_cases e : i = j
          · subst e; rw [HX.out.1, HX.out.2]; omega
          · exact hA.out i (by omega)
        case measure => simp [intOf]; omega
    · obtain rfl : t = true := by
        exact HT.out.2 (fun i hi => hA.out i (by omega))
      go_wp2
      go_ret
      exact ⟨rfl, HD.out⟩

theorem out_any {D C F : Nat} (hc : Cd D C F) (b : Nat) (x : Int) (w : World) (c0 : w.cell? ⟨b, 0, none⟩ = some (.int .i64 2)) (c1 : w.cell? ⟨b, 1, none⟩ = some (.int .i64 (D : Int))) (c2 : w.cell? ⟨b, 2, none⟩ = some (.int .i64 (C : Int))) (c3 : w.cell? ⟨b, 3, none⟩ = some (.int .i64 (F : Int)))
    (t : Bool) (ht : t = true ↔ ¬ (0 ≤ x ∧ x < ((D + C : Nat) : Int))) :
    Calls Tryz.prog 67 #[.int .i64 x, .pointer (some ⟨b, 0, none⟩)] w fun e w' => e = .returned (.bool t) ∧ Below w.heap.size w w' := by
  have hL := fun W => length_any hc W
  have h1 := hc.d2
  have h2 := hc.c2
  obtain ⟨m, hm⟩ : ∃ m, D + C = m := ⟨_, rfl⟩
  rw [hm] at hL ht
  have HL := Lib.hid hL
  have hm1 : m ≤ 40 := by omega
  have hW : ∀ W, Calls Tryz.prog 68 #[.int .i64 x, .int .i64 0, .int .i64 ((m : Int) - 1)] W fun e w' => e = .returned (.bool (!t)) ∧ W = w' := fun W => by
    cases t with
    | true =>
      have := ht.1 rfl
      by_cases h0 : 0 ≤ x
      · exact within_no _ _ _ h0 (by omega) W
      · exact within_low _ _ _ h0 W
    | false =>
      have : 0 ≤ x ∧ x < (m : Int) := Classical.byContradiction (fun h => by have := ht.2 h; cases this)
      exact within_yes _ _ _ this.1 (by omega) W
  have HW := Lib.hid hW
  unfold codeV at *
  clear hL hW ht hm hc
  go_enter Tryz.func67, Tryz.ntmps67
  go_wp2_with fail
  (with_reducible refine (HL.out _).mono ?_)
  rintro e w2 ⟨rfl, hb2⟩
  have HB2 := Lib.hid hb2
  clear hb2
  go_wp2_with fail
  (with_reducible refine (HW.out _).mono ?_)
  rintro e w3 ⟨rfl, rfl⟩
  go_wp2_with fail
  go_ret
  exact ⟨ret_bool (by cases t <;> rfl), HB2.out⟩
theorem enters_out : ∀ args w, (callFunc 67 args).run Tryz.prog w = .ok (.enter 67 args) w := enters_of Tryz.func67 (by kernel_rfl) rfl

/-- What is wrong with a list of places, as a number. -/
def PlErr (n C : Nat) (es : List Int) (r : Int) : Prop :=
  (r = 2 ∧ ∃ j, j < es.length ∧ ¬ (0 ≤ IN.el es j ∧ IN.el es j < (n : Int))) ∨
  ((∀ j, j < es.length → 0 ≤ IN.el es j ∧ IN.el es j < (n : Int)) ∧ ((r = 17 ∧ ¬ ∀ k, k + 1 < es.length → IN.el es k < IN.el es (k + 1)) ∨
    ((∀ k, k + 1 < es.length → IN.el es k < IN.el es (k + 1)) ∧ ((r = 3 ∧ C < es.length) ∨ (r = 0 ∧ es.length ≤ C)))))
theorem plErr_some (n C : Nat) (es : List Int) : ∃ r, PlErr n C es r := by
  by_cases h1 : ∃ j, j < es.length ∧ ¬ (0 ≤ IN.el es j ∧ IN.el es j < (n : Int))
  · exact ⟨2, .inl ⟨rfl, h1⟩⟩
  · have h1' : ∀ j, j < es.length → 0 ≤ IN.el es j ∧ IN.el es j < (n : Int) := fun j hj => Classical.byContradiction (fun h => h1 ⟨j, hj, h⟩)
    by_cases h2 : ∀ k, k + 1 < es.length → IN.el es k < IN.el es (k + 1)
    · by_cases h3 : C < es.length
      · exact ⟨3, .inr ⟨h1', .inr ⟨h2, .inl ⟨rfl, h3⟩⟩⟩⟩
      · exact ⟨0, .inr ⟨h1', .inr ⟨h2, .inr ⟨rfl, by omega⟩⟩⟩⟩
    · exact ⟨17, .inr ⟨h1', .inl ⟨rfl, h2⟩⟩⟩
end Go.Proofs.YtmejneobfkbgeaaGreatDoor.P

namespace Go.Proofs.YtmejneobfkbgeaaGreatDoor.P
open Go Go.RowKit Go.Shelf
open G.S (codeV Cd code_box length_any box4_at)
open G (Box IRow Idx ret_bool)

def outB (n : Nat) (x : Int) : Bool := !(decide (0 ≤ x) && decide (x < (n : Int)))
theorem outB_iff (n : Nat) (x : Int) : outB n x = true ↔ ¬ (0 ≤ x ∧ x < (n : Int)) := by
  unfold outB
  by_cases h1 : 0 ≤ x <;> by_cases h2 : x < (n : Int) <;> simp only [h1, h2, decide_true, decide_false, Bool.and_true, Bool.and_false, Bool.not_true, Bool.not_false, true_and, false_and, and_self, not_true, not_false_iff, Bool.false_eq_true]
theorem containsI_any (a : Option Addr) (cap : Nat) (zs : List Int) (w : World) (hR : IRow w a zs cap) (g : Nat) (lb : Array Value) (eg : ∀ args w, (callFunc g args).run Tryz.prog w = .ok (.enter g args) w) (p : Int → Bool)
    (hp : ∀ (x : Int) (W : World), Below w.heap.size w W → -9223372036854775808 ≤ x → x ≤ 9223372036854775807 → Calls Tryz.prog g (#[.int .i64 x] ++ lb) W fun e w' => e = .returned (.bool (p x)) ∧ Below W.heap.size W w')
    (hz : ∀ j, j < zs.length → -9223372036854775808 ≤ IN.el zs j ∧ IN.el zs j ≤ 9223372036854775807) (t : Bool) (ht : t = true ↔ ∃ j, j < zs.length ∧ p (IN.el zs j) = true) :
    Calls Tryz.prog 69 #[.slice a zs.length cap, .func (.func g) #[] lb] w fun e w' => e = .returned (.bool t) ∧ Below w.heap.size w w' := by
  have HI := Lib.hid (G.indexFuncI_any a cap zs w hR g lb eg p hp hz)
  have HT := Lib.hid ht
  clear hR ht hp hz
  go_enter Tryz.func69, Tryz.ntmps69
  go_wp2_with fail
  refine HI.out.mono ?_
  rintro e w1 ⟨⟨r, rfl, hi⟩, hb⟩
  have HX := Lib.hid (hi.any HT.out)
  have HB := Lib.hid hb
  clear hi hb
  go_wp2
  go_ret
  exact ⟨ret_bool HX.out, HB.out⟩

set_option maxRecDepth 100000 in
set_option maxHeartbeats 1000000 in
/-- **symbol.errorOfPlaces** -/
theorem errorOfPlaces_any {D C F : Nat} (hc : Cd D C F) (a : Option Addr) (es : List Int) (cap : Nat) (w : World) (hR : IRow w a es cap) (hz : ∀ j, j < es.length → -9223372036854775808 ≤ IN.el es j ∧ IN.el es j ≤ 9223372036854775807) (r : Int) (hr : PlErr (D + C) C es r) :
    Calls Tryz.prog 29 #[codeV D C F, .slice a es.length cap] w fun e w' => e = .returned (.int .i64 r) ∧ Below w.heap.size w w' := by
  have hroom := hR.room
  have hmost := hR.most
  have hmf : ∀ (fn : Fn) (first cap : Array Value) (w : World), (Instr.makeFunc fn first cap).run Tryz.prog w = .ok (.func fn first cap) w := fun _ _ _ _ => rfl
  obtain ⟨w1, hw1, c0, c1, c2, c3, hB, hX⟩ := code_box w D C F 23
  have HR1 := Lib.hid (hR.below hB)
  have hcon := fun (t : Bool) (ht : t = true ↔ ∃ j, j < es.length ∧ outB (D + C) (IN.el es j) = true) =>
    containsI_any a cap es w1 (hR.below hB) 67 #[.pointer (some ⟨w.heap.size, 0, none⟩)] enters_out (outB (D + C)) (fun x W hb _ _ =>
      out_any hc w.heap.size x W (G.cell_below hb c0) (G.cell_below hb c1) (G.cell_below hb c2) (G.cell_below hb c3) _ (outB_iff _ _)) hz t ht
  have HCON := Lib.hid hcon
  have HB := Lib.hid hB
  have hmem : (∃ j, j < es.length ∧ outB (D + C) (IN.el es j) = true) ↔ ∃ j, j < es.length ∧ ¬ (0 ≤ IN.el es j ∧ IN.el es j < ((D + C : Nat) : Int)) := by
    constructor
    · rintro ⟨j, h1, h2⟩; exact ⟨j, h1, (outB_iff _ _).1 h2⟩
    · rintro ⟨j, h1, h2⟩; exact ⟨j, h1, (outB_iff _ _).2 h2⟩
  have HMEM := Lib.hid hmem
  unfold codeV at *
  clear hB hR hz hcon hmem
  rcases hr with ⟨rfl, h⟩ | ⟨hall, hr⟩
  · have HC := Lib.hid (HCON.out true ⟨fun _ => HMEM.out.2 h, fun _ => rfl⟩)
    clear h HCON HMEM
    go_enter Tryz.func29, Tryz.ntmps29
    go_wp2_with fail
    (with_reducible refine HC.out.mono ?_)
    rintro e w2 ⟨rfl, hb2⟩
    go_wp2_with fail
    go_ret
    exact ⟨rfl, HB.out.trans (hb2.mono HB.out.size)⟩
  · have HC := Lib.hid (HCON.out false ⟨fun h => (by cases h), fun h => (by obtain ⟨j, h1, h2⟩ := HMEM.out.1 h; exact absurd (hall j h1) h2)⟩)
    clear hall HCON HMEM
    rcases hr with ⟨rfl, h⟩ | ⟨hasc, hr⟩
    · have HA := fun (W : World) (hr : IRow W a es cap) => ascends_any a cap es W hr false ⟨fun h => (by cases h), fun h2 => absurd h2 h⟩
      have HAS := Lib.hid HA
      clear h HA
      go_enter Tryz.func29, Tryz.ntmps29
      go_wp2_with fail
      (with_reducible refine HC.out.mono ?_)
      rintro e w2 ⟨rfl, hb2⟩
      have HB2 := Lib.hid (HB.out.trans (hb2.mono HB.out.size))
      have HA2 := Lib.hid (HAS.out w2 (HR1.out.below hb2))
      clear hb2
      go_wp2_with fail
      (with_reducible refine HA2.out.mono ?_)
      rintro e w3 ⟨rfl, m3, rfl⟩
      go_wp2_with fail
      go_ret
      exact ⟨rfl, belowN HB2.out m3⟩
    · have HA := fun (W : World) (hr : IRow W a es cap) => ascends_any a cap es W hr true ⟨fun _ => hasc, fun _ => rfl⟩
      have HAS := Lib.hid HA
      clear HA hasc
      rcases hr with ⟨rfl, h⟩ | ⟨rfl, h⟩
      · have hlt : (C : Int) < (es.length : Int) := by omega
        go_enter Tryz.func29, Tryz.ntmps29
        go_wp2_with fail
        (with_reducible refine HC.out.mono ?_)
        rintro e w2 ⟨rfl, hb2⟩
        have HB2 := Lib.hid (HB.out.trans (hb2.mono HB.out.size))
        have HA2 := Lib.hid (HAS.out w2 (HR1.out.below hb2))
        replace c2 := G.cell_below hb2 c2
        clear hb2
        go_wp2_with fail
        (with_reducible refine HA2.out.mono ?_)
        rintro e w3 ⟨rfl, m3, rfl⟩
        have c2' : (w2.drewN m3).cell? ⟨w.heap.size, 2, none⟩ = some (.int .i64 (C : Int)) := c2
        go_wp2_with fail
        go_ret
        exact ⟨rfl, belowN HB2.out m3⟩
      · have hlt : ¬ (C : Int) < (es.length : Int) := by omega
        go_enter Tryz.func29, Tryz.ntmps29
        go_wp2_with fail
        (with_reducible refine HC.out.mono ?_)
        rintro e w2 ⟨rfl, hb2⟩
        have HB2 := Lib.hid (HB.out.trans (hb2.mono HB.out.size))
        have HA2 := Lib.hid (HAS.out w2 (HR1.out.below hb2))
        replace c2 := G.cell_below hb2 c2
        clear hb2
        go_wp2_with fail
        (with_reducible refine HA2.out.mono ?_)
        rintro e w3 ⟨rfl, m3, rfl⟩
        have c2' : (w2.drewN m3).cell? ⟨w.heap.size, 2, none⟩ = some (.int .i64 (C : Int)) := c2
        go_wp2_with fail
        go_ret
        exact ⟨rfl, belowN HB2.out m3⟩

/-- The places at which two words differ. -/
def diff (xs ys : List PM.G) (n : Nat) : List Nat := (List.range n).filter (fun i => decide (PM.el xs i ≠ PM.el ys i))
theorem diff_yes {xs ys : List PM.G} {n : Nat} (h : PM.el xs n ≠ PM.el ys n) : diff xs ys (n + 1) = diff xs ys n ++ [n] := by
  unfold diff
  rw [List.range_succ, List.filter_append]
  simp [h]
theorem diff_no {xs ys : List PM.G} {n : Nat} (h : PM.el xs n = PM.el ys n) : diff xs ys (n + 1) = diff xs ys n := by
  unfold diff
  rw [List.range_succ, List.filter_append]
  simp [h]
theorem diff_le (xs ys : List PM.G) (n : Nat) : (diff xs ys n).length ≤ n := by
  unfold diff
  have := List.length_filter_le (fun i => decide (PM.el xs i ≠ PM.el ys i)) (List.range n)
  rwa [List.length_range] at this
theorem mem_diff {xs ys : List PM.G} {n i : Nat} : i ∈ diff xs ys n ↔ i < n ∧ PM.el xs i ≠ PM.el ys i := by
  unfold diff
  rw [List.mem_filter, List.mem_range, decide_eq_true_iff]
theorem diff_0 (xs ys : List PM.G) : diff xs ys 0 = [] := rfl
theorem beq_G {x y : PM.G} : ((x.v : Int) != (y.v : Int)) = decide (x ≠ y) := by
  rw [Bool.eq_iff_iff, bne_iff_ne, decide_eq_true_iff]
  exact ⟨fun h e => h (by rw [e]), fun h e => h (PM.G.ext' (by omega))⟩
attribute [irreducible] diff

set_option maxRecDepth 100000 in
set_option maxHeartbeats 1000000 in
/-- **symbol.differences** -/
theorem differences_any (a b : Option Addr) (xs ys : List PM.G) (ca cb n : Nat) (w : World) (hX : Row w a xs ca) (hY : Row w b ys cb) (hx : xs.length = n) (hy : ys.length = n) (hn : n ≤ 1000) :
    Calls Tryz.prog 36 #[.slice a n ca, .slice b n cb] w fun e W => ∃ a' c', e = .returned (.slice a' (diff xs ys n).length c') ∧ G.Own W w.heap.size (.slice a' (diff xs ys n).length c') (diff xs ys n) ∧ Below w.heap.size w W := by
  have hr1 := hX.room
  have hm1 := hX.most
  have hr2 := hY.room
  have hm2 := hY.most
  rw [hx] at hr1
  rw [hy] at hr2
  have HX := Lib.hid hX
  have HY := Lib.hid hY
  have HL := Lib.hid (And.intro hx hy)
  clear hX hY hx hy
  go_enter Tryz.func36, Tryz.ntmps36
  go_wp2
  go_loopw [5, 9] (fun s k wr => ∃ (i : Nat) (l : List Nat) (a' : Option Addr) (c' : Nat), k = .int .i64 (i : Int) ∧ i ≤ n ∧ l = diff xs ys i ∧ s = .slice a' l.length c' ∧ G.Own wr w.heap.size (.slice a' l.length c') l ∧ Below w.heap.size w wr) (fun _ k _ => n - (intOf k).toNat)
  case atStart => exact ⟨0, [], none, 0, rfl, by omega, (diff_0 xs ys).symm, rfl, G.Own.nil _ _, Below.refl _ _⟩
  case round =>
    obtain ⟨i, l, a', c', rfl, hi, hl, rfl, ho, hb⟩ := hrel
    have HO := Lib.hid ho
    have HB := Lib.hid hb
    have HLL := Lib.hid hl
    have HX1 := Lib.hid (HX.out.below hb)
    have HY1 := Lib.hid (HY.out.below hb)
    have hll : l.length ≤ 1000 := by have := diff_le xs ys i; rw [← hl] at this; omega
    clear ho hb hl
    by_cases hlt : i < n
    · obtain ⟨b1, o1, rfl, hc1⟩ := HX1.out.el i (by rw [HL.out.1]; exact hlt)
      obtain ⟨b2, o2, rfl, hc2⟩ := HY1.out.el i (by rw [HL.out.2]; exact hlt)
      obtain ⟨x, hx⟩ : ∃ x, PM.el xs i = x := ⟨_, rfl⟩
      obtain ⟨y, hy⟩ : ∃ y, PM.el ys i = y := ⟨_, rfl⟩
      rw [hx] at hc1
      rw [hy] at hc2
      have HXY := Lib.hid (And.intro hx hy)
      have q1 : wr.drew.cell? ⟨b1, o1 + i, none⟩ = some (.int .u8 (x.v : Int)) := hc1
      have q2 : wr.drew.cell? ⟨b2, o2 + i, none⟩ = some (.int .u8 (y.v : Int)) := hc2
      have hne := @beq_G x y
      clear hx hy hc1 hc2
      have HBD := Lib.hid (belowN HB.out 1)
      by_cases h : x = y
      · rw [decide_eq_false (fun h2 => h2 h)] at hne
        have HN := Lib.hid (show l = diff xs ys (i + 1) by rw [HLL.out]; exact (diff_no (by rw [HXY.out.1, HXY.out.2, h])).symm)
        clear h HXY
        go_wp2_with fail
        go_region
        go_wp2_with fail
        go_roundw
        case rel => exact ⟨i + 1, l, a', c', by go_num, hlt, HN.out, rfl, HO.out.drewN 1, HBD.out⟩
        case measure => simp [intOf]; omega
      · rw [decide_eq_true h] at hne
        have HN := Lib.hid (show l ++ [i] = diff xs ys (i + 1) by rw [HLL.out]; exact (diff_yes (by rw [HXY.out.1, HXY.out.2]; exact h)).symm)
        clear h HXY
        go_wp2_with fail
        go_region
        have HOD := Lib.hid (show G.Own wr.drew w.heap.size (.slice a' l.length c') l from HO.out.drewN 1)
        obtain ⟨wd, hwd⟩ : ∃ wd, wr.drew = wd := ⟨_, rfl⟩
        have hbd : Below w.heap.size w wd := by rw [← hwd]; exact HBD.out
        rw [hwd] at HOD ⊢
        have HBW := Lib.hid hbd
        clear hbd q1 q2 HBD HO HB
        go_wp2_with (at_builtin; refine G.wpList_app1 (α := Nat) rfl _ _ rfl i rfl (HOD.out.alloc _) rfl (G.cell_new _ _ _) (by omega) (by have := HBW.out.size; simp; omega) ?_; intro a3 c3 w3 ho3 hg3 hb3 _)
        go_roundw
        case rel =>
          refine ⟨i + 1, l ++ [i], a3, c3, by go_num, hlt, HN.out, by rw [List.length_append]; rfl, by rw [List.length_append]; exact ho3, ?_⟩
          exact HBW.out.trans (((Below.refl w.heap.size wd).alloc HBW.out.size _).trans hb3)
        case measure => simp [intOf]; omega
    · obtain rfl : i = n := by omega
      go_wp2
      go_ret
      exact ⟨a', c', by rw [← HLL.out]; rfl, by rw [← HLL.out]; exact HO.out, HB.out⟩
end Go.Proofs.YtmejneobfkbgeaaGreatDoor.P
