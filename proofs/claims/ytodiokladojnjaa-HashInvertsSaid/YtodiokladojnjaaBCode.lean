/- bitmat.unitRows, sumOf, balance. -/
import Derived.Test.YtodiokladojnjaaBSolved
namespace Go.Proofs.Ytodiokladojnjaa.B
open Go Go.RowKit Go.Shelf
open BM (St)

theorem u64_mod (a : Nat) : IntKind.u64.wrap (a : Int) = ((a % 18446744073709551616 : Nat) : Int) := by
  simp [IntKind.wrap, IntKind.bits, IntKind.signed]
theorem shl_V (x : V) (k : Nat) : IntKind.u64.wrap ((x.toNat : Int) * 2 ^ k) = ((x <<< k).toNat : Int) := by
  rw [show (x.toNat : Int) * 2 ^ k = ((x.toNat * 2 ^ k : Nat) : Int) by rw [Int.natCast_mul, Int.natCast_pow]; rfl, u64_mod, BitVec.toNat_shiftLeft, Nat.shiftLeft_eq]
theorem shl_one (k : Nat) : IntKind.u64.wrap (2 ^ k) = ((1#64 <<< k).toNat : Int) := by
  have := shl_V 1#64 k
  rw [← this]
  congr 1
  rw [show ((1#64).toNat : Int) = 1 from rfl, Int.one_mul]
theorem mul_b1 (x : V) (b : Bool) : IntKind.u64.wrap ((x.toNat : Int) * ((b1 b).toNat : Int)) = ((if b then x else 0).toNat : Int) := by
  cases b
  · rw [show ((b1 false).toNat : Int) = 0 from rfl, Int.mul_zero]; rfl
  · rw [show ((b1 true).toNat : Int) = 1 from rfl, Int.mul_one]; exact u64_wrap _ x.lt
theorem u64_v {a b : Int} (h : a = b) : Value.int .u64 a = .int .u64 b := by rw [h]
theorem b1_shl (b : Bool) (k : Nat) : b1 b <<< k = if b then 1#64 <<< k else 0 := by
  cases b
  · show (0#64) <<< k = 0; simp
  · rfl

def unitF (k : Nat) : V := 1#64 <<< k
def UnitRel (w : World) (n : Nat) (i : Value) (W : World) : Prop :=
  ∃ k : Nat, i = .int .i64 (k : Int) ∧ k ≤ n ∧ Own W w.heap.size (.slice (some ⟨w.heap.size, 0, none⟩) n n) (tab n (fun j => if j < k then unitF j else 0)) ∧ Below w.heap.size w W
theorem tab_step {n k : Nat} {f : Nat → V} {y : V} (h : y = f k) : (tab n (fun j => if j < k then f j else 0)).set k y = tab n (fun j => if j < k + 1 then f j else 0) := by
  rw [tab_set]
  refine tab_ext (fun j hj => ?_)
  unfold upd
  by_cases e : j = k
  · subst e; rw [if_pos rfl, if_pos (Nat.lt_succ_self j), h]
  · rw [if_neg e]
    show (if j < k then f j else 0) = _
    by_cases h1 : j < k
    · rw [if_pos h1, if_pos (by omega)]
    · rw [if_neg h1, if_neg (by omega)]
theorem tab_done {n : Nat} {f : Nat → V} : tab n (fun j => if j < n then f j else 0) = tab n f := tab_ext (fun j hj => by rw [if_pos hj])
theorem tab_begin {n : Nat} {f : Nat → V} : List.replicate n (Elt.z : V) = tab n (fun j => if j < 0 then f j else 0) := tab_replicate n _
set_option maxRecDepth 100000 in
set_option maxHeartbeats 1000000 in
theorem unitRows_any (n : Nat) (w : World) (hn : n ≤ 64) :
    Calls Try.prog 39 #[.int .i64 (n : Int)] w fun e w' => e = .returned (.slice (some ⟨w.heap.size, 0, none⟩) n n) ∧ Own w' w.heap.size (.slice (some ⟨w.heap.size, 0, none⟩) n n) (tab n unitF) ∧ Below w.heap.size w w' := by
  go_enter Try.func39, Try.ntmps39
  go_wp2_with (at_make; refine wpList_make1 (α := V) rfl _ _ rfl n rfl rfl rfl (by omega) (B := w.heap.size) (Nat.le_refl _) ?_; intro w4 hown4 hb4; have HO4 := Lib.hid hown4; have HB4 := Lib.hid hb4; clear hown4 hb4)
  go_loopw [4, 9] (fun _ i wr => UnitRel w n i wr) (fun _ i _ => n - (intOf i).toNat)
  case atStart => exact ⟨0, rfl, Nat.zero_le _, by have := HO4.out; rw [tab_begin (f := unitF)] at this; exact this, HB4.out⟩
  case round =>
    obtain ⟨k, rfl, hk, ho, hB⟩ := hrel
    have HO := Lib.hid ho
    have HB := Lib.hid hB
    by_cases hlt : k < n
    · have hc := ho.cellV k (by rw [tab_len]; exact hlt)
      have hf := ho.free k (by rw [tab_len]; exact hlt)
      clear ho hB
      go_wp2_with fail
      go_roundw
      case rel =>
        refine ⟨k + 1, by go_num, hlt, ?_, HB.out.setCell (p := ⟨w.heap.size, k, none⟩) (Nat.le_refl _) _⟩
        rw [shl_one]
        have := HO.out.setV k (1#64 <<< k)
        rwa [tab_step (f := unitF) (y := 1#64 <<< k) rfl] at this
      case measure => simp [intOf]; omega
    · obtain rfl : k = n := by omega
      clear ho hB
      go_wp2_with fail
      go_ret
      exact ⟨rfl, by have := HO.out; rwa [tab_done] at this, HB.out⟩
set_option maxRecDepth 100000 in
set_option maxHeartbeats 1000000 in
theorem sumOf_any (a : Option Addr) (cap : Nat) (R : List V) (d : V) (w : World) (hR : Row w a R cap) :
    Calls Try.prog 42 #[.slice a R.length cap, .int .u64 (d.toNat : Int)] w fun e w' => e = .returned (.int .u64 ((BM.comb (el R) d R.length).toNat : Int)) ∧ w' = w := by
  have hroom := hR.room
  have hmost := hR.most
  have HR := Lib.hid hR
  clear hR
  go_enter Try.func42, Try.ntmps42
  go_wp2_with fail
  go_loopw [5, 6, 7, 10] (fun s _ _ i wr => ∃ k : Nat, i = .int .i64 (k : Int) ∧ k ≤ R.length ∧ s = .int .u64 ((BM.comb (el R) d k).toNat : Int) ∧ wr = w) (fun _ _ _ i _ => R.length - (intOf i).toNat)
  case atStart => exact ⟨0, rfl, Nat.zero_le _, rfl, rfl⟩
  case round =>
    obtain ⟨k, rfl, hk, rfl, rfl⟩ := hrel
    by_cases hlt : k < R.length
    · obtain ⟨b, off, rfl, hcell⟩ := HR.out.elV k hlt
      have HB := Lib.hid (bit_any d k wr)
      go_wp2_with fail
      refine HB.out.mono ?_
      rintro e w1 ⟨rfl, hw⟩
      obtain rfl := hw.symm
      go_wp2_with fail
      go_roundw
      case rel =>
        refine ⟨k + 1, by go_num, hlt, u64_v ?_, by first | rfl | trivial⟩
        rw [mul_b1, xor_V]
        rfl
      case measure => simp [intOf]; omega
    · obtain rfl : k = R.length := by omega
      go_wp2_with fail
      go_ret
      exact ⟨rfl, rfl⟩

/-- The vector for a column, of the first k pivots. -/
def bal (R : Nat → V) (P : Nat → Nat) (c : Nat) : Nat → V
  | 0 => 1#64 <<< c
  | k + 1 => bal R P c k ||| b1 (BM.bt (R k) c) <<< P k
theorem Sys.pivots {W : World} {B g m C gr cr gx cx : Nat} {s : St} (h : Sys W B g m C gr cr gx cx s) : ∃ ap cp, W.cell? ⟨g, 3, none⟩ = some (.slice ap s.P.length cp) ∧ Row W ap s.P cp ∧ s.P.length ≤ cp ∧ cp ≤ 9223372036854775807 := by
  obtain ⟨ap, cp, h1, h2, _⟩ := h.c3
  exact ⟨ap, cp, h1, h2.rowAt, h2.room.1, h2.room.2⟩
end Go.Proofs.Ytodiokladojnjaa.B
