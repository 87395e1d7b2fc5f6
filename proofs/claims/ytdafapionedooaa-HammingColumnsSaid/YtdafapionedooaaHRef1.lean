/- ref06.weight, Columns. -/
import Derived.Test.YtdafapionedooaaHDec
namespace Go.Proofs.Ytdafapionedooaa.G.H
open Go Go.RowKit Go.Shelf

theorem i64_wrap (a : Nat) (h : a < 9223372036854775808) : IntKind.i64.wrap (a : Int) = (a : Int) := by
  simp [IntKind.wrap, IntKind.bits, IntKind.signed]; omega
theorem and_i64 (a b : Nat) (ha : a < 9223372036854775808) (hb : b < 9223372036854775808) : bits BinOp.and IntKind.i64 (a : Int) (b : Int) = ((a &&& b : Nat) : Int) := by
  show IntKind.i64.wrap ((BitVec.ofInt 64 a &&& BitVec.ofInt 64 b).toNat : Int) = _
  rw [BitVec.toNat_and, BitVec.ofInt_natCast, BitVec.ofInt_natCast, BitVec.toNat_ofNat, BitVec.toNat_ofNat, Nat.mod_eq_of_lt (by omega), Nat.mod_eq_of_lt (by omega)]
  exact i64_wrap _ (Nat.lt_of_le_of_lt Nat.and_le_left ha)

set_option maxRecDepth 100000 in
set_option maxHeartbeats 1000000 in
/-- **ref06.weight** -/
theorem weight_any (b : Nat) (hb : b < 256) (w : World) :
    Calls Try.prog 29 #[.int .i64 (b : Int)] w fun e W => e = .returned (.int .i64 (pc b : Int)) ∧ w = W := by
  obtain ⟨q, hq⟩ : ∃ q, pc b = q := ⟨_, rfl⟩
  have HQ := Lib.hid hq
  rw [hq]
  clear hq
  go_enter Try.func29, Try.ntmps29
  go_wp2_with fail
  have hq8 : q ≤ 8 := by rw [← HQ.out]; exact pc_le b hb
  go_loop [0, 3] (fun x n => ∃ m k : Nat, x = .int .i64 (m : Int) ∧ n = .int .i64 (k : Int) ∧ m < 256 ∧ k ≤ 8 ∧ Hid (k + pc m = q)) (fun x _ => (intOf x).toNat)
  case atStart => exact ⟨b, 0, rfl, rfl, hb, by decide, Lib.hid (by rw [HQ.out]; exact Nat.zero_add q)⟩
  case round =>
    clear HQ hb
    obtain ⟨m, k, rfl, rfl, hm, hk, HK⟩ := hrel
    by_cases h0 : m = 0
    · subst h0
      have HE := Lib.hid (show k = q by have := HK.out; rw [pc_zero] at this; omega)
      go_wp2_with fail
      go_ret
      exact ⟨ret_int (by rw [HE.out]), rfl⟩
    · obtain ⟨h1, h2⟩ := low_clear m hm h0
      have ha := and_i64 m (m - 1) (by omega) (by omega)
      obtain ⟨x, hx⟩ : ∃ x, m &&& (m - 1) = x := ⟨_, rfl⟩
      rw [hx] at h1 h2 ha
      rw [show ((m - 1 : Nat) : Int) = (m : Int) - 1 by omega] at ha
      have hb : ((m : Int) != 0) = true := by simp; exact h0
      have hkq := HK.out
      have HK2 : Hid (k + 1 + pc x = q) := Lib.hid (by omega)
      have hk8 : k + 1 ≤ 8 := by omega
      clear h1 hx hkq HK
      go_wp2_with fail
      go_round
      case rel => exact ⟨x, k + 1, rfl, by go_num, by omega, hk8, HK2⟩
      case measure => simp [intOf]; omega

def RColPost (w : World) (e : Ending) (W : World) : Prop := ∃ (a : Option Addr) (c : Nat), e = .returned (.slice a 72 c) ∧ Own W w.heap.size (.slice a 72 c) cols ∧ Below w.heap.size w W
/-- The list that is being made. -/
def LSt (w : World) (v : Value) (l : List Y) (W : World) : Prop := ∃ (a : Option Addr) (c : Nat), v = .slice a l.length c ∧ Own W w.heap.size (.slice a l.length c) l ∧ Below w.heap.size w W
theorem l_as {w W : World} {v : Value} {l l' : List Y} (h : LSt w v l W) (e : l = l') : LSt w v l' W := e ▸ h

set_option maxRecDepth 100000 in
set_option maxHeartbeats 4000000 in
/-- **ref06.Columns** -/
theorem rcolumns_any (w : World) :
    Calls Try.prog 26 #[] w (RColPost w) := by
  go_enter Try.func26, Try.ntmps26
  go_wp2_with fail
  go_loopw [1, 2] (fun v i wr => ∃ k : Nat, i = .int .i64 (k : Int) ∧ k ≤ 256 ∧ LSt w v (rl 3 k) wr) (fun _ i _ => 256 - (intOf i).toNat)
  case atStart => exact ⟨0, rfl, by decide, none, 0, by rw [rl_0]; rfl, by rw [rl_0]; exact Own.nil _ _, Below.refl _ _⟩
  case round =>
    obtain ⟨k, rfl, hk, a, c, rfl, ho, hb⟩ := hrel
    obtain ⟨l, hl⟩ : ∃ l, rl 3 k = l := ⟨_, rfl⟩
    rw [hl] at ho ⊢
    have hll : l.length ≤ 56 := by rw [← hl, ← rl3_len]; exact rl_mono 3 k 256 hk
    have HL := Lib.hid hl
    have HO := Lib.hid ho
    have HB := Lib.hid hb
    have hrm := ho.room
    clear hl ho hb
    by_cases hlt : k < 256
    · obtain ⟨p, hp⟩ : ∃ p, pc k = p := ⟨_, rfl⟩
      have hw := weight_any k hlt wr
      rw [hp] at hw
      have HW := Lib.hid hw
      have HP := Lib.hid hp
      clear hw hp
      by_cases h3 : p = 3
      · subst h3
        obtain ⟨y, hy⟩ : ∃ y : Y, k = y.toNat := ⟨BitVec.ofNat 8 k, by rw [BitVec.toNat_ofNat, Nat.mod_eq_of_lt hlt]⟩
        have HN : Hid (rl 3 (k + 1) = l ++ [y]) := Lib.hid (by rw [rl_yes HP.out, HL.out, hy, BitVec.ofNat_toNat, BitVec.setWidth_eq])
        subst hy
        go_wp2_with fail
        refine HW.out.mono ?_
        rintro e w1 ⟨rfl, rfl⟩
        go_wp2_with (at_builtin; refine wpList_app1 rfl _ _ rfl y rfl (HO.out.alloc _) rfl (cell_new _ _ _) (by omega) (by rw [World.size_alloc]; exact Nat.le_succ_of_le HB.out.size) ?_; intro a3 cap3 w3 hown3 hg3 hb3 _)
        have HO3 := Lib.hid hown3
        have HB3 := Lib.hid ((HB.out.alloc HB.out.size _).trans hb3)
        clear hown3 hg3 hb3
        go_roundw
        case rel => exact ⟨y.toNat + 1, by go_num, hlt, a3, cap3, by rw [HN.out, List.length_append]; rfl, by rw [HN.out, List.length_append]; exact HO3.out, HB3.out⟩
        case measure => simp [intOf]; omega
      · have hp3 : ((p : Int) == 3) = false := by rw [beq_eq_false_iff_ne]; omega
        have HN := Lib.hid ((rl_no (m := 3) (n := k) (by rw [HP.out]; exact h3)).trans HL.out)
        go_wp2_with fail
        refine HW.out.mono ?_
        rintro e w1 ⟨rfl, rfl⟩
        go_wp2_with fail
        go_roundw
        case rel => exact ⟨k + 1, by go_num, hlt, a, c, by rw [HN.out], by rw [HN.out]; exact HO.out, HB.out⟩
        case measure => simp [intOf]; omega
    · obtain rfl : k = 256 := by omega
      have HL56 := Lib.hid (show l.length = 56 by rw [← HL.out]; exact rl3_len)
      clear hrm hlt hk hll
      rw [show ((256 : Nat) : Int) = 256 from rfl]
      go_wp2_with fail
      go_loopw [1, 3] (fun v i wr => ∃ k : Nat, i = .int .i64 (k : Int) ∧ k ≤ 88 ∧ LSt w v (l ++ rl 5 k) wr) (fun _ i _ => 88 - (intOf i).toNat)
      case atStart => exact ⟨0, rfl, by decide, a, c, by rw [rl_0, List.append_nil], by rw [rl_0, List.append_nil]; exact HO.out, HB.out⟩
      case round =>
        clear HO HB
        obtain ⟨k, rfl, hk, a, c, rfl, ho, hb⟩ := hrel
        obtain ⟨l2, hl2⟩ : ∃ x, l ++ rl 5 k = x := ⟨_, rfl⟩
        have hlen : l2.length = 56 + (rl 5 k).length := by rw [← hl2, List.length_append, HL56.out]
        rw [hl2] at ho ⊢
        have HL2 := Lib.hid hl2
        have HO := Lib.hid ho
        have HB := Lib.hid hb
        have hrm := ho.room
        clear ho hb hl2
        by_cases hlt : k < 88
        · have hl64 : l2.length < 64 := by
            have := rl_mono 5 k 87 (by omega)
            rw [rl5_87] at this
            omega
          clear hlen
          obtain ⟨p, hp⟩ : ∃ p, pc k = p := ⟨_, rfl⟩
          have hw := weight_any k (by omega) wr
          rw [hp] at hw
          have HW := Lib.hid hw
          have HP := Lib.hid hp
          clear hw hp
          by_cases h3 : p = 5
          · subst h3
            obtain ⟨y, hy⟩ : ∃ y : Y, k = y.toNat := ⟨BitVec.ofNat 8 k, by rw [BitVec.toNat_ofNat, Nat.mod_eq_of_lt (by omega)]⟩
            have HN : Hid (l ++ rl 5 (k + 1) = l2 ++ [y]) := Lib.hid (by rw [rl_yes HP.out, ← List.append_assoc, HL2.out, hy, BitVec.ofNat_toNat, BitVec.setWidth_eq])
            subst hy
            go_wp2_with fail
            refine HW.out.mono ?_
            rintro e w1 ⟨rfl, rfl⟩
            go_wp2_with (at_builtin; refine wpList_app1 rfl _ _ rfl y rfl (HO.out.alloc _) rfl (cell_new _ _ _) (by omega) (by rw [World.size_alloc]; exact Nat.le_succ_of_le HB.out.size) ?_; intro a3 cap3 w3 hown3 hg3 hb3 _)
            have HO3 := Lib.hid hown3
            have HB3 := Lib.hid ((HB.out.alloc HB.out.size _).trans hb3)
            clear hown3 hg3 hb3
            go_roundw
            case rel => exact ⟨y.toNat + 1, by go_num, hlt, a3, cap3, by rw [HN.out, List.length_append]; rfl, by rw [HN.out, List.length_append]; exact HO3.out, HB3.out⟩
            case measure => simp [intOf]; omega
          · have hp3 : ((p : Int) == 5) = false := by rw [beq_eq_false_iff_ne]; omega
            have HN := Lib.hid (show l ++ rl 5 (k + 1) = l2 by rw [rl_no (m := 5) (n := k) (by rw [HP.out]; exact h3)]; exact HL2.out)
            go_wp2_with fail
            refine HW.out.mono ?_
            rintro e w1 ⟨rfl, rfl⟩
            go_wp2_with fail
            go_roundw
            case rel => exact ⟨k + 1, by go_num, hlt, a, c, by rw [HN.out], by rw [HN.out]; exact HO.out, HB.out⟩
            case measure => simp [intOf]; omega
        · obtain rfl : k = 88 := by omega
          have hl64 : l2.length = 64 := by rw [hlen, rl5_88]
          have HL3 := Lib.hid hl64
          have hge : 64 ≤ l2.length := by omega
          clear hlen hl64 hlt hk
          rw [show ((88 : Nat) : Int) = 88 from rfl]
          go_wp2_with fail
          go_loopw [1, 4] (fun v i wr => ∃ k : Nat, i = .int .i64 (k : Int) ∧ k ≤ 8 ∧ LSt w v (l2 ++ ones k) wr) (fun _ i _ => 8 - (intOf i).toNat)
          case atStart => exact ⟨0, rfl, by decide, a, c, by rw [ones_0, List.append_nil], by rw [ones_0, List.append_nil]; exact HO.out, HB.out⟩
          case round =>
            clear HO HB hrm hge
            obtain ⟨k, rfl, hk, a, c, rfl, ho, hb⟩ := hrel
            obtain ⟨l3, hl3⟩ : ∃ x, l2 ++ ones k = x := ⟨_, rfl⟩
            have hlen : l3.length = 64 + k := by rw [← hl3, List.length_append, HL3.out, ones_len]
            rw [hl3] at ho ⊢
            have HL4 := Lib.hid hl3
            have HO := Lib.hid ho
            have HB := Lib.hid hb
            have hrm := ho.room
            have hl72 : l3.length ≤ 72 := by omega
            have HLN := Lib.hid hlen
            clear ho hb hl3 hlen
            by_cases hlt : k < 8
            · have hsh := shl_Y hlt
              have HN : Hid (l2 ++ ones (k + 1) = l3 ++ [(1 : Y) <<< k]) := Lib.hid (by rw [ones_succ, ← List.append_assoc, HL4.out])
              obtain ⟨y, hy⟩ : ∃ y, (1 : Y) <<< k = y := ⟨_, rfl⟩
              rw [hy] at hsh HN
              clear hy
              go_wp2_with (at_builtin; refine wpList_app1 rfl _ _ rfl y rfl (HO.out.alloc _) rfl (cell_new _ _ _) (by omega) (by rw [World.size_alloc]; exact Nat.le_succ_of_le HB.out.size) ?_; intro a3 cap3 w3 hown3 hg3 hb3 _)
              have HO3 := Lib.hid hown3
              have HB3 := Lib.hid ((HB.out.alloc HB.out.size _).trans hb3)
              clear hown3 hg3 hb3 hsh
              go_roundw
              case rel => exact ⟨k + 1, by go_num, hlt, a3, cap3, by rw [HN.out, List.length_append]; rfl, by rw [HN.out, List.length_append]; exact HO3.out, HB3.out⟩
              case measure => simp [intOf]; omega
            · obtain rfl : k = 8 := by omega
              have HE := Lib.hid (show l3 = cols by rw [← HL4.out, ← HL2.out, ← HL.out]; exact cols_ref)
              go_wp2_with fail
              go_ret
              exact ⟨a, c, by show Ending.returned (Value.slice a l3.length c) = _; rw [HLN.out], by have := HO.out; rw [HE.out, cols_len] at this; exact this, HB.out⟩
end Go.Proofs.Ytdafapionedooaa.G.H
