/- slices.IndexFunc, ContainsFunc, Index, Contains; the closures of bitmat. -/
import Derived.Test.YtgaanojfjaifhaaBSys
import Derived.Shelf.GgClosure.Gives
namespace Go.Proofs.Ytgaanojfjaifhaa.B
open Go Go.RowKit Go.Shelf

/-- r is where the first of zs lies that is as wanted; -1: there is none. -/
def Idx {α : Type} [Elt α] (p : α → Bool) (zs : List α) (r : Int) : Prop :=
  (r = -1 ∧ ∀ j, j < zs.length → p (el zs j) = false) ∨ ∃ k : Nat, r = (k : Int) ∧ k < zs.length ∧ p (el zs k) = true ∧ ∀ j, j < k → p (el zs j) = false

set_option maxRecDepth 100000 in
set_option maxHeartbeats 1000000 in
theorem indexFunc_any (a : Option Addr) (cap : Nat) (zs : List V) (w : World) (hR : Row w a zs cap) (g : Nat) (lb : Array Value) (eg : ∀ args w, (callFunc g args).run Try.prog w = .ok (.enter g args) w) (p : V → Bool)
    (hp : ∀ x : V, Calls Try.prog g (#[.int .u64 (x.toNat : Int)] ++ lb) w fun e w' => e = .returned (.bool (p x)) ∧ w' = w) :
    Calls Try.prog 50 #[.slice a zs.length cap, .func (.func g) #[] lb] w fun e w' => (∃ r, e = .returned (.int .i64 r) ∧ Idx p zs r) ∧ w' = w := by
  have hroom := hR.room
  have hmost := hR.most
  have HR := Lib.hid hR
  have HP := Lib.hid hp
  clear hR hp
  go_enter Try.func50, Try.ntmps50
  go_wp2
  go_loopw [5, 8] (fun _ i wr => ∃ k : Nat, i = .int .i64 (k : Int) ∧ k ≤ zs.length ∧ Hid (∀ j, j < k → p (el zs j) = false) ∧ wr = w) (fun _ i _ => zs.length - (intOf i).toNat)
  case atStart => exact ⟨0, rfl, Nat.zero_le _, Lib.hid (fun j hj => absurd hj (Nat.not_lt_zero _)), rfl⟩
  case round =>
    obtain ⟨k, rfl, hk, hA, rfl⟩ := hrel
    by_cases hlt : k < zs.length
    · obtain ⟨b, off, rfl, hcell⟩ := HR.out.elV k hlt
      have hcall := HP.out (el zs k)
      cases hq : p (el zs k) with
      | true =>
        rw [hq] at hcall
        have HQ := Lib.hid hq
        have HC := Lib.hid hcall
        clear hq hcall
        go_wp2_with (go_at_fn g; refine HC.out.mono ?_; rintro e w' ⟨rfl, hw⟩)
        go_ret
        exact ⟨⟨_, rfl, .inr ⟨k, rfl, hlt, HQ.out, hA.out⟩⟩, by first | rfl | exact hw⟩
      | false =>
        rw [hq] at hcall
        have HQ := Lib.hid hq
        have HC := Lib.hid hcall
        clear hq hcall
        go_wp2_with (go_at_fn g; refine HC.out.mono ?_; rintro e w' ⟨rfl, hw⟩; obtain rfl := hw.symm)
        go_roundw
        case rel =>
          refine ⟨k + 1, by go_num, by omega, Lib.hid (fun j hj => ?_), by first | rfl | trivial⟩
          by_cases e : j = k
          · subst e; exact HQ.out
          · exact hA.out j (by omega)
        case measure => simp [intOf]; omega
    · go_wp2
      go_ret
      exact ⟨⟨_, rfl, .inl ⟨rfl, fun j hj => hA.out j (by omega)⟩⟩, rfl⟩
theorem elimBit_any (g : Nat) (c : Nat) (v : V) (w : World) (hc : w.cell? ⟨g, 0, none⟩ = some (.int .i64 (c : Int))) :
    Calls Try.prog 52 #[.int .u64 (v.toNat : Int), .pointer (some ⟨g, 0, none⟩)] w fun e w' => e = .returned (.bool (BM.bt v c)) ∧ w' = w := by
  have HB := Lib.hid (bit_any v c w)
  go_enter Try.func52, Try.ntmps52
  go_wp2_with fail
  refine HB.out.mono ?_
  rintro e w1 ⟨rfl, hw⟩
  obtain rfl := hw.symm
  cases hb : BM.bt v c with
  | true =>
    have e1 : ((b1 true).toNat : Int) = 1 := rfl
    rw [e1]
    have HQ := Lib.hid hb
    clear hb e1
    go_wp2
    go_ret
    exact ⟨ret_bool HQ.out.symm, rfl⟩
  | false =>
    have e1 : ((b1 false).toNat : Int) = 0 := rfl
    rw [e1]
    have HQ := Lib.hid hb
    clear hb e1
    go_wp2
    go_ret
    exact ⟨ret_bool HQ.out.symm, rfl⟩
theorem isOne_any (v : V) (w : World) :
    Calls Try.prog 42 #[.int .u64 (v.toNat : Int)] w fun e w' => e = .returned (.bool ((v.toNat : Int) == 1)) ∧ w' = w := by
  go_enter Try.func42, Try.ntmps42
  go_wp2
  go_ret
  exact ⟨rfl, rfl⟩
theorem enters_bit : ∀ args w, (callFunc 52 args).run Try.prog w = .ok (.enter 52 args) w := enters_of Try.func52 (by kernel_rfl) rfl
theorem enters_one : ∀ args w, (callFunc 42 args).run Try.prog w = .ok (.enter 42 args) w := enters_of Try.func42 (by kernel_rfl) rfl
/-- **slices.ContainsFunc** of a right side. -/
theorem containsOne_any (a : Option Addr) (cap : Nat) (zs : List V) (w : World) (hR : Row w a zs cap) :
    Calls Try.prog 43 #[.slice a zs.length cap, .func (.func 42) #[] #[]] w fun e w' => (∃ b, e = .returned (.bool b) ∧ (b = true ↔ ∃ j, j < zs.length ∧ ((el zs j).toNat : Int) = 1)) ∧ w' = w := by
  have HI := Lib.hid (indexFunc_any a cap zs w hR 42 #[] enters_one (fun v => (v.toNat : Int) == 1) (fun x => isOne_any x w))
  go_enter Try.func43, Try.ntmps43
  go_wp2_with fail
  refine HI.out.mono ?_
  rintro e w1 ⟨⟨r, rfl, hi⟩, hw⟩
  obtain rfl := hw.symm
  have HX := Lib.hid hi
  clear hi
  go_wp2
  go_ret
  refine ⟨⟨_, rfl, ?_⟩, rfl⟩
  rcases HX.out with ⟨rfl, hno⟩ | ⟨k, rfl, hk, hy, _⟩
  · simp only [decide_eq_true_eq]
    constructor
    · intro h; omega
    · rintro ⟨j, hj, h1⟩
      have h2 : (((el zs j).toNat : Int) == 1) = false := hno j hj
      rw [h1] at h2
      cases h2
  · simp only [decide_eq_true_eq]
    exact ⟨fun _ => ⟨k, hk, by simpa using hy⟩, fun _ => by omega⟩

set_option maxRecDepth 100000 in
set_option maxHeartbeats 1000000 in
theorem index_any (a : Option Addr) (cap : Nat) (zs : List Nat) (c : Nat) (w : World) (hR : Row w a zs cap) :
    Calls Try.prog 51 #[.slice a zs.length cap, .int .i64 (c : Int)] w fun e w' => (∃ r, e = .returned (.int .i64 r) ∧ Idx (fun v : Nat => (c : Int) == (v : Int)) zs r) ∧ w' = w := by
  have hroom := hR.room
  have hmost := hR.most
  have HR := Lib.hid hR
  clear hR
  go_enter Try.func51, Try.ntmps51
  go_wp2
  go_loopw [5, 8] (fun _ i wr => ∃ k : Nat, i = .int .i64 (k : Int) ∧ k ≤ zs.length ∧ Hid (∀ j, j < k → ((c : Int) == ((el zs j : Nat) : Int)) = false) ∧ wr = w) (fun _ i _ => zs.length - (intOf i).toNat)
  case atStart => exact ⟨0, rfl, Nat.zero_le _, Lib.hid (fun j hj => absurd hj (Nat.not_lt_zero _)), rfl⟩
  case round =>
    obtain ⟨k, rfl, hk, hA, rfl⟩ := hrel
    by_cases hlt : k < zs.length
    · obtain ⟨b, off, rfl, hcell⟩ := HR.out.elN k hlt
      cases hq : ((c : Int) == ((el zs k : Nat) : Int)) with
      | true =>
        have HQ := Lib.hid hq
        go_wp2
        go_ret
        exact ⟨⟨_, rfl, .inr ⟨k, rfl, hlt, HQ.out, hA.out⟩⟩, rfl⟩
      | false =>
        have HQ := Lib.hid hq
        go_wp2
        go_roundw
        case rel =>
          refine ⟨k + 1, by go_num, by omega, Lib.hid (fun j hj => ?_), by first | rfl | trivial⟩
          by_cases e : j = k
          · subst e; exact HQ.out
          · exact hA.out j (by omega)
        case measure => simp [intOf]; omega
    · go_wp2
      go_ret
      exact ⟨⟨_, rfl, .inl ⟨rfl, fun j hj => hA.out j (by omega)⟩⟩, rfl⟩
theorem contains_any (a : Option Addr) (cap : Nat) (zs : List Nat) (c : Nat) (w : World) (hR : Row w a zs cap) :
    Calls Try.prog 45 #[.slice a zs.length cap, .int .i64 (c : Int)] w fun e w' => e = .returned (.bool (zs.contains c)) ∧ w' = w := by
  have HI := Lib.hid (index_any a cap zs c w hR)
  go_enter Try.func45, Try.ntmps45
  go_wp2_with fail
  refine HI.out.mono ?_
  rintro e w1 ⟨⟨r, rfl, hi⟩, hw⟩
  obtain rfl := hw.symm
  have HX := Lib.hid hi
  clear hi
  go_wp2
  go_ret
  refine ⟨ret_bool ?_, rfl⟩
  rcases HX.out with ⟨rfl, hno⟩ | ⟨k, rfl, hk, hy, _⟩
  · have : zs.contains c = false := by
      rw [List.contains_eq_mem, decide_eq_false_iff_not]
      intro hm
      obtain ⟨j, hj, e⟩ := List.getElem_of_mem hm
      have := hno j hj
      rw [el_lt hj, e] at this
      simp at this
    rw [this]; rfl
  · have : zs.contains c = true := by
      rw [List.contains_eq_mem, decide_eq_true_eq]
      have e : c = el zs k := by have := hy; simp at this; omega
      rw [e]; exact el_mem hk
    rw [this]; simp
end Go.Proofs.Ytgaanojfjaifhaa.B
