/- slices.IndexFunc, ContainsFunc, Index, Contains; the closures of bitmat. -/
import Derived.Test.YtodiokladojnjaaBSys
import Derived.Shelf.GgClosure.Gives
namespace Go.Proofs.Ytodiokladojnjaa.B
open Go Go.RowKit Go.Shelf

/-- r is where the first of zs lies that is as wanted; -1: there is none. -/
def Idx {α : Type} [Elt α] (p : α → Bool) (zs : List α) (r : Int) : Prop :=
  (r = -1 ∧ ∀ j, j < zs.length → p (el zs j) = false) ∨ ∃ k : Nat, r = (k : Int) ∧ k < zs.length ∧ p (el zs k) = true ∧ ∀ j, j < k → p (el zs j) = false

set_option maxRecDepth 100000 in
set_option maxHeartbeats 1000000 in
theorem indexFunc_any (a : Option Addr) (cap : Nat) (zs : List V) (w : World) (hR : Row w a zs cap) (g : Nat) (lb : Array Value) (eg : ∀ args w, (callFunc g args).run Try.prog w = .ok (.enter g args) w) (p : V → Bool)
    (hp : ∀ x : V, Calls Try.prog g (#[.int .u64 (x.toNat : Int)] ++ lb) w fun e w' => e = .returned (.bool (p x)) ∧ w' = w) :
    Calls Try.prog 51 #[.slice a zs.length cap, .func (.func g) #[] lb] w fun e w' => (∃ r, e = .returned (.int .i64 r) ∧ Idx p zs r) ∧ w' = w := by
  have hroom := hR.room
  have hmost := hR.most
  have HR := Lib.hid hR
  have HP := Lib.hid hp
  clear hR hp
  go_enter Try.func51, Try.ntmps51
  go_wp2
  go_loopw [5, 8] (fun _ i wr => ∃ k : Nat, i = .int .i64 (k : Int) ∧ k ≤ zs.length ∧ Hid (∀ j, j < k → p (el zs j) = false) ∧ wr = w) (fun _ i _ => zs.length - (intOf i).toNat)
  case atStart => exact ⟨0, rfl, Nat.zero_le _, Lib.hid (fun j hj => absurd hj (Nat.not_lt_zero _)), rfl⟩
  case round =>
    obtain ⟨k, rfl, hk, hA, rfl⟩ := hrel
    by_cases hlt : k < zs.length
    · obtain ⟨b, off, rfl, hcell⟩ := HR.out.elV k hlt
      have hcall := HP.out (el zs k)
      cases hq : p (el zs k) with
      | true =>
        rw [hq] at hcall
        have HQ := Lib.hid hq
        have HC := Lib.hid hcall
        clear hq hcall
        go_wp2_with (go_at_fn g; refine HC.out.mono ?_; rintro e w' ⟨rfl, hw⟩)
        go_ret
        exact ⟨⟨_, rfl, .inr ⟨k, rfl, hlt, HQ.out, hA.out⟩⟩, by first | rfl | exact hw⟩
      | false =>
        rw [hq] at hcall
        have HQ := Lib.hid hq
        have HC := Lib.hid hcall
        clear hq hcall
        go_wp2_with (go_at_fn g; refine HC.out.mono ?_; rintro e w' ⟨rfl, hw⟩; obtain rfl := hw.symm)
        go_roundw
        case rel =>
          refine ⟨k + 1, by go_num, by omega, Lib.hid (fun j hj => ?_), by first | rfl | trivial⟩
          by_cases e : j = k
          · subst e; exact HQ.out
          · exact hA.out j (by omega)
        case measure => simp [intOf]; omega
    · go_wp2
      go_ret
      exact ⟨⟨_, rfl, .inl ⟨rfl, fun j hj => hA.out j (by omega)⟩⟩, rfl⟩
theorem elimBit_any (g : Nat) (c : Nat) (v : V) (w : World) (hc : w.cell? ⟨g, 0, none⟩ = some (.int .i64 (c : Int))) :
    Calls Try.prog 50 #[.int .u64 (v.toNat : Int), .pointer (some ⟨g, 0, none⟩)] w fun e w' => e = .returned (.bool (BM.bt v c)) ∧ w' = w := by
  have HB := Lib.hid (bit_any v c w)
  go_enter Try.func50, Try.ntmps50
  go_wp2_with fail
  refine HB.out.mono ?_
  rintro e w1 ⟨rfl, hw⟩
  obtain rfl := hw.symm
  cases hb : BM.bt v c with
  | true =>
    have e1 : ((b1 true).toNat : Int) = 1 := rfl
    rw [e1]
    have HQ := Lib.hid hb
    clear hb e1
    go_wp2
    go_ret
    exact ⟨ret_bool HQ.out.symm, rfl⟩
  | false =>
    have e1 : ((b1 false).toNat : Int) = 0 := rfl
    rw [e1]
    have HQ := Lib.hid hb
    clear hb e1
    go_wp2
    go_ret
    exact ⟨ret_bool HQ.out.symm, rfl⟩
theorem enters_bit : ∀ args w, (callFunc 50 args).run Try.prog w = .ok (.enter 50 args) w := enters_of Try.func50 (by kernel_rfl) rfl
end Go.Proofs.Ytodiokladojnjaa.B
