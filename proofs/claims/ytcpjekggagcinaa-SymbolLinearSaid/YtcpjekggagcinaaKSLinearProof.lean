/- SymbolLinear: for any numbers and any byte, the sum of one made code word and a multiple of another is the code word of the sum of their data, two different ones differ in more places than there are checks, and a code word has no syndrome: the law returns true and leaves its arguments as they were. No conditions. -/
import Derived.Test.YtcpjekggagcinaaK4
import Derived.Test.YtcpjekggagcinaaKGParamB
import Derived.Test.YtcpjekggagcinaaKSLinearW
namespace Go.Proofs.Ytcpjekggagcinaa.symbolLinear
open Go Go.ChangeShapes Go.WideShapes Go.ChangeAt Go.RowKit
open Go.Proofs.Ytcpjekggagcinaa.G

set_option maxRecDepth 100000 in
theorem lifted (os : Os) (started : os.Started) (H : Type) (enc : TypeId × Value → H) :
    ReturnsInHanded {} Try.checked os 6 .any (Rows.symbolLinearSpec.pre6 enc Try.prog Try.f6 Rows.symbolLinearRow.domain false) (Rows.symbolLinearSpec.post enc Try.prog Try.f6 false true false false) := by
  refine returnsInHanded_of_change (C := Try.checked) G.own started (by kernel_rfl) Try.func6
    (ChangeSpec.witness6 (enc := enc) (C := Try.checked) false ⟨#[], #[.slice none 0 0, .int .u8 0], []⟩ 8 (by kernel_rfl) (by kernel_rfl) (by kernel_rfl) (by kernel_rfl)) ?_
  intro W base args ds gs before hval0 hW hcnd _
  have hval : ∀ (j : Nat) t v, Try.f6.params[j]? = some t → args[j]? = some v → Value.okWide Try.prog W .any base t v := hval0
  have hW' := hW
  obtain ⟨p, q, hA0, hV, rfl, hfz, hnd⟩ := hW
  have hA : DataW.TrodAll enc Try.prog W 0 (fun _ => true) true Try.f6.params.toList args.toList ds p := hA0
  rw [Try.params6] at hA hval
  obtain ⟨v0, vs0, d0, ds0, p0, q0, hargs, rfl, rfl, h0, r0⟩ := trodAll_cons hA
  obtain ⟨v1, vs1, d1, ds1, p1, q1, rfl, rfl, rfl, h1, r1⟩ := trodAll_cons r0
  obtain ⟨rfl, rfl, rfl⟩ := trodAll_nil r1
  obtain rfl : args = #[v0, v1] := by obtain ⟨l⟩ := args; exact congrArg Array.mk hargs
  obtain ⟨rfl, rfl⟩ := trodVars_none hV
  obtain ⟨a0, ts0, cap0, rfl, hR0, hread0⟩ := slice_param (hval 0 22 v0 rfl rfl) h0
  obtain ⟨a1, rfl, rfl, rfl, w1⟩ := open_int Try.underlying5 (hval 1 5 v1 rfl rfl) h1
  obtain ⟨x1, rfl⟩ : ∃ x : Y, a1 = (x.toNat : Int) := ⟨toY a1, (toY_v w1).symm⟩
  clear hA0 hval0
  simp only [List.append_nil] at hW'
  refine (P.symbolLinear_any a0 cap0 ts0 (P.toG x1) W hR0).mono fun e W' ⟨he, hb⟩ => ?_
  subst he
  exact ⟨_, rfl, post_below (pa := p0) (pv := []) hW' hb (by simp) (fun _ _ _ => trodAll_cons_mk (shut_bool Try.underlying4 _) trodAll_mk0) (fun sp hsp => by
      have := (trodAll_cons_mk (hread0 W' sp hb (fun q hq => hsp q (by simp [hq]))) (trodAll_cons_mk (shut_int Try.underlying5 w1) trodAll_mk0))
      simp only [List.append_nil] at this
      exact this) (fun _ _ => rfl)
    (ok_one (by kernel_rfl) rfl (okWide_bool_mk Try.underlying4 _))⟩

theorem over : Rows.symbolLinearRow.holds Try.pinned (OpenSpec.ofChange Rows.symbolLinearSpec) :=
  OpenClaim.holds_of_wide 6 Try.f6 rfl rfl rfl rfl rfl rfl rfl ⟨rfl, rfl, rfl, rfl, rfl⟩ rfl rfl rfl rfl rfl (by kernel_rfl) Try.func6 (by kernel_rfl)
    (of_decide_eq_true (by kernel_rfl)) (by unfold Func.isWrapper; first | (rw [if_pos (by decide +kernel)]; kernel_rfl) | (rw [if_neg (by decide +kernel)]; exact ⟨rfl, rfl⟩))
    (fun os started H enc _ => lifted os started H enc)

theorem symbolLinear_holds : Rows.SymbolLinearSaid :=
  over
end Go.Proofs.Ytcpjekggagcinaa.symbolLinear
