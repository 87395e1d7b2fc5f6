/- ChanceBits: the walk. What the statements' last steps share: a start that fits, and the row's post behind a call that only makes memory. A parameter of type []int: its row of numbers, and its reading again behind a call that only makes memory. -/
import Derived.Test.YtmejneobfkbgeaaDoorB10
import Derived.Test.YtmejneobfkbgeaaDoorCards
import Derived.Test.YtmejneobfkbgeaaDoorTie
import Derived.WalkKit
import Derived.ProofKit
import Derived.OpenShut
import Derived.Deep.DeepHandedRow
import Derived.Lib.LaidTab
namespace Go.Proofs.YtmejneobfkbgeaaDoor
open Go Go.RowKit Go.Shelf

namespace C
set_option maxRecDepth 100000 in
set_option maxHeartbeats 4000000 in
/-- **ChanceBits** -/
theorem bits_any (x : Int) (w : World) :
    Calls Tryd.prog 3 #[.int .i64 x] w fun e W => e = .returned (.bool true) ∧ Below w.heap.size w W := by
  obtain ⟨E1, n1, hc1, hr1⟩ := wb_both x
  obtain ⟨r, hr, hr75⟩ := G.mod_nat x 75 (by decide)
  obtain ⟨E2, n2, hc2, hr2⟩ := wb_both ((r : Int) - 1)
  have hmx := fun W => G.mod_any x 75 (by decide) (by decide) W
  rw [show x % (75 : Int) = (r : Int) from hr] at hmx
  have HMX := Lib.hid hmx
  have HC1 := Lib.hid hc1
  have HR1 := Lib.hid hr1
  have HC2 := Lib.hid hc2
  have HR2 := Lib.hid hr2
  have hwr : IntKind.i64.wrap ((r : Int) - 1) = (r : Int) - 1 := by rw [IntKind.wrap_i64]; omega
  have he1 : (E1 == E1) = true := by simp
  have he2 : (E2 == E2) = true := by simp
  clear hmx hc1 hr1 hc2 hr2 hr
  go_enter Tryd.func3, Tryd.ntmps3
  go_wp2_with fail
  (with_reducible refine (HC1.out _).mono ?_)
  rintro e wA1 ⟨⟨s1, c1, rfl, hr⟩, hb⟩
  have hv := Var.new hr
  obtain ⟨wB1, hwB1⟩ : ∃ wB, wA1.alloc (.cells #[.slice s1 (M.dig n1).length c1] 24) = wB := ⟨_, rfl⟩
  have hbw : Below wA1.heap.size wA1 wB1 := by rw [← hwB1]; exact (Below.refl _ wA1).alloc (Nat.le_refl _) _
  obtain ⟨p1, hp1⟩ : ∃ p, wA1.heap.size = p := ⟨_, rfl⟩
  rw [hwB1, hp1] at hv
  have hb2 := hb.trans (hbw.mono hb.size)
  have V1 := Lib.hid hv
  have HB1 := Lib.hid (hb2)
  clear hr hv hb hbw hb2
  go_wp2_with fail
  (with_reducible refine (HR1.out _).mono ?_)
  rintro e wA2 ⟨⟨s2, c2, rfl, hr⟩, hb⟩
  have hv := Var.new hr
  obtain ⟨wB2, hwB2⟩ : ∃ wB, wA2.alloc (.cells #[.slice s2 (M.dig n1).length c2] 24) = wB := ⟨_, rfl⟩
  have hbw : Below wA2.heap.size wA2 wB2 := by rw [← hwB2]; exact (Below.refl _ wA2).alloc (Nat.le_refl _) _
  obtain ⟨p2, hp2⟩ : ∃ p, wA2.heap.size = p := ⟨_, rfl⟩
  rw [hwB2, hp2] at hv
  have hb2 := hb.trans (hbw.mono hb.size)
  have V2 := Lib.hid hv
  have V1' := Lib.hid (V1.out.below hb2)
  clear V1
  have V1 := V1'
  clear V1'
  have HB2 := Lib.hid (HB1.out.trans (hb2.mono HB1.out.size))
  clear hr hv hb hbw hb2
  go_wp2_with fail
  refine (HMX.out _).mono ?_
  rintro e w' ⟨rfl, hw⟩
  obtain rfl := hw
  go_wp2_with fail
  (with_reducible refine (HC2.out _).mono ?_)
  rintro e wA3 ⟨⟨s3, c3, rfl, hr⟩, hb⟩
  have hv := Var.new hr
  obtain ⟨wB3, hwB3⟩ : ∃ wB, wA3.alloc (.cells #[.slice s3 (M.dig n2).length c3] 24) = wB := ⟨_, rfl⟩
  have hbw : Below wA3.heap.size wA3 wB3 := by rw [← hwB3]; exact (Below.refl _ wA3).alloc (Nat.le_refl _) _
  obtain ⟨p3, hp3⟩ : ∃ p, wA3.heap.size = p := ⟨_, rfl⟩
  rw [hwB3, hp3] at hv
  have hb2 := hb.trans (hbw.mono hb.size)
  have V3 := Lib.hid hv
  have V1' := Lib.hid (V1.out.below hb2)
  clear V1
  have V1 := V1'
  clear V1'
  have V2' := Lib.hid (V2.out.below hb2)
  clear V2
  have V2 := V2'
  clear V2'
  have HB3 := Lib.hid (HB2.out.trans (hb2.mono HB2.out.size))
  clear hr hv hb hbw hb2
  go_wp2_with fail
  (with_reducible refine (HR2.out _).mono ?_)
  rintro e wA4 ⟨⟨s4, c4, rfl, hr⟩, hb⟩
  have hv := Var.new hr
  obtain ⟨wB4, hwB4⟩ : ∃ wB, wA4.alloc (.cells #[.slice s4 (M.dig n2).length c4] 24) = wB := ⟨_, rfl⟩
  have hbw : Below wA4.heap.size wA4 wB4 := by rw [← hwB4]; exact (Below.refl _ wA4).alloc (Nat.le_refl _) _
  obtain ⟨p4, hp4⟩ : ∃ p, wA4.heap.size = p := ⟨_, rfl⟩
  rw [hwB4, hp4] at hv
  have hb2 := hb.trans (hbw.mono hb.size)
  have V4 := Lib.hid hv
  have V1' := Lib.hid (V1.out.below hb2)
  clear V1
  have V1 := V1'
  clear V1'
  have V2' := Lib.hid (V2.out.below hb2)
  clear V2
  have V2 := V2'
  clear V2'
  have V3' := Lib.hid (V3.out.below hb2)
  clear V3
  have V3 := V3'
  clear V3'
  have HB4 := Lib.hid (HB3.out.trans (hb2.mono HB3.out.size))
  clear hr hv hb hbw hb2
  go_wp2_with fail
  refine (awake_yes _).mono ?_
  rintro e w5 ⟨rfl, hb⟩
  have HB5 := Lib.hid (HB4.out.trans (hb.mono HB4.out.size))
  have V15 := Lib.hid (V1.out.below hb)
  have V25 := Lib.hid (V2.out.below hb)
  have V35 := Lib.hid (V3.out.below hb)
  have V45 := Lib.hid (V4.out.below hb)
  have k1 := V15.out.cell
  have k2 := V25.out.cell
  have HS1 := Lib.hid (same_num (n := n1) (w := w5) ⟨s1, c1, rfl, V15.out.row⟩ ⟨s2, c2, rfl, V25.out.row⟩)
  clear hb V1 V2 V3 V4
  go_wp2_with fail
  (with_reducible refine HS1.out.mono ?_)
  rintro e w6 ⟨rfl, hb⟩
  have HB6 := Lib.hid (HB5.out.trans (hb.mono HB5.out.size))
  have V36 := Lib.hid (V35.out.below hb)
  have V46 := Lib.hid (V45.out.below hb)
  have k3 := V36.out.cell
  have k4 := V46.out.cell
  have HS2 := Lib.hid (same_num (n := n2) (w := w6) ⟨s3, c3, rfl, V36.out.row⟩ ⟨s4, c4, rfl, V46.out.row⟩)
  clear hb
  go_wp2_with fail
  (with_reducible refine HS2.out.mono ?_)
  rintro e w7 ⟨rfl, hb⟩
  have HB7 := Lib.hid (HB6.out.trans (hb.mono HB6.out.size))
  clear hb
  go_wp2_with fail
  go_ret
  exact ⟨rfl, HB7.out⟩
end C
end Go.Proofs.YtmejneobfkbgeaaDoor

namespace Go.Proofs.YtmejneobfkbgeaaDoor
open Go Go.ChangeShapes Go.WideShapes Go.ChangeAt Go.RowKit

theorem own : ownKnob Tryd.prog.godebug = none := by kernel_rfl

section
variable {H : Type} {enc : TypeId × Value → H} {P : Program}
/-- The row's post where all that lay before the call lies as it lay. -/
theorem post_below {f : Func} {s : ChangeSpec} {apart fresh handsOn again : Bool} {W W' : World} {args : Array Value} {v : Value} {ds gs : List (DataW H)} {before pa pv : List MemPlace}
    (hW : DataW.Whole enc P f.params.toList s.vars apart W args.toList ds gs before) (hb : Below W.heap.size W W') (hps : before = pa ++ pv)
    (hres : ∀ (b : Nat) (sp : Nat → Bool) (hd : Bool), DataW.TrodAll enc P W' b sp hd f.resultTypes.toList (v.resultList f.resultTypes.size) (s.fn H (ds ++ gs)).results [])
    (hargs : ∀ sp : Nat → Bool, (∀ p ∈ before, sp p.block = true) → DataW.TrodAll enc P W' 0 sp true f.params.toList args.toList (s.fn H (ds ++ gs)).args pa)
    (hvars : ∀ sp : Nat → Bool, (∀ p ∈ before, sp p.block = true) → DataW.TrodVars enc P W' sp s.vars (s.fn H (ds ++ gs)).vars pv)
    (hok : ∀ (j : Nat) (t : TypeId) (r : Value), f.resultTypes[j]? = some t → (v.resultList f.resultTypes.size)[j]? = some r → Value.okWide P W' .any 0 t r) :
    s.post enc P f apart fresh handsOn again W args v W' := by
  have hlt : ∀ p ∈ before, p.block < W.heap.size := fun p hp => hW.lt p hp
  have hall : ∀ p ∈ before, (fun b => decide (b < W.heap.size)) p.block = true := fun p hp => by simpa using hlt p hp
  obtain ⟨_, _, _, _, _, hz, hn⟩ := id hW
  refine ⟨ds, gs, before, [], pa, pv, hW, hres _ _ _, hargs _ hall, hvars _ hall, World.keptBut_mono (fun p hp => ⟨hp, by rw [hps, List.mem_append] at hp; exact .inr hp⟩) (hb.frame (· ∈ before)), fun _ => ⟨hok, _, _, ([] ++ pa) ++ pv, ⟨[] ++ pa, pv, trodAll_append (hargs _ (fun _ _ => rfl)) (hres _ _ _), hvars _ (fun _ _ => rfl), rfl, ?_, ?_⟩, ?_⟩⟩
  · intro b off hp
    have hin : MemPlace.cell b off ∈ before := by rw [hps]; simpa using hp
    exact (hb.frozen (hlt _ hin)).trans (hz b off hin)
  · intro ha
    have := hn ha
    rw [hps] at this
    simpa using this
  · intro p hp _
    rw [hps]
    simpa using hp
end

def layFirst : Obj → Obj
  | .cells _ t frozen => .cells (Go.Pinned.utf8FirstZ.map fun (n : Nat) => Value.int .u8 (n : Int)).toArray t frozen
  | o => o
def layRanges : Obj → Obj
  | .cells _ t frozen => .cells #[.int .u8 128, .int .u8 191, .int .u8 160, .int .u8 191, .int .u8 128, .int .u8 159, .int .u8 144, .int .u8 191, .int .u8 128, .int .u8 143, .int .u8 0, .int .u8 0, .int .u8 0, .int .u8 0, .int .u8 0, .int .u8 0, .int .u8 0, .int .u8 0, .int .u8 0, .int .u8 0, .int .u8 0, .int .u8 0, .int .u8 0, .int .u8 0, .int .u8 0, .int .u8 0, .int .u8 0, .int .u8 0, .int .u8 0, .int .u8 0, .int .u8 0, .int .u8 0] t frozen
  | o => o
/-- A world for the start: the settled one, Go's two tables in their blocks. -/
noncomputable def startWorld (os : Os) (blocks : Array Obj) : World :=
  { World.holding Tryd.prog os ⟨blocks, #[], []⟩ with heap := ((World.holding Tryd.prog os ⟨blocks, #[], []⟩).heap.modify 0 layFirst).modify 1 layRanges }
end Go.Proofs.YtmejneobfkbgeaaDoor

namespace Go.Proofs.YtmejneobfkbgeaaDoor
open Go Go.ChangeShapes Go.WideShapes Go.ChangeAt Go.RowKit

theorem cells_int : Tryd.prog.cellsOf 3 = 1 := by kernel_rfl

set_option maxRecDepth 100000 in
theorem slice_param {H : Type} {enc : TypeId × Value → H} {W : World} {base : Nat} {v : Value} {d : DataW H} {p : List MemPlace}
    (hv : Value.okWide Tryd.prog W .any base 22 v) (hd : DataW.Trod enc Tryd.prog W 0 (fun _ => true) true 22 v d p) :
    ∃ (a : Option Addr) (ts : List Int) (cap : Nat), v = .slice a ts.length cap ∧ Row W a ts cap ∧
      ∀ (W' : World) (sp : Nat → Bool), Below W.heap.size W W' → (∀ q ∈ p, sp q.block = true) → DataW.Trod enc Tryd.prog W' 0 sp true 22 v d p := by
  obtain ⟨a0, len, cap, rfl⟩ := okWide_slice Tryd.underlying22 hv
  obtain ⟨fuel, hf⟩ := hd
  rcases open_ints Tryd.underlying22 Tryd.underlying3 cells_int hf with ⟨hcs, hx⟩ | ⟨a, len', cap', zs, hcs, _, hl, hm, hz, hx, hcell, hwz⟩
  · simp [Value.cells] at hcs
    obtain ⟨rfl, rfl, rfl⟩ := hcs
    simp only [Prod.mk.injEq] at hx
    obtain ⟨rfl, rfl⟩ := hx
    exact ⟨none, [], 0, rfl, ⟨Nat.le_refl _, by omega, fun j hj => by simp at hj⟩, fun _ _ _ _ => shut_slice_nil Tryd.underlying22⟩
  · simp [Value.cells] at hcs
    obtain ⟨rfl, rfl, rfl⟩ := hcs
    simp only [Prod.mk.injEq] at hx
    obtain ⟨rfl, rfl⟩ := hx
    rw [if_pos rfl] at hz
    have e1 : (zs.take len).length = len := by rw [List.length_take]; omega
    refine ⟨some a, zs.take len, cap, by rw [e1], ⟨by omega, by unfold maxLen at hm; omega, fun j hj => ?_⟩, fun W' sp hb hsp => ?_⟩
    · obtain ⟨b, off, rfl, hc⟩ := ints_at hcell (by omega)
      refine ⟨b, off, rfl, ?_⟩
      rw [hc j (by omega), M.el_take (by omega)]
      rfl
    · refine ⟨2, shut_ints 0 Tryd.underlying22 Tryd.underlying3 cells_int (Nat.zero_le _) hl hm ?_ (fun i hi => (hb.cell (p := a.add i) (lt_of_cell (hcell i hi))).trans (hcell i hi)) hwz⟩
      by_cases h0 : 0 < zs.length
      · rw [if_pos]
        · exact hz
        · refine hsp (.cell a.block (a.off + 0)) ?_
          unfold MemPlace.row
          exact List.mem_map.2 ⟨0, List.mem_range.2 h0, rfl⟩
      · split <;> omega
end Go.Proofs.YtmejneobfkbgeaaDoor
