/- strings.TrimLeft at "0" and slices.Reverse at bytes, by the shelf's contracts. -/
import Derived.Shelf.Strings.Trim
import Derived.Shelf.SlicesE.Reverse
import Derived.Test.YtamniclnhenmgaaDoorBytes
namespace Go.Proofs.YtamniclnhenmgaaDoor
open Go Go.RowKit Go.Shelf Go.Sort

def trimRen : Go.Shelf.Ren := ⟨fun | 231 => 104 | n => n, fun | 9 => 9 | 5 => 5 | 3 => 3 | 4 => 4 | n => n, fun | n => n⟩
theorem trimLays : Go.Proofs.Lays.n231 Tryd.prog trimRen := {
  mixed := by kernel_rfl
  f231 := Tryd.func104.trans (congrArg some (by kernel_rfl))
  t3 := Tryd.underlying3
  a3 := Tryd.isAgg3
  z3 := Tryd.sizeOf3
  v3 := Tryd.zeroValue3
  t4 := Tryd.underlying4
  a4 := Tryd.isAgg4
  z4 := Tryd.sizeOf4
  v4 := Tryd.zeroValue4
  t5 := Tryd.underlying5
  a5 := Tryd.isAgg5
  z5 := Tryd.sizeOf5
  v5 := Tryd.zeroValue5
  t9 := Tryd.underlying9
  a9 := Tryd.isAgg9
  z9 := Tryd.sizeOf9
  v9 := Tryd.zeroValue9 }
theorem trimLeftByte_any (s : ByteArray) (c : UInt8) (w : World) :
    Calls Tryd.prog 104 #[.string s, .int .u8 c.toNat] w fun e w' => e = .returned (.string ⟨(Lib.trimLeftB s.data.toList c).toArray⟩) ∧ w' = w := Any.strings_trimLeftByte trimLays s c w

def revRen : Go.Shelf.Ren := ⟨fun | 35 => 81 | n => n, fun | 0 => 0 | 3 => 3 | 4 => 4 | 22 => 80 | 23 => 5 | n => n, fun | n => n⟩
theorem revLays : Go.Proofs.SlLaysE.n35 Tryd.prog revRen := {
  mixed := by kernel_rfl
  f35 := ⟨Tryd.f81.name, by decide, Tryd.func81.trans (congrArg some (by kernel_rfl))⟩
  t0 := Tryd.underlying0
  a0 := Tryd.isAgg0
  z0 := Tryd.sizeOf0
  v0 := Tryd.zeroValue0
  t3 := Tryd.underlying3
  a3 := Tryd.isAgg3
  z3 := Tryd.sizeOf3
  v3 := Tryd.zeroValue3
  t4 := Tryd.underlying4
  a4 := Tryd.isAgg4
  z4 := Tryd.sizeOf4
  v4 := Tryd.zeroValue4
  t22 := Tryd.underlying80
  a22 := Tryd.isAgg80
  z22 := Tryd.sizeOf80
  v22 := Tryd.zeroValue80
  a23 := Tryd.isAgg5
  z23 := Tryd.sizeOf5 }

/-- What lies behind slices.Reverse: the cells reversed; nothing below them has turned. -/
structure RevPost (w : World) (g cap : Nat) (bs : List Nat) (w' : World) : Prop where
  cells : ∀ (j : Nat) (hj : j < bs.reverse.length), w'.cell? ⟨g, j, none⟩ = some (.int .u8 (bs.reverse[j] : Nat))
  below : ∀ B, B ≤ g → B ≤ w.heap.size → Below B w w'
  size : w'.heap.size = w.heap.size

theorem reverse_any (g cap : Nat) (bs : List Nat) (w : World) (hl : bs.length ≤ 9223372036854775807) (hc : ∀ (j : Nat) (hj : j < bs.length), w.cell? ⟨g, j, none⟩ = some (.int .u8 (bs[j] : Nat)) ∧ w.frozen? ⟨g, j, none⟩ = false) :
    Calls Tryd.prog 81 #[.slice (some ⟨g, 0, none⟩) bs.length cap] w fun e w' => e = .returned (.tuple #[]) ∧ RevPost w g cap bs w' := by
  have hH : Holds (fun (b : Nat) => Value.int .u8 (b : Int)) w g 0 bs.toArray := fun j hj => by
    have hj' : j < bs.length := by simpa using hj
    obtain ⟨h1, h2⟩ := hc j hj'
    rw [Nat.zero_add]
    refine ⟨?_, h2⟩
    rw [h1]
    simp [getElem!_pos, hj']
  refine (AnyE.slices_Reverse revLays (fun (b : Nat) => Value.int .u8 (b : Int)) (fun _ => rfl) g 0 cap bs w hH hl).mono ?_
  rintro e w' ⟨he, n, rfl⟩
  refine ⟨he, ?_, ?_, ?_⟩
  · intro j hj
    have h := (holds_putRow (fun (b : Nat) => Value.int .u8 (b : Int)) _ g 0 bs.toArray bs.reverse.toArray (holds_ahead _ w n g 0 _ hH) (by simp) j (by simpa using hj)).1
    rw [Nat.zero_add] at h
    rw [h]
    simp only [List.length_reverse] at hj
    simp [getElem!_pos, hj]
  · intro B h1 h2
    refine ⟨rfl, rfl, rfl, by simp [putRow, mapBlock], fun k hk => ?_⟩
    simp only [putRow, mapBlock, Array.getElem?_modify]
    rw [if_neg (by omega)]
    rfl
  · simp [putRow, mapBlock]

set_option maxRecDepth 100000 in
set_option maxHeartbeats 400000 in
/-- strings.TrimLeft(s, "0") -/
theorem trimLeft_zero (s : ByteArray) (w : World) (hs : s.size ≤ 9223372036854775807) :
    Calls Tryd.prog 82 #[.string s, .string ⟨#[48]⟩] w fun e w' => e = .returned (.string ⟨(s.data.toList.dropWhile (· == 48)).toArray⟩) ∧ w' = w := by
  by_cases h0 : s.data.toList = []
  · have hs0 : s = ⟨#[]⟩ := by obtain ⟨⟨l⟩⟩ := s; simp at h0; subst h0; rfl
    subst hs0
    go_enter Tryd.func82, Tryd.ntmps82
    go_wp2_with fail
    go_ret
    exact ⟨rfl, rfl⟩
  · have hb : s.toList.isEmpty = false := by rw [ByteArray.toList_eq]; simpa using h0
    have hb2 : ¬ s.toList = [] := by rw [ByteArray.toList_eq]; exact h0
    have HT := Lib.hid (trimLeftByte_any s 48 w)
    go_enter Tryd.func82, Tryd.ntmps82
    go_wp2_with fail
    refine HT.out.mono ?_
    rintro e w' ⟨rfl, rfl⟩
    go_wp2_with fail
    go_ret
    exact ⟨rfl, rfl⟩
end Go.Proofs.YtamniclnhenmgaaDoor
