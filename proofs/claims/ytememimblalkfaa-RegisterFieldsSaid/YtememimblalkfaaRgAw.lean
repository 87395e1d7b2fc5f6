/- law11.awake. -/
import Derived.Test.YtememimblalkfaaRgEnc
namespace Go.Proofs.Ytememimblalkfaa.RG
open Go Go.RowKit Go.Shelf
open G P
theorem aw_e : encE (fun _ => 0) 0 1 2 = 0 := by
  have hok : okB (fun _ => 0) = true := by decide +kernel
  unfold encE
  rw [hok]
  rfl
theorem aw_first : (first (fun _ => 0) 0 6).toNat = 5548434740920451072 := by
  have hz : ∀ j, wd (fun _ => (0 : Int)) j = 0 := fun _ => by unfold wd; rfl
  rw [first_val (by decide) (fun j _ => by rw [hz]; decide), hz, hz, hz, hz, hz, hz]
theorem aw_second : (second 1 2).toNat = 8589934593 := by
  rw [second_val (by decide) (by decide)]
set_option maxRecDepth 100000 in
set_option maxHeartbeats 1000000 in
theorem awake_yes (w : World) : Calls Try.prog 5 #[] w fun e W => e = .returned (.bool true) ∧ Below w.heap.size w W := by
  have HE := Lib.hid (show Calls Try.prog 9 #[.agg #[.int .i64 0, .int .i64 0, .int .i64 0, .int .i64 0, .int .i64 0, .int .i64 0, .slice none 0 0, .int .i64 1, .int .i64 2]] w (EncR w (fun _ => 0) [] 1 2) from encode_any (fun _ => 0) none [] 0 1 2 w (Row.nil _ _ _ (by omega)))
  go_enter Try.func5, Try.ntmps5
  go_wp2_with fail
  refine HE.out.mono ?_
  rintro e w1 ⟨a, c, rfl, ho, hb⟩
  have hO : encO (fun _ => 0) [] 1 2 = [first (fun _ => 0) 0 6, second 1 2] := by
    unfold encO
    rw [show ([] : List V).length = 0 from rfl, if_pos aw_e]
    rfl
  rw [hO] at ho
  rw [hO, show ([] : List V).length = 0 from rfl, aw_e]
  obtain ⟨g, rfl, _, _⟩ := ho.fresh (by simp)
  have q0 := ho.cellV 0 (by simp)
  have q1 := ho.cellV 1 (by simp)
  have hr := ho.room
  rw [el0, aw_first] at q0
  rw [el1, aw_second] at q1
  have HB := Lib.hid hb
  have hr2 : 2 ≤ c ∧ c ≤ 9223372036854775807 := hr
  obtain ⟨hr3, hr4⟩ := hr2
  rw [show ([first (fun _ => 0) 0 6, second 1 2] : List V).length = 2 from rfl]
  clear ho hb hO hr HE
  go_wp2_with fail
  go_ret
  exact ⟨rfl, HB.out⟩
end Go.Proofs.Ytememimblalkfaa.RG
