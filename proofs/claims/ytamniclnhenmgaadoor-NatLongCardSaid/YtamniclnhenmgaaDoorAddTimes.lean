/- nat.addTimes, over a part of a slice that is owned. -/
import Derived.Test.YtamniclnhenmgaaDoorOwn
import Derived.Test.YtamniclnhenmgaaDoorBits
import Derived.Test.YtamniclnhenmgaaDoorDivMath
namespace Go.Proofs.YtamniclnhenmgaaDoor
open Go Go.RowKit Go.Shelf
attribute [local go_sem] mask24

theorem el_mid (xs qs us : List Int) (k : Nat) (hk : k < qs.length) : M.el (xs ++ qs ++ us) (xs.length + k) = M.el qs k := by
  rw [M.el_append_left (by simp; omega), M.el_append_right (by omega), Nat.add_sub_cancel_left]
theorem set_mid (xs qs us : List Int) (k : Nat) (u : Int) (hk : k < qs.length) : (xs ++ qs ++ us).set (xs.length + k) u = xs ++ qs.set k u ++ us := by
  rw [List.set_append_left _ _ (by simp; omega), List.set_append_right _ _ (by omega), Nat.add_sub_cancel_left]

theorem Own.mid {W : World} {B g cap L : Nat} {xs qs us : List Int} (h : Own W B (.slice (some ⟨g, 0, none⟩) L cap) (xs ++ qs ++ us)) (k : Nat) (hk : k < qs.length) :
    W.cell? ⟨g, xs.length + k, none⟩ = some (.int .i64 (M.el qs k)) ∧ W.frozen? ⟨g, xs.length + k, none⟩ = false ∧ B ≤ g ∧ g < W.heap.size ∧ cap ≤ 9223372036854775807 ∧ xs.length + qs.length ≤ cap := by
  have hl := h.len
  obtain ⟨g', e, hB, hW, h3, h4, hc, hf⟩ := h.at2 (xs.length + k) (by simp; omega)
  cases e
  rw [el_mid _ _ _ _ hk] at hc
  exact ⟨hc, hf, hB, hW, h4, by rw [List.length_append, List.length_append] at hl; omega⟩
theorem Own.setMid {W : World} {B g cap L : Nat} {xs qs us : List Int} (h : Own W B (.slice (some ⟨g, 0, none⟩) L cap) (xs ++ qs ++ us)) (k : Nat) (hk : k < qs.length) (u : Int) :
    Own (W.setCell ⟨g, xs.length + k, none⟩ (.int .i64 u)) B (.slice (some ⟨g, 0, none⟩) L cap) (xs ++ qs.set k u ++ us) := by
  have hl := h.len
  subst hl
  have := h.set (xs.length + k) u
  rwa [set_mid _ _ _ _ _ hk] at this
theorem grown_trans {a b c : World} {row : Option Nat} (h : a.grownBy b row) (k : b.grownBy c row) : a.grownBy c row :=
  ⟨k.os.trans h.os, k.tape.trans h.tape, k.output.trans h.output, Nat.le_trans h.size k.size, fun i hi hne => (k.block i (Nat.lt_of_lt_of_le hi h.size) hne).trans (h.block i hi hne)⟩
theorem grown_set {w W : World} {g : Nat} (h : w.grownBy W (some g)) (j : Nat) (u : Value) : w.grownBy (W.setCell ⟨g, j, none⟩ u) (some g) :=
  ⟨h.os, h.tape, h.output, by simpa [World.setCell] using h.size, fun k hk hne => (Below.heap_setCell W ⟨g, j, none⟩ u k (fun e => hne (by rw [e]))).trans (h.block k hk hne)⟩
theorem Row.grown {w W : World} {a : Option Addr} {zs : List Int} {cap : Nat} {row : Option Nat} (h : Row w a zs cap) (hg : w.grownBy W row) (hne : ∀ b off, a = some ⟨b, off, none⟩ → some b ≠ row) : Row W a zs cap :=
  ⟨h.room, h.most, fun j hj => by
    obtain ⟨b, off, e, hc⟩ := h.el j hj
    exact ⟨b, off, e, (World.cell?_of_block (hg.block b (lt_of_cell hc) (hne b off e))).trans hc⟩⟩

def AtRel (w : World) (B g cap L n : Nat) (xs ps us ds : List Int) (t : Int) (v i : Value) (wr : World) : Prop :=
  ∃ (k : Nat) (qs : List Int) (c : Int), i = .int .i64 (k : Int) ∧ v = .int .i64 c ∧ k ≤ n ∧ qs.length = n + 1 ∧ M.Lim (qs.take n) ∧ qs.drop k = ps.drop k ∧ M.val (qs.take k) + 16777216 ^ k * c = M.val (ps.take k) + t * M.val (ds.take k) ∧
    -16777216 ≤ c ∧ c ≤ 16777216 ∧ Own wr B (.slice (some ⟨g, 0, none⟩) L cap) (xs ++ qs ++ us) ∧ w.grownBy wr (some g)
def AtPost (w : World) (B g cap L n : Nat) (xs ps us ds : List Int) (t : Int) (e : Ending) (W : World) : Prop :=
  ∃ qs : List Int, e = .returned (.int .i64 (M.el qs n)) ∧ qs.length = n + 1 ∧ M.Lim (qs.take n) ∧ M.val qs = M.val ps + t * M.val ds ∧ Own W B (.slice (some ⟨g, 0, none⟩) L cap) (xs ++ qs ++ us) ∧ w.grownBy W (some g)

set_option maxRecDepth 100000 in
set_option maxHeartbeats 1000000 in
/-- **nat.addTimes** -/
theorem addTimes_any (B g cap L cp cd n : Nat) (xs ps us ds : List Int) (ad : Option Addr) (t : Int) (w : World) (hown : Own w B (.slice (some ⟨g, 0, none⟩) L cap) (xs ++ ps ++ us))
    (hlp : ps.length = n + 1) (hcp : n + 1 ≤ cp) (hd : Row w ad ds cd) (hld : ds.length = n) (hne : ∀ b off, ad = some ⟨b, off, none⟩ → b ≠ g)
    (hlimp : M.Lim (ps.take n)) (htop : -16777216 ≤ M.el ps n ∧ M.el ps n < 16777216) (hlimd : M.Lim ds) (ht : -16777216 < t ∧ t ≤ 1) :
    Calls Tryd.prog 119 #[.slice (some ⟨g, xs.length, none⟩) (n + 1) cp, .slice ad n cd, .int .i64 t] w (AtPost w B g cap L n xs ps us ds t) := by
  have hdm := hd.room
  have hdm2 := hd.most
  have HO0 := Lib.hid hown
  have HD := Lib.hid hd
  have HNE := Lib.hid hne
  have HLP := Lib.hid hlp
  have HLD := Lib.hid hld
  have HLIMP := Lib.hid hlimp
  have HLIMD := Lib.hid hlimd
  have HTOP := Lib.hid htop
  clear hown hd hne hlp hlimp hlimd htop
  rw [hld] at hdm
  clear hld
  go_enter Tryd.func119, Tryd.ntmps119
  go_wp2
  go_loopw [7, 12] (fun c i wr => AtRel w B g cap L n xs ps us ds t c i wr) (fun _ i _ => n - (intOf i).toNat)
  case atStart => exact ⟨0, ps, 0, rfl, rfl, Nat.zero_le _, HLP.out, HLIMP.out, rfl, by simp [M.val], by omega, by omega, HO0.out, World.grownBy.refl _ _⟩
  case round =>
    obtain ⟨k, qs, c, rfl, rfl, hk, hlq, hlimq, hdrop, hval, hc0, hc1, hown, hgr⟩ := hrel
    have HLQ := Lib.hid hlq
    have HLIMQ := Lib.hid hlimq
    have HDR := Lib.hid hdrop
    have HV := Lib.hid hval
    have HO := Lib.hid hown
    have HG := Lib.hid hgr
    have hsz := hgr.size
    clear hlq hlimq hdrop hval hown hgr
    have hez : M.el qs k = M.el ps k := by
      have := congrArg (fun l => M.el l 0) HDR.out
      simpa only [M.el_drop, Nat.add_zero] using this
    by_cases hlt : k < n
    · have hD := HD.out.grown HG.out (fun b off e => by intro h; cases h; exact HNE.out _ _ e rfl)
      obtain ⟨db, dof, rfl, hcd⟩ := hD.el k (by rw [HLD.out]; exact hlt)
      obtain ⟨hcz, hfz, hgB, hgW, hcap, hcap2⟩ := HO.out.mid k (by rw [HLQ.out]; omega)
      rw [HLQ.out] at hcap2
      have hz := HLIMP.out.get k
      rw [M.el_take hlt, ← hez] at hz
      have hy := HLIMD.out.get k
      have hpr := M.addT_prod hy ht
      have hcr := M.addT_carry (c := c) ⟨hc0, hc1⟩ hz hpr
      obtain ⟨X, hX⟩ : ∃ X, t * M.el ds k = X := ⟨_, rfl⟩
      rw [hX] at hpr hcr
      have HX := Lib.hid hX
      have hXw : IntKind.i64.wrap (t * M.el ds k) = X := by rw [hX, IntKind.wrap_i64]; omega
      have HEZ := Lib.hid hez
      clear hez hX hD
      obtain ⟨z, hz'⟩ : ∃ z, M.el qs k = z := ⟨_, rfl⟩
      rw [hz'] at hcz hz hcr
      have HZ := Lib.hid hz'
      clear hz'
      go_wp2
      go_roundw
      case rel =>
        have hkl : k < qs.length := by rw [HLQ.out]; omega
        refine ⟨k + 1, qs.set k ((c + (z + X)) % 16777216), (c + (z + X)) / 16777216, by go_num, rfl, by omega, by rw [List.length_set]; exact HLQ.out, ?_, ?_, ?_, hcr.1, hcr.2, HO.out.setMid k hkl _, grown_set HG.out _ _⟩
        · rw [List.take_set]
          exact HLIMQ.out.set _ (by omega) (by omega)
        · rw [List.drop_set_of_lt (by omega)]
          have := congrArg (List.drop 1) HDR.out
          rwa [List.drop_drop, List.drop_drop] at this
        · rw [M.val_set_succ _ _ _ hkl, M.val_take_succ', M.val_take_succ', Int.pow_succ, ← HEZ.out, HZ.out]
          have := M.addT_step (z := z) (y := M.el ds k) HV.out
          rwa [HX.out] at this
      case measure => simp [intOf]; omega
    · obtain rfl : k = n := by omega
      obtain ⟨hcz, hfz, hgB, hgW, hcap, hcap2⟩ := HO.out.mid k (by rw [HLQ.out]; omega)
      rw [HLQ.out] at hcap2
      have htop := HTOP.out
      rw [← hez] at htop
      have HEZ := Lib.hid hez
      clear hez
      obtain ⟨z, hz'⟩ : ∃ z, M.el qs k = z := ⟨_, rfl⟩
      rw [hz'] at hcz htop
      have HZ := Lib.hid hz'
      clear hz'
      go_wp2
      go_ret
      have hkl : k < qs.length := by rw [HLQ.out]; omega
      refine ⟨qs.set k (z + c), (show _ = Ending.returned (Value.int .i64 (z + c)) from rfl).trans (by rw [M.el_set _ _ _ _ hkl, if_pos rfl]), by rw [List.length_set]; exact HLQ.out, ?_, ?_, HO.out.setMid k hkl _, grown_set HG.out _ _⟩
      · rw [List.take_set_of_le (Nat.le_refl _)]
        exact HLIMQ.out
      · have h1 := M.val_take_succ qs k hkl
        have h2 := M.val_take_succ ps k (by rw [HLP.out]; omega)
        rw [List.take_of_length_le (by rw [HLQ.out]; omega)] at h1
        rw [List.take_of_length_le (by rw [HLP.out]; omega)] at h2
        have h3 := HV.out
        rw [List.take_of_length_le (l := ds) (by rw [HLD.out]; omega)] at h3
        rw [M.val_set _ _ _ hkl, h1, h2, HZ.out, ← HEZ.out, HZ.out, show z + c - z = c by omega]
        omega
end Go.Proofs.YtamniclnhenmgaaDoor
