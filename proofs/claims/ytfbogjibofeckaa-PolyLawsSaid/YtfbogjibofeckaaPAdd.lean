/- poly.addMultiple. -/
import Derived.Test.YtfbogjibofeckaaPTrim
import Derived.Test.YtfbogjibofeckaaPOps
import Derived.Deep.RegionLaw
namespace Go.Proofs.Ytfbogjibofeckaa.P
open Go Go.RowKit Go.Shelf

theorem fmul_any (a b : PM.G) (w : World) :
    Calls Try.prog 46 #[.int .u8 (a.v : Int), .int .u8 (b.v : Int)] w fun e w' => e = .returned (.int .u8 ((a * b).v : Int)) ∧ Dr w w' := mul_any a.v b.v a.lt b.lt w
theorem xor_G (a b : PM.G) : bits BinOp.xor IntKind.u8 (a.v : Int) (b.v : Int) = ((a + b).v : Int) := xor_u8 a.v b.v a.lt b.lt

def AddRel (w : World) (B g cap off : Nat) (zs ps : List PM.G) (c : PM.G) (i : Value) (W : World) : Prop :=
  ∃ (k : Nat) (ys : List PM.G), i = .int .i64 (k : Int) ∧ k ≤ ps.length ∧ ys.length = zs.length ∧ (∀ j, PM.el ys j = PM.el zs j + if j < off ∨ off + k ≤ j then 0 else c * PM.el ps (j - off)) ∧
    Own W B (.slice (some ⟨g, 0, none⟩) ys.length cap) ys ∧ w.grownBy W (some g)
/-- What addMultiple leaves. -/
def AddPost (w : World) (B g cap off : Nat) (zs ps : List PM.G) (c : PM.G) (e : Ending) (W : World) : Prop :=
  ∃ ys : List PM.G, e = .returned (.tuple #[]) ∧ ys.length = zs.length ∧ (∀ j, PM.el ys j = PM.el zs j + if j < off then 0 else c * PM.el ps (j - off)) ∧
    Own W B (.slice (some ⟨g, 0, none⟩) ys.length cap) ys ∧ w.grownBy W (some g)

theorem add_step {w wr : World} {B g cap off : Nat} {zs ps ys : List PM.G} {c : PM.G} (k : Nat) (hlt : k < ps.length) (hfit : off + ps.length ≤ zs.length) (hlen : ys.length = zs.length)
    (hel : ∀ j, PM.el ys j = PM.el zs j + if j < off ∨ off + k ≤ j then 0 else c * PM.el ps (j - off)) (hown : Own wr B (.slice (some ⟨g, 0, none⟩) ys.length cap) ys) (hgr : w.grownBy wr (some g)) (m : Nat) :
    AddRel w B g cap off zs ps c (.int .i64 ((k : Int) + 1)) ((wr.drewN m).setCell ⟨g, off + k, none⟩ (.int .u8 (bits BinOp.xor IntKind.u8 ((PM.el ys (off + k)).v : Int) ((PM.el ps k * c).v : Int)))) := by
  rw [xor_G]
  refine ⟨k + 1, ys.set (off + k) (PM.el ys (off + k) + PM.el ps k * c), by go_num, hlt, by rw [List.length_set]; exact hlen, fun j => ?_, ?_, grown_set (grown_drewN hgr m) _ _⟩
  · rw [PM.el_set (by omega), hel, hel j]
    by_cases e : j = off + k
    · subst e
      rw [if_pos rfl, if_pos (.inr (Nat.le_refl _)), PM.G.add_zero, if_neg (by omega), Nat.add_sub_cancel_left, PM.G.mul_comm]
    · rw [if_neg e]
      congr 1
      by_cases h : j < off ∨ off + k ≤ j
      · rw [if_pos h, if_pos (by omega)]
      · rw [if_neg h, if_neg (by omega)]
  · have := (hown.drewN m).set (off + k) (PM.el ys (off + k) + PM.el ps k * c)
    rwa [List.length_set]

set_option maxRecDepth 100000 in
set_option maxHeartbeats 1000000 in
/-- **poly.addMultiple** -/
theorem addMul_any (B g cap off n cs cp : Nat) (zs ps : List PM.G) (ap : Option Addr) (c : PM.G) (w : World) (hown : Own w B (.slice (some ⟨g, 0, none⟩) zs.length cap) zs)
    (hp : Row w ap ps cp) (hfit : off + ps.length ≤ zs.length) (hn : ps.length ≤ n) (hcs : n ≤ cs) (hcs2 : cs ≤ 9223372036854775807) (hne : 0 < ps.length → ∀ b o, ap = some ⟨b, o, none⟩ → b ≠ g) :
    Calls Try.prog 40 #[.slice (some ⟨g, off, none⟩) n cs, .slice ap ps.length cp, .int .u8 (c.v : Int)] w (AddPost w B g cap off zs ps c) := by
  have hpm := hp.room
  have hpm2 := hp.most
  have HO0 := Lib.hid hown
  have HP := Lib.hid hp
  have HNE := Lib.hid hne
  clear hown hp hne
  go_enter Try.func40, Try.ntmps40
  go_wp2
  go_loopw [10] (fun i wr => AddRel w B g cap off zs ps c i wr) (fun i _ => ps.length - (intOf i).toNat)
  case atStart => exact ⟨0, zs, rfl, Nat.zero_le _, rfl, fun j => by rw [if_pos (by omega), PM.G.add_zero], HO0.out, World.grownBy.refl _ _⟩
  case round =>
    obtain ⟨k, ys, rfl, hk, hlen, hel, hown, hgr⟩ := hrel
    have HLN := Lib.hid hlen
    have HEL := Lib.hid hel
    have HO := Lib.hid hown
    have HG := Lib.hid hgr
    have hsz := hgr.size
    clear hlen hel hown hgr
    by_cases hlt : k < ps.length
    · have hP := HP.out.grown HG.out (fun b o e => by intro h; cases h; exact HNE.out (by omega) _ _ e rfl)
      obtain ⟨pb, po, rfl, hcp⟩ := hP.el k hlt
      obtain ⟨hgB, hgW, hcap, hcap2, hcz, hfz⟩ := HO.out.at (off + k) (by rw [HLN.out]; omega)
      rw [HLN.out] at hcap2
      clear hP
      go_wp2_with fail
      go_region_with (go_at_call 46; refine (fmul_any _ _ _).mono ?_; rintro e w1 ⟨rfl, hd1⟩; obtain ⟨m, rfl⟩ := hd1)
      all_goals go_wp2_with fail
      all_goals go_roundw
      all_goals first
        | exact add_step k hlt hfit HLN.out HEL.out HO.out HG.out _
        | (simp [intOf]; omega)
    · go_wp2
      refine bodyPost_ret (results_none rfl _ _ _) rfl ?_
      refine ⟨ys, rfl, HLN.out, fun j => ?_, HO.out, HG.out⟩
      rw [HEL.out]
      congr 1
      by_cases h1 : j < off
      · rw [if_pos (.inl h1), if_pos h1]
      · rw [if_neg h1]
        by_cases h2 : off + k ≤ j
        · rw [if_pos (.inr h2), PM.el_ge (by omega), PM.G.mul_zero]
        · rw [if_neg (by omega)]
end Go.Proofs.Ytfbogjibofeckaa.P
