/- bitmat.Turn. -/
import Derived.Test.YtgaanojfjaifhaaBMul
namespace Go.Proofs.Ytgaanojfjaifhaa.B
open Go Go.RowKit Go.Shelf
open BM (St)

/-- A matrix and a result lie in boxes. -/
structure M1 (w : World) (C : Int) (a : Option Addr) (ca : Nat) (R : List V) (W : World) : Prop where
  pa : MBox W w.heap.size C a R.length ca
  pr : MBox W (w.heap.size + 1) 0 none 0 0
  ra : Row W a R ca
  below : Below w.heap.size w W
  size : w.heap.size + 1 + 1 ≤ W.heap.size
  fa : ∀ b' o, a = some ⟨b', o, none⟩ → 0 < R.length → b' < w.heap.size
theorem M1.keep {w W W' : World} {C : Int} {a : Option Addr} {ca : Nat} {R : List V} (h : M1 w C a ca R W) (hb : Below W.heap.size W W') : M1 w C a ca R W' :=
  ⟨h.pa.below hb, h.pr.below hb, h.ra.below hb, h.below.trans (hb.mono h.below.size), Nat.le_trans h.size hb.size, h.fa⟩
theorem M1.drewN {w W : World} {C : Int} {a : Option Addr} {ca : Nat} {R : List V} (h : M1 w C a ca R W) (n : Nat) : M1 w C a ca R (W.drewN n) :=
  ⟨h.pa.drewN n, h.pr.drewN n, h.ra.drewN n, belowN h.below n, h.size, h.fa⟩
/-- A store into a block of the call's own. -/
theorem M1.other {w W : World} {C : Int} {a : Option Addr} {ca : Nat} {R : List V} (h : M1 w C a ca R W) {g : Nat} (hg : w.heap.size + 1 + 1 ≤ g) (j : Nat) (u : Value) : M1 w C a ca R (W.setCell ⟨g, j, none⟩ u) :=
  ⟨h.pa.other (show g ≠ w.heap.size by omega) u, h.pr.other (show g ≠ w.heap.size + 1 by omega) u, h.ra.other u (fun b' o e h0 => by have := h.fa b' o e h0; show b' ≠ g; omega), h.below.setCell (p := ⟨g, j, none⟩) (by show _ ≤ g; omega) u, by have := h.size; simpa [World.setCell] using this, h.fa⟩
theorem M1.start {w : World} {C : Int} {a : Option Addr} {ca : Nat} {R : List V} (hA : Row w a R ca) :
    M1 w C a ca R ((w.alloc (.cells #[.int .i64 C, .slice a R.length ca] 24)).alloc (.cells #[.int .i64 0, .slice none 0 0] 24)) := by
  have h1 := MBox.new w C a R.length ca 24
  have h2 := MBox.new (w.alloc (.cells #[.int .i64 C, .slice a R.length ca] 24)) 0 none 0 0 24
  simp only [World.size_alloc] at h2
  exact ⟨h1.alloc _, h2, (hA.alloc _).alloc _, ((Below.refl _ w).alloc (Nat.le_refl _) _).alloc (by simp) _, by simp, fun b' o e h0 => by subst e; exact hA.lt h0⟩
/-- A matrix has been stored as the result. -/
theorem M1.stored {w W : World} {C : Int} {a : Option Addr} {ca : Nat} {R : List V} (h : M1 w C a ca R W) (D : Int) (a' : Option Addr) (n c : Nat) :
    MBox ((W.setCell ⟨w.heap.size + 1, 0, none⟩ (.int .i64 D)).setCell ⟨w.heap.size + 1, 1, none⟩ (.slice a' n c)) (w.heap.size + 1) D a' n c ∧ Below w.heap.size w ((W.setCell ⟨w.heap.size + 1, 0, none⟩ (.int .i64 D)).setCell ⟨w.heap.size + 1, 1, none⟩ (.slice a' n c)) ∧ (W.setCell ⟨w.heap.size + 1, 0, none⟩ (.int .i64 D)).cell? ⟨w.heap.size + 1, 1, none⟩ = some (.slice none 0 0) :=
  ⟨h.pr.set, (h.below.setCell (p := ⟨w.heap.size + 1, 0, none⟩) (by show _ ≤ w.heap.size + 1; omega) _).setCell (p := ⟨w.heap.size + 1, 1, none⟩) (by show _ ≤ w.heap.size + 1; omega) _, (World.cell?_setCell_other _ _ _ _ (by intro e; cases e)).trans h.pr.c1⟩

/-- Column j of the first k rows. -/
def trF (R : List V) (k j : Nat) : V := BM.ofB k (fun i => BM.bt (el R i) j)
def trM (R : List V) (k c j : Nat) : V := if j < c then trF R (k + 1) j else trF R k j
theorem trM_0 (R : List V) (k : Nat) : trM R k 0 = trF R k := by funext j; unfold trM; rw [if_neg (Nat.not_lt_zero j)]
theorem trM_end (R : List V) (k C : Nat) : tab C (trM R k C) = tab C (trF R (k + 1)) := tab_ext (fun j hj => by unfold trM; rw [if_pos hj])
theorem trM_at (R : List V) (k c : Nat) : trM R k c c = trF R k c := by unfold trM; rw [if_neg (Nat.lt_irrefl c)]
theorem trM_step (R : List V) (k c : Nat) : upd (trM R k c) c (trF R (k + 1) c) = trM R k (c + 1) := by
  funext j
  unfold upd trM
  by_cases e : j = c
  · subst e; rw [if_pos rfl, if_pos (Nat.lt_succ_self j)]
  · rw [if_neg e]
    by_cases h : j < c
    · rw [if_pos h, if_pos (by omega)]
    · rw [if_neg h, if_neg (by omega)]
theorem trF_succ (R : List V) (k c : Nat) : trF R k c ||| b1 (BM.bt (el R k) c) <<< k = trF R (k + 1) c := by rw [b1_shl]; rfl
theorem trF_0 (R : List V) (C : Nat) : List.replicate C (Elt.z : V) = tab C (trF R 0) := tab_replicate C _

def turnE (C : Int) (R : List V) : Int := if validB C R then 0 else 1
def turnC (C : Int) (R : List V) : Int := if validB C R then R.length else 0
def turnR (C : Int) (R : List V) : List V := if validB C R then tab C.toNat (trF R R.length) else []
def TurnRel (w : World) (C : Nat) (a : Option Addr) (ca : Nat) (R : List V) (p g : Nat) (f : Nat → V) (W : World) : Prop :=
  M1 w C a ca R W ∧ MBox W p R.length (some ⟨g, 0, none⟩) C C ∧ Own W (w.heap.size + 1 + 1) (.slice (some ⟨g, 0, none⟩) C C) (tab C f)
def TurnCut (w : World) (C : Nat) (a : Option Addr) (ca : Nat) (R : List V) (v : Value) (W : World) : Prop :=
  ∃ p g, v = .pointer (some ⟨p, 0, none⟩) ∧ p ≠ g ∧ w.heap.size + 1 < p ∧ w.heap.size + 1 < g ∧ TurnRel w C a ca R p g (trF R 0) W

set_option maxRecDepth 100000 in
set_option maxHeartbeats 1000000 in
/-- **bitmat.Turn** -/
theorem turn_any (C : Int) (a : Option Addr) (ca : Nat) (R : List V) (w : World) (hA : Row w a R ca) :
    Calls Try.prog 23 #[.agg #[.int .i64 C, .slice a R.length ca]] w fun e W => (∃ v, e = .returned (.tuple #[v, .int .i64 (turnE C R)]) ∧ MatR w.heap.size W v (turnC C R) (turnR C R)) ∧ Below w.heap.size w W := by
  have hS := M1.start (C := C) hA
  obtain ⟨w3, hw3⟩ : ∃ w3, ((w.alloc (.cells #[.int .i64 C, .slice a R.length ca] 24)).alloc (.cells #[.int .i64 0, .slice none 0 0] 24)) = w3 := ⟨_, rfl⟩
  rw [hw3] at hS
  have hv1 := valid_any C a ca R w3 hS.ra
  have a0 := hS.pa.c0
  have a1 := hS.pa.c1
  have HS := Lib.hid hS
  clear hA hS
  cases hva : validB C R with
  | false =>
    have e0 : turnE C R = 1 := by unfold turnE; rw [hva]; rfl
    have e1 : turnC C R = 0 := by unfold turnC; rw [hva]; rfl
    have e2 : turnR C R = [] := by unfold turnR; rw [hva]; rfl
    rw [e0, e1, e2]
    rw [hva] at hv1
    have H1 := Lib.hid hv1
    clear hv1 hva e0 e1 e2
    go_enter Try.func23, Try.ntmps23
    go_wp2_with fail
    refine H1.out.mono ?_
    rintro e w4 ⟨rfl, hb4⟩
    have S4 := HS.out.keep hb4
    obtain ⟨z1, z2, r1'⟩ := S4.stored 0 none 0 0
    have r0 := S4.pr.c0
    have r1 := S4.pr.c1
    have f0 := S4.pr.f0
    have f1 := S4.pr.f1
    have Z1 := Lib.hid z1
    have Z2 := Lib.hid z2
    clear z1 z2 S4 hb4
    go_wp2_with fail
    exact bodyPost_ret (v := .tuple #[.agg #[.int .i64 0, .slice none 0 0], .int .i64 1]) (by simp [results, Try.results23, go_sem, Z1.out.c0, Z1.out.c1]) rfl ⟨⟨_, rfl, MatR.none _ _⟩, Z2.out⟩
  | true =>
    obtain ⟨D, rfl, hM⟩ := MV.of hva
    have e0 : turnE D R = 0 := by unfold turnE; rw [hva]; rfl
    have e1 : turnC D R = R.length := by unfold turnC; rw [hva]; rfl
    have e2 : turnR D R = tab D (trF R R.length) := by unfold turnR; rw [hva, Int.toNat_natCast]; rfl
    rw [e0, e1, e2]
    rw [hva] at hv1
    have H1 := Lib.hid hv1
    have l1 := hM.r1
    have l2 := hM.r2
    have l3 := hM.c1
    have l4 := hM.c2
    clear hv1 hva e0 e1 e2
    go_enter Try.func23, Try.ntmps23
    go_wp2_with fail
    refine H1.out.mono ?_
    rintro e w5 ⟨rfl, hb4⟩
    have S5 := HS.out.keep hb4
    have a0 := S5.pa.c0
    have a1 := S5.pa.c1
    have HS5 := Lib.hid S5
    clear S5 hb4 H1
    go_upto_region 3 with fail
    go_cut [4] (fun s4 wx => TurnCut w D a ca R s4 wx)
    case first =>
      obtain ⟨mk, hmk, hown⟩ := make_fact (α := V) D (by omega)
      have hmk' : ∀ W : World, (Instr.makeSlice 22 (.int .i64 (D : Int)) (.int .i64 (D : Int))).run Try.prog W = .ok (.slice (some ⟨W.heap.size, 0, none⟩) D D) (W.alloc mk) := hmk
      have HOWN := Lib.hid hown
      clear hmk hown
      have k0 := cell_later (.cells #[.int .i64 0, .slice none 0 0] 24) a0
      have k1 := cell_later (.cells #[.int .i64 0, .slice none 0 0] 24) a1
      have k2 := cell_later mk a1
      have k3 := cell_later mk k1
      have k4 := cell_later (.cells #[.int .i64 0, .slice none 0 0] 24) k2
      have m1 := MBox.new (w5.alloc mk) 0 none 0 0 24
      have m2 := (MBox.new w5 0 none 0 0 24).alloc mk
      simp only [World.size_alloc] at m1
      have m1c := m1.c0
      have m1d := m1.c1
      have m1f := m1.f0
      have m1g := m1.f1
      have m2c := m2.c0
      have m2d := m2.c1
      have m2f := m2.f0
      have m2g := m2.f1
      clear m1 m2
      go_region
      · go_wp2_with fail
        go_meet
        have hsz := HS5.out.size
        refine ⟨_, w5.heap.size, rfl, by omega, by omega, by omega, HS5.out.keep (belowN (((Below.refl _ w5).alloc (Nat.le_refl _) _).alloc (by simp) _) 1), ?_, ?_⟩
        · have := MBox.new (w5.alloc mk) (R.length : Int) (some ⟨w5.heap.size, 0, none⟩) D D 24
          simp only [World.size_alloc] at this
          exact this.drewN 1
        · have := (HOWN.out w5 (w.heap.size + 1 + 1) hsz).alloc (.cells #[.int .i64 (R.length : Int), .slice (some ⟨w5.heap.size, 0, none⟩) D D] 24)
          rw [trF_0 R] at this
          exact this
      · go_wp2_with fail
        go_meet
        have hsz := HS5.out.size
        refine ⟨_, w5.heap.size + 1, rfl, by omega, by omega, by omega, HS5.out.keep (belowN (((Below.refl _ w5).alloc (Nat.le_refl _) _).alloc (by simp) _) 1), ?_, ?_⟩
        · exact (MBox.new w5 (R.length : Int) (some ⟨w5.heap.size + 1, 0, none⟩) D D 24).alloc mk |>.drewN 1
        · have := HOWN.out (w5.alloc (.cells #[.int .i64 (R.length : Int), .slice (some ⟨w5.heap.size + 1, 0, none⟩) D D] 24)) (w.heap.size + 1 + 1) (by simp; omega)
          rw [trF_0 R] at this
          simp only [World.size_alloc] at this
          exact this
    case rest =>
      obtain ⟨p, g, rfl, hpg, hpw, hgw, hS, hbx, ho⟩ := hcut
      clear a0 a1 HS HS5
      have a1 := hS.pa.c1
      have HS := Lib.hid hS
      have HBX := Lib.hid hbx
      have HO := Lib.hid ho
      have hra := hS.ra.room
      have hra2 := hS.ra.most
      clear hS hbx ho
      go_wp2_with fail
      go_loopw [5, 6, 7, 22] (fun _ _ _ i wr => ∃ k : Nat, i = .int .i64 (k : Int) ∧ k ≤ R.length ∧ TurnRel w D a ca R p g (trF R k) wr) (fun _ _ _ i _ => R.length - (intOf i).toNat)
      case atStart => exact ⟨0, rfl, Nat.zero_le _, HS.out, HBX.out, HO.out⟩
      case round =>
        clear a1 HS HBX HO
        obtain ⟨k, rfl, hk, hS, hbx, ho⟩ := hrel
        by_cases hlt : k < R.length
        · obtain ⟨ab, ao, rfl, hcell⟩ := hS.ra.elV k hlt
          have a0 := hS.pa.c0
          have HS := Lib.hid hS
          have HBX := Lib.hid hbx
          have HO := Lib.hid ho
          clear hS hbx ho
          go_wp2_with fail
          go_loopw [7, 29] (fun _ i wq => ∃ c : Nat, i = .int .i64 (c : Int) ∧ c ≤ D ∧ TurnRel w D (some ⟨ab, ao, none⟩) ca R p g (trM R k c) wq) (fun _ i _ => D - (intOf i).toNat)
          case atStart => exact ⟨0, rfl, Nat.zero_le _, HS.out, HBX.out, by rw [trM_0]; exact HO.out⟩
          case round =>
            clear a0 HS HBX HO hcell
            obtain ⟨c, rfl, hc, hS, hbx, ho⟩ := hrel
            by_cases hlc : c < D
            · have p1 := hbx.c1
              have hce := ho.cellV c (by rw [tab_len]; exact hlc)
              rw [el_tab _ _ _ hlc, trM_at] at hce
              have hf := ho.free c (by rw [tab_len]; exact hlc)
              have HB := Lib.hid (bit_any (el R k) c wr.drew)
              have HS := Lib.hid hS
              have HBX := Lib.hid hbx
              have HO := Lib.hid ho
              clear hS hbx ho
              go_wp2_with fail
              go_region_law (go_simp; go_at_call 41; (with_reducible refine HB.out.mono ?_); rintro e w2 ⟨rfl, hw⟩; obtain rfl := hw.symm; go_simp)
              all_goals (
                go_wp2_with fail
                go_roundw
                case rel =>
                  refine ⟨c + 1, by go_num, hlc, (HS.out.drewN 1).other (by omega) _ _, (HBX.out.drewN 1).other (show g ≠ p from fun e => hpg e.symm) _, ?_⟩
                  rw [shl_V, or_V, trF_succ]
                  have := (HO.out.drewN 1).setV c (trF R (k + 1) c)
                  rwa [tab_set, trM_step] at this
                case measure => simp [intOf]; omega)
            · obtain rfl : c = D := by omega
              have HS := Lib.hid hS
              have HBX := Lib.hid hbx
              have HO := Lib.hid ho
              clear hS hbx ho
              go_wp2_with fail
              go_roundw
              case rel => exact ⟨k + 1, by go_num, hlt, HS.out, HBX.out, by rw [← trM_end]; exact HO.out⟩
              case measure => simp [intOf]; omega
        · obtain rfl : k = R.length := by omega
          obtain ⟨z1, z2, r1'⟩ := hS.stored R.length (some ⟨g, 0, none⟩) D D
          have r0 := hS.pr.c0
          have r1 := hS.pr.c1
          have f0 := hS.pr.f0
          have f1 := hS.pr.f1
          have p0 := hbx.c0
          have p1 := hbx.c1
          have HS := Lib.hid hS
          have HO := Lib.hid ho
          have Z1 := Lib.hid z1
          have Z2 := Lib.hid z2
          clear hS hbx ho z1 z2
          go_wp2_with fail
          refine bodyPost_ret (v := .tuple #[.agg #[.int .i64 (R.length : Int), .slice (some ⟨g, 0, none⟩) D D], .int .i64 0]) (by simp [results, Try.results23, go_sem, Z1.out.c0, Z1.out.c1]) rfl ⟨⟨_, rfl, some ⟨g, 0, none⟩, D, by rw [tab_len], ?_, ?_⟩, Z2.out⟩
          · exact HO.out.rowAt.boxed HS.out.pr
          · intro b' o' e
            cases e
            omega
end Go.Proofs.Ytgaanojfjaifhaa.B
