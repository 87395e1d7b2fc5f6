/- bitmat.Mul. -/
import Derived.Test.YtodiokladojnjaaBMat
namespace Go.Proofs.Ytodiokladojnjaa.B
open Go Go.RowKit Go.Shelf
open BM (St)

/-- What make([]T, n) does to any world. -/
theorem make_fact {α : Type} [Elt α] (n : Nat) (hn : n < 1000000) : ∃ mk : Obj, (∀ W : World, (Instr.makeSlice (Elt.sl α) (.int .i64 (n : Int)) (.int .i64 (n : Int))).run Try.prog W = .ok (.slice (some ⟨W.heap.size, 0, none⟩) n n) (W.alloc mk)) ∧
    ∀ (W : World) (B : Nat), B ≤ W.heap.size → Own (α := α) (W.alloc mk) B (.slice (some ⟨W.heap.size, 0, none⟩) n n) (List.replicate n Elt.z) := by
  obtain ⟨i0, hi, hz0, hz1, hz2⟩ := info_parts (Elt.info (α := α))
  refine ⟨.cells (madeCells (Elt.gv (Elt.z : α)).cells n) (Elt.ty α), fun W => ?_, fun W B hB => ?_⟩
  · have := run_make (P := Try.prog) W (Elt.sl α) (Elt.ty α) i0 (Elt.gv (Elt.z : α)) (Elt.under (α := α)) hi hz0 .i64 .i64 (n : Int) (n : Int) (by omega) (Int.le_refl _) (by rw [hz2]; omega) (by omega)
    rw [hz1, Int.toNat_natCast, Nat.mul_one] at this
    exact this
  · have := World.ownsRow_lit (base := B) (e := Elt.ty α) (size := 1) W (madeCells (Elt.gv (Elt.z : α)).cells n) n hB (by unfold maxLen; omega) (by rw [size_madeCells, Nat.mul_one])
    unfold Own
    rw [List.length_replicate, List.map_replicate]
    have e : (madeCells (Elt.gv (Elt.z : α)).cells n).toList = List.replicate n (Elt.gv (Elt.z : α)) := by
      refine List.eq_replicate_iff.2 ⟨by simp [madeCells, Elt.one], fun b hb => ?_⟩
      simp [madeCells, Elt.one, Nat.mod_one] at hb
      exact hb.2.symm
    rw [e] at this
    exact this

/-- Two matrices and a result lie in boxes. -/
structure M2 (w : World) (C D : Int) (a b : Option Addr) (ca cb : Nat) (R T : List V) (W : World) : Prop where
  pa : MBox W w.heap.size C a R.length ca
  pb : MBox W (w.heap.size + 1) D b T.length cb
  pr : MBox W (w.heap.size + 1 + 1) 0 none 0 0
  ra : Row W a R ca
  rb : Row W b T cb
  below : Below w.heap.size w W
  size : w.heap.size + 1 + 1 + 1 ≤ W.heap.size
  fa : ∀ b' o, a = some ⟨b', o, none⟩ → 0 < R.length → b' < w.heap.size
  fb : ∀ b' o, b = some ⟨b', o, none⟩ → 0 < T.length → b' < w.heap.size
theorem M2.keep {w W W' : World} {C D : Int} {a b : Option Addr} {ca cb : Nat} {R T : List V} (h : M2 w C D a b ca cb R T W) (hb : Below W.heap.size W W') : M2 w C D a b ca cb R T W' :=
  ⟨h.pa.below hb, h.pb.below hb, h.pr.below hb, h.ra.below hb, h.rb.below hb, h.below.trans (hb.mono h.below.size), Nat.le_trans h.size hb.size, h.fa, h.fb⟩
theorem M2.start {w : World} {C D : Int} {a b : Option Addr} {ca cb : Nat} {R T : List V} (hA : Row w a R ca) (hB : Row w b T cb) :
    M2 w C D a b ca cb R T (((w.alloc (.cells #[.int .i64 C, .slice a R.length ca] 49)).alloc (.cells #[.int .i64 D, .slice b T.length cb] 49)).alloc (.cells #[.int .i64 0, .slice none 0 0] 49)) := by
  have h1 := MBox.new w C a R.length ca 49
  have h2 := MBox.new (w.alloc (.cells #[.int .i64 C, .slice a R.length ca] 49)) D b T.length cb 49
  have h3 := MBox.new ((w.alloc (.cells #[.int .i64 C, .slice a R.length ca] 49)).alloc (.cells #[.int .i64 D, .slice b T.length cb] 49)) 0 none 0 0 49
  simp only [World.size_alloc] at h2 h3
  exact ⟨(h1.alloc _).alloc _, h2.alloc _, h3, ((hA.alloc _).alloc _).alloc _, ((hB.alloc _).alloc _).alloc _, (((Below.refl _ w).alloc (Nat.le_refl _) _).alloc (by simp) _).alloc (by simp; omega) _, by simp, fun b' o e h0 => by subst e; exact hA.lt h0, fun b' o e h0 => by subst e; exact hB.lt h0⟩
/-- The result stays the zero matrix. -/
theorem M2.zero {w W : World} {C D : Int} {a b : Option Addr} {ca cb : Nat} {R T : List V} (h : M2 w C D a b ca cb R T W) :
    MBox ((W.setCell ⟨w.heap.size + 1 + 1, 0, none⟩ (.int .i64 0)).setCell ⟨w.heap.size + 1 + 1, 1, none⟩ (.slice none 0 0)) (w.heap.size + 1 + 1) 0 none 0 0 ∧ Below w.heap.size w ((W.setCell ⟨w.heap.size + 1 + 1, 0, none⟩ (.int .i64 0)).setCell ⟨w.heap.size + 1 + 1, 1, none⟩ (.slice none 0 0)) :=
  ⟨h.pr.set, (h.below.setCell (p := ⟨w.heap.size + 1 + 1, 0, none⟩) (by show _ ≤ w.heap.size + 1 + 1; omega) _).setCell (p := ⟨w.heap.size + 1 + 1, 1, none⟩) (by show _ ≤ w.heap.size + 1 + 1; omega) _⟩

def mulE (C D : Int) (R T : List V) : Int := if validB C R && validB D T then (if C = T.length then 0 else 7) else 1
def mulC (C D : Int) (R T : List V) : Int := if mulE C D R T = 0 then D else 0
def mulR (C D : Int) (R T : List V) : List V := if mulE C D R T = 0 then tab R.length (fun k => BM.comb (el T) (el R k) T.length) else []
def MulRel (w : World) (C D : Int) (a b : Option Addr) (ca cb : Nat) (R T : List V) (p g : Nat) (i : Value) (W : World) : Prop :=
  ∃ k : Nat, i = .int .i64 (k : Int) ∧ k ≤ R.length ∧ M2 w C D a b ca cb R T W ∧ MBox W p D (some ⟨g, 0, none⟩) R.length R.length ∧ Own W (w.heap.size + 1 + 1 + 1) (.slice (some ⟨g, 0, none⟩) R.length R.length) (tab R.length (fun j => if j < k then BM.comb (el T) (el R j) T.length else 0))
def MulCut (w : World) (C D : Int) (a b : Option Addr) (ca cb : Nat) (R T : List V) (v : Value) (W : World) : Prop :=
  ∃ p g, v = .pointer (some ⟨p, 0, none⟩) ∧ p ≠ g ∧ w.heap.size + 1 + 1 < p ∧ MulRel w C D a b ca cb R T p g (.int .i64 0) W

set_option maxRecDepth 100000 in
set_option maxHeartbeats 1000000 in
theorem mul_bad (C D : Int) (a b : Option Addr) (ca cb : Nat) (R T : List V) (w : World) (hA : Row w a R ca) (hB : Row w b T cb) (hbad : (validB C R && validB D T) = false) :
    Calls Try.prog 29 #[.agg #[.int .i64 C, .slice a R.length ca], .agg #[.int .i64 D, .slice b T.length cb]] w fun e W => e = .returned (.tuple #[.agg #[.int .i64 0, .slice none 0 0], .int .i64 1]) ∧ Below w.heap.size w W := by
  have hS := M2.start (C := C) (D := D) hA hB
  obtain ⟨w3, hw3⟩ : ∃ w3, (((w.alloc (.cells #[.int .i64 C, .slice a R.length ca] 49)).alloc (.cells #[.int .i64 D, .slice b T.length cb] 49)).alloc (.cells #[.int .i64 0, .slice none 0 0] 49)) = w3 := ⟨_, rfl⟩
  rw [hw3] at hS
  have hv1 := valid_any C a ca R w3 hS.ra
  have a0 := hS.pa.c0
  have a1 := hS.pa.c1
  have HS := Lib.hid hS
  clear hA hB hS
  cases hva : validB C R with
  | false =>
    rw [hva] at hv1
    have H1 := Lib.hid hv1
    clear hv1 hva hbad
    go_enter Try.func29, Try.ntmps29
    go_wp2_with fail
    refine H1.out.mono ?_
    rintro e w4 ⟨rfl, hb4⟩
    have S4 := HS.out.keep hb4
    obtain ⟨z1, z2⟩ := S4.zero
    have r0 := S4.pr.c0
    have r1 := S4.pr.c1
    have f0 := S4.pr.f0
    have f1 := S4.pr.f1
    have r1' : (w4.setCell ⟨w.heap.size + 1 + 1, 0, none⟩ (.int .i64 0)).cell? ⟨w.heap.size + 1 + 1, 1, none⟩ = some (.slice none 0 0) := (World.cell?_setCell_other _ _ _ _ (by intro e; cases e)).trans r1
    have Z1 := Lib.hid z1
    have Z2 := Lib.hid z2
    clear z1 z2 S4 hb4
    go_wp2_with fail
    exact bodyPost_ret (v := .tuple #[.agg #[.int .i64 0, .slice none 0 0], .int .i64 1]) (by simp [results, Try.results29, go_sem, Z1.out.c0, Z1.out.c1]) rfl ⟨rfl, Z2.out⟩
  | true =>
    rw [hva, Bool.true_and] at hbad
    rw [hva] at hv1
    have H1 := Lib.hid hv1
    have HBAD := Lib.hid hbad
    clear hv1 hva hbad
    go_enter Try.func29, Try.ntmps29
    go_wp2_with fail
    refine H1.out.mono ?_
    rintro e w4 ⟨rfl, hb4⟩
    have S4 := HS.out.keep hb4
    have hv2 := valid_any D b cb T w4 S4.rb
    rw [HBAD.out] at hv2
    have H2 := Lib.hid hv2
    have b0 := S4.pb.c0
    have b1 := S4.pb.c1
    have HS4 := Lib.hid S4
    clear hv2 hb4 S4
    go_wp2_with fail
    refine H2.out.mono ?_
    rintro e w5 ⟨rfl, hb5⟩
    have S5 := HS4.out.keep hb5
    obtain ⟨z1, z2⟩ := S5.zero
    have r0 := S5.pr.c0
    have r1 := S5.pr.c1
    have f0 := S5.pr.f0
    have f1 := S5.pr.f1
    have r1' : (w5.setCell ⟨w.heap.size + 1 + 1, 0, none⟩ (.int .i64 0)).cell? ⟨w.heap.size + 1 + 1, 1, none⟩ = some (.slice none 0 0) := (World.cell?_setCell_other _ _ _ _ (by intro e; cases e)).trans r1
    have Z1 := Lib.hid z1
    have Z2 := Lib.hid z2
    clear z1 z2 S5 hb5
    go_wp2_with fail
    exact bodyPost_ret (v := .tuple #[.agg #[.int .i64 0, .slice none 0 0], .int .i64 1]) (by simp [results, Try.results29, go_sem, Z1.out.c0, Z1.out.c1]) rfl ⟨rfl, Z2.out⟩
set_option maxRecDepth 100000 in
set_option maxHeartbeats 1000000 in
theorem mul_good (C D : Nat) (a b : Option Addr) (ca cb : Nat) (R T : List V) (w : World) (hA : Row w a R ca) (hB : Row w b T cb) (hMA : MV C R) (hMB : MV D T) :
    Calls Try.prog 29 #[.agg #[.int .i64 (C : Int), .slice a R.length ca], .agg #[.int .i64 (D : Int), .slice b T.length cb]] w fun e W => (∃ v, e = .returned (.tuple #[v, .int .i64 (mulE C D R T)]) ∧ MatR w.heap.size W v (mulC C D R T) (mulR C D R T)) ∧ Below w.heap.size w W := by
  have hS := M2.start (C := (C : Int)) (D := (D : Int)) hA hB
  obtain ⟨w3, hw3⟩ : ∃ w3, (((w.alloc (.cells #[.int .i64 (C : Int), .slice a R.length ca] 49)).alloc (.cells #[.int .i64 (D : Int), .slice b T.length cb] 49)).alloc (.cells #[.int .i64 0, .slice none 0 0] 49)) = w3 := ⟨_, rfl⟩
  rw [hw3] at hS
  have hv1 := valid_any C a ca R w3 hS.ra
  rw [hMA.yes] at hv1
  have H1 := Lib.hid hv1
  have a0 := hS.pa.c0
  have a1 := hS.pa.c1
  have HS := Lib.hid hS
  have hva := hMA.yes
  have hvb := hMB.yes
  have l1 := hMA.r1
  have l2 := hMA.r2
  have l3 := hMB.r2
  clear hA hB hS hv1
  by_cases hCT : C = T.length
  · have e0 : mulE C D R T = 0 := by unfold mulE; rw [hva, hvb, Bool.true_and, if_pos rfl, if_pos (by omega)]
    have e1 : mulC C D R T = D := by unfold mulC; rw [if_pos e0]
    have e2 : mulR C D R T = tab R.length (fun k => BM.comb (el T) (el R k) T.length) := by unfold mulR; rw [if_pos e0]
    rw [e0, e1, e2]
    have hne : ((C : Int) != (T.length : Int)) = false := by rw [hCT]; simp
    clear e0 e1 e2 hva hvb
    have HCT := Lib.hid hCT
    clear hCT
    go_enter Try.func29, Try.ntmps29
    go_wp2_with fail
    refine H1.out.mono ?_
    rintro e w4 ⟨rfl, hb4⟩
    have S4 := HS.out.keep hb4
    have hv2 := valid_any D b cb T w4 S4.rb
    rw [hMB.yes] at hv2
    have H2 := Lib.hid hv2
    have b0 := S4.pb.c0
    have b1 := S4.pb.c1
    have HS4 := Lib.hid S4
    clear hv2 hb4 S4 a0 a1
    go_wp2_with fail
    refine H2.out.mono ?_
    rintro e w5 ⟨rfl, hb5⟩
    have S5 := HS4.out.keep hb5
    have a0 := S5.pa.c0
    have b1 := S5.pb.c1
    have a1 := S5.pa.c1
    have b0 := S5.pb.c0
    have HS5 := Lib.hid S5
    clear S5 hb5 H1 H2
    go_upto_region 5 with fail
    go_cut [6] (fun s6 wx => MulCut w C D a b ca cb R T s6 wx)
    case first =>
      obtain ⟨mk, hmk, hown⟩ := make_fact (α := V) R.length (by omega)
      have hmk' : ∀ W : World, (Instr.makeSlice 22 (.int .i64 (R.length : Int)) (.int .i64 (R.length : Int))).run Try.prog W = .ok (.slice (some ⟨W.heap.size, 0, none⟩) R.length R.length) (W.alloc mk) := hmk
      have HOWN := Lib.hid hown
      clear hmk hown
      have k0 := cell_later (.cells #[.int .i64 0, .slice none 0 0] 49) b0
      have k1 := cell_later (.cells #[.int .i64 0, .slice none 0 0] 49) a1
      have k2 := cell_later mk b0
      have k3 := cell_later mk k0
      have k4 := cell_later (.cells #[.int .i64 0, .slice none 0 0] 49) k2
      have m1 := MBox.new (w5.alloc mk) 0 none 0 0 49
      have m2 := (MBox.new w5 0 none 0 0 49).alloc mk
      simp only [World.size_alloc] at m1
      have m1c := m1.c0
      have m1d := m1.c1
      have m1f := m1.f0
      have m1g := m1.f1
      have m2c := m2.c0
      have m2d := m2.c1
      have m2f := m2.f0
      have m2g := m2.f1
      have M1 := Lib.hid m1
      have M2' := Lib.hid m2
      clear m1 m2
      go_region
      · go_wp2_with fail
        go_meet
        have hsz := HS5.out.size
        refine ⟨_, w5.heap.size, rfl, by omega, by omega, 0, rfl, Nat.zero_le _, HS5.out.keep (belowN (((Below.refl _ w5).alloc (Nat.le_refl _) _).alloc (by simp) _) 1), ?_, ?_⟩
        · have := MBox.new (w5.alloc mk) (D : Int) (some ⟨w5.heap.size, 0, none⟩) R.length R.length 49
          simp only [World.size_alloc] at this
          exact this.drewN 1
        · have := (HOWN.out w5 (w.heap.size + 1 + 1 + 1) hsz).alloc (.cells #[.int .i64 (D : Int), .slice (some ⟨w5.heap.size, 0, none⟩) R.length R.length] 49)
          rw [tab_begin (f := fun j => BM.comb (el T) (el R j) T.length)] at this
          exact this
      · go_wp2_with fail
        go_meet
        have hsz := HS5.out.size
        refine ⟨_, w5.heap.size + 1, rfl, by omega, by omega, 0, rfl, Nat.zero_le _, HS5.out.keep (belowN (((Below.refl _ w5).alloc (Nat.le_refl _) _).alloc (by simp) _) 1), ?_, ?_⟩
        · exact (MBox.new w5 (D : Int) (some ⟨w5.heap.size + 1, 0, none⟩) R.length R.length 49).alloc mk |>.drewN 1
        · have := HOWN.out (w5.alloc (.cells #[.int .i64 (D : Int), .slice (some ⟨w5.heap.size + 1, 0, none⟩) R.length R.length] 49)) (w.heap.size + 1 + 1 + 1) (by simp; omega)
          rw [tab_begin (f := fun j => BM.comb (el T) (el R j) T.length)] at this
          simp only [World.size_alloc] at this
          exact this
    case rest =>
      obtain ⟨p, g, rfl, hpg, hpw, k0, hk0, _, hS, hbx, ho⟩ := hcut
      obtain rfl : k0 = 0 := by simp at hk0; omega
      clear hk0
      clear a0 a1 b0 b1 HS HS4 HS5
      have a1 := hS.pa.c1
      have HS := Lib.hid hS
      have HBX := Lib.hid hbx
      have HO := Lib.hid ho
      clear hS hbx ho
      have hra := HS.out.ra.room
      have hra2 := HS.out.ra.most
      go_wp2_with fail
      go_loopw [7, 8, 35] (fun _ _ i wr => MulRel w C D a b ca cb R T p g i wr) (fun _ _ i _ => R.length - (intOf i).toNat)
      case atStart => exact ⟨0, rfl, Nat.zero_le _, HS.out, HBX.out, HO.out⟩
      case round =>
        clear a1 HS HBX HO
        obtain ⟨k, rfl, hk, hS, hbx, ho⟩ := hrel
        have p1 := hbx.c1
        have b1 := hS.pb.c1
        have HS := Lib.hid hS
        have HBX := Lib.hid hbx
        have HO := Lib.hid ho
        by_cases hlt : k < R.length
        · obtain ⟨ab, ao, rfl, hcell⟩ := hS.ra.elV k hlt
          have hc := ho.cellV k (by rw [tab_len]; exact hlt)
          have hf := ho.free k (by rw [tab_len]; exact hlt)
          have hgB := (ho.at k (by rw [tab_len]; exact hlt)).1
          have HSUM := Lib.hid (sumOf_any b cb T (el R k) wr.drew (hS.rb.drewN 1))
          clear hS hbx ho
          go_wp2_with fail
          go_region_law (go_simp; go_at_call 42; (with_reducible refine HSUM.out.mono ?_); rintro e w2 ⟨rfl, hw⟩; obtain rfl := hw.symm; go_simp)
          all_goals (
            go_wp2_with fail
            go_roundw
            case rel =>
              have hne1 : ∀ q, q < w.heap.size + 1 + 1 + 1 → (⟨g, k, none⟩ : Addr).block ≠ q := fun q hq => by show g ≠ q; omega
              refine ⟨k + 1, by go_num, hlt, ⟨(HS.out.pa.drewN 1).other (hne1 _ (by omega)) _, (HS.out.pb.drewN 1).other (hne1 _ (by omega)) _, (HS.out.pr.drewN 1).other (hne1 _ (by omega)) _, ?_, ?_, (belowN HS.out.below 1).setCell (p := ⟨g, k, none⟩) (by show _ ≤ g; omega) _, by have := HS.out.size; simpa [World.setCell] using this, HS.out.fa, HS.out.fb⟩, (HBX.out.drewN 1).other (show g ≠ p from fun e => hpg e.symm) _, ?_⟩
              · exact (HS.out.ra.drewN 1).other _ (fun b' o e h0 => by have := HS.out.fa b' o e h0; show b' ≠ g; omega)
              · exact (HS.out.rb.drewN 1).other _ (fun b' o e h0 => by have := HS.out.fb b' o e h0; show b' ≠ g; omega)
              · have := (HO.out.drewN 1).setV k (BM.comb (el T) (el R k) T.length)
                rwa [tab_step (f := fun j => BM.comb (el T) (el R j) T.length) (y := BM.comb (el T) (el R k) T.length) rfl] at this
            case measure => simp [intOf]; omega)
        · obtain rfl : k = R.length := by omega
          have r0 := hS.pr.c0
          have r1 := hS.pr.c1
          have f0 := hS.pr.f0
          have f1 := hS.pr.f1
          have p0 := hbx.c0
          have r1' : (wr.setCell ⟨w.heap.size + 1 + 1, 0, none⟩ (.int .i64 (D : Int))).cell? ⟨w.heap.size + 1 + 1, 1, none⟩ = some (.slice none 0 0) := (World.cell?_setCell_other _ _ _ _ (by intro e; cases e)).trans r1
          have hset := hS.pr.set (C' := (D : Int)) (a' := some ⟨g, 0, none⟩) (n' := R.length) (cap' := R.length)
          have HSET := Lib.hid hset
          clear hS hbx ho hset
          go_wp2_with fail
          refine bodyPost_ret (v := .tuple #[.agg #[.int .i64 (D : Int), .slice (some ⟨g, 0, none⟩) R.length R.length], .int .i64 0]) (by simp [results, Try.results29, go_sem, HSET.out.c0, HSET.out.c1]) rfl ⟨⟨_, rfl, some ⟨g, 0, none⟩, R.length, by rw [tab_len], ?_, ?_⟩, ?_⟩
          · have := HO.out.rowAt.boxed HS.out.pr (C' := (D : Int)) (a'' := some ⟨g, 0, none⟩) (n' := R.length) (c'' := R.length)
            rwa [tab_done] at this
          · intro b' o' e
            cases e
            have := (HO.out.at 0 (by rw [tab_len]; omega)).1
            omega
          · exact (HS.out.below.setCell (p := ⟨w.heap.size + 1 + 1, 0, none⟩) (by show _ ≤ w.heap.size + 1 + 1; omega) _).setCell (p := ⟨w.heap.size + 1 + 1, 1, none⟩) (by show _ ≤ w.heap.size + 1 + 1; omega) _
  · have e0 : mulE C D R T = 7 := by unfold mulE; rw [hva, hvb, Bool.true_and, if_pos rfl, if_neg (by omega)]
    have e1 : mulC C D R T = 0 := by unfold mulC; rw [if_neg (by rw [e0]; decide)]
    have e2 : mulR C D R T = [] := by unfold mulR; rw [if_neg (by rw [e0]; decide)]
    rw [e0, e1, e2]
    have hne : ((C : Int) != (T.length : Int)) = true := by simp; omega
    clear e0 e1 e2 hva hvb
    have HCT := Lib.hid hCT
    clear hCT
    go_enter Try.func29, Try.ntmps29
    go_wp2_with fail
    refine H1.out.mono ?_
    rintro e w4 ⟨rfl, hb4⟩
    have S4 := HS.out.keep hb4
    have hv2 := valid_any D b cb T w4 S4.rb
    rw [hMB.yes] at hv2
    have H2 := Lib.hid hv2
    have b0 := S4.pb.c0
    have b1 := S4.pb.c1
    have HS4 := Lib.hid S4
    clear hv2 hb4 S4 a0 a1
    go_wp2_with fail
    refine H2.out.mono ?_
    rintro e w5 ⟨rfl, hb5⟩
    have S5 := HS4.out.keep hb5
    have a0 := S5.pa.c0
    have b1 := S5.pb.c1
    obtain ⟨z1, z2⟩ := S5.zero
    have r0 := S5.pr.c0
    have r1 := S5.pr.c1
    have f0 := S5.pr.f0
    have f1 := S5.pr.f1
    have r1' : (w5.setCell ⟨w.heap.size + 1 + 1, 0, none⟩ (.int .i64 0)).cell? ⟨w.heap.size + 1 + 1, 1, none⟩ = some (.slice none 0 0) := (World.cell?_setCell_other _ _ _ _ (by intro e; cases e)).trans r1
    have Z1 := Lib.hid z1
    have Z2 := Lib.hid z2
    clear z1 z2 S5 hb5
    go_wp2_with fail
    exact bodyPost_ret (v := .tuple #[.agg #[.int .i64 0, .slice none 0 0], .int .i64 7]) (by simp [results, Try.results29, go_sem, Z1.out.c0, Z1.out.c1]) rfl ⟨⟨_, rfl, MatR.none _ _⟩, Z2.out⟩
end Go.Proofs.Ytodiokladojnjaa.B
