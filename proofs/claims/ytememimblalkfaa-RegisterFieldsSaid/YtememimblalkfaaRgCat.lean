/- slices of uint64s: Grow, Concat, Clone, Equal; ref05.SameList. -/
import Derived.Shelf.Spec.SlicesGrow
import Derived.Shelf.GgClosure.Gives
import Derived.Test.YtememimblalkfaaRgM
import Derived.Test.YtememimblalkfaaGBox
namespace Go.Proofs.Ytememimblalkfaa.RG
open Go Go.RowKit Go.Shelf
open G
def growRen : Go.Shelf.Ren := ⟨fun | 4 => 19 | n => n, fun | 0 => 0 | 3 => 3 | 4 => 4 | 9 => 9 | 20 => 20 | 22 => 29 | 25 => 38 | n => n, fun | n => n⟩
theorem growLays : Go.Proofs.Lays8.n4 Try.prog growRen := {
  mixed := by kernel_rfl
  f4 := ⟨Try.f19.name, by decide, Try.func19.trans (congrArg some (by kernel_rfl))⟩
  t0 := Try.underlying0
  a0 := Try.isAgg0
  z0 := Try.sizeOf0
  v0 := Try.zeroValue0
  t3 := Try.underlying3
  a3 := Try.isAgg3
  z3 := Try.sizeOf3
  v3 := Try.zeroValue3
  t4 := Try.underlying4
  a4 := Try.isAgg4
  z4 := Try.sizeOf4
  v4 := Try.zeroValue4
  t9 := Try.underlying9
  a9 := Try.isAgg9
  z9 := Try.sizeOf9
  v9 := Try.zeroValue9
  t20 := Try.underlying20
  a20 := Try.isAgg20
  z20 := Try.sizeOf20
  v20 := Try.zeroValue20
  t22 := Try.underlying29
  a22 := Try.isAgg29
  z22 := Try.sizeOf29
  v22 := Try.zeroValue29 }
/-- **slices.Grow** of nil. -/
theorem grow_nil (n : Nat) (hn : n ≤ 1000) (w : World) :
    Calls Try.prog 19 #[.slice none 0 0, .int .i64 (n : Int)] w fun e W => ∃ a c, e = .returned (.slice a 0 c) ∧ G.Own (α := V) W w.heap.size (.slice a 0 c) [] ∧ Below w.heap.size w W := by
  cases n with
  | zero =>
    refine (Any8.slices_Grow_room growLays none 0 0 0 w (Nat.le_refl _) (by omega) (by omega) (Nat.le_refl _)).mono ?_
    rintro e W ⟨rfl, rfl⟩
    exact ⟨none, 0, rfl, G.Own.nil _ _, Below.refl _ _⟩
  | succ n =>
    obtain ⟨i0, hi, hz0, hz1, hz2⟩ := info_parts (Elt.info (α := V))
    refine (Any8.slices_Grow_grow growLays i0 (.int .u64 0) hi hz0 (by rw [hz1]; decide) none 0 0 (n + 1) [] w (Nat.le_refl _) (by omega) (by rw [hz2]; show _ * 8 ≤ _; omega) (by omega) (by simp) (fun _ => rfl) (fun a h => by cases h)).mono ?_
    rintro e W ⟨rfl, rfl⟩
    have hc := grownCap_le_maxLen w (0 + (n + 1)) 0 (growRen.t 25) (by unfold maxLen; omega)
    have hge := grownCap_ge w (0 + (n + 1)) 0 (growRen.t 25)
    obtain ⟨G, hG⟩ : ∃ G, grownCap w (0 + (n + 1)) 0 (growRen.t 25) = G := ⟨_, rfl⟩
    rw [hG] at hc hge ⊢
    refine ⟨_, G, rfl, World.ownsRow_made (base := w.heap.size) (e := 38) (size := 1) w.drew _ G (Nat.le_refl _) hc ?_, (Below.refl _ w).drew.alloc (Nat.le_refl _) _⟩
    rw [Array.size_append, Array.size_append, size_zeroCells, size_zeroCells]
    simp [Value.cells]
    omega

set_option maxRecDepth 100000 in
set_option maxHeartbeats 1000000 in
/-- **slices.Concat** of two slices. -/
theorem concat_any (b : Nat) (a1 a2 : Option Addr) (ps qs : List V) (k1 k2 : Nat) (w : World) (hc0 : w.cell? ⟨b, 0, none⟩ = some (.slice a1 ps.length k1)) (hc1 : w.cell? ⟨b, 1, none⟩ = some (.slice a2 qs.length k2)) (h1 : Row w a1 ps k1) (h2 : Row w a2 qs k2) (hl1 : ps.length ≤ 400) (hl2 : qs.length ≤ 400) :
    Calls Try.prog 15 #[.slice (some ⟨b, 0, none⟩) 2 2] w fun e W => ∃ a c, e = .returned (.slice a (ps ++ qs).length c) ∧ G.Own W w.heap.size (.slice a (ps ++ qs).length c) (ps ++ qs) ∧ Below w.heap.size w W := by
  have hr1 := h1.room
  have hm1 := h1.most
  have hr2 := h2.room
  have hm2 := h2.most
  have H1 := Lib.hid h1
  have H2 := Lib.hid h2
  have HG := Lib.hid (grow_nil (ps.length + qs.length) (by omega) w)
  have e1 : ((ps.length + qs.length : Nat) : Int) = (ps.length : Int) + (qs.length : Int) := by omega
  rw [e1] at HG
  clear h1 h2 e1
  go_enter Try.func15, Try.ntmps15
  go_wp2
  go_loop [3, 11] (fun s k => (s = .int .i64 0 ∧ k = .int .i64 0) ∨ (s = .int .i64 (ps.length : Int) ∧ k = .int .i64 1) ∨ (s = .int .i64 ((ps.length : Int) + (qs.length : Int)) ∧ k = .int .i64 2)) (fun _ k => 2 - (intOf k).toNat)
  case atStart => exact .inl ⟨rfl, rfl⟩
  case round =>
    rcases hrel with ⟨rfl, rfl⟩ | ⟨rfl, rfl⟩ | ⟨rfl, rfl⟩
    · go_wp2_with fail
      go_round
      case rel => exact .inr (.inl ⟨by go_num, rfl⟩)
      case measure => simp [intOf]
    · go_wp2_with fail
      go_round
      case rel => exact .inr (.inr ⟨by go_num, rfl⟩)
      case measure => simp [intOf]
    · go_wp2_with fail
      refine HG.out.mono ?_
      rintro e w1 ⟨a, c, rfl, ho, hb⟩
      have HO := Lib.hid ho
      have HB := Lib.hid hb
      clear ho hb HG
      go_wp2
      go_loopw [6, 27] (fun s k wr => ∃ (xs : List V) (a' : Option Addr) (c' : Nat), s = .slice a' xs.length c' ∧ G.Own wr w.heap.size (.slice a' xs.length c') xs ∧ Below w.heap.size w wr ∧ ((xs = [] ∧ k = .int .i64 0) ∨ (xs = ps ∧ k = .int .i64 1) ∨ (xs = ps ++ qs ∧ k = .int .i64 2))) (fun _ k _ => 2 - (intOf k).toNat)
      case atStart => exact ⟨[], a, c, rfl, HO.out, HB.out, .inl ⟨rfl, rfl⟩⟩
      case round =>
        clear HO HB
        obtain ⟨xs, a', c', rfl, ho, hb, hk⟩ := hrel
        have HB := Lib.hid hb
        have HO := Lib.hid ho
        have H1' := Lib.hid (H1.out.below hb)
        have H2' := Lib.hid (H2.out.below hb)
        replace hc0 := cell_below hb hc0
        replace hc1 := cell_below hb hc1
        clear hb ho
        rcases hk with ⟨rfl, rfl⟩ | ⟨rfl, rfl⟩ | ⟨rfl, rfl⟩
        · go_wp2_with (at_builtin; refine wpList_appAny (α := V) (zs := []) (ys := ps) (B := w.heap.size) rfl _ _ rfl rfl HO.out rfl H1'.out (by simp; omega) HB.out.size ?_; intro a3 c3 w3 ho3 hb3)
          go_roundw
          case rel => exact ⟨ps, a3, c3, by simp, by simpa using ho3, HB.out.trans hb3, .inr (.inl ⟨rfl, rfl⟩)⟩
          case measure => simp [intOf]
        · go_wp2_with (at_builtin; refine wpList_appAny (α := V) (zs := xs) (ys := qs) (B := w.heap.size) rfl _ _ rfl rfl HO.out rfl H2'.out (by omega) HB.out.size ?_; intro a3 c3 w3 ho3 hb3)
          go_roundw
          case rel => exact ⟨xs ++ qs, a3, c3, by simp, by rw [List.length_append]; exact ho3, HB.out.trans hb3, .inr (.inr ⟨rfl, rfl⟩)⟩
          case measure => simp [intOf]
        · go_wp2_with fail
          go_ret
          exact ⟨a', c', rfl, HO.out, HB.out⟩

/-- w' is w but for drawn answers. -/
def Dr (w w' : World) : Prop := ∃ m, w' = w.drewN m
theorem Dr.refl (w : World) : Dr w w := ⟨0, rfl⟩
theorem Dr.drewN {w w1 : World} (h : Dr w w1) (n : Nat) : Dr w (w1.drewN n) := by
  obtain ⟨m, rfl⟩ := h; exact ⟨m + n, by rw [World.drewN_drewN]⟩
theorem Dr.trans {w w1 w2 : World} (h : Dr w w1) (h2 : Dr w1 w2) : Dr w w2 := by
  obtain ⟨m, rfl⟩ := h2; exact h.drewN m
theorem Dr.below {w W : World} (h : Dr w W) : Below w.heap.size w W := by obtain ⟨m, rfl⟩ := h; exact belowN (Below.refl _ _) m
theorem decide_len {p q : List V} (h : ¬ p.length = q.length) : decide (p = q) = false := decide_eq_false (fun e => h (by rw [e]))
theorem ne_at {p q : List V} {k : Nat} (h : ¬ el p k = el q k) : decide (p = q) = false := decide_eq_false (fun e => h (by rw [e]))
theorem eq_all {p q : List V} (hl : p.length = q.length) (h : ∀ k, k < p.length → el p k = el q k) : decide (p = q) = true := decide_eq_true (el_ext hl h)
set_option maxRecDepth 100000 in
set_option maxHeartbeats 1000000 in
theorem sameList_any (a b : Option Addr) (ca cb : Nat) (p q : List V) (w : World) (ha : Row w a p ca) (hb : Row w b q cb) :
    Calls Try.prog 10 #[.slice a p.length ca, .slice b q.length cb] w fun e W => e = .returned (.bool (decide (p = q))) ∧ Dr w W := by
  have hra := ha.room
  have hma := ha.most
  have hrb := hb.room
  have hmb := hb.most
  have HA := Lib.hid ha
  have HB := Lib.hid hb
  clear ha hb
  by_cases hl : p.length = q.length
  · have HL := Lib.hid hl
    have hz : ((p.length : Int) != (q.length : Int)) = false := by rw [hl]; simp
    have hle : p.length ≤ q.length := by omega
    clear hl
    go_enter Try.func10, Try.ntmps10
    go_wp2_with fail
    go_loopw [5] (fun i wr => ∃ k : Nat, i = .int .i64 (k : Int) ∧ k ≤ p.length ∧ Dr w wr ∧ Hid (∀ j, j < k → el p j = el q j)) (fun i _ => p.length - (intOf i).toNat)
    case atStart => exact ⟨0, rfl, Nat.zero_le _, Dr.refl _, Lib.hid (fun j hj => absurd hj (Nat.not_lt_zero j))⟩
    case round =>
      obtain ⟨k, rfl, hk, hd, HE⟩ := hrel
      have HD := Lib.hid hd
      by_cases hlt : k < p.length
      · obtain ⟨ab, ao, rfl, c1⟩ := (HA.out.below hd.below).elV k hlt
        obtain ⟨bb, bo, rfl, c2⟩ := (HB.out.below hd.below).elV k (by omega)
        clear hd
        by_cases he : el p k = el q k
        · rw [← he] at c2
          have HK := Lib.hid he
          clear he
          go_wp2_with fail
          go_quiet (fail)
          go_wp2_with fail
          go_roundw
          case rel => exact ⟨k + 1, by go_num, hlt, HD.out.drewN _, Lib.hid (fun j hj => by
            by_cases e : j = k
            · rw [e]; exact HK.out
            · exact HE.out j (by omega))⟩
          case measure => simp [intOf]; omega
        · have hne : (((el p k).toNat : Int) != ((el q k).toNat : Int)) = true := by
            rw [bne_iff_ne]
            exact fun e => he (V.ext e)
          have HN := Lib.hid (ne_at he)
          clear he
          go_wp2_with fail
          go_quiet (fail)
          go_wp2_with fail
          go_ret
          exact ⟨ret_bool' HN.out.symm, HD.out.drewN _⟩
      · clear hd
        have HN := Lib.hid (eq_all HL.out (fun j hj => HE.out j (by omega)))
        go_wp2_with fail
        go_ret
        exact ⟨ret_bool' HN.out.symm, HD.out⟩
  · have hz : ((p.length : Int) != (q.length : Int)) = true := by
      rw [bne_iff_ne]; omega
    have HN := Lib.hid (decide_len hl)
    clear hl
    go_enter Try.func10, Try.ntmps10
    go_wp2_with fail
    go_ret
    exact ⟨ret_bool' HN.out.symm, Dr.refl _⟩
end Go.Proofs.Ytememimblalkfaa.RG
