/- slices.Clone of any slice of ints; nat.divideLimbs. -/
import Derived.Test.YtamniclnhenmgaaDoorLong
namespace Go.Proofs.YtamniclnhenmgaaDoor
open Go Go.RowKit Go.Shelf

theorem wpList_appNone {W : World} {ops : Array Oper} {rest : List Oper} {o : Oper} {a : Act} {Q : Exit → Act → World → Prop} (hgd : o.guard = none) (s x : Operand)
    (ho : o.op = .call { callee := .builtin .append, args := #[s, x], argTypes := #[22, 22] }) {B : Nat} {v : Value} (hs : a.eval s = v) (hown : Own W B v [])
    {ad : Addr} {cap : Nat} (hx : a.eval x = .slice (some ad) 0 cap) (hbase : B ≤ W.heap.size)
    (h : ∀ a' cap' W', Own W' B (.slice a' 0 cap') [] → Below B W W' → wpList Tryd.prog ops Q rest (a.put o.dst (.slice a' 0 cap')) W') : wpList Tryd.prog ops Q (o :: rest) a W := by
  obtain ⟨i0, hi, hz0, hz1, hz2⟩ := info_parts info_int
  refine wpList_append_own W hgd s x 22 ho B 3 i0 (.int .i64 0) 1 8 Tryd.underlying22 hi hz0 hz1 hz2 rfl (by decide) v 0 [] hs hown ad 0 cap [] hx (by simp) (fun j u hj => by simp at hj) (fun u hu => by cases hu) (by unfold maxLen; simp) (by simp) hbase ?_
  intro v' W' hown' hgrow _
  have ho2 : Own W' B v' [] := hown'
  have hB2 : Below B W W' := (Below.refl B W).grown hgrow hbase (fun k e => (World.ownsRow.lt hown k e).1)
  obtain ⟨a', cap', rfl, _⟩ := ho2.row
  exact h a' cap' W' ho2 hB2

set_option maxRecDepth 100000 in
set_option maxHeartbeats 1000000 in
/-- **slices.Clone** of any slice of ints. -/
theorem clone_row (a : Option Addr) (zs : List Int) (cap : Nat) (w : World) (hR : Row w a zs cap) (hl : zs.length < 100000) :
    Calls Tryd.prog 80 #[.slice a zs.length cap] w fun e W' => ∃ a' cap', e = .returned (.slice a' zs.length cap') ∧ Own W' w.heap.size (.slice a' zs.length cap') zs ∧ Below w.heap.size w W' := by
  by_cases h0 : 0 < zs.length
  · exact clone_any a zs cap w hR h0 hl
  · obtain rfl : zs = [] := List.length_eq_zero_iff.1 (by omega)
    have q22 : ∀ (w : World) (a : Option Addr) (n c n' c' : Nat), (binOp .eql 22 (.slice a n c) (.slice none n' c')).run Tryd.prog w = .ok (.bool a.isNone) w := fun w a n c n' c' => Lib.run_eql_slice_nil w _ _ a n c n' c' Tryd.underlying22
    have HO := Lib.hid (own_empty w w.heap.size (Nat.le_refl _))
    clear hR hl h0
    cases a with
    | none =>
      go_enter Tryd.func80, Tryd.ntmps80
      go_wp2_with fail
      go_ret
      exact ⟨none, 0, rfl, Own.nil _ _, Below.refl _ _⟩
    | some ad =>
      go_enter Tryd.func80, Tryd.ntmps80
      go_wp2_with (at_builtin; refine wpList_appNone rfl _ _ rfl rfl HO.out rfl (by simp) ?_; intro a' cap' W' hown' hb')
      go_ret
      exact ⟨a', cap', rfl, hown', ((Below.refl _ w).alloc (Nat.le_refl _) _).trans hb'⟩

theorem cut_row {W : World} {a : Option Addr} {cap : Nat} {zs ts : List Int} (h : Row W a zs cap) (hp : zs.take ts.length = ts) : ∃ a' c', cut a cap ts = .slice a' ts.length c' ∧ Row W a' ts c' ∧ ∀ B, Fresh B a zs → Fresh B a' ts := by
  unfold cut
  split
  · rename_i e; subst e; exact ⟨none, 0, rfl, ⟨Nat.le_refl _, by omega, fun j hj => by simp at hj⟩, fun B _ b off e => by cases e⟩
  · have hl : ts.length ≤ zs.length := by have := congrArg List.length hp; rw [List.length_take] at this; omega
    exact ⟨a, cap, rfl, ⟨Nat.le_trans hl h.room, h.most, fun j hj => by
      obtain ⟨b, off, e, hc⟩ := h.el j (by omega)
      refine ⟨b, off, e, hc.trans ?_⟩
      rw [← hp, M.el_take (by omega)]⟩, fun B hf b off e hl2 => hf b off e (by omega)⟩

theorem M.dig_top {y n : Nat} (hl : (M.dig y).length = n + 1) : 0 < M.el (M.dig y) n := by
  have h0 : y ≠ 0 := by rintro rfl; rw [M.dig_zero] at hl; simp at hl
  have h1 := M.dig_last h0
  rw [List.getLast?_eq_getElem?, List.getElem?_eq_getElem (by omega)] at h1
  have h2 := (M.lim_dig y).get n
  rcases Int.lt_or_eq_of_le h2.1 with h | h
  · exact h
  · exfalso; apply h1
    rw [M.el_lt (by omega)] at h
    simp only [hl, Nat.add_sub_cancel]
    rw [← h]

def DivPost (w : World) (x y : Nat) (e : Ending) (W : World) : Prop :=
  ∃ a1 c1 a2 c2, e = .returned (.tuple #[.slice a1 (M.dig (x / y)).length c1, .slice a2 (M.dig (x % y)).length c2]) ∧ Row W a1 (M.dig (x / y)) c1 ∧ Row W a2 (M.dig (x % y)) c2 ∧ Fresh w.heap.size a1 (M.dig (x / y)) ∧ Fresh w.heap.size a2 (M.dig (x % y)) ∧ Below w.heap.size w W

theorem trim_dig {zs : List Int} {n : Nat} (h : M.Lim zs) (hv : M.val zs = n) : M.trimL zs = M.dig n := by
  rw [M.trimL_dig h, hv, Int.toNat_natCast]

/-- Both slices are trimmed: the last lines of divideLimbs. -/
theorem trim_num (a : Option Addr) (zs : List Int) (cap n : Nat) (w : World) (hR : Row w a zs cap) (hl : M.Lim zs) (hv : M.val zs = n) :
    Calls Tryd.prog 78 #[.slice a zs.length cap] w fun e W' => ∃ a' c', e = .returned (.slice a' (M.dig n).length c') ∧ Row W' a' (M.dig n) c' ∧ (∀ B, Fresh B a zs → Fresh B a' (M.dig n)) ∧ Below w.heap.size w W' := by
  refine (trim_any a zs cap w hR).mono ?_
  rintro e W' ⟨rfl, hb⟩
  have ht := trim_dig hl hv
  obtain ⟨a', c', e1, r, f⟩ := cut_row (ts := M.trimL zs) (hR.below hb) (M.trimL_take zs)
  rw [e1]
  rw [ht] at r f ⊢
  exact ⟨a', c', rfl, r, f, hb⟩

set_option maxRecDepth 100000 in
set_option maxHeartbeats 1000000 in
theorem divideLimbs_any (a b : Option Addr) (ca cb x y : Nat) (w : World) (hy : 0 < y) (hx200 : (M.dig x).length ≤ 200) (hy200 : (M.dig y).length ≤ 200) (hA : Row w a (M.dig x) ca) (hB : Row w b (M.dig y) cb) :
    Calls Tryd.prog 83 #[.slice a (M.dig x).length ca, .slice b (M.dig y).length cb] w (DivPost w x y) := by
  have hy0 : 0 < (M.dig y).length := by
    rcases Nat.eq_zero_or_pos (M.dig y).length with h | h
    · have := M.dig_nil.1 (List.length_eq_zero_iff.1 h); omega
    · exact h
  by_cases hlt : (M.dig x).length < (M.dig y).length
  · have hxy : x < y := by
      have h1 : x < 16777216 ^ (M.dig x).length := M.dig_len_le.1 (Nat.le_refl _)
      by_cases h : x < y
      · exact h
      · have h2 : (M.dig y).length ≤ (M.dig x).length := M.dig_len_le.2 (by omega)
        omega
    have hcl := clone_row a (M.dig x) ca w hA (by omega)
    have HC := Lib.hid hcl
    have HXY := Lib.hid hxy
    clear hcl hxy hA hB hy
    go_enter Tryd.func83, Tryd.ntmps83
    go_wp2_with fail
    refine HC.out.mono ?_
    rintro e w' ⟨a', c', rfl, ho, hb⟩
    have HO := Lib.hid ho
    have HB := Lib.hid hb
    clear ho hb
    go_wp2_with fail
    go_ret2
    have e1 : x / y = 0 := Nat.div_eq_of_lt HXY.out
    have e2 : x % y = x := Nat.mod_eq_of_lt HXY.out
    refine ⟨none, 0, a', c', by rw [e1, e2, M.dig_zero]; rfl, ?_, ?_, (fun b off e => (by cases e)), ?_, HB.out⟩
    · rw [e1, M.dig_zero]; exact ⟨Nat.le_refl _, by omega, fun j hj => by simp at hj⟩
    · rw [e2]; exact HO.out.rowAt
    · rw [e2]; exact HO.out.fresh
  · by_cases h1 : (M.dig y).length = 1
    · have hyv := M.val_dig y
      obtain ⟨z, hz⟩ : ∃ z, M.dig y = [z] := List.length_eq_one_iff.1 h1
      have hlz := M.lim_dig y
      rw [hz] at hyv hlz
      have hzy : z = (y : Int) := by simpa [M.val] using hyv
      have hzb := hlz.head
      subst hzy
      obtain ⟨bb, bo, rfl, hc0⟩ := hB.el 0 hy0
      rw [hz] at hc0
      have hcl := clone_row a (M.dig x) ca w hA (by omega)
      have HC := Lib.hid hcl
      have hn : decide ((M.dig x).length < (M.dig y).length) = false := decide_eq_false hlt
      have HY1 := Lib.hid h1
      rw [h1] at hlt hn ⊢
      have hx1 : 1 ≤ (M.dig x).length := by omega
      have hbr := hB.room
      have hbm := hB.most
      rw [h1] at hbr
      clear hcl hA hB hz hyv hlz hlt h1
      simp only [M.el_zero, Nat.add_zero] at hc0
      go_enter Tryd.func83, Tryd.ntmps83
      go_wp2_with fail
      refine HC.out.mono ?_
      rintro e w1 ⟨a1, c1, rfl, ho, hb⟩
      have hc1 := cell_below hb hc0
      have HB := Lib.hid hb
      have hsh := shrink_any w.heap.size a1 c1 (M.dig x) y w1 hy (by omega) (M.lim_dig x) ho
      have HSH := Lib.hid hsh
      have HO1 := Lib.hid ho
      clear hb hsh ho hc0
      go_wp2_with fail
      refine HSH.out.mono ?_
      rintro e w2 ⟨rfl, ho2, hg2⟩
      obtain ⟨hs1, hs2⟩ := M.shr_nat hy (M.lim_dig x) (M.val_dig x)
      have HFQ : Hid (Fresh w.heap.size a1 (M.shr (y : Int) (M.dig x)).2) := ho2.fresh
      have HB2 := Lib.hid (HB.out.trans (below_of_grown HO1.out hg2 HB.out.size))
      rw [hs2]
      have hq2 : Row w2 a1 (M.shr (y : Int) (M.dig x)).2 c1 := (show Own w2 w.heap.size (.slice a1 (M.shr (y : Int) (M.dig x)).2.length c1) (M.shr (y : Int) (M.dig x)).2 by rw [M.shr_len]; exact ho2).rowAt
      have hvq : M.val (M.shr (y : Int) (M.dig x)).2 = ((x / y : Nat) : Int) := by
        have h1 := M.shr_val (y : Int) (M.dig x)
        rw [hs2, M.val_dig] at h1
        have h2 : ((x / y : Nat) : Int) * y + ((x % y : Nat) : Int) = x := by rw [← Int.natCast_mul, ← Int.natCast_add]; congr 1; exact Nat.div_add_mod' x y
        have h3 : M.val (M.shr (y : Int) (M.dig x)).2 * y = ((x / y : Nat) : Int) * y := by omega
        exact Int.eq_of_mul_eq_mul_right (by omega) h3
      have hlq := M.shr_lim (y : Int) (by omega) (M.lim_dig x)
      have HT1 := Lib.hid (fun (W : World) (hb : Below w2.heap.size w2 W) => trim_num a1 _ c1 (x / y) W (hq2.below hb) hlq hvq)
      have hrm : ((x % y : Nat) : Int) < 16777216 := by have := Nat.mod_lt x hy; omega
      have hrm0 : 0 ≤ ((x % y : Nat) : Int) := by omega
      obtain ⟨r, hr⟩ : ∃ r, x % y = r := ⟨_, rfl⟩
      rw [hr] at hrm hrm0 ⊢
      have hrow2 : Row (w2.alloc (.cells #[.int .i64 (r : Int)] 3)) (some ⟨w2.heap.size, 0, none⟩) [(r : Int)] 1 := ⟨Nat.le_refl _, by omega, fun j hj => ⟨_, 0, rfl, by
        obtain rfl : j = 0 := by simpa using hj
        simp⟩⟩
      have HT2 := Lib.hid (fun (W : World) (hb : Below (w2.alloc (.cells #[.int .i64 (r : Int)] 3)).heap.size (w2.alloc (.cells #[.int .i64 (r : Int)] 3)) W) => trim_num (some ⟨w2.heap.size, 0, none⟩) [(r : Int)] 1 r W (hrow2.below hb) (M.Lim.cons hrm0 hrm M.Lim.nil) (by simp [M.val]))
      have HR := Lib.hid hr
      rw [M.shr_len] at HT1
      clear hrow2 hq2 hvq hlq hs1 hs2 ho2 hg2 hr HSH HC HO1 HB
      go_wp2_with fail
      refine (HT1.out _ ((Below.refl _ _).alloc (Nat.le_refl _) _)).mono ?_
      rintro e w3 ⟨a3, c3, rfl, hr3, hf3, hb3⟩
      have HF3 := Lib.hid hf3
      have HR3 := Lib.hid hr3
      have HB3 := Lib.hid hb3
      clear hr3 hf3 hb3
      go_wp2_with fail
      refine (HT2.out _ HB3.out).mono ?_
      rintro e w4 ⟨a4, c4, rfl, hr4, hf4, hb4⟩
      have HF4 := Lib.hid hf4
      have HR4 := Lib.hid hr4
      have HB4 := Lib.hid hb4
      clear hr4 hf4 hb4
      go_wp2_with fail
      go_ret2
      refine ⟨a3, c3, a4, c4, by rw [HR.out]; rfl, HR3.out.below HB4.out, by rw [HR.out]; exact HR4.out, HF3.out _ HFQ.out, by rw [HR.out]; exact HF4.out _ (fun b off e _ => by cases e; exact HB2.out.size), ?_⟩
      exact (((HB2.out.alloc HB2.out.size _).trans (HB3.out.mono (by have := HB2.out.size; simp; omega))).trans (HB4.out.mono (by have := HB2.out.size; have := HB3.out.size; simp at this; omega)))
    · obtain ⟨n, hn⟩ : ∃ n, (M.dig y).length = n + 2 := ⟨(M.dig y).length - 2, by omega⟩
      obtain ⟨m, hm⟩ : ∃ m, (M.dig x).length = n + 2 + m := ⟨(M.dig x).length - (n + 2), by omega⟩
      have hlong := divideLong_any a b ca cb (M.dig x) (M.dig y) n m w hm hn (M.lim_dig x) (M.lim_dig y) (M.dig_top hn) (by omega) hA hB
      have hra := hA.room
      have hma := hA.most
      have hrb := hB.room
      have hmb := hB.most
      rw [hm] at hlt hra ⊢
      rw [hn] at hlt h1 hrb ⊢
      have hn1 : decide (n + 2 + m < n + 2) = false := decide_eq_false (by omega)
      have hn3 : (((n : Int) + 2) == 1) = false := by simp; omega
      have HL := Lib.hid hlong
      clear hlong hn hm hA hB hlt h1 hy0 hx200 hy200
      go_enter Tryd.func83, Tryd.ntmps83
      go_wp2_with fail
      refine HL.out.mono ?_
      rintro e w1 ⟨a1, c1, qs, a2, c2, rs, rfl, hr1, hr2, hl1, hl2, hv1, hv2, hf1, hf2, hb⟩
      have HF1 := Lib.hid hf1
      have HF2 := Lib.hid hf2
      rw [M.val_dig, M.val_dig, ← Int.natCast_ediv] at hv1
      rw [M.val_dig, M.val_dig, ← Int.natCast_emod] at hv2
      have HT1 := Lib.hid (trim_num a1 qs c1 (x / y) w1 hr1 hl1 hv1)
      have HT2 := Lib.hid (fun (W : World) (hb : Below w1.heap.size w1 W) => trim_num a2 rs c2 (x % y) W (hr2.below hb) hl2 hv2)
      have HB := Lib.hid hb
      clear hr1 hr2 hl1 hl2 hv1 hv2 hf1 hf2 hb HL
      go_wp2_with fail
      refine HT1.out.mono ?_
      rintro e w3 ⟨a3, c3, rfl, hr3, hf3, hb3⟩
      have HF3 := Lib.hid hf3
      have HR3 := Lib.hid hr3
      have HB3 := Lib.hid hb3
      clear hr3 hf3 hb3
      go_wp2_with fail
      refine (HT2.out _ HB3.out).mono ?_
      rintro e w4 ⟨a4, c4, rfl, hr4, hf4, hb4⟩
      have HF4 := Lib.hid hf4
      have HR4 := Lib.hid hr4
      have HB4 := Lib.hid hb4
      clear hr4 hf4 hb4
      go_wp2_with fail
      go_ret2
      refine ⟨a3, c3, a4, c4, rfl, HR3.out.below HB4.out, HR4.out, HF3.out _ HF1.out, HF4.out _ HF2.out, ?_⟩
      exact (HB.out.trans (HB3.out.mono HB.out.size)).trans (HB4.out.mono (Nat.le_trans HB.out.size HB3.out.size))
end Go.Proofs.YtamniclnhenmgaaDoor
