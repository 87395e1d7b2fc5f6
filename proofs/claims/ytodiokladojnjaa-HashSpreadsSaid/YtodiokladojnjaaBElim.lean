/- bitmat.system.eliminate. -/
import Derived.Test.YtodiokladojnjaaBAddW
import Derived.Test.YtodiokladojnjaaBExch
namespace Go.Proofs.Ytodiokladojnjaa.B
open Go Go.RowKit Go.Shelf
open BM (St)

theorem step_app1 {α : Type} [Elt α] {W : World} {ops : Array Oper} {o : Oper} {a : Act} {K : Act → World → Prop} {Q : Exit → Act → World → Prop} {E : Prop} (hgd : o.guard = none) (s x : Operand)
    (ho : o.op = .call { callee := .builtin .append, args := #[s, x], argTypes := #[Elt.sl α, Elt.sl α] }) {B : Nat} {v : Value} {zs : List α} (c : α) (hs : a.eval s = v) (hown : Own W B v zs)
    {b : Nat} (hx : a.eval x = .slice (some ⟨b, 0, none⟩) 1 1) (hc : W.cell? ⟨b, 0, none⟩ = some (Elt.gv c)) (hl : zs.length < 1000000) (hbase : B ≤ W.heap.size)
    (h : ∀ a' cap' W', Own W' B (.slice a' (zs.length + 1) cap') (zs ++ [c]) → W.grownBy W' v.ownBlock → Below B W W' → (∀ b' o', a' = some ⟨b', o', none⟩ → v.ownBlock = some b' ∨ b' = W.heap.size) → K (a.put o.dst (.slice a' (zs.length + 1) cap')) W') :
    if Region.wanted o (yielded ops a.tmps) = true then Oper.wp Try.prog o a W K Q else E := by
  have hw : Region.wanted o (yielded ops a.tmps) = true := by simp [Region.wanted, hgd]
  rw [if_pos hw]
  exact wp_app1 s x ho c hs hown hx hc hl hbase h
theorem own_block {W : World} {α : Type} [Elt α] {B n cap b : Nat} {a : Option Addr} {zs : List α} (h : Own W B (.slice a n cap) zs) (hb : (Value.slice a n cap).ownBlock = some b) : ∃ o, a = some ⟨b, o, none⟩ := by
  rcases h.parts with ⟨e, _⟩ | ⟨g, c', e, _⟩
  · cases e; cases hb
  · cases e; simp [Value.ownBlock] at hb; subst hb; exact ⟨0, rfl⟩
/-- A column has been appended to the pivots. -/
theorem Sys.push {W W' : World} {B g m C gr cr gx cx c : Nat} {R r : Nat → V} {P : List Nat} {ap a' : Option Addr} {cp cap' : Nat} (hm : 0 < m) (h : Sys W B g m C gr cr gx cx ⟨R, r, P⟩)
    (h1 : W.cell? ⟨g, 3, none⟩ = some (.slice ap P.length cp)) (h2 : Own W B (.slice ap P.length cp) P) (h3 : ∀ b o, ap = some ⟨b, o, none⟩ → b ≠ g ∧ b ≠ gr ∧ b ≠ gx)
    (hg : W.grownBy W' (Value.slice ap P.length cp).ownBlock) (ho : Own W' B (.slice a' (P.length + 1) cap') (P ++ [c])) (hw : ∀ b o, a' = some ⟨b, o, none⟩ → (Value.slice ap P.length cp).ownBlock = some b ∨ W.heap.size ≤ b) :
    Sys (W'.setCell ⟨g, 3, none⟩ (.slice a' (P.length + 1) cap')) B g m C gr cr gx cx ⟨R, r, P ++ [c]⟩ := by
  have hgl := h.lt
  have hrl : gr < W.heap.size := lt_of_cell (h.cellR 0 hm).1
  have hxl : gx < W.heap.size := lt_of_cell (h.cellX 0 hm).1
  have hne : ∀ b, (Value.slice ap P.length cp).ownBlock = some b → b ≠ g ∧ b ≠ gr ∧ b ≠ gx := fun b hb => by
    obtain ⟨o, e⟩ := own_block h2 hb
    exact h3 b o e
  have hk : ∀ {a : Addr} {v : Value}, W.cell? a = some v → (a.block = g ∨ a.block = gr ∨ a.block = gx) → W'.cell? a = some v ∧ W'.frozen? a = W.frozen? a := fun {a v} hc hb => by
    have hn : (Value.slice ap P.length cp).ownBlock ≠ some a.block := by
      intro e
      obtain ⟨q1, q2, q3⟩ := hne _ e
      rcases hb with hb | hb | hb
      · exact q1 hb
      · exact q2 hb
      · exact q3 hb
    have := hg.block a.block (lt_of_cell hc) (fun e => hn e.symm)
    exact ⟨(World.cell?_of_block this).trans hc, World.frozen?_of_block this⟩
  have q3 := hk h1 (.inl rfl)
  have hnb : ∀ b o, a' = some ⟨b, o, none⟩ → b ≠ g ∧ b ≠ gr ∧ b ≠ gx := fun b o e => by
    rcases hw b o e with h5 | h5
    · exact hne b h5
    · exact ⟨by omega, by omega, by omega⟩
  have hgo : ∀ {α : Type} [Elt α] {b n c' : Nat} {zs : List α}, Own W B (.slice (some ⟨b, 0, none⟩) n c') zs → (b = gr ∨ b = gx) → Own W' B (.slice (some ⟨b, 0, none⟩) n c') zs := fun {α _ b n c' zs} ho hb => by
    refine ho.grown hg (.inr ?_)
    intro e
    have e2 : (Value.slice ap P.length cp).ownBlock = some b := by rw [← e]; rfl
    obtain ⟨q1, q2, q3⟩ := hne _ e2
    rcases hb with hb | hb
    · exact q2 hb
    · exact q3 hb
  refine ⟨(World.cell?_setCell_other _ _ _ _ (by intro e; cases e)).trans (hk h.c0 (.inl rfl)).1, (World.cell?_setCell_other _ _ _ _ (by intro e; cases e)).trans (hk h.c1 (.inl rfl)).1, (World.cell?_setCell_other _ _ _ _ (by intro e; cases e)).trans (hk h.c2 (.inl rfl)).1,
    ⟨a', cap', ?_, ?_, hnb⟩, (World.frozen?_setCell _ _ _ _).trans (q3.2.trans h.f3), (hgo h.rows (.inl rfl)).other _ ?_, (hgo h.right (.inr rfl)).other _ ?_, h.gB, h.n1, h.n2, h.n3⟩
  · rw [List.length_append]
    exact World.cell?_setCell_same' _ _ _ (by rw [q3.1]; rfl)
  · rw [List.length_append]
    refine ho.other _ ?_
    intro e
    obtain ⟨o, e2⟩ := own_block ho e
    exact (hnb _ o e2).1 rfl
  · intro e; simp [Value.ownBlock] at e; exact h.n2 e
  · intro e; simp [Value.ownBlock] at e; exact h.n3 e

theorem keep3 {W W' : World} {B g m C gr cr gx cx : Nat} {s : St} {ap : Option Addr} {cp n : Nat} (h : Sys W B g m C gr cr gx cx s)
    (h1 : W.cell? ⟨g, 3, none⟩ = some (.slice ap n cp)) (h2 : Own W B (.slice ap n cp) s.P) (h3 : ∀ b o, ap = some ⟨b, o, none⟩ → b ≠ g ∧ b ≠ gr ∧ b ≠ gx)
    (hg : W.grownBy W' (Value.slice ap n cp).ownBlock) : W'.cell? ⟨g, 3, none⟩ = some (.slice ap n cp) ∧ W'.frozen? ⟨g, 3, none⟩ = false := by
  have hn : (Value.slice ap n cp).ownBlock ≠ some g := by
    intro e
    obtain ⟨o, e⟩ := own_block h2 e
    exact (h3 g o e).1 rfl
  have := hg.block g h.lt (fun e => hn e.symm)
  exact ⟨(World.cell?_of_block this).trans h1, (World.frozen?_of_block this).trans h.f3⟩
theorem Row.dropped {α : Type} [Elt α] {w : World} {b off cap : Nat} {zs : List α} (h : Row w (some ⟨b, off, none⟩) zs cap) (n : Nat) (hn : n ≤ zs.length) : Row w (some ⟨b, off + n, none⟩) (zs.drop n) (cap - n) :=
  ⟨by have := h.room; rw [List.length_drop]; omega, by have := h.most; omega, fun j hj => by
    rw [List.length_drop] at hj
    obtain ⟨b', off', e, hc⟩ := h.el (n + j) (by omega)
    cases e
    refine ⟨b, off + n, rfl, ?_⟩
    rw [el_drop, show off + n + j = off + (n + j) by omega]
    exact hc⟩
theorem step_none {m c n : Nat} {s : St} (hn : s.P.length = n) (hP : n ≤ m) (h : ∀ j, j < ((tab m s.R).drop n).length → BM.bt (el ((tab m s.R).drop n) j) c = false) : BM.step m c s = s := by
  have e : BM.piv m c s = m := BM.fnd_is (by omega) (by omega) (fun i h1 h2 => by
    have := h (i - n) (by rw [List.length_drop, tab_len]; omega)
    rw [el_drop, show n + (i - n) = i by omega, el_tab _ _ _ h2] at this
    exact this) (fun h1 => by omega)
  unfold BM.step
  rw [e, if_neg (Nat.lt_irrefl m)]
theorem step_some {m c n k : Nat} {s : St} (hn : s.P.length = n) (hP : n ≤ m) (hk : k < ((tab m s.R).drop n).length) (hy : BM.bt (el ((tab m s.R).drop n) k) c = true) (h : ∀ j, j < k → BM.bt (el ((tab m s.R).drop n) j) c = false) : n + k < m ∧ BM.step m c s = BM.made (n + k) c s := by
  rw [List.length_drop, tab_len] at hk
  have hlt : n + k < m := by omega
  have e : BM.piv m c s = n + k := BM.fnd_is (by omega) (by omega) (fun i h1 h2 => by
    have := h (i - n) (by omega)
    rw [el_drop, show n + (i - n) = i by omega, el_tab _ _ _ (by omega)] at this
    exact this) (fun _ => by
    rw [el_drop, el_tab _ _ _ hlt] at hy
    exact hy)
  refine ⟨hlt, ?_⟩
  unfold BM.step
  rw [e, if_pos hlt]

set_option maxRecDepth 100000 in
set_option maxHeartbeats 1000000 in
theorem eliminate_any (w : World) (B g m C gr cr gx cx c : Nat) (s : St) (hm0 : 0 < m) (hm : m ≤ 64) (hP : s.P.length ≤ m) (hc : c < 64) (hB : B ≤ w.heap.size) (hS : Sys w B g m C gr cr gx cx s) :
    Calls Try.prog 47 #[.pointer (some ⟨g, 0, none⟩), .int .i64 (c : Int)] w fun e W => (∃ v, e = .returned v) ∧ Sys W B g m C gr cr gx cx (BM.step m c s) ∧ Below B w W := by
  obtain ⟨ap, cp, h1, h2, h3⟩ := hS.c3
  obtain ⟨r1, r2, r3, r4⟩ := hS.room
  obtain ⟨rp, rq⟩ := h2.room
  obtain ⟨w1, hw1⟩ : ∃ w1, w.alloc (.cells #[.int .i64 (c : Int)] 3) = w1 := ⟨_, rfl⟩
  have hq : w1.cell? ⟨w.heap.size, 0, none⟩ = some (.int .i64 (c : Int)) := by rw [← hw1]; exact cell_new _ _ _
  have hb1 : Below w.heap.size w w1 := by rw [← hw1]; exact (Below.refl _ w).alloc (Nat.le_refl _) _
  have hs1 : w1.heap.size = w.heap.size + 1 := by rw [← hw1]; simp
  have S1 := hS.below hb1
  have d1 := S1.c1
  have d3 := cell_below hb1 h1
  have hgrl : gr < w.heap.size := lt_of_cell (hS.cellR 0 hm0).1
  have hgxl : gx < w.heap.size := lt_of_cell (hS.cellX 0 hm0).1
  obtain ⟨n, hn⟩ : ∃ n, s.P.length = n := ⟨_, rfl⟩
  rw [hn] at hP h1 h2 d3 rp
  by_cases hcn : cr = n
  · have hmn : m = n := by omega
    have hI := indexFunc_any (some ⟨gr, 0, none⟩) 0 [] w1 (Row.nil _ _ _ (by omega)) 50 #[.pointer (some ⟨w.heap.size, 0, none⟩)] enters_bit (fun v => BM.bt v c) (fun x => elimBit_any _ c x w1 hq)
    have hst : BM.step m c s = s := step_none hn hP (fun j hj => by rw [List.length_drop, tab_len] at hj; omega)
    rw [hst]
    have e0 : ((m - n : Nat)) = 0 := by omega
    have HI := Lib.hid hI
    have HS := Lib.hid S1
    have HB1 := Lib.hid (hb1.mono hB)
    clear hI S1 hb1 h2 h3 hS hn hs1 h1 hst
    go_enter Try.func47, Try.ntmps47
    go_wp2_with fail
    refine HI.out.mono ?_
    rintro e w2 ⟨⟨r, rfl, hi⟩, hw⟩
    obtain rfl := hw.symm
    rcases hi with ⟨rfl, _⟩ | ⟨k, rfl, hk, _⟩
    · go_wp2_with fail
      refine bodyPost_ret (results_none rfl _ _ _) rfl ?_
      exact ⟨⟨_, rfl⟩, HS.out, HB1.out⟩
    · exact absurd hk (Nat.not_lt_zero _)
  · have hI := indexFunc_any (some ⟨gr, n, none⟩) (cr - n) ((tab m s.R).drop n) w1 (by have := S1.rows.rowAt.dropped n (by rw [tab_len]; exact hP); rwa [Nat.zero_add] at this) 50 #[.pointer (some ⟨w.heap.size, 0, none⟩)] enters_bit (fun v => BM.bt v c) (fun x => elimBit_any _ c x w1 hq)
    rw [List.length_drop, tab_len] at hI
    have HN := Lib.hid hn
    have HI := Lib.hid hI
    have HS := Lib.hid S1
    have HB1 := Lib.hid (hb1.mono hB)
    have HO := Lib.hid h2
    have HO3 := Lib.hid h3
    have HM1 := Lib.hid hs1
    clear hI S1 hb1 h2 h3 hS hn hs1 h1
    go_enter Try.func47, Try.ntmps47
    go_wp2_with fail
    refine HI.out.mono ?_
    rintro e w2 ⟨⟨r, rfl, hi⟩, hw⟩
    obtain rfl := hw.symm
    rcases hi with ⟨rfl, hno⟩ | ⟨k, rfl, hk, hy, hno⟩
    · have HST := Lib.hid (step_none HN.out hP hno)
      clear hno
      go_wp2_with fail
      refine bodyPost_ret (results_none rfl _ _ _) rfl ?_
      exact ⟨⟨_, rfl⟩, by rw [HST.out]; exact HS.out, HB1.out⟩
    · obtain ⟨hlt, hst⟩ := step_some HN.out hP hk hy hno
      have HST := Lib.hid hst
      have hx := exchange_any w1 B g m C gr cr gx cx n (n + k) s (by omega) hlt hm HS.out
      rw [Int.natCast_add] at hx
      have HX := Lib.hid hx
      clear hst hx hno hy hk
      go_wp2_with fail
      refine HX.out.mono ?_
      rintro e w3 ⟨⟨v3, rfl⟩, S3, hb3, hk3⟩
      have q3 := (hk3 ⟨w.heap.size, 0, none⟩ (by show w.heap.size ≠ gr; omega) (by show w.heap.size ≠ gx; omega)).trans hq
      have HA := Lib.hid (addWhere_any w3 B g m C gr cr gx cx n c w.heap.size _ (by omega) hm S3 q3 (by omega) (by omega))
      have HB3 := Lib.hid (HB1.out.trans hb3)
      clear S3 hb3 hk3 q3 d1 d3
      go_wp2_with fail
      refine HA.out.mono ?_
      rintro e w4 ⟨⟨v4, rfl⟩, S4, q4, hb4⟩
      have S5 : Sys w4 B g m C gr cr gx cx ⟨BM.adr (BM.swp s.R n (n + k)) (BM.swp s.R n (n + k)) n c, BM.adr (BM.swp s.R n (n + k)) (BM.swp s.r n (n + k)) n c, s.P⟩ := S4
      obtain ⟨ap4, cp4, e1, e2, e3⟩ := S5.c3
      have e1' : w4.cell? ⟨g, 3, none⟩ = some (.slice ap4 s.P.length cp4) := e1
      have e2' : Own w4 B (.slice ap4 s.P.length cp4) s.P := e2
      have f3 := S5.f3
      have e1a := cell_later (.cells #[.int .i64 (c : Int)] 3) e1'
      have q4a := cell_later (.cells #[.int .i64 (c : Int)] 3) q4
      have hsz : B ≤ w4.heap.size := Nat.le_trans hB (Nat.le_trans HB3.out.size hb4.size)
      have HBB := Lib.hid (HB3.out.trans hb4)
      have HS5 := Lib.hid S5
      have HE2 := Lib.hid e2'
      have HE3 := Lib.hid e3
      have hpl : s.P.length < 1000000 := by have := HN.out; omega
      clear S4 S5 hb4 e1 e2 e2' e3 HA HX
      go_wp2_with fail
      go_region_law (refine step_app1 (α := Nat) rfl (.tmp 38) (.tmp 40) rfl c (B := B) (zs := s.P) (by rfl) (HE2.out.alloc _) (by rfl) (cell_new _ _ _) hpl (by simp; omega) ?_; intro a' cap' w6 ho hg hb hw; have hgg := grown_trans (grown_drewN (grown_alloc (World.grownBy.refl w4 _) (.cells #[.int .i64 (c : Int)] 3)) 1) hg; have kk := keep3 HS5.out e1' HE2.out HE3.out hgg; obtain ⟨k3, k4⟩ := kk; have HGG := Lib.hid hgg; have HO6 := Lib.hid ho; have HW6 := Lib.hid hw; have HB6 := Lib.hid hb; clear ho hg hb hw hgg; go_simp)
      all_goals (
        have hpush := Sys.push hm0 HS5.out e1' HE2.out HE3.out HGG.out HO6.out (fun b o e => by
          rcases HW6.out b o e with h5 | h5
          · exact .inl h5
          · exact .inr (by rw [h5]; simp))
        have hgB := HS5.out.gB
        have HPU := Lib.hid hpush
        clear hpush
        go_wp2_with fail
        go_end0
        refine ⟨⟨_, rfl⟩, by rw [HST.out, ← HN.out]; rw [← HN.out] at HPU; exact HPU.out, ?_⟩
        exact (HBB.out.trans ((((Below.refl B w4).alloc hsz _).drew).trans HB6.out)).setCell (p := ⟨g, 3, none⟩) hgB _)
end Go.Proofs.Ytodiokladojnjaa.B
