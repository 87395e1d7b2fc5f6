/- Slices of 256 bools; a polynomial times x + r. -/
import Derived.Test.YtfbogjibofeckaaPMulF
import Derived.Test.YtfbogjibofeckaaPAwake
namespace Go.Proofs.Ytfbogjibofeckaa.P
open Go Go.RowKit Go.Shelf

/-- The slice in block g holds the bools f 0 to f 255. -/
structure BRow (W : World) (g : Nat) (f : Nat → Bool) : Prop where
  at' : ∀ k, k < 256 → W.cell? ⟨g, k, none⟩ = some (.bool (f k))
  free : ∀ k, k < 256 → W.frozen? ⟨g, k, none⟩ = false
theorem BRow.lt {W : World} {g : Nat} {f : Nat → Bool} (h : BRow W g f) : g < W.heap.size := lt_of_cell (h.at' 0 (by decide))
theorem BRow.below {W W' : World} {g : Nat} {f : Nat → Bool} (h : BRow W g f) (hb : Below W.heap.size W W') : BRow W' g f :=
  ⟨fun k hk => cell_below hb (h.at' k hk), fun k hk => frozen_below hb (h.at' k hk) (h.free k hk)⟩
theorem BRow.alloc {W : World} {g : Nat} {f : Nat → Bool} (h : BRow W g f) (o : Obj) : BRow (W.alloc o) g f := h.below ((Below.refl _ W).alloc (Nat.le_refl _) _)
theorem BRow.grown {W W' : World} {g r : Nat} {f : Nat → Bool} (h : BRow W g f) (hg : W.grownBy W' (some r)) (hne : g ≠ r) : BRow W' g f :=
  ⟨fun k hk => cell_grown hg hne (h.at' k hk), fun k hk => frozen_grown hg hne (h.at' k hk) (h.free k hk)⟩
theorem BRow.other {W : World} {g p o : Nat} {f : Nat → Bool} (h : BRow W g f) (hne : g ≠ p) (u : Value) : BRow (W.setCell ⟨p, o, none⟩ u) g f :=
  ⟨fun k hk => (cell_other u (show g ≠ p from hne)).trans (h.at' k hk), fun k hk => (World.frozen?_setCell _ _ _ _).trans (h.free k hk)⟩
theorem BRow.set {W : World} {g : Nat} {f : Nat → Bool} (h : BRow W g f) (j : Nat) (hj : j < 256) (b : Bool) : BRow (W.setCell ⟨g, j, none⟩ (.bool b)) g (fun k => if k = j then b else f k) := by
  refine ⟨fun k hk => ?_, fun k hk => (World.frozen?_setCell _ _ _ _).trans (h.free k hk)⟩
  by_cases e : k = j
  · subst e; rw [if_pos rfl]; exact World.cell?_setCell_same' _ _ _ (by rw [h.at' k hk]; rfl)
  · rw [if_neg e]; exact (World.cell?_setCell_other _ _ _ _ (by intro h; cases h; exact e rfl)).trans (h.at' k hk)
theorem BRow.as {W : World} {g : Nat} {f f' : Nat → Bool} (h : BRow W g f) (e : ∀ k, k < 256 → f' k = f k) : BRow W g f' := ⟨fun k hk => by rw [e k hk]; exact h.at' k hk, h.free⟩
/-- A row of bytes does not meet a cell that holds a bool. -/
theorem Row.setBool {W : World} {a : Option Addr} {zs : List PM.G} {cap : Nat} (h : Row W a zs cap) {q : Addr} {b : Bool} (hq : W.cell? q = some (.bool b)) (u : Value) : Row (W.setCell q u) a zs cap :=
  ⟨h.room, h.most, fun j hj => by
    obtain ⟨b', off, e, hc⟩ := h.el j hj
    refine ⟨b', off, e, (World.cell?_setCell_other _ _ _ _ ?_).trans hc⟩
    rintro rfl
    rw [hq] at hc
    cases hc⟩
theorem Dice.set {W : World} {dp g o : Nat} {a : Option Addr} {cap : Nat} {ts : List Int} {k : Nat} (h : Dice W dp a cap ts k) (hg : dp < g) (hf : ∀ b off, a = some ⟨b, off, none⟩ → 0 < ts.length → b < g) (u : Value) : Dice (W.setCell ⟨g, o, none⟩ u) dp a cap ts k :=
  h.belowAt ((Below.refl g W).setCell (p := ⟨g, o, none⟩) (Nat.le_refl _) u) hg hf

theorem info_bool : (Try.prog.info? 4).map (fun i => (i.zero, i.size, i.bytes)) = some (some (Value.bool false), 1, 1) := by kernel_rfl
/-- **make([]bool, 256)** -/
theorem wpList_makeB {W : World} {ops : Array Oper} {rest : List Oper} {o : Oper} {a : Act} {Q : Exit → Act → World → Prop} (hgd : o.guard = none) (l c : Operand) (hop : o.op = Op.makeSlice 41 l c)
    (hl : a.eval l = .int .i64 256) (hc : a.eval c = .int .i64 256)
    (h : ∀ W', BRow W' W.heap.size (fun _ => false) → Below W.heap.size W W' → wpList Try.prog ops Q rest (a.put o.dst (.slice (some ⟨W.heap.size, 0, none⟩) 256 256)) W') : wpList Try.prog ops Q (o :: rest) a W := by
  obtain ⟨i0, hi, hz0, hz1, hz2⟩ := info_parts info_bool
  refine wpList_make_full W hgd l c 41 hop W.heap.size 4 i0 (.bool false) 1 Try.underlying41 hi hz0 hz1 .i64 .i64 256 256 256 hl hc rfl rfl (by rw [hz2]; decide) (by unfold maxLen; decide) (Nat.le_refl _) ?_
  intro W' hown hgrow
  refine h W' ⟨fun k hk => ?_, fun k hk => ?_⟩ ((Below.refl _ W).grown hgrow (Nat.le_refl _) (fun k e => by cases e))
  · have e : (madeCells (Value.bool false).cells (256 * 1)).toList = List.replicate 256 (Value.bool false) := by
      refine List.eq_replicate_iff.2 ⟨by simp [madeCells, Value.cells], fun b hb => ?_⟩
      simp [madeCells, Value.cells, Nat.mod_one] at hb
      exact hb.2.symm
    rw [e] at hown
    rw [World.ownsRow.cellAt hown k (by omega), List.getElem?_replicate, if_pos hk]
  · exact World.ownsRow.frozenAt hown k

/-- The value of the derivative. -/
def dvl (p : List PM.G) (x : PM.G) : PM.G := PM.evn p.length (PM.der (PM.el p)) x
theorem dvl_any (p : List PM.G) (x : PM.G) {n : Nat} (h : p.length ≤ n) : PM.evn n (PM.der (PM.el p)) x = dvl p x :=
  PM.evn_van x _ _ _ (PM.Van.der ((PM.el_van p).mono (Nat.le_succ _))) h
theorem dvl_list {p r : List PM.G} (h : ∀ k, PM.el r k = PM.der (PM.el p) k) (x : PM.G) : PM.ev r x = dvl p x := by
  rw [← PM.ev_any r x (n := r.length + p.length) (by omega), show PM.el r = PM.der (PM.el p) from funext h, dvl_any p x (by omega)]
theorem el_lin (r : PM.G) : PM.el [r, PM.G.one] = PM.lin r := by
  funext k
  match k with
  | 0 => rfl
  | 1 => rfl
  | k + 2 => rw [PM.el_ge (by show 2 ≤ _; omega)]; unfold PM.lin; rw [if_neg (by omega), if_neg (by omega)]
theorem der_lin (r : PM.G) : PM.der (PM.lin r) = PM.oneC := by
  funext k
  match k with
  | 0 => rfl
  | k + 1 =>
    have h0 : PM.oneC (k + 1) = 0 := by unfold PM.oneC PM.mono; rw [if_neg (by omega)]
    rw [h0]
    unfold PM.der
    split
    · unfold PM.lin; rw [if_neg (by omega), if_neg (by omega)]
    · rfl
theorem ev_mul {p p' : List PM.G} {r : PM.G} (h : ∀ k, PM.el p' k = PM.conv (PM.el p) (PM.el [r, PM.G.one]) k) (x : PM.G) : PM.ev p' x = PM.ev p x * (r + x) := by
  rw [← PM.ev_any p' x (n := p'.length + p.length + 2) (by omega), show PM.el p' = PM.conv (PM.el p) (PM.el [r, PM.G.one]) from funext h, el_lin,
    PM.evn_conv x (PM.lin r) 2 (PM.lin_van r) _ _ ((PM.el_van p).mono (by omega)), PM.ev_any p x (by omega), PM.evn_lin]
theorem dvl_mul {p p' : List PM.G} {r : PM.G} (h : ∀ k, PM.el p' k = PM.conv (PM.el p) (PM.el [r, PM.G.one]) k) (x : PM.G) : dvl p' x = dvl p x * (r + x) + PM.ev p x := by
  have e1 : PM.der (PM.el p') = PM.addC (PM.conv (PM.der (PM.el p)) (PM.lin r)) (PM.el p) := by
    funext k
    rw [show PM.el p' = PM.conv (PM.el p) (PM.el [r, PM.G.one]) from funext h, el_lin, PM.der_conv, der_lin, PM.conv_comm (PM.el p) PM.oneC, PM.conv_oneC]
    rfl
  rw [← dvl_any p' x (n := p'.length + p.length + 2) (by omega), e1, PM.evn_addC, PM.evn_conv x (PM.lin r) 2 (PM.lin_van r) _ _ ((PM.Van.der ((PM.el_van p).mono (Nat.le_succ _))).mono (by omega)), dvl_any p x (by omega), PM.evn_lin, PM.ev_any p x (by omega)]
/-- One root more. -/
theorem there_step {p p' : List PM.G} {r : PM.G} (h : ∀ k, PM.el p' k = PM.conv (PM.el p) (PM.el [r, PM.G.one]) k) (x : PM.G) : decide (PM.ev p' x = 0) = if x = r then true else decide (PM.ev p x = 0) := by
  rw [ev_mul h]
  by_cases e : x = r
  · subst e; rw [if_pos rfl, PM.G.add_self, PM.G.mul_zero]; rfl
  · rw [if_neg e]
    by_cases h0 : PM.ev p x = 0
    · rw [h0, PM.G.zero_mul]
    · rw [decide_eq_false h0, decide_eq_false (PM.G.mul_ne h0 (fun h1 => e (PM.G.add_eq_zero.1 h1).symm))]
/-- What twice says. -/
def Dbl (p : List PM.G) (tw : Nat → Bool) : Prop := ∀ k, k < 256 → tw k = true → PM.ev p (ofN k) = 0 ∧ dvl p (ofN k) = 0
theorem ofN_inj {a b : Nat} (ha : a < 256) (hb : b < 256) (h : ofN a = ofN b) : a = b := by
  have := congrArg PM.G.v h
  show a = b
  have e : a % 256 = b % 256 := this
  omega
theorem dbl_step {p p' : List PM.G} {rn : Nat} (hrn : rn < 256) (h : ∀ k, PM.el p' k = PM.conv (PM.el p) (PM.el [ofN rn, PM.G.one]) k) {tw : Nat → Bool} (ht : Dbl p tw) :
    Dbl p' (fun k => if k = rn then decide (PM.ev p (ofN rn) = 0) else tw k) := by
  intro k hk he
  simp only at he
  rw [ev_mul h, dvl_mul h]
  by_cases e : k = rn
  · subst e
    rw [if_pos rfl] at he
    rw [of_decide_eq_true he, PM.G.add_self, PM.G.mul_zero, PM.G.mul_zero, PM.G.add_zero]
    exact ⟨rfl, rfl⟩
  · rw [if_neg e] at he
    obtain ⟨h1, h2⟩ := ht k hk he
    rw [h1, h2, PM.G.zero_mul, PM.G.add_zero]
    exact ⟨rfl, rfl⟩
/-- The roots are a beginning and what comes. -/
theorem rootsTo_len_le (p : List PM.G) (k m : Nat) (h : k ≤ m) (hm : m ≤ 256) : (rootsTo p k).length ≤ (rootsTo p m).length := by
  induction m with
  | zero => rw [show k = 0 by omega]; exact Nat.le_refl _
  | succ m ih =>
    by_cases e : k = m + 1
    · rw [e]; exact Nat.le_refl _
    · have h1 := ih (by omega) (by omega)
      by_cases hr : PM.ev p (ofN m) = 0
      · rw [rootsTo_yes p m (by omega) hr, List.length_append]; omega
      · rw [rootsTo_no p m (by omega) hr]; exact h1
theorem rootsTo_el (p : List PM.G) (k m : Nat) (h : k < m) (hm : m ≤ 256) (hr : PM.ev p (ofN k) = 0) : PM.el (rootsTo p m) (rootsTo p k).length = ofN k := by
  induction m with
  | zero => omega
  | succ m ih =>
    by_cases e : k = m
    · subst e
      rw [rootsTo_yes p k (by omega) hr, PM.el_append, if_neg (by omega), Nat.sub_self]; rfl
    · have h1 := ih (by omega) (by omega)
      have h2 : (rootsTo p k).length < (rootsTo p m).length := by
        have h3 := rootsTo_len_le p (k + 1) m (by omega) (by omega)
        rw [rootsTo_yes p k (by omega) hr, List.length_append] at h3
        simp at h3; omega
      by_cases hr' : PM.ev p (ofN m) = 0
      · rw [rootsTo_yes p m (by omega) hr', PM.el_append, if_pos h2]; exact h1
      · rw [rootsTo_no p m (by omega) hr']; exact h1
theorem rootsTo_lt (p : List PM.G) (k : Nat) (h : k < 256) (hr : PM.ev p (ofN k) = 0) : (rootsTo p k).length < (rootsL p).length := by
  have h3 := rootsTo_len_le p (k + 1) 256 (by omega) (Nat.le_refl _)
  rw [rootsTo_yes p k h hr, List.length_append] at h3
  simp at h3
  exact h3
/-- A polynomial that is not zero has fewer roots than elements. -/
theorem roots_few {q : List PM.G} (hq : Pol q) (h0 : 0 < q.length) : (rootsL q).length < q.length := by
  have hnd : (rootsL q).Nodup := by
    unfold rootsL rootsTo
    rw [show allG.take 256 = allG from List.take_of_length_le (by rw [allG_len]; exact Nat.le_refl _)]
    refine List.Pairwise.filter _ ?_
    unfold allG
    rw [List.pairwise_map]
    refine List.Pairwise.imp_of_mem ?_ List.nodup_range
    intro a b ha hb hne h
    exact hne (ofN_inj (List.mem_range.1 ha) (List.mem_range.1 hb) h)
  have := PM.roots_le (q.length - 1) (PM.el q) (by rw [show q.length - 1 + 1 = q.length by omega]; exact PM.el_van q) (hq.can h0) (rootsL q) hnd (fun x hx => by
    unfold rootsL rootsTo at hx
    have := (List.mem_filter.1 hx).2
    rw [show q.length - 1 + 1 = q.length by omega]
    exact of_decide_eq_true this)
  omega
end Go.Proofs.Ytfbogjibofeckaa.P
