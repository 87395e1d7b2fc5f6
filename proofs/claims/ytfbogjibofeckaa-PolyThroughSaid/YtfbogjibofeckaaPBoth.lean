/- poly and its reference answer the same for any two lists. -/
import Derived.Test.YtfbogjibofeckaaPRefVal
import Derived.Test.YtfbogjibofeckaaPDivides
namespace Go.Proofs.Ytfbogjibofeckaa.P
open Go Go.RowKit Go.Shelf

theorem one_of {α : Type} (d : α) (X : α → Prop) (u : ∀ r s, X r → X s → r = s) : ∃ r, ∀ s, X s → s = r := by
  by_cases h : ∃ r, X r
  · obtain ⟨r, hr⟩ := h
    exact ⟨r, fun s hs => u s r hs hr⟩
  · exact ⟨d, fun s hs => absurd ⟨s, hs⟩ h⟩

/-- A list and an error. -/
def LRes (E : Int) (r : List PM.G) (e : Ending) (W : World) : Prop := ∃ a c, e = .returned (.tuple #[.slice a r.length c, .int .i64 E]) ∧ Row W a r c
def LRes2 (E : Int) (r s : List PM.G) (e : Ending) (W : World) : Prop := ∃ a c b d, e = .returned (.tuple #[.slice a r.length c, .slice b s.length d, .int .i64 E]) ∧ Row W a r c ∧ Row W b s d
def LRes1 (r : List PM.G) (e : Ending) (W : World) : Prop := ∃ a c, e = .returned (.slice a r.length c) ∧ Row W a r c
theorem LRes.none {E : Int} {W : World} : LRes E [] (.returned (.tuple #[.slice none 0 0, .int .i64 E])) W := ⟨Option.none, 0, rfl, Row.nil _ _ _ (by omega)⟩
theorem LRes2.none {E : Int} {W : World} : LRes2 E [] [] (.returned (.tuple #[.slice none 0 0, .slice none 0 0, .int .i64 E])) W := ⟨Option.none, 0, Option.none, 0, rfl, Row.nil _ _ _ (by omega), Row.nil _ _ _ (by omega)⟩
theorem LRes1.none {W : World} : LRes1 [] (.returned (.slice none 0 0)) W := ⟨Option.none, 0, rfl, Row.nil _ _ _ (by omega)⟩
theorem pres_one (f : PM.Co) : ∃ r, ∀ e W, PRes f e W → LRes 0 r e W := by
  obtain ⟨r, hr⟩ := one_of [] (fun s : List PM.G => PM.Can s ∧ ∀ k, PM.el s k = f k) (fun r s h1 h2 => PM.can_ext h1.1 h2.1 (fun k => (h1.2 k).trans (h2.2 k).symm))
  refine ⟨r, fun e W ⟨s, a, c, he, hrow, hp, hco⟩ => ?_⟩
  have hs := hr s ⟨hp.can, hco⟩
  subst hs
  exact ⟨a, c, he, hrow⟩

/-- What f gives for any memory that holds the two lists. -/
def Two (f : FuncId) (p q : List PM.G) (X : Ending → World → Prop) : Prop := ∀ (a b : Option Addr) (ca cb : Nat) (w : World), Row w a p ca → Row w b q cb → Calls Try.prog f #[.slice a p.length ca, .slice b q.length cb] w fun e W => X e W ∧ Below w.heap.size w W
def One (f : FuncId) (p : List PM.G) (X : Ending → World → Prop) : Prop := ∀ (a : Option Addr) (ca : Nat) (w : World), Row w a p ca → Calls Try.prog f #[.slice a p.length ca] w fun e W => X e W ∧ Below w.heap.size w W
theorem Two.at {f : FuncId} {p q : List PM.G} {X : Ending → World → Prop} (h : Two f p q X) (a b : Option Addr) (ca cb : Nat) (w : World) (h1 : Row w a p ca) (h2 : Row w b q cb) : Calls Try.prog f #[.slice a p.length ca, .slice b q.length cb] w fun e W => X e W ∧ Below w.heap.size w W := h a b ca cb w h1 h2
theorem One.at {f : FuncId} {p : List PM.G} {X : Ending → World → Prop} (h : One f p X) (a : Option Addr) (ca : Nat) (w : World) (h1 : Row w a p ca) : Calls Try.prog f #[.slice a p.length ca] w fun e W => X e W ∧ Below w.heap.size w W := h a ca w h1
theorem Two.mono {f : FuncId} {p q : List PM.G} {X Y : Ending → World → Prop} (h : Two f p q X) (hXY : ∀ e W, X e W → Y e W) : Two f p q Y := fun a b ca cb w h1 h2 => (h a b ca cb w h1 h2).mono fun _ _ hh => ⟨hXY _ _ hh.1, hh.2⟩

theorem add_both (p q : List PM.G) : ∃ E r, Two 24 p q (LRes E r) ∧ Two 28 p q (LRes E r) := by
  by_cases hp : Pol p
  · by_cases hq : Pol q
    · obtain ⟨r, hr⟩ := pres_one (PM.addC (PM.el p) (PM.el q))
      exact ⟨0, r, fun a b ca cb w h1 h2 => (add_yes a b ca cb p q w h1 h2 hp hq).mono fun _ _ h => ⟨hr _ _ h.1, h.2⟩, fun a b ca cb w h1 h2 => (radd_yes a b ca cb p q w h1 h2 hp hq).mono fun _ _ h => ⟨hr _ _ h.1, h.2⟩⟩
    · exact ⟨1, [], fun a b ca cb w h1 h2 => (add_bad2 a b ca cb p q w h1 h2 hp hq).mono fun _ _ h => ⟨h.1 ▸ LRes.none, h.2⟩, fun a b ca cb w h1 h2 => (radd_bad2 a b ca cb p q w h1 h2 hp hq).mono fun _ _ h => ⟨h.1 ▸ LRes.none, h.2⟩⟩
  · exact ⟨1, [], fun a b ca cb w h1 h2 => (add_bad1 a b ca cb p q w h1 hp).mono fun _ _ h => ⟨h.1 ▸ LRes.none, h.2⟩, fun a b ca cb w h1 h2 => (radd_bad1 a b ca cb p q w h1 hp).mono fun _ _ h => ⟨h.1 ▸ LRes.none, h.2⟩⟩
theorem mul_both (p q : List PM.G) : ∃ E r, Two 23 p q (LRes E r) ∧ Two 15 p q (LRes E r) := by
  by_cases hp : Pol p
  · by_cases hq : Pol q
    · by_cases h0 : p.length = 0 ∨ q.length = 0
      · refine ⟨0, [], fun a b ca cb w h1 h2 => ?_, fun a b ca cb w h1 h2 => (rmul_zero a b ca cb p q w h1 h2 hp hq h0).mono fun _ _ h => ⟨h.1 ▸ LRes.none, h.2⟩⟩
        by_cases h3 : p.length = 0
        · exact (mul_zero1 a b ca cb p q w h1 h2 hp hq h3).mono fun _ _ h => ⟨h.1 ▸ LRes.none, h.2⟩
        · exact (mul_zero2 a b ca cb p q w h1 h2 hp hq (by omega) (by omega)).mono fun _ _ h => ⟨h.1 ▸ LRes.none, h.2⟩
      · by_cases hl : p.length + q.length ≤ 256
        · obtain ⟨r, hr⟩ := pres_one (PM.conv (PM.el p) (PM.el q))
          exact ⟨0, r, fun a b ca cb w h1 h2 => (mul_fit a b ca cb p q w h1 h2 hp hq (by omega) (by omega) hl).mono fun _ _ h => ⟨hr _ _ h.1, h.2⟩, fun a b ca cb w h1 h2 => (rmul_fit a b ca cb p q w h1 h2 hp hq (by omega) (by omega) hl).mono fun _ _ h => by
            obtain ⟨⟨r', a', c', he, h3, h4, h5, _⟩, hb⟩ := h
            exact ⟨hr _ _ ⟨r', a', c', he, h3, h4, h5⟩, hb⟩⟩
        · exact ⟨3, [], fun a b ca cb w h1 h2 => (mul_limit a b ca cb p q w h1 h2 hp hq (by omega) (by omega) (by omega)).mono fun _ _ h => ⟨h.1 ▸ LRes.none, h.2⟩, fun a b ca cb w h1 h2 => (rmul_limit a b ca cb p q w h1 h2 hp hq (by omega) (by omega) (by omega)).mono fun _ _ h => ⟨h.1 ▸ LRes.none, h.2⟩⟩
    · exact ⟨1, [], fun a b ca cb w h1 h2 => (mul_bad2 a b ca cb p q w h1 h2 hp hq).mono fun _ _ h => ⟨h.1 ▸ LRes.none, h.2⟩, fun a b ca cb w h1 h2 => (rmul_bad2 a b ca cb p q w h1 h2 hp hq).mono fun _ _ h => ⟨h.1 ▸ LRes.none, h.2⟩⟩
  · exact ⟨1, [], fun a b ca cb w h1 h2 => (mul_bad1 a b ca cb p q w h1 h2 hp).mono fun _ _ h => ⟨h.1 ▸ LRes.none, h.2⟩, fun a b ca cb w h1 h2 => (rmul_bad1 a b ca cb p q w h1 hp).mono fun _ _ h => ⟨h.1 ▸ LRes.none, h.2⟩⟩
theorem divEq_one {p q A r A' r' : List PM.G} (hq : Pol q) (hq0 : 0 < q.length) (h : DivEq p q A r) (h' : DivEq p q A' r') : A = A' ∧ r = r' := by
  have := PM.div_unique (PM.el p) (PM.el A) (PM.el A') (PM.el r) (PM.el r') (PM.el q) (q.length - 1) A.length A'.length (by rw [show q.length - 1 + 1 = q.length by omega]; exact PM.el_van q) (hq.can hq0) (PM.el_van A) (PM.el_van A') (fun k hk => PM.el_ge (by have := h.less; omega)) (fun k hk => PM.el_ge (by have := h'.less; omega)) h.eq h'.eq
  exact ⟨PM.can_ext h.canq h'.canq (fun k => congrFun this.1 k), PM.can_ext h.can h'.can (fun k => congrFun this.2 k)⟩
theorem div_both (p q : List PM.G) : ∃ E A r, Two 22 p q (LRes2 E A r) ∧ Two 29 p q (LRes2 E A r) := by
  by_cases hp : Pol p
  · by_cases hq : Pol q
    · by_cases h0 : q.length = 0
      · exact ⟨4, [], [], fun a b ca cb w h1 h2 => (pdiv_zero a b ca cb p q w h1 h2 hp hq h0).mono fun _ _ h => ⟨h.1 ▸ LRes2.none, h.2⟩, fun a b ca cb w h1 h2 => (rdiv_zero a b ca cb p q w h1 h2 hp hq h0).mono fun _ _ h => ⟨h.1 ▸ LRes2.none, h.2⟩⟩
      · obtain ⟨s, hs⟩ := one_of (([], []) : List PM.G × List PM.G) (fun s => DivEq p q s.1 s.2) (fun r s h1 h2 => by
          obtain ⟨e1, e2⟩ := divEq_one hq (by omega) h1 h2
          exact Prod.ext e1 e2)
        have key : ∀ e W, DRes p q e W → LRes2 0 s.1 s.2 e W := fun e W ⟨A, r, a1, c1, a2, c2, he, h1, h2, h3⟩ => by
          have := hs (A, r) h3
          subst this
          exact ⟨a1, c1, a2, c2, he, h1, h2⟩
        exact ⟨0, s.1, s.2, fun a b ca cb w h1 h2 => (pdiv_yes a b ca cb p q w h1 h2 hp hq (by omega)).mono fun _ _ h => ⟨key _ _ h.1, h.2⟩, fun a b ca cb w h1 h2 => (rdiv_yes a b ca cb p q w h1 h2 hp hq (by omega)).mono fun _ _ h => ⟨key _ _ h.1, h.2⟩⟩
    · exact ⟨1, [], [], fun a b ca cb w h1 h2 => (pdiv_bad2 a b ca cb p q w h1 h2 hp hq).mono fun _ _ h => ⟨h.1 ▸ LRes2.none, h.2⟩, fun a b ca cb w h1 h2 => (rdiv_bad2 a b ca cb p q w h1 h2 hp hq).mono fun _ _ h => ⟨h.1 ▸ LRes2.none, h.2⟩⟩
  · exact ⟨1, [], [], fun a b ca cb w h1 h2 => (pdiv_bad1 a b ca cb p q w h1 hp).mono fun _ _ h => ⟨h.1 ▸ LRes2.none, h.2⟩, fun a b ca cb w h1 h2 => (rdiv_bad1 a b ca cb p q w h1 hp).mono fun _ _ h => ⟨h.1 ▸ LRes2.none, h.2⟩⟩

/-- A divisor is no longer. -/
theorem dv_len {g g' : List PM.G} (hg : Pol g) (hg' : Pol g') (h0 : 0 < g.length) (h0' : 0 < g'.length) (h : PM.Dv (PM.el g) (PM.el g')) : g.length ≤ g'.length := by
  rcases Nat.lt_or_ge g'.length g.length with hlt | hge
  · obtain ⟨d, N, hd, he⟩ := h
    have := PM.conv_small d (PM.el g) (g.length - 1) N (by rw [show g.length - 1 + 1 = g.length by omega]; exact PM.el_van g) (hg.can h0) hd (fun k hk => by rw [← he]; exact PM.el_ge (by omega))
    exact absurd (by rw [he, this, PM.conv_zeroC_l]) (hg'.can h0')
  · exact hge
theorem gcd_unique {p q g g' : List PM.G} (h : GcdOf p q g) (h' : GcdOf p q g') : g = g' := by
  have d1 : PM.Dv (PM.el g) (PM.el g') := (h'.dv _).2 ((h.dv _).1 (PM.Dv.refl _))
  have d2 : PM.Dv (PM.el g') (PM.el g) := (h.dv _).2 ((h'.dv _).1 (PM.Dv.refl _))
  rcases Nat.eq_zero_or_pos g.length with e | e
  · have hg : g = [] := List.length_eq_zero_iff.1 e
    refine PM.can_ext h.pol.can h'.pol.can (fun k => ?_)
    rw [PM.Dv.of_zero d1 (fun k => by rw [hg]; rfl) k, hg]; rfl
  · rcases Nat.eq_zero_or_pos g'.length with e' | e'
    · have hg : g' = [] := List.length_eq_zero_iff.1 e'
      refine PM.can_ext h.pol.can h'.pol.can (fun k => ?_)
      rw [PM.Dv.of_zero d2 (fun k => by rw [hg]; rfl) k, hg]; rfl
    · have hl : g.length = g'.length := Nat.le_antisymm (dv_len h.pol h'.pol e e' d1) (dv_len h'.pol h.pol e' e d2)
      obtain ⟨d, N, hd, he⟩ := d1
      have key : ∀ k, PM.conv (PM.addC d PM.oneC) (PM.el g) k = PM.el g' k + PM.el g k := fun k => by rw [PM.conv_add_l, PM.conv_oneC, he]
      have hz := PM.conv_small (PM.addC d PM.oneC) (PM.el g) (g.length - 1) (N + 1) (by rw [show g.length - 1 + 1 = g.length by omega]; exact PM.el_van g) (h.pol.can e)
        ((hd.mono (by omega)).addC (fun k hk => by unfold PM.oneC PM.mono; rw [if_neg (by omega)])) (fun k hk => by
          rw [key]
          by_cases hk1 : k = g.length - 1
          · rw [hk1, h.one e, hl, h'.one e', PM.G.add_self]
          · rw [PM.el_ge (by omega), PM.el_ge (by omega), PM.G.add_zero])
      refine PM.can_ext h.pol.can h'.pol.can (fun k => ?_)
      have := key k
      rw [hz, PM.conv_zeroC_l] at this
      exact (PM.G.add_eq_zero.1 this.symm).symm
set_option maxHeartbeats 400000 in
theorem gcd_bad1 (a b : Option Addr) (ca cb : Nat) (p q : List PM.G) (w : World) (ha : Row w a p ca) (hp : ¬ Pol p) :
    Calls Try.prog 25 #[.slice a p.length ca, .slice b q.length cb] w fun e W => e = .returned (.tuple #[.slice none 0 0, .int .i64 1]) ∧ Below w.heap.size w W := by
  have HA := Lib.hid ha
  have HP := Lib.hid hp
  clear ha hp
  go_enter Try.func25, Try.ntmps25
  go_wp2_with fail
  refine (valid_no a p ca w HA.out HP.out).mono ?_
  rintro e w1 ⟨rfl, hb1⟩
  go_wp2
  exact bodyPost_ret (v := .tuple #[.slice none 0 0, .int .i64 1]) (by simp [results, Try.results25, go_sem]) rfl ⟨rfl, hb1⟩
set_option maxHeartbeats 400000 in
theorem gcd_bad2 (a b : Option Addr) (ca cb : Nat) (p q : List PM.G) (w : World) (ha : Row w a p ca) (hb : Row w b q cb) (hp : Pol p) (hq : ¬ Pol q) :
    Calls Try.prog 25 #[.slice a p.length ca, .slice b q.length cb] w fun e W => e = .returned (.tuple #[.slice none 0 0, .int .i64 1]) ∧ Below w.heap.size w W := by
  have HA := Lib.hid ha
  have HB := Lib.hid hb
  have HP := Lib.hid hp
  have HQ := Lib.hid hq
  clear ha hp hb hq
  go_enter Try.func25, Try.ntmps25
  go_wp2_with fail
  refine (valid_yes a p ca w HA.out HP.out).mono ?_
  rintro e w1 ⟨rfl, hb1⟩
  have HB1 := Lib.hid (HB.out.below hb1)
  go_wp2_with fail
  refine (valid_no b q cb w1 HB1.out HQ.out).mono ?_
  rintro e w2 ⟨rfl, hb2⟩
  go_wp2
  exact bodyPost_ret (v := .tuple #[.slice none 0 0, .int .i64 1]) (by simp [results, Try.results25, go_sem]) rfl ⟨rfl, hb1.trans (hb2.mono hb1.size)⟩
theorem gcd_both (p q : List PM.G) : ∃ E r, Two 25 p q (LRes E r) ∧ Two 30 p q (LRes E r) := by
  by_cases hp : Pol p
  · by_cases hq : Pol q
    · obtain ⟨s, hs⟩ := one_of ([] : List PM.G) (fun s => GcdOf p q s) (fun r s h1 h2 => gcd_unique h1 h2)
      have key : ∀ e W, GRes p q e W → LRes 0 s e W := fun e W ⟨g, a, c, he, h1, h2⟩ => by
        have := hs g h2
        subst this
        exact ⟨a, c, he, h1⟩
      exact ⟨0, s, fun a b ca cb w h1 h2 => (gcd_yes a b ca cb p q w h1 h2 hp hq).mono fun _ _ h => ⟨key _ _ h.1, h.2⟩, fun a b ca cb w h1 h2 => (rgcd_yes a b ca cb p q w h1 h2 hp hq).mono fun _ _ h => ⟨key _ _ h.1, h.2⟩⟩
    · exact ⟨1, [], fun a b ca cb w h1 h2 => (gcd_bad2 a b ca cb p q w h1 h2 hp hq).mono fun _ _ h => ⟨h.1 ▸ LRes.none, h.2⟩, fun a b ca cb w h1 h2 => (rgcd_bad2 a b ca cb p q w h1 h2 hp hq).mono fun _ _ h => ⟨h.1 ▸ LRes.none, h.2⟩⟩
  · exact ⟨1, [], fun a b ca cb w h1 h2 => (gcd_bad1 a b ca cb p q w h1 hp).mono fun _ _ h => ⟨h.1 ▸ LRes.none, h.2⟩, fun a b ca cb w h1 h2 => (rgcd_bad1 a b ca cb p q w h1 hp).mono fun _ _ h => ⟨h.1 ▸ LRes.none, h.2⟩⟩

theorem valid_both (p : List PM.G) : One 31 p (fun e _ => e = .returned (.bool (polB p))) ∧ One 32 p (fun e _ => e = .returned (.bool (polB p))) := by
  refine ⟨fun a ca w h => ?_, fun a ca w h => (rvalid_any a p ca w h).mono fun _ _ hh => ⟨hh.1, by rw [← hh.2]; exact Below.refl _ _⟩⟩
  by_cases hp : Pol p
  · rw [polB_yes hp]; exact valid_yes a p ca w h hp
  · rw [polB_no hp]; exact valid_no a p ca w h hp
theorem trim_both (p : List PM.G) (hl : p.length ≤ 300) : One 33 p (LRes1 (PM.trimL p)) ∧ One 34 p (LRes1 (PM.trimL p)) :=
  ⟨fun a ca w h => (ptrim_any a p ca w h (by omega)).mono fun _ _ ⟨⟨a', c', he, hr⟩, hb⟩ => ⟨⟨a', c', he, hr⟩, hb⟩, fun a ca w h => (rtrim_any a p ca w h (by omega)).mono fun _ _ ⟨⟨a', c', he, ho⟩, hb⟩ => ⟨⟨a', c', he, ho.rowAt⟩, hb⟩⟩
theorem derive_both (p : List PM.G) : ∃ r, One 27 p (LRes1 r) ∧ One 36 p (LRes1 r) := by
  by_cases hl : p.length ≤ 255
  · obtain ⟨r, hr⟩ := one_of [] (fun s : List PM.G => PM.Can s ∧ ∀ k, PM.el s k = PM.der (PM.el p) k) (fun r s h1 h2 => PM.can_ext h1.1 h2.1 (fun k => (h1.2 k).trans (h2.2 k).symm))
    refine ⟨r, fun a ca w h => (derive_any a ca p w h hl).mono fun _ _ ⟨⟨s, a', c', he, hr', hp, hco⟩, hb⟩ => ?_, fun a ca w h => (rderive_any a ca p w h hl).mono fun _ _ ⟨⟨s, a', c', he, hr', hp, hco⟩, hb⟩ => ?_⟩
    · have := hr s ⟨hp.can, hco⟩
      subst this
      exact ⟨⟨a', c', he, hr'⟩, hb⟩
    · have := hr s ⟨hp.can, hco⟩
      subst this
      exact ⟨⟨a', c', he, hr'⟩, hb⟩
  · exact ⟨[], fun a ca w h => (derive_long a ca p w h (by omega)).mono fun _ _ hh => ⟨hh.1 ▸ LRes1.none, hh.2⟩, fun a ca w h => (rderive_long a ca p w h (by omega)).mono fun _ _ hh => ⟨hh.1 ▸ LRes1.none, hh.2⟩⟩
theorem roots_both (p : List PM.G) : ∃ r, One 26 p (LRes1 r) ∧ One 37 p (LRes1 r) := by
  by_cases hp : Pol p
  · by_cases h0 : p.length = 0
    · exact ⟨[], fun a ca w h => (roots_zero a ca p w h hp h0).mono fun _ _ hh => ⟨hh.1 ▸ LRes1.none, hh.2⟩, fun a ca w h => (rroots_zero a ca p w h hp h0).mono fun _ _ hh => ⟨hh.1 ▸ LRes1.none, hh.2⟩⟩
    · exact ⟨rootsL p, fun a ca w h => (roots_yes a ca p w h hp (by omega)).mono fun _ _ ⟨⟨a', c', he, hr⟩, hb⟩ => ⟨⟨a', c', he, hr⟩, hb⟩, fun a ca w h => (rroots_yes a ca p w h hp (by omega)).mono fun _ _ ⟨⟨a', c', he, hr⟩, hb⟩ => ⟨⟨a', c', he, hr⟩, hb⟩⟩
  · exact ⟨[], fun a ca w h => (roots_bad a ca p w h hp).mono fun _ _ hh => ⟨hh.1 ▸ LRes1.none, hh.2⟩, fun a ca w h => (rroots_bad a ca p w h hp).mono fun _ _ hh => ⟨hh.1 ▸ LRes1.none, hh.2⟩⟩
end Go.Proofs.Ytfbogjibofeckaa.P
