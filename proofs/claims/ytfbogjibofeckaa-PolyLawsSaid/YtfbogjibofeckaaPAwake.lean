/- law04.awake and ref04.Same. -/
import Derived.Test.YtfbogjibofeckaaPMade
namespace Go.Proofs.Ytfbogjibofeckaa.P
open Go Go.RowKit Go.Shelf

/-- A slice of two bytes that is written out. -/
theorem row_two (w : World) (c d : PM.G) (t : TypeId) : Row (w.alloc (.cells #[.int .u8 (c.v : Int), .int .u8 (d.v : Int)] t)) (some ⟨w.heap.size, 0, none⟩) [c, d] 2 := by
  refine ⟨Nat.le_refl _, by omega, fun j hj => ⟨w.heap.size, 0, rfl, ?_⟩⟩
  have hb : (w.alloc (.cells #[.int .u8 (c.v : Int), .int .u8 (d.v : Int)] t)).heap[w.heap.size]? = some (.cells #[.int .u8 (c.v : Int), .int .u8 (d.v : Int)] t) := Array.getElem?_push_size
  rw [cell_of_row _ _ _ _ _ _ hb]
  match j, hj with
  | 0, _ => rfl
  | 1, _ => rfl
theorem row_one (w : World) (c : PM.G) (t : TypeId) : Row (w.alloc (.cells #[.int .u8 (c.v : Int)] t)) (some ⟨w.heap.size, 0, none⟩) [c] 1 := by
  refine ⟨Nat.le_refl _, by omega, fun j hj => ⟨w.heap.size, 0, rfl, ?_⟩⟩
  have hb : (w.alloc (.cells #[.int .u8 (c.v : Int)] t)).heap[w.heap.size]? = some (.cells #[.int .u8 (c.v : Int)] t) := Array.getElem?_push_size
  rw [cell_of_row _ _ _ _ _ _ hb]
  match j, hj with
  | 0, _ => rfl

def oneX : List PM.G := [PM.G.one, PM.G.one]
def oneX2 : List PM.G := [PM.G.one, 0, PM.G.one]
theorem pol_oneX : Pol oneX := ⟨by intro _; decide, by decide⟩
theorem pol_oneX2 : Pol oneX2 := ⟨by intro _; decide, by decide⟩
theorem conv_oneX : ∀ k, PM.conv (PM.el oneX) (PM.el oneX) k = PM.el oneX2 k := by
  intro k
  match k with
  | 0 => decide +kernel
  | 1 => decide +kernel
  | 2 => decide +kernel
  | k + 3 =>
    rw [PM.conv_van (PM.el oneX) (PM.el oneX) 2 1 (PM.el_van oneX) (PM.el_van oneX) (k + 3) (by omega), PM.el_ge (by show 3 ≤ _; omega)]
theorem roots_oneX2 : rootsL oneX2 = [PM.G.one] := by decide +kernel

set_option maxRecDepth 100000 in
set_option maxHeartbeats 1000000 in
theorem awake_yes (w : World) : Calls Try.prog 9 #[] w fun e W => e = .returned (.bool true) ∧ Below w.heap.size w W := by
  have h1 := row_two w PM.G.one PM.G.one 5
  have h2 := row_two (w.alloc (.cells #[.int .u8 (PM.G.one.v : Int), .int .u8 (PM.G.one.v : Int)] 5)) PM.G.one PM.G.one 5
  have hm := mul_yes _ _ 2 2 oneX oneX _ (h1.alloc (.cells #[.int .u8 (PM.G.one.v : Int), .int .u8 (PM.G.one.v : Int)] 5)) h2 pol_oneX pol_oneX (by decide)
  rw [one_int, World.size_alloc] at hm
  have HM := Lib.hid hm
  clear h1 h2 hm
  go_enter Try.func9, Try.ntmps9
  go_wp2_with fail
  refine HM.out.mono ?_
  rintro e w1 ⟨⟨r, a, c, rfl, hr, hp, hco⟩, hb⟩
  obtain rfl : r = oneX2 := PM.can_ext hp.can pol_oneX2.can (fun k => (hco k).trans (conv_oneX k))
  have hb0 : Below w.heap.size w w1 := (((Below.refl w.heap.size w).alloc (Nat.le_refl _) _).alloc (by simp) _).trans (hb.mono (by simp; omega))
  have hrt := roots_yes a c oneX2 w1 hr pol_oneX2 (by decide)
  rw [roots_oneX2] at hrt
  have HB := Lib.hid hb0
  have HRT := Lib.hid hrt
  have HR := Lib.hid hr
  clear hb hp hco hb0 hrt hr HM
  have e3 : oneX2.length = 3 := rfl
  rw [e3] at HRT ⊢
  clear e3
  go_wp2_with fail
  refine HRT.out.mono ?_
  rintro e w2 ⟨⟨a2, c2, rfl, hr2⟩, hb2⟩
  obtain ⟨g, o, rfl, h1⟩ := (HR.out.below hb2).el 1 (by decide)
  have h2 := (HR.out.below hb2).cell 2 (by decide)
  obtain ⟨g2, o2, rfl, h3⟩ := hr2.el 0 (by decide)
  have hroom : 3 ≤ c := HR.out.room
  have hmost := HR.out.most
  have hroom2 : 1 ≤ c2 := hr2.room
  have hmost2 := hr2.most
  have d1 : w2.cell? ⟨g, o + 1, none⟩ = some (.int .u8 0) := h1
  have d2 : w2.cell? ⟨g, o + 2, none⟩ = some (.int .u8 1) := h2
  have d3 : w2.cell? ⟨g2, o2, none⟩ = some (.int .u8 1) := h3
  have HB2 := Lib.hid (HB.out.trans (hb2.mono HB.out.size))
  clear h1 h2 h3 hr2 hb2 HR HRT
  have e4 : [PM.G.one].length = 1 := rfl
  rw [e4]
  clear e4
  go_wp2
  go_ret
  exact ⟨rfl, HB2.out⟩

def eqB (p q : List PM.G) : Bool := decide (p = q)
set_option maxRecDepth 100000 in
set_option maxHeartbeats 1000000 in
/-- **ref04.Same** -/
theorem same_any (a b : Option Addr) (ca cb : Nat) (p q : List PM.G) (w : World) (ha : Row w a p ca) (hb : Row w b q cb) :
    Calls Try.prog 18 #[.slice a p.length ca, .slice b q.length cb] w fun e W => e = .returned (.bool (eqB p q)) ∧ Below w.heap.size w W := by
  have hra := ha.room
  have hma := ha.most
  have hrb := hb.room
  have hmb := hb.most
  have HA := Lib.hid ha
  have HB := Lib.hid hb
  clear ha hb
  by_cases hl : p.length = q.length
  · have hne : ((p.length : Int) != (q.length : Int)) = false := by rw [hl]; simp
    have HL := Lib.hid hl
    obtain ⟨n, hn⟩ : ∃ n, q.length = n := ⟨_, rfl⟩
    rw [hl, hn] at hra
    rw [hn] at hrb
    rw [hl] at hne
    rw [hl, hn] 
    rw [hn] at hne
    have HN := Lib.hid hn
    clear hl hn
    go_enter Try.func18, Try.ntmps18
    go_wp2
    go_loopw [5] (fun i wr => ∃ k : Nat, i = .int .i64 (k : Int) ∧ k ≤ n ∧ (∀ j, j < k → PM.el p j = PM.el q j) ∧ Below w.heap.size w wr) (fun i _ => n - (intOf i).toNat)
    case atStart => exact ⟨0, rfl, Nat.zero_le _, fun j hj => absurd hj (Nat.not_lt_zero _), Below.refl _ _⟩
    case round =>
      obtain ⟨k, rfl, hk, heq, hB⟩ := hrel
      have HEQ := Lib.hid heq
      have HBW := Lib.hid hB
      have HA2 := Lib.hid (HA.out.below hB)
      have HB2 := Lib.hid (HB.out.below hB)
      clear heq hB
      by_cases hlt : k < n
      · obtain ⟨b1, o1, rfl, h1⟩ := HA2.out.el k (by have := HL.out; have := HN.out; omega)
        obtain ⟨b2, o2, rfl, h2⟩ := HB2.out.el k (by have := HN.out; omega)
        by_cases hv : PM.el p k = PM.el q k
        · have hbv : (((PM.el p k).v : Int) != ((PM.el q k).v : Int)) = false := by rw [hv]; simp
          have HV := Lib.hid hv
          clear hv
          go_wp2_with fail
          go_quiet (fail)
          go_wp2
          go_roundw
          case rel => exact ⟨k + 1, by go_num, by omega, fun j hj => by
            by_cases e : j = k
            · rw [e]; exact HV.out
            · exact HEQ.out j (by omega), belowN HBW.out _⟩
          case measure => simp [intOf]; omega
        · have hbv : (((PM.el p k).v : Int) != ((PM.el q k).v : Int)) = true := by
            have : (PM.el p k).v ≠ (PM.el q k).v := fun e => hv (PM.G.ext' e)
            simp; omega
          have HE := Lib.hid (show eqB p q = false by unfold eqB; exact decide_eq_false (fun e => hv (by rw [e])))
          clear hv
          go_wp2_with fail
          go_quiet (fail)
          go_wp2
          go_ret
          exact ⟨by rw [HE.out]; rfl, belowN HBW.out _⟩
      · have HE := Lib.hid (show eqB p q = true by
          unfold eqB
          exact decide_eq_true (PM.ext_el HL.out (fun j hj => HEQ.out j (by have := HL.out; have := HN.out; omega))))
        go_wp2
        go_ret
        exact ⟨by rw [HE.out]; rfl, HBW.out⟩
  · have hne : ((p.length : Int) != (q.length : Int)) = true := by simp; omega
    have HE := Lib.hid (show eqB p q = false by unfold eqB; exact decide_eq_false (fun e => hl (by rw [e])))
    go_enter Try.func18, Try.ntmps18
    go_wp2
    go_ret
    exact ⟨by rw [HE.out]; rfl, Below.refl _ _⟩
/-- .. of equal lists. -/
theorem same_yes (a b : Option Addr) (ca cb : Nat) (p q : List PM.G) (w : World) (ha : Row w a p ca) (hb : Row w b q cb) (h : p = q) :
    Calls Try.prog 18 #[.slice a p.length ca, .slice b q.length cb] w fun e W => e = .returned (.bool true) ∧ Below w.heap.size w W := by
  have := same_any a b ca cb p q w ha hb
  rwa [show eqB p q = true from decide_eq_true h] at this
end Go.Proofs.Ytfbogjibofeckaa.P
