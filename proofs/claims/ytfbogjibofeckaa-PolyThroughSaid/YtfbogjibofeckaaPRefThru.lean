/- ref04.Through. -/
import Derived.Test.YtfbogjibofeckaaPAppF
namespace Go.Proofs.Ytfbogjibofeckaa.P
open Go Go.RowKit Go.Shelf

/-- The last loop, behind m rounds: the product times x + xs i. -/
def nx (P : List PM.G) (x : PM.G) (m j : Nat) : PM.G := (if 0 < j ∧ j ≤ m then PM.el P (j - 1) else 0) + if j < m then PM.el P j * x else 0
def nxm (P : List PM.G) (x : PM.G) (m j : Nat) : PM.G := (if 0 < j ∧ j ≤ m + 1 then PM.el P (j - 1) else 0) + if j < m then PM.el P j * x else 0
theorem nx_zero (P : List PM.G) (x : PM.G) (j : Nat) : nx P x 0 j = 0 := by unfold nx; rw [if_neg (by omega), if_neg (by omega), PM.G.add_zero]
theorem nxm_of (P : List PM.G) (x : PM.G) (m j : Nat) : nxm P x m j = if j = m + 1 then nx P x m j + PM.el P m else nx P x m j := by
  by_cases e : j = m + 1
  · subst e
    rw [if_pos rfl]
    unfold nxm nx
    rw [if_pos (show 0 < m + 1 ∧ m + 1 ≤ m + 1 from ⟨by omega, Nat.le_refl _⟩), if_neg (show ¬ (0 < m + 1 ∧ m + 1 ≤ m) by omega), if_neg (show ¬ m + 1 < m by omega), PM.G.add_zero, PM.G.add_zero, PM.G.zero_add, Nat.add_sub_cancel]
  · rw [if_neg e]
    unfold nxm nx
    congr 1
    by_cases h : 0 < j ∧ j ≤ m
    · rw [if_pos h, if_pos (by omega)]
    · rw [if_neg h, if_neg (by omega)]
theorem nx_of (P : List PM.G) (x : PM.G) (m j : Nat) : nx P x (m + 1) j = if j = m then nxm P x m j + PM.el P m * x else nxm P x m j := by
  unfold nxm nx
  by_cases e : j = m
  · subst e
    rw [if_pos (Nat.lt_succ_self j), if_neg (Nat.lt_irrefl j), if_pos rfl, PM.G.add_zero]
  · rw [if_neg e]
    congr 1
    by_cases h : j < m
    · rw [if_pos h, if_pos (by omega)]
    · rw [if_neg h, if_neg (by omega)]
theorem nx_all (P : List PM.G) (x : PM.G) (j : Nat) : nx P x P.length j = PM.conv (PM.lin x) (PM.el P) j := by
  rw [PM.conv_lin]
  unfold nx
  rw [PM.G.add_comm]
  congr 1
  · by_cases h : j < P.length
    · rw [if_pos h, PM.G.mul_comm]
    · rw [if_neg h, PM.el_ge (by omega), PM.G.mul_zero]
  · cases j with
    | zero => rw [if_neg (by omega)]; rfl
    | succ j =>
      rw [Nat.add_sub_cancel]
      show _ = PM.el P j
      by_cases h : j < P.length
      · rw [if_pos (by omega)]
      · rw [if_neg (by omega), PM.el_ge (by omega)]

theorem Own.block {W : World} {B n co g : Nat} {ao : Option Addr} {zs : List PM.G} (h : Own W B (.slice ao n co) zs) (e : (Value.slice ao n co).ownBlock = some g) : ao = some ⟨g, 0, none⟩ := by
  rcases h.parts with ⟨hv, _⟩ | ⟨g', c', hv, _⟩
  · injection hv with h1 h2 h3
    subst h1
    cases e
  · injection hv with h1 h2 h3
    subst h1
    cases e
    rfl
def RT3 (w : World) (n : Nat) (xs ys : List PM.G) (ov pv iv : Value) (W : World) : Prop :=
  ∃ (i : Nat) (O P : List PM.G) (ao aP : Option Addr) (co cP : Nat), iv = .int .i64 (i : Int) ∧ i ≤ n ∧ ov = .slice ao i co ∧ pv = .slice aP P.length cP ∧ Own W w.heap.size (.slice ao i co) O ∧ O.length = i ∧ Row W aP P cP ∧
    (∀ b o b' o', aP = some ⟨b, o, none⟩ → ao = some ⟨b', o', none⟩ → b ≠ b') ∧ Nul xs P i ∧ Thr xs ys O i ∧ Below w.heap.size w W
def RT4 (w : World) (i : Nat) (O P : List PM.G) (aP : Option Addr) (cP : Nat) (ov : Value) (W : World) : Prop :=
  ∃ (k : Nat) (O' : List PM.G) (ao : Option Addr) (co : Nat), ov = .slice ao k co ∧ i ≤ k ∧ k ≤ i + 1 ∧ Own W w.heap.size (.slice ao k co) O' ∧ O'.length = k ∧ (∀ j, PM.el O' j = PM.el O j) ∧ Row W aP P cP ∧ (∀ b o b' o', aP = some ⟨b, o, none⟩ → ao = some ⟨b', o', none⟩ → b ≠ b') ∧ Below w.heap.size w W
def RT5 (w : World) (go k co : Nat) (O P : List PM.G) (aP : Option Addr) (cP : Nat) (f : PM.G) (iv : Value) (W : World) : Prop :=
  ∃ (m : Nat) (Z : List PM.G), iv = .int .i64 (m : Int) ∧ m ≤ P.length ∧ Z.length = k ∧ (∀ j, PM.el Z j = PM.el O j + part f P 0 m j) ∧ Own W w.heap.size (.slice (some ⟨go, 0, none⟩) k co) Z ∧ Row W aP P cP ∧ Below w.heap.size w W
theorem rt5_step {w wr W' : World} {go k co m cP : Nat} {O P Z : List PM.G} {aP : Option Addr} {f : PM.G} (hm : m < P.length) (hk : m < Z.length) (hg : w.heap.size ≤ go) (hl : Z.length = k) (he : ∀ j, PM.el Z j = PM.el O j + part f P 0 m j)
    (ho : Own wr w.heap.size (.slice (some ⟨go, 0, none⟩) k co) Z) (hP : Row wr aP P cP) (hne : ∀ b o, aP = some ⟨b, o, none⟩ → b ≠ go) (hB : Below w.heap.size w wr)
    (hW : W' = (wr.drewN 1).setCell ⟨go, m, none⟩ (.int .u8 (bits BinOp.xor IntKind.u8 ((PM.el Z m).v : Int) ((f * PM.el P m).v : Int)))) : RT5 w go k co O P aP cP f (.int .i64 ((m : Int) + 1)) W' := by
  subst hW
  rw [xor_G]
  refine ⟨m + 1, Z.set m (PM.el Z m + f * PM.el P m), by go_num, hm, by rw [List.length_set]; exact hl, fun j => ?_, ?_, (hP.drewN 1).grown (grown_set (World.grownBy.refl _ (some go)) m _) (fun b o e => by have := hne b o e; intro h; cases h; exact this rfl), (belowN hB 1).setCell (p := ⟨go, m, none⟩) hg _⟩
  · rw [PM.el_set hk, part_step, Nat.zero_add]
    by_cases e : j = m
    · subst e
      have h0 := part_at f P 0 j
      rw [Nat.zero_add] at h0
      rw [if_pos rfl, if_pos rfl, he, h0, PM.G.add_zero]
    · rw [if_neg e, if_neg e, he]
  · subst hl
    exact (ho.drewN 1).set m (PM.el Z m + f * PM.el P m)
def RT6 (w0 : World) (gN n6 : Nat) (P : List PM.G) (x : PM.G) (iv : Value) (W : World) : Prop :=
  ∃ (m : Nat) (Z : List PM.G), iv = .int .i64 (m : Int) ∧ m ≤ P.length ∧ Z.length = P.length + 1 ∧ (∀ j, PM.el Z j = nx P x m j) ∧ Own W gN (.slice (some ⟨gN, 0, none⟩) n6 n6) Z ∧ Below gN w0 W
theorem rt6_step {w0 w6 W' : World} {gN n6 m : Nat} {P Z : List PM.G} {x : PM.G} (hm : m < P.length) (hl : Z.length = P.length + 1 ∧ Z.length = n6) (he : ∀ j, PM.el Z j = nxm P x m j) (ho : Own w6 gN (.slice (some ⟨gN, 0, none⟩) n6 n6) Z) (hB : Below gN w0 w6)
    (hW : W' = (w6.drewN 1).setCell ⟨gN, m, none⟩ (.int .u8 (bits BinOp.xor IntKind.u8 ((PM.el Z m).v : Int) ((PM.el P m * x).v : Int)))) : RT6 w0 gN n6 P x (.int .i64 ((m : Int) + 1)) W' := by
  subst hW
  rw [xor_G]
  refine ⟨m + 1, Z.set m (PM.el Z m + PM.el P m * x), by go_num, hm, by rw [List.length_set]; exact hl.1, fun j => ?_, ?_, (belowN hB 1).setCell (p := ⟨gN, m, none⟩) (Nat.le_refl _) _⟩
  · rw [PM.el_set (by omega), nx_of]
    by_cases e : j = m
    · subst e; rw [if_pos rfl, if_pos rfl, he]
    · rw [if_neg e, if_neg e, he]
  · have := (show Own w6 gN (.slice (some ⟨gN, 0, none⟩) Z.length n6) Z by rw [hl.2]; exact ho)
    have := (this.drewN 1).set m (PM.el Z m + PM.el P m * x)
    rwa [hl.2] at this
theorem rt6_mid {w0 wr w6 : World} {gN n6 m : Nat} {P Z : List PM.G} {x : PM.G} (hm : m < P.length) (hl : Z.length = P.length + 1 ∧ Z.length = n6) (he : ∀ j, PM.el Z j = nx P x m j) (ho : Own wr gN (.slice (some ⟨gN, 0, none⟩) n6 n6) Z) (hB : Below gN w0 wr)
    (hW : w6 = (wr.drewN 1).setCell ⟨gN, m + 1, none⟩ (.int .u8 (bits BinOp.xor IntKind.u8 ((PM.el Z (m + 1)).v : Int) ((PM.el P m).v : Int)))) :
    ∃ Z' : List PM.G, (Z'.length = P.length + 1 ∧ Z'.length = n6) ∧ (∀ j, PM.el Z' j = nxm P x m j) ∧ Own w6 gN (.slice (some ⟨gN, 0, none⟩) n6 n6) Z' ∧ Below gN w0 w6 := by
  subst hW
  rw [xor_G]
  refine ⟨Z.set (m + 1) (PM.el Z (m + 1) + PM.el P m), by rw [List.length_set]; exact hl, fun j => ?_, ?_, (belowN hB 1).setCell (p := ⟨gN, m + 1, none⟩) (Nat.le_refl _) _⟩
  · rw [PM.el_set (by omega), nxm_of]
    by_cases e : j = m + 1
    · subst e; rw [if_pos rfl, if_pos rfl, he]
    · rw [if_neg e, if_neg e, he]
  · have := (show Own wr gN (.slice (some ⟨gN, 0, none⟩) Z.length n6) Z by rw [hl.2]; exact ho)
    have := (this.drewN 1).set (m + 1) (PM.el Z (m + 1) + PM.el P m)
    rwa [hl.2] at this
theorem rdvd_any (a b : PM.G) (w : World) :
    Calls Try.prog 43 #[.int .u8 (a.v : Int), .int .u8 (b.v : Int)] w fun e w' => e = .returned (.tuple #[.int .u8 ((dvG a b).v : Int), .int .i64 (FM.errZ b.v)]) ∧ w = w' := rdivide_any a.v b.v a.lt b.lt w

set_option maxRecDepth 100000 in
set_option maxHeartbeats 4000000 in
/-- **ref04.Through** -/
theorem rthrough_any (a b : Option Addr) (ca cb : Nat) (xs ys : List PM.G) (w : World) (ha : Row w a xs ca) (hb : Row w b ys cb) (hlen : ys.length = xs.length) (hl : xs.length ≤ 255) :
    Calls Try.prog 17 #[.slice a xs.length ca, .slice b ys.length cb] w fun e W => TRes xs ys e W ∧ Below w.heap.size w W := by
  have hra := ha.room
  have hma := ha.most
  have hrb := hb.room
  have hmb := hb.most
  have HA := Lib.hid ha
  have HB := Lib.hid hb
  clear ha hb
  obtain ⟨n, hn⟩ : ∃ n, xs.length = n := ⟨_, rfl⟩
  rw [hn] at hlen hl hra
  rw [hlen] at hrb
  rw [hlen, hn]
  have HLY := Lib.hid hlen
  have HN := Lib.hid hn
  clear hlen hn
  go_enter Try.func17, Try.ntmps17
  go_wp2_with fail
  go_loopw [6] (fun iv wr => ∃ i : Nat, iv = .int .i64 (i : Int) ∧ i ≤ n ∧ (∀ s t, s < t → t < i → PM.el xs s ≠ PM.el xs t) ∧ Below w.heap.size w wr) (fun i _ => n - (intOf i).toNat)
  case atStart => exact ⟨0, rfl, Nat.zero_le _, fun s t _ ht => absurd ht (Nat.not_lt_zero _), Below.refl _ _⟩
  case round =>
    obtain ⟨i, rfl, hi, hdis, hB⟩ := hrel
    have HDI := Lib.hid hdis
    have HBW := Lib.hid hB
    clear hdis hB
    by_cases hlt : i < n
    · go_wp2_with fail
      go_loopw [7] (fun kv wr => ∃ k : Nat, kv = .int .i64 (k : Int) ∧ k ≤ i ∧ (∀ s, s < k → PM.el xs s ≠ PM.el xs i) ∧ Below w.heap.size w wr) (fun k _ => i - (intOf k).toNat)
      case atStart => exact ⟨0, rfl, Nat.zero_le _, fun s hs => absurd hs (Nat.not_lt_zero _), HBW.out⟩
      case round =>
        clear HBW
        obtain ⟨k, rfl, hk, hne, hB⟩ := hrel
        have HNE := Lib.hid hne
        have HBW := Lib.hid hB
        have hAW := HA.out.below hB
        clear hne hB
        by_cases hkt : k < i
        · obtain ⟨b1, o1, rfl, hc1⟩ := hAW.el i (by rw [HN.out]; exact hlt)
          have hc2 := hAW.cell k (by rw [HN.out]; omega)
          clear hAW
          have hkn : k < n := by omega
          by_cases he : PM.el xs i = PM.el xs k
          · have hbv : (((PM.el xs i).v : Int) == ((PM.el xs k).v : Int)) = true := by rw [he]; simp
            have HND := Lib.hid (show ¬ Dist xs from fun hD => hD k i hkt (by rw [HN.out]; exact hlt) he.symm)
            clear he
            go_wp2_with fail
            go_quiet (fail)
            go_wp2_with fail
            exact bodyPost_ret (v := .tuple #[.slice none 0 0, .int .i64 8]) (by simp [results, Try.results17, go_sem]) rfl ⟨.inl ⟨HND.out, rfl⟩, belowN HBW.out _⟩
          · have hbv : (((PM.el xs i).v : Int) == ((PM.el xs k).v : Int)) = false := by
              have : (PM.el xs i).v ≠ (PM.el xs k).v := fun e => he (PM.G.ext' e)
              simp; omega
            have HE := Lib.hid he
            clear he
            go_wp2_with fail
            go_quiet (fail)
            go_wp2_with fail
            go_roundw
            case rel => exact ⟨k + 1, by go_num, hkt, fun s hs => by
              by_cases e : s = k
              · rw [e]; exact fun h => HE.out h.symm
              · exact HNE.out s (by omega), belowN HBW.out _⟩
            case measure => simp [intOf]; omega
        · obtain rfl : k = i := by omega
          clear hAW
          go_wp2_with fail
          go_roundw
          case rel => exact ⟨k + 1, by go_num, hlt, fun s t hst ht => by
            by_cases e : t = k
            · rw [e]; exact HNE.out s (by omega)
            · exact HDI.out s t hst (by omega), HBW.out⟩
          case measure => simp [intOf]; omega
    · obtain rfl : i = n := by omega
      have hD : Dist xs := fun s t hst ht => HDI.out s t hst (by rw [HN.out] at ht; exact ht)
      have HDD := Lib.hid hD
      have hr1 := row_one wr PM.G.one 5
      rw [one_int] at hr1
      have hst : RT3 w i xs ys (.slice none 0 0) (.slice (some ⟨wr.heap.size, 0, none⟩) 1 1) (.int .i64 0) (wr.alloc (.cells #[.int .u8 1] 5)) :=
        ⟨0, [], [PM.G.one], none, some ⟨wr.heap.size, 0, none⟩, 0, 1, rfl, Nat.zero_le _, rfl, rfl, Own.nil _ _, rfl, hr1, fun _ _ _ _ _ e => (by cases e), nul_start xs, ⟨fun t ht => absurd ht (Nat.not_lt_zero _), fun j _ => rfl⟩, HBW.out.alloc HBW.out.size _⟩
      have HST := Lib.hid hst
      clear hD hst hr1 HBW
      go_wp2_with fail
      go_loopw [8, 9, 10] (fun ov pv iv wr => RT3 w i xs ys ov pv iv wr) (fun _ _ iv _ => i - (intOf iv).toNat)
      case atStart => exact HST.out
      case round =>
        clear HST
        obtain ⟨t, O, P, ao, aP, co, cP, rfl, ht, rfl, rfl, hO, hOl, hP, hne, hnul, hthr, hB⟩ := hrel
        have HO := Lib.hid hO
        have HOL := Lib.hid hOl
        have HP := Lib.hid hP
        have HNE := Lib.hid hne
        have HNU := Lib.hid hnul
        have HTH := Lib.hid hthr
        have HBW := Lib.hid hB
        have hPl := hnul.len
        have hrp := hP.room
        have hmp := hP.most
        have hAW := HA.out.below hB
        have hBW := HB.out.below hB
        have hROo : Row wr ao O co := (show Own wr w.heap.size (.slice ao O.length co) O by rw [hOl]; exact hO).rowAt
        have HRO := Lib.hid hROo
        have hco1 := hROo.room
        have hco2 := hROo.most
        rw [hOl] at hco1
        clear hO hP hne hnul hthr hB hROo
        by_cases htl : t < i
        · obtain ⟨b1, o1, rfl, hcx⟩ := hAW.el t (by rw [HN.out]; exact htl)
          obtain ⟨b2, o2, rfl, hcy⟩ := hBW.el t (by rw [HLY.out]; exact htl)
          obtain ⟨x, hx⟩ : ∃ x, PM.el xs t = x := ⟨_, rfl⟩
          obtain ⟨y, hy⟩ : ∃ y, PM.el ys t = y := ⟨_, rfl⟩
          rw [hx] at hcx
          rw [hy] at hcy
          have HX := Lib.hid hx
          have HY := Lib.hid hy
          obtain ⟨s, hs⟩ : ∃ s, PM.ev P x = s := ⟨_, rfl⟩
          have HEO := Lib.hid (fun m => Calls.quiet_of (w := wr) (n := m) (reval_any ao co O x (wr.drewN m) (HRO.out.drewN m)))
          have HEP := Lib.hid (fun m => Calls.quiet_of (w := wr) (n := m) (reval_any aP cP P x (wr.drewN m) (HP.out.drewN m)))
          have hs0 : s ≠ 0 := fun e => by
            obtain ⟨u, hu, he⟩ := (HNU.out.zero x).1 (hs.trans e)
            exact HDD.out u t hu (by rw [HN.out]; exact htl) (he.trans hx.symm)
          have HS := Lib.hid hs
          have HS0 := Lib.hid hs0
          rw [hOl] at HEO
          rw [hs] at HEP
          have hPL := Lib.hid hPl
          have hb1 := HA.out.lt (by rw [HN.out]; omega)
          have hPpos : 0 < P.length := by omega
          have hbP := fun (b o : Nat) (e : aP = some ⟨b, o, none⟩) => (by subst e; exact HP.out.lt hPpos : b < wr.heap.size)
          have HBP := Lib.hid hbP
          have hco1' := hco1
          clear hx hy hs hs0 hOl hPl hAW hBW hbP
          go_wp2_with fail
          go_quiet (first
            | (go_at_call 35; first | (with_reducible exact HEO.out _) | (with_reducible exact HEP.out _))
            | (go_at_call 43; rw [xor_G]; exact Calls.quiet_of_same ((rdvd_any _ _ _).mono fun _ _ h => ⟨h.1, h.2.symm⟩)))
          obtain ⟨f, hf⟩ : ∃ f, dvG (y + PM.ev O x) s = f := ⟨_, rfl⟩
          have hfm : f * s = PM.ev O x + y := by rw [← hf, PM.G.add_comm y]; exact div_mul _ _ HS0.out
          rw [hf]
          have HF := Lib.hid hfm
          obtain ⟨w5, hw5⟩ : ∃ w5, wr.drewN nq = w5 := ⟨_, rfl⟩
          have hsz5 : wr.heap.size = w5.heap.size := by rw [← hw5]; rfl
          have hst4 : RT4 w t O P aP cP (.slice ao t co) w5 := by
            rw [← hw5]
            exact ⟨t, O, ao, co, rfl, Nat.le_refl _, Nat.le_succ _, HO.out.drewN nq, HOL.out, fun _ => rfl, HP.out.drewN nq, HNE.out, belowN HBW.out nq⟩
          have HBP5 := Lib.hid (fun (b o : Nat) (e : aP = some ⟨b, o, none⟩) => (by rw [← hsz5]; exact HBP.out b o e : b < w5.heap.size))
          rw [hw5]
          have HST := Lib.hid hst4
          clear hf hfm hst4 HEO HEP hcx hcy HBP HRO HO HP HNE HBW hw5 hsz5
          go_wp2_with fail
          go_loopw [8] (fun ov wr => RT4 w t O P aP cP ov wr) (fun ov _ => t + 1 - lenV ov)
          case atStart => exact HST.out
          case round =>
            clear HST
            obtain ⟨k, O', ao', co', rfl, hk1, hk2, hO, hOl, hOe, hP, hne, hB⟩ := hrel
            have HO := Lib.hid hO
            have HOL2 := Lib.hid hOl
            have HOE := Lib.hid hOe
            have HP := Lib.hid hP
            have HNE := Lib.hid hne
            have HBW := Lib.hid hB
            have hsz := hB.size
            have hro := hO.rowAt' hOl
            have hro1 := hro.1
            have hro2 := hro.2
            have hPl := Lib.hid HNU.out.len
            clear hO hOl hOe hP hne hB hro
            by_cases hkt : k < t + 1
            · obtain rfl : k = t := by omega
              have hlt : (k : Int) < (P.length : Int) := by have := hPl.out; omega
              have hbP := fun (b o : Nat) (e : aP = some ⟨b, o, none⟩) => (by subst e; exact HP.out.lt (by have := hPl.out; omega) : b < wr.heap.size)
              go_wp2_with (at_builtin; refine wpList_app1F rfl _ _ rfl (0 : PM.G) rfl (show Own _ w.heap.size (.slice ao' k co') O' from HO.out.alloc _) rfl (cell_new _ _ _) rfl (by rw [HOL2.out]; omega) (by simp; omega) ?_; intro a3 cap3 w3 hown3 hg3 hb3 hw3)
              go_roundw
              case rel =>
                refine ⟨k + 1, O' ++ [0], a3, cap3, by rw [HOL2.out], Nat.le_succ _, Nat.le_refl _, ?_, by rw [List.length_append, HOL2.out]; rfl, fun j => ?_, ?_, fun b o b' o' e1 e2 => ?_, HBW.out.trans (((Below.refl w.heap.size wr).alloc hsz _).trans hb3)⟩
                · have := hown3
                  rw [List.length_append, HOL2.out] at this
                  exact this
                · rw [PM.el_append, HOL2.out]
                  by_cases e : j < k
                  · rw [if_pos e]; exact HOE.out j
                  · rw [if_neg e, ← HOE.out, PM.el_ge (p := O') (by rw [HOL2.out]; omega)]
                    cases j - k <;> rfl
                · exact (HP.out.alloc _).grown hg3 (fun b o e h => HNE.out b o b 0 e (HO.out.block h.symm) rfl)
                · rcases hw3 b' o' e2 with h | h
                  · exact HNE.out b o b' 0 e1 (HO.out.block h)
                  · have h3 := hbP b o e1
                    rw [World.size_alloc] at h
                    omega
              case measure => simp [lenV]; have := HOL2.out; omega
            · obtain rfl : k = t + 1 := by omega
              have hlt : ¬ (((t + 1 : Nat) : Int) < (P.length : Int)) := by have := hPl.out; omega
              obtain ⟨go, rfl, hgo, hgo2⟩ := HO.out.fresh (by rw [HOL2.out]; omega)
              have hst5 : RT5 w go (t + 1) co' O' P aP cP f (.int .i64 0) wr := ⟨0, O', rfl, Nat.zero_le _, HOL2.out, fun j => by rw [part_zero, PM.G.add_zero], HO.out, HP.out, HBW.out⟩
              have HST := Lib.hid hst5
              have HNG := Lib.hid (fun (b o : Nat) (e : aP = some ⟨b, o, none⟩) => (HNE.out b o go 0 e rfl : b ≠ go))
              clear hst5 HO HP HBW HNE
              go_wp2_with fail
              go_loopw [13] (fun iv wr => RT5 w go (t + 1) co' O' P aP cP f iv wr) (fun iv _ => P.length - (intOf iv).toNat)
              case atStart => exact HST.out
              case round =>
                clear HST
                obtain ⟨m, Z, rfl, hm, hZl, hZe, hO, hP, hB⟩ := hrel
                have HLN := Lib.hid hZl
                have HEL := Lib.hid hZe
                have HOY := Lib.hid hO
                have HRP5 := Lib.hid hP
                have HBW := Lib.hid hB
                clear hZl hZe hO hP hB
                by_cases hmt : m < P.length
                · obtain ⟨pb, po, rfl, hcp⟩ := HRP5.out.el m hmt
                  have hpg := HNG.out pb po rfl
                  obtain ⟨_, _, _, _, hcz, hfz⟩ := HOY.out.at m (by rw [HLN.out]; have := hPl.out; omega)
                  have hmt1 : m < t + 1 := by have := hPl.out; omega
                  have hmt2 : (m : Int) < (t : Int) + 1 := by omega
                  go_wp2_with fail
                  have hmx : Try.prog.follows .mixedOrders = true := by kernel_rfl
                  refine wp_region_held (S := fun W' => W'.cell? ⟨pb, po + m, none⟩ = some (.int .u8 ((PM.el P m).v : Int))) hmx ?_
                  have hHeld := (show (fun W' : World => W'.cell? ⟨pb, po + m, none⟩ = some (.int .u8 ((PM.el P m).v : Int))) wr.drew from hcp)
                  refine wpAnyH_at 0 (some 88) (v := ?_) rfl rfl (by kernel_rfl) (by kernel_rfl) (by kernel_rfl) (fun _ _ _ h => h) (Or.inl ⟨by rfl, ?_⟩) hHeld ?_
                  rotate_left
                  · (intro W2 hSw; have j2 := hSw; go_simp; try with_reducible rfl)
                  simp only [Act.put, List.setIfInBounds_toArray, List.set_cons_zero, List.set_cons_succ]
                  refine wpAnyH_at 1 (some 89) (v := ?_) rfl rfl (by kernel_rfl) (by kernel_rfl) (by kernel_rfl) (fun _ _ _ h => h) (Or.inl ⟨by rfl, ?_⟩) hHeld ?_
                  rotate_left
                  · (intro W2 hSw; have j2 := hSw; go_simp; try with_reducible rfl)
                  simp only [Act.put, List.setIfInBounds_toArray, List.set_cons_zero, List.set_cons_succ]
                  refine wpAnyH_at 2 (some 90) (v := ?_) rfl rfl (by kernel_rfl) (by kernel_rfl) (by kernel_rfl) (fun _ _ _ h => h) (Or.inl ⟨by rfl, ?_⟩) hHeld ?_
                  rotate_left
                  · (intro W2 hSw; have j2 := hSw; go_simp; try with_reducible rfl)
                  simp only [Act.put, List.setIfInBounds_toArray, List.set_cons_zero, List.set_cons_succ]
                  refine wpAnyH_at 4 (some 92) (v := ?_) rfl rfl (by kernel_rfl) (by kernel_rfl) (by kernel_rfl) (fun _ _ _ h => h) (Or.inl ⟨by rfl, ?_⟩) hHeld ?_
                  rotate_left
                  · (intro W2 hSw; have j2 := hSw; go_simp; try with_reducible rfl)
                  simp only [Act.put, List.setIfInBounds_toArray, List.set_cons_zero, List.set_cons_succ]
                  refine wpAnyH_at 5 (some 93) (v := ?_) rfl rfl (by kernel_rfl) (by kernel_rfl) (by kernel_rfl) (fun _ _ _ h => h) (Or.inl ⟨by rfl, ?_⟩) hHeld ?_
                  rotate_left
                  · (intro W2 hSw; have j2 := hSw; go_simp; try with_reducible rfl)
                  simp only [Act.put, List.setIfInBounds_toArray, List.set_cons_zero, List.set_cons_succ]
                  refine wpAnyH_at 6 (some 94) (v := ?_) rfl rfl (by kernel_rfl) (by kernel_rfl) (by kernel_rfl) (fun _ _ _ h => h) (Or.inl ⟨by rfl, ?_⟩) hHeld ?_
                  rotate_left
                  · (intro W2 hSw; have j2 := hSw; go_simp; try with_reducible rfl)
                  simp only [Act.put, List.setIfInBounds_toArray, List.set_cons_zero, List.set_cons_succ]
                  refine wpAnyH_at 7 (some 95) (v := ?_) rfl rfl (by kernel_rfl) (by kernel_rfl) (by kernel_rfl) (fun _ _ _ h => h) (Or.inl ⟨by rfl, ?_⟩) hHeld ?_
                  rotate_left
                  · (intro W2 hSw; have j2 := hSw; go_simp; try with_reducible rfl)
                  simp only [Act.put, List.setIfInBounds_toArray, List.set_cons_zero, List.set_cons_succ]
                  refine wpAnyH_at 8 (some 96) (v := ?_) rfl rfl (by kernel_rfl) (by kernel_rfl) (by kernel_rfl) (fun _ _ _ h => h) (Or.inl ⟨by rfl, ?_⟩) hHeld ?_
                  rotate_left
                  · (intro W2 hSw; have j2 := hSw; go_simp; try with_reducible rfl)
                  simp only [Act.put, List.setIfInBounds_toArray, List.set_cons_zero, List.set_cons_succ]
                  refine wpAnyH_ready (rs := [3, 9]) (by kernel_rfl) (by simp) ?_
                  refine AllReadyH.cons rfl (fun K hK => ?_) (AllReadyH.cons rfl (fun K hK => ?_) AllReadyH.nil)
                  · go_simp
                    refine hK.out _ _ (show (fun W' : World => W'.cell? ⟨pb, po + m, none⟩ = some (.int .u8 ((PM.el P m).v : Int))) wr.drew from hcp) (fun hHeld => ?_)
                    clear hK K
                    refine wpAnyH_ready (rs := [9]) (by kernel_rfl) (by simp) ?_
                    refine AllReadyH.cons rfl (fun K hK => ?_) AllReadyH.nil
                    go_simp
                    (with_reducible refine (rfmul_any _ _ _).mono ?_)
                    rintro e w1 ⟨rfl, rfl⟩
                    refine hK.out _ _ (show (fun W' : World => W'.cell? ⟨pb, po + m, none⟩ = some (.int .u8 ((PM.el P m).v : Int))) wr.drew from hcp) (fun hHeld => ?_)
                    clear hK K
                    refine wpAnyH_at 10 (some 98) (v := ?_) rfl rfl (by kernel_rfl) (by kernel_rfl) (by kernel_rfl) (fun _ _ _ h => h) (Or.inl ⟨by rfl, ?_⟩) hHeld ?_
                    rotate_left
                    · (intro W2 hSw; have j2 := hSw; go_simp; try with_reducible rfl)
                    simp only [Act.put, List.setIfInBounds_toArray, List.set_cons_zero, List.set_cons_succ]
                    refine wpAnyH_at 11 (some 99) (v := ?_) rfl rfl (by kernel_rfl) (by kernel_rfl) (by kernel_rfl) (fun _ _ _ h => h) (Or.inl ⟨by rfl, ?_⟩) hHeld ?_
                    rotate_left
                    · (intro W2 hSw; have j2 := hSw; go_simp; try with_reducible rfl)
                    simp only [Act.put, List.setIfInBounds_toArray, List.set_cons_zero, List.set_cons_succ]
                    refine wpAnyH_ready (rs := [12]) (by kernel_rfl) (by simp) ?_
                    refine AllReadyH.cons rfl (fun K hK => ?_) AllReadyH.nil
                    go_simp
                    refine hK.out _ _ ((cell_other _ (show pb ≠ go by omega)).trans hcp) (fun _ => wpAnyH_done (by kernel_rfl) ?_ _)
                    clear hK K
                    go_wp2_with fail
                    go_roundw
                    case rel => exact rt5_step hmt (by rw [HLN.out]; omega) hgo HLN.out HEL.out HOY.out HRP5.out (fun b' o' e => by cases e; omega) HBW.out rfl
                    case measure => simp [intOf]; omega
                  · go_simp
                    (with_reducible refine (rfmul_any _ _ _).mono ?_)
                    rintro e w1 ⟨rfl, rfl⟩
                    refine hK.out _ _ (show (fun W' : World => W'.cell? ⟨pb, po + m, none⟩ = some (.int .u8 ((PM.el P m).v : Int))) wr.drew from hcp) (fun hHeld => ?_)
                    clear hK K
                    refine wpAnyH_ready (rs := [3]) (by kernel_rfl) (by simp) ?_
                    refine AllReadyH.cons rfl (fun K hK => ?_) AllReadyH.nil
                    go_simp
                    refine hK.out _ _ (show (fun W' : World => W'.cell? ⟨pb, po + m, none⟩ = some (.int .u8 ((PM.el P m).v : Int))) wr.drew from hcp) (fun hHeld => ?_)
                    clear hK K
                    refine wpAnyH_at 10 (some 98) (v := ?_) rfl rfl (by kernel_rfl) (by kernel_rfl) (by kernel_rfl) (fun _ _ _ h => h) (Or.inl ⟨by rfl, ?_⟩) hHeld ?_
                    rotate_left
                    · (intro W2 hSw; have j2 := hSw; go_simp; try with_reducible rfl)
                    simp only [Act.put, List.setIfInBounds_toArray, List.set_cons_zero, List.set_cons_succ]
                    refine wpAnyH_at 11 (some 99) (v := ?_) rfl rfl (by kernel_rfl) (by kernel_rfl) (by kernel_rfl) (fun _ _ _ h => h) (Or.inl ⟨by rfl, ?_⟩) hHeld ?_
                    rotate_left
                    · (intro W2 hSw; have j2 := hSw; go_simp; try with_reducible rfl)
                    simp only [Act.put, List.setIfInBounds_toArray, List.set_cons_zero, List.set_cons_succ]
                    refine wpAnyH_ready (rs := [12]) (by kernel_rfl) (by simp) ?_
                    refine AllReadyH.cons rfl (fun K hK => ?_) AllReadyH.nil
                    go_simp
                    refine hK.out _ _ ((cell_other _ (show pb ≠ go by omega)).trans hcp) (fun _ => wpAnyH_done (by kernel_rfl) ?_ _)
                    clear hK K
                    go_wp2_with fail
                    go_roundw
                    case rel => exact rt5_step hmt (by rw [HLN.out]; omega) hgo HLN.out HEL.out HOY.out HRP5.out (fun b' o' e => by cases e; omega) HBW.out rfl
                    case measure => simp [intOf]; omega
                · obtain rfl : m = P.length := by omega
                  have hel : ∀ j, PM.el Z j = PM.el O j + f * PM.el P j := fun j => by rw [HEL.out, part_all, if_neg (Nat.not_lt_zero _), Nat.sub_zero, HOE.out]
                  have hthr := thr_step HTH.out HNU.out hel (by rw [HX.out, HS.out, HY.out]; exact HF.out)
                  have HTH6 := Lib.hid hthr
                  have hP5 := HRP5.out
                  have hA5 := HA.out.below HBW.out
                  have hsw := HBW.out.size
                  obtain ⟨n6, hn6⟩ : ∃ n6, P.length + 1 = n6 := ⟨_, rfl⟩
                  have hni : (P.length : Int) + 1 = (n6 : Int) := by omega
                  have hn6l : n6 ≤ 300 := by have := hPl.out; omega
                  have HN6 := Lib.hid hn6
                  obtain ⟨w7, hw7⟩ : ∃ w7, w7 = wr := ⟨_, rfl⟩
                  have HP7 := Lib.hid (show Row w7 aP P cP by rw [hw7]; exact hP5)
                  have HA7 := Lib.hid (show Row w7 (some ⟨b1, o1, none⟩) xs ca by rw [hw7]; exact hA5)
                  have HO7 := Lib.hid (show Own w7 w.heap.size (.slice (some ⟨go, 0, none⟩) (t + 1) co') Z by rw [hw7]; exact HOY.out)
                  have HB7 := Lib.hid (show Below w.heap.size w w7 by rw [hw7]; exact HBW.out)
                  have hsw7 : w.heap.size ≤ w7.heap.size := by rw [hw7]; exact hsw
                  have hgo7 : go < w7.heap.size := by rw [hw7]; exact (HOY.out.fresh (by rw [HLN.out]; omega)).elim fun g h => by have := h.1; cases this; exact h.2.2
                  have hbP7 := fun (b o : Nat) (e : aP = some ⟨b, o, none⟩) => (by subst e; exact HP7.out.lt (by have := hPl.out; omega) : b < w7.heap.size)
                  have HBP7 := Lib.hid hbP7
                  clear hel hthr hP5 hA5 HOY HRP5 HBW hsw hn6 hbP7
                  rw [← hw7]
                  clear hw7
                  go_wp2_with (at_make; refine wpList_make1 rfl _ _ rfl n6 rfl rfl rfl (by omega) (B := w7.heap.size) (Nat.le_refl _) ?_; intro w8 hown8 hb8; rw [List.length_replicate] at hown8; have HO8 := Lib.hid hown8; have HB8 := Lib.hid hb8; clear hown8 hb8)
                  obtain ⟨gN, hgN⟩ : ∃ gN, w7.heap.size = gN := ⟨_, rfl⟩
                  have hst6 : RT6 w7 gN n6 P x (.int .i64 0) w8 := by
                    rw [← hgN]
                    exact ⟨0, _, rfl, Nat.zero_le _, by rw [List.length_replicate]; exact HN6.out.symm, fun j => by rw [PM.el_replicate, nx_zero], HO8.out, HB8.out⟩
                  have HST := Lib.hid hst6
                  rw [hgN]
                  clear hst6 HO8 HB8
                  go_loopw [15] (fun iv wr => RT6 w7 gN n6 P x iv wr) (fun iv _ => P.length - (intOf iv).toNat)
                  case atStart => exact HST.out
                  case round =>
                    clear HST
                    obtain ⟨m, Y, rfl, hm, hYl, hYe, hO, hB⟩ := hrel
                    have HLY2 := Lib.hid (And.intro hYl (hYl.trans HN6.out))
                    have HEL := Lib.hid hYe
                    have HOY := Lib.hid hO
                    have HBW := Lib.hid hB
                    have hB7 : Below w7.heap.size w7 wr := by rw [hgN]; exact hB
                    have hP8 := HP7.out.below hB7
                    have hA8 := HA7.out.below hB7
                    clear hYl hYe hO hB
                    by_cases hmt : m < P.length
                    · obtain ⟨pb, po, rfl, hcp⟩ := hP8.el m hmt
                      have hcx8 := hA8.cell t (by rw [HN.out]; exact htl)
                      rw [HX.out] at hcx8
                      have hpb := HBP7.out pb po rfl
                      obtain ⟨d, hd⟩ : ∃ d, m + 1 = d := ⟨_, rfl⟩
                      have hdi : (m : Int) + 1 = (d : Int) := by omega
                      have hdn : d < n6 := by have := HN6.out; omega
                      have hwd : IntKind.i64.wrap (d : Int) = (d : Int) := by rw [IntKind.wrap_i64]; omega
                      obtain ⟨_, _, _, _, hcz, hfz⟩ := HOY.out.at d (by rw [HLY2.out.2]; exact hdn)
                      have hmn : m < n6 := by omega
                      clear hP8 hA8 hB7
                      have HDD2 := Lib.hid hd
                      clear hd
                      go_wp2_with fail
                      go_region
                      obtain ⟨w6, hw6⟩ : ∃ w6, (wr.setCell ⟨gN, d, none⟩ (.int .u8 (bits BinOp.xor IntKind.u8 ((PM.el Y d).v : Int) ((PM.el P m).v : Int)))).drew = w6 := ⟨_, rfl⟩
                      rw [hw6]
                      obtain ⟨Y', hY1, hY2, hY3, hY4⟩ := rt6_mid hmt HLY2.out HEL.out HOY.out HBW.out (w6 := w6) (by rw [← hw6, ← HDD2.out]; rfl)
                      have hB76 : Below w7.heap.size w7 w6 := by rw [hgN]; exact hY4
                      have hcp6 := (HP7.out.below hB76).cell m hmt
                      have hcx6 := (HA7.out.below hB76).cell t (by rw [HN.out]; exact htl)
                      rw [HX.out] at hcx6
                      obtain ⟨_, _, _, _, hcz6, hfz6⟩ := hY3.at m (by rw [hY1.2]; exact hmn)
                      have HLN6 := Lib.hid hY1
                      have HEL6 := Lib.hid hY2
                      have HO6 := Lib.hid hY3
                      have HB6 := Lib.hid hY4
                      clear hY1 hY2 hY3 hY4 hB76 hw6 hcz hfz hcp hcx8 hdi hwd hdn
                      go_wp2_with fail
                      have hmx : Try.prog.follows .mixedOrders = true := by kernel_rfl
                      refine wp_region_held (S := fun W' => W'.cell? ⟨pb, po + m, none⟩ = some (.int .u8 ((PM.el P m).v : Int)) ∧ W'.cell? ⟨b1, o1 + t, none⟩ = some (.int .u8 (x.v : Int))) hmx ?_
                      have hHeld := (show (fun W' : World => W'.cell? ⟨pb, po + m, none⟩ = some (.int .u8 ((PM.el P m).v : Int)) ∧ W'.cell? ⟨b1, o1 + t, none⟩ = some (.int .u8 (x.v : Int))) w6.drew from ⟨hcp6, hcx6⟩)
                      refine wpAnyH_at 0 (some 121) (v := ?_) rfl rfl (by kernel_rfl) (by kernel_rfl) (by kernel_rfl) (fun _ _ _ h => h) (Or.inl ⟨by rfl, ?_⟩) hHeld ?_
                      rotate_left
                      · (intro W2 hSw; obtain ⟨j2, j3⟩ := hSw; go_simp; try with_reducible rfl)
                      simp only [Act.put, List.setIfInBounds_toArray, List.set_cons_zero, List.set_cons_succ]
                      refine wpAnyH_at 1 (some 122) (v := ?_) rfl rfl (by kernel_rfl) (by kernel_rfl) (by kernel_rfl) (fun _ _ _ h => h) (Or.inl ⟨by rfl, ?_⟩) hHeld ?_
                      rotate_left
                      · (intro W2 hSw; obtain ⟨j2, j3⟩ := hSw; go_simp; try with_reducible rfl)
                      simp only [Act.put, List.setIfInBounds_toArray, List.set_cons_zero, List.set_cons_succ]
                      refine wpAnyH_at 2 (some 123) (v := ?_) rfl rfl (by kernel_rfl) (by kernel_rfl) (by kernel_rfl) (fun _ _ _ h => h) (Or.inl ⟨by rfl, ?_⟩) hHeld ?_
                      rotate_left
                      · (intro W2 hSw; obtain ⟨j2, j3⟩ := hSw; go_simp; try with_reducible rfl)
                      simp only [Act.put, List.setIfInBounds_toArray, List.set_cons_zero, List.set_cons_succ]
                      refine wpAnyH_at 4 (some 125) (v := ?_) rfl rfl (by kernel_rfl) (by kernel_rfl) (by kernel_rfl) (fun _ _ _ h => h) (Or.inl ⟨by rfl, ?_⟩) hHeld ?_
                      rotate_left
                      · (intro W2 hSw; obtain ⟨j2, j3⟩ := hSw; go_simp; try with_reducible rfl)
                      simp only [Act.put, List.setIfInBounds_toArray, List.set_cons_zero, List.set_cons_succ]
                      refine wpAnyH_at 5 (some 126) (v := ?_) rfl rfl (by kernel_rfl) (by kernel_rfl) (by kernel_rfl) (fun _ _ _ h => h) (Or.inl ⟨by rfl, ?_⟩) hHeld ?_
                      rotate_left
                      · (intro W2 hSw; obtain ⟨j2, j3⟩ := hSw; go_simp; try with_reducible rfl)
                      simp only [Act.put, List.setIfInBounds_toArray, List.set_cons_zero, List.set_cons_succ]
                      refine wpAnyH_at 6 (some 127) (v := ?_) rfl rfl (by kernel_rfl) (by kernel_rfl) (by kernel_rfl) (fun _ _ _ h => h) (Or.inl ⟨by rfl, ?_⟩) hHeld ?_
                      rotate_left
                      · (intro W2 hSw; obtain ⟨j2, j3⟩ := hSw; go_simp; try with_reducible rfl)
                      simp only [Act.put, List.setIfInBounds_toArray, List.set_cons_zero, List.set_cons_succ]
                      refine wpAnyH_at 7 (some 128) (v := ?_) rfl rfl (by kernel_rfl) (by kernel_rfl) (by kernel_rfl) (fun _ _ _ h => h) (Or.inl ⟨by rfl, ?_⟩) hHeld ?_
                      rotate_left
                      · (intro W2 hSw; obtain ⟨j2, j3⟩ := hSw; go_simp; try with_reducible rfl)
                      simp only [Act.put, List.setIfInBounds_toArray, List.set_cons_zero, List.set_cons_succ]
                      refine wpAnyH_at 8 (some 129) (v := ?_) rfl rfl (by kernel_rfl) (by kernel_rfl) (by kernel_rfl) (fun _ _ _ h => h) (Or.inl ⟨by rfl, ?_⟩) hHeld ?_
                      rotate_left
                      · (intro W2 hSw; obtain ⟨j2, j3⟩ := hSw; go_simp; try with_reducible rfl)
                      simp only [Act.put, List.setIfInBounds_toArray, List.set_cons_zero, List.set_cons_succ]
                      refine wpAnyH_at 9 (some 130) (v := ?_) rfl rfl (by kernel_rfl) (by kernel_rfl) (by kernel_rfl) (fun _ _ _ h => h) (Or.inl ⟨by rfl, ?_⟩) hHeld ?_
                      rotate_left
                      · (intro W2 hSw; obtain ⟨j2, j3⟩ := hSw; go_simp; try with_reducible rfl)
                      simp only [Act.put, List.setIfInBounds_toArray, List.set_cons_zero, List.set_cons_succ]
                      refine wpAnyH_at 10 (some 131) (v := ?_) rfl rfl (by kernel_rfl) (by kernel_rfl) (by kernel_rfl) (fun _ _ _ h => h) (Or.inl ⟨by rfl, ?_⟩) hHeld ?_
                      rotate_left
                      · (intro W2 hSw; obtain ⟨j2, j3⟩ := hSw; go_simp; try with_reducible rfl)
                      simp only [Act.put, List.setIfInBounds_toArray, List.set_cons_zero, List.set_cons_succ]
                      refine wpAnyH_at 11 (some 132) (v := ?_) rfl rfl (by kernel_rfl) (by kernel_rfl) (by kernel_rfl) (fun _ _ _ h => h) (Or.inl ⟨by rfl, ?_⟩) hHeld ?_
                      rotate_left
                      · (intro W2 hSw; obtain ⟨j2, j3⟩ := hSw; go_simp; try with_reducible rfl)
                      simp only [Act.put, List.setIfInBounds_toArray, List.set_cons_zero, List.set_cons_succ]
                      refine wpAnyH_ready (rs := [3, 12]) (by kernel_rfl) (by simp) ?_
                      refine AllReadyH.cons rfl (fun K hK => ?_) (AllReadyH.cons rfl (fun K hK => ?_) AllReadyH.nil)
                      · go_simp
                        refine hK.out _ _ (show (fun W' : World => W'.cell? ⟨pb, po + m, none⟩ = some (.int .u8 ((PM.el P m).v : Int)) ∧ W'.cell? ⟨b1, o1 + t, none⟩ = some (.int .u8 (x.v : Int))) w6.drew from ⟨hcp6, hcx6⟩) (fun hHeld => ?_)
                        clear hK K
                        refine wpAnyH_ready (rs := [12]) (by kernel_rfl) (by simp) ?_
                        refine AllReadyH.cons rfl (fun K hK => ?_) AllReadyH.nil
                        go_simp
                        (with_reducible refine (rfmul_any _ _ _).mono ?_)
                        rintro e w1 ⟨rfl, rfl⟩
                        refine hK.out _ _ (show (fun W' : World => W'.cell? ⟨pb, po + m, none⟩ = some (.int .u8 ((PM.el P m).v : Int)) ∧ W'.cell? ⟨b1, o1 + t, none⟩ = some (.int .u8 (x.v : Int))) w6.drew from ⟨hcp6, hcx6⟩) (fun hHeld => ?_)
                        clear hK K
                        refine wpAnyH_at 13 (some 134) (v := ?_) rfl rfl (by kernel_rfl) (by kernel_rfl) (by kernel_rfl) (fun _ _ _ h => h) (Or.inl ⟨by rfl, ?_⟩) hHeld ?_
                        rotate_left
                        · (intro W2 hSw; obtain ⟨j2, j3⟩ := hSw; go_simp; try with_reducible rfl)
                        simp only [Act.put, List.setIfInBounds_toArray, List.set_cons_zero, List.set_cons_succ]
                        refine wpAnyH_at 14 (some 135) (v := ?_) rfl rfl (by kernel_rfl) (by kernel_rfl) (by kernel_rfl) (fun _ _ _ h => h) (Or.inl ⟨by rfl, ?_⟩) hHeld ?_
                        rotate_left
                        · (intro W2 hSw; obtain ⟨j2, j3⟩ := hSw; go_simp; try with_reducible rfl)
                        simp only [Act.put, List.setIfInBounds_toArray, List.set_cons_zero, List.set_cons_succ]
                        refine wpAnyH_ready (rs := [15]) (by kernel_rfl) (by simp) ?_
                        refine AllReadyH.cons rfl (fun K hK => ?_) AllReadyH.nil
                        go_simp
                        refine hK.out _ _ ⟨(cell_other _ (show pb ≠ gN by omega)).trans hcp6, (cell_other _ (show b1 ≠ gN by omega)).trans hcx6⟩ (fun _ => wpAnyH_done (by kernel_rfl) ?_ _)
                        clear hK K
                        go_wp2_with fail
                        go_roundw
                        case rel => exact rt6_step hmt HLN6.out HEL6.out HO6.out HB6.out rfl
                        case measure => simp [intOf]; omega
                      · go_simp
                        (with_reducible refine (rfmul_any _ _ _).mono ?_)
                        rintro e w1 ⟨rfl, rfl⟩
                        refine hK.out _ _ (show (fun W' : World => W'.cell? ⟨pb, po + m, none⟩ = some (.int .u8 ((PM.el P m).v : Int)) ∧ W'.cell? ⟨b1, o1 + t, none⟩ = some (.int .u8 (x.v : Int))) w6.drew from ⟨hcp6, hcx6⟩) (fun hHeld => ?_)
                        clear hK K
                        refine wpAnyH_ready (rs := [3]) (by kernel_rfl) (by simp) ?_
                        refine AllReadyH.cons rfl (fun K hK => ?_) AllReadyH.nil
                        go_simp
                        refine hK.out _ _ (show (fun W' : World => W'.cell? ⟨pb, po + m, none⟩ = some (.int .u8 ((PM.el P m).v : Int)) ∧ W'.cell? ⟨b1, o1 + t, none⟩ = some (.int .u8 (x.v : Int))) w6.drew from ⟨hcp6, hcx6⟩) (fun hHeld => ?_)
                        clear hK K
                        refine wpAnyH_at 13 (some 134) (v := ?_) rfl rfl (by kernel_rfl) (by kernel_rfl) (by kernel_rfl) (fun _ _ _ h => h) (Or.inl ⟨by rfl, ?_⟩) hHeld ?_
                        rotate_left
                        · (intro W2 hSw; obtain ⟨j2, j3⟩ := hSw; go_simp; try with_reducible rfl)
                        simp only [Act.put, List.setIfInBounds_toArray, List.set_cons_zero, List.set_cons_succ]
                        refine wpAnyH_at 14 (some 135) (v := ?_) rfl rfl (by kernel_rfl) (by kernel_rfl) (by kernel_rfl) (fun _ _ _ h => h) (Or.inl ⟨by rfl, ?_⟩) hHeld ?_
                        rotate_left
                        · (intro W2 hSw; obtain ⟨j2, j3⟩ := hSw; go_simp; try with_reducible rfl)
                        simp only [Act.put, List.setIfInBounds_toArray, List.set_cons_zero, List.set_cons_succ]
                        refine wpAnyH_ready (rs := [15]) (by kernel_rfl) (by simp) ?_
                        refine AllReadyH.cons rfl (fun K hK => ?_) AllReadyH.nil
                        go_simp
                        refine hK.out _ _ ⟨(cell_other _ (show pb ≠ gN by omega)).trans hcp6, (cell_other _ (show b1 ≠ gN by omega)).trans hcx6⟩ (fun _ => wpAnyH_done (by kernel_rfl) ?_ _)
                        clear hK K
                        go_wp2_with fail
                        go_roundw
                        case rel => exact rt6_step hmt HLN6.out HEL6.out HO6.out HB6.out rfl
                        case measure => simp [intOf]; omega
                    · obtain rfl : m = P.length := by omega
                      have hnul := nul_step (N := P) (N' := Y) HNU.out (by rw [HLY2.out.1]) (by rw [HX.out]; intro j; rw [HEL.out, nx_all])
                      have hst : RT3 w i xs ys (.slice (some ⟨go, 0, none⟩) (t + 1) co') (.slice (some ⟨gN, 0, none⟩) n6 n6) (.int .i64 ((t : Int) + 1)) wr :=
                        ⟨t + 1, Z, Y, some ⟨go, 0, none⟩, some ⟨gN, 0, none⟩, co', n6, by go_num, htl, rfl, by rw [HLY2.out.2], HO7.out.below hB7, HLN.out, (show Own wr gN (.slice (some ⟨gN, 0, none⟩) Y.length n6) Y by rw [HLY2.out.2]; exact HOY.out).rowAt, fun b o b' o' e1 e2 => by cases e1; cases e2; omega, hnul, HTH6.out, HB7.out.trans (hB7.mono hsw7)⟩
                      have HST := Lib.hid hst
                      clear hst hnul hP8 hA8 hB7
                      go_wp2_with fail
                      go_roundw
                      case rel => exact HST.out
                      case measure => simp [intOf]; omega
        · have HTN := Lib.hid (show t = i by omega)
          have hT := Lib.hid (rtrim_res (w := wr) (PM.el O) HRO.out hOl (by omega) (fun _ => rfl))
          clear hAW hBW hPl
          go_wp2_with fail
          (with_reducible refine hT.out.mono ?_)
          rintro e w6 ⟨⟨r, a6, c6, rfl, hr, hpol, hco⟩, hb6⟩
          have hlr : r.length ≤ xs.length := by rw [HN.out]; exact PM.can_len hpol.can (fun k hk => by rw [hco]; exact PM.el_ge (by rw [HOL.out, HTN.out]; exact hk))
          have hthr : Thr xs ys r xs.length := by
            rw [HN.out, ← HTN.out]
            exact ⟨fun t' ht' => by rw [PM.ev_can hco]; exact HTH.out.at' t' ht', fun j hj => by rw [hco]; exact HTH.out.van j hj⟩
          have HFIN := Lib.hid (And.intro hr (And.intro hpol.can (And.intro hlr hthr)))
          have HB6 := Lib.hid (HBW.out.trans (hb6.mono HBW.out.size))
          clear hr hpol hco hb6 hlr hthr
          go_wp2_with fail
          exact bodyPost_ret (v := .tuple #[.slice a6 r.length c6, .int .i64 0]) (by simp [results, Try.results17, go_sem]) rfl ⟨.inr ⟨HDD.out, r, a6, c6, rfl, HFIN.out.1, HFIN.out.2.1, HFIN.out.2.2.1, HFIN.out.2.2.2⟩, HB6.out⟩
end Go.Proofs.Ytfbogjibofeckaa.P
