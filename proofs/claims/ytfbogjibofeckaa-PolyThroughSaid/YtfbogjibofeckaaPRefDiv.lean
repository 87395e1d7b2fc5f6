/- ref04.Divide. -/
import Derived.Test.YtfbogjibofeckaaPRefMul
import Derived.Test.YtfbogjibofeckaaPGcd
namespace Go.Proofs.Ytfbogjibofeckaa.P
open Go Go.RowKit Go.Shelf

def RDOut (w : World) (g gr n m cr : Nat) (p q : List PM.G) (iv : Value) (W : World) : Prop :=
  ∃ (k : Nat) (A R : List PM.G), iv = .int .i64 ((k : Int) - 1) ∧ k ≤ n ∧ Own W w.heap.size (.slice (some ⟨g, 0, none⟩) n n) A ∧ A.length = n ∧ Own W w.heap.size (.slice (some ⟨gr, 0, none⟩) m cr) R ∧ R.length = m ∧ (∀ j, j < k → PM.el A j = 0) ∧
    (∀ j, k + (q.length - 1) ≤ j → PM.el R j = 0) ∧ (∀ j, PM.el p j = PM.conv (PM.el A) (PM.el q) j + PM.el R j) ∧ Below w.heap.size w W
def RDIn (w : World) (g gr n m cr : Nat) (q A R : List PM.G) (f : PM.G) (k : Nat) (iv : Value) (W : World) : Prop :=
  ∃ (t : Nat) (ys : List PM.G), iv = .int .i64 (t : Int) ∧ t ≤ q.length ∧ ys.length = m ∧ (∀ j, PM.el ys j = PM.el R j + part f q k t j) ∧ Own W w.heap.size (.slice (some ⟨gr, 0, none⟩) m cr) ys ∧ Own W w.heap.size (.slice (some ⟨g, 0, none⟩) n n) A ∧ Below w.heap.size w W
theorem rdiv_step {w wr W' : World} {g gr n mm cr k m d : Nat} {q A R ys : List PM.G} {f : PM.G} (hd : k + m = d) (hm : m < q.length) (hfit : k + q.length ≤ mm) (hgg : g ≠ gr) (hl : ys.length = mm) (he : ∀ j, PM.el ys j = PM.el R j + part f q k m j)
    (ho : Own wr w.heap.size (.slice (some ⟨gr, 0, none⟩) mm cr) ys) (hA : Own wr w.heap.size (.slice (some ⟨g, 0, none⟩) n n) A) (hB : Below w.heap.size w wr) (hgr : w.heap.size ≤ gr)
    (hW : W' = (wr.drewN 1).setCell ⟨gr, d, none⟩ (.int .u8 (bits BinOp.xor IntKind.u8 ((PM.el ys d).v : Int) ((f * PM.el q m).v : Int)))) :
    RDIn w g gr n mm cr q A R f k (.int .i64 ((m : Int) + 1)) W' := by
  subst hW hd
  rw [xor_G]
  refine ⟨m + 1, ys.set (k + m) (PM.el ys (k + m) + f * PM.el q m), by go_num, hm, by rw [List.length_set]; exact hl, fun j => ?_, ?_, (hA.drewN 1).other _ (by simp [Value.ownBlock]; omega), (belowN hB 1).setCell (p := ⟨gr, k + m, none⟩) hgr _⟩
  · rw [PM.el_set (by omega), part_step]
    by_cases e : j = k + m
    · subst e; rw [if_pos rfl, if_pos rfl, he, part_at, PM.G.add_zero]
    · rw [if_neg e, if_neg e, he]
  · subst hl
    exact (ho.drewN 1).set (k + m) (PM.el ys (k + m) + f * PM.el q m)

set_option maxRecDepth 100000 in
set_option maxHeartbeats 1000000 in
theorem rdiv_long (a b : Option Addr) (ca cb : Nat) (p q : List PM.G) (w : World) (ha : Row w a p ca) (hb : Row w b q cb) (hp : Pol p) (hq : Pol q) (hq0 : 0 < q.length) (hl : q.length ≤ p.length) :
    Calls Try.prog 29 #[.slice a p.length ca, .slice b q.length cb] w fun e W => DRes p q e W ∧ Below w.heap.size w W := by
  have hra := ha.room
  have hma := ha.most
  have hrb := hb.room
  have hmb := hb.most
  have hlp := hp.len
  have hlq := hq.len
  have HA := Lib.hid ha
  have HB := Lib.hid hb
  have HP := Lib.hid hp
  have HQ := Lib.hid hq
  clear ha hb hp hq
  have hz : ((q.length : Int) == 0) = false := beq_false_of_ne (by omega)
  obtain ⟨nq, hnq⟩ : ∃ nq, q.length - 1 = nq := ⟨_, rfl⟩
  have hci : (q.length : Int) - 1 = (nq : Int) := by omega
  have hcl : nq < q.length := by omega
  have hwc : IntKind.i64.wrap (nq : Int) = (nq : Int) := by rw [IntKind.wrap_i64]; omega
  obtain ⟨b2, o2, rfl, hct⟩ := HB.out.el nq hcl
  obtain ⟨n, hn⟩ : ∃ n, p.length + 1 - q.length = n := ⟨_, rfl⟩
  have HI := Lib.hid (rinverse_any (PM.el q nq).v (PM.el q nq).lt)
  have HNQ := Lib.hid hnq
  clear hnq
  go_enter Try.func29, Try.ntmps29
  go_wp2_with fail
  (with_reducible refine (rvalid_yes a p ca w HA.out HP.out).mono ?_)
  rintro e w1 ⟨rfl, rfl⟩
  go_wp2_with fail
  (with_reducible refine (rvalid_yes _ q cb w HB.out HQ.out).mono ?_)
  rintro e w1 ⟨rfl, rfl⟩
  go_upto_region 6 with (at_builtin; refine wpList_appAny rfl _ _ rfl (B := w.heap.size) (zs := []) (ys := p) rfl (Own.nil _ _) rfl HA.out (by show 0 + _ < 1000000; omega) (Nat.le_refl _) ?_; intro a' cr w2 hown' hb'; have HO := Lib.hid hown'; have HB2 := Lib.hid hb'; clear hown' hb')
  have ho := HO.out
  rw [List.nil_append] at ho
  obtain ⟨gr, rfl, hgr1, hgr2⟩ := ho.fresh (by omega)
  have HOR := Lib.hid ho
  have hct2 := cell_below HB2.out hct
  clear HO ho
  go_upto_region 9 with (at_make; refine wpList_make1 rfl _ _ rfl n rfl rfl (by omega) (by omega) (B := w2.heap.size) (Nat.le_refl _) ?_; intro w3 hown3 hb3; rw [List.length_replicate] at hown3; have HOA := Lib.hid hown3; have HB3 := Lib.hid hb3; clear hown3 hb3)
  have hct3 := cell_below HB3.out hct2
  have hs2 := HB2.out.size
  have hOR3 := Lib.hid (HOR.out.below HB3.out)
  have hB03 := Lib.hid (HB2.out.trans (HB3.out.mono hs2))
  go_wp2_with fail
  (with_reducible refine (HI.out _).mono ?_)
  rintro e w4 ⟨rfl, rfl⟩
  obtain ⟨g, hg⟩ : ∃ g, w2.heap.size = g := ⟨_, rfl⟩
  obtain ⟨iv, hiv⟩ : ∃ iv : PM.G, iv = (PM.el q nq).inv := ⟨_, rfl⟩
  have hivv : (FM.invV (PM.el q nq).v : Int) = (iv.v : Int) := by rw [hiv]; rfl
  rw [hg] at HOA hgr2 ⊢
  rw [hivv]
  have hst : RDOut w g gr n p.length cr p q (.int .i64 ((n : Int) - 1)) w3 :=
    ⟨n, _, p, rfl, Nat.le_refl _, HOA.out.mono (by omega), List.length_replicate, hOR3.out, rfl, fun j _ => PM.el_replicate n j, fun j hj => PM.el_ge (by omega), fun j => by
      rw [show PM.el (List.replicate n (0 : PM.G)) = PM.zeroC from funext (PM.el_replicate n), PM.conv_zeroC_l, PM.G.zero_add], hB03.out⟩
  have HST := Lib.hid hst
  have HIV := Lib.hid hiv
  have hst0 : (p.length : Int) - (q.length : Int) = (n : Int) - 1 := by omega
  have hgg : g ≠ gr := by omega
  clear hst hiv hivv HI HOR hct hct2 hct3 hOR3 HOA hB03
  clear HB2 HB3
  go_wp2_with fail
  go_loopw [11] (fun i wr => RDOut w g gr n p.length cr p q i wr) (fun i _ => (intOf i + 1).toNat)
  case atStart => exact HST.out
  case round =>
    clear HST hst0
    obtain ⟨k, A, R, rfl, hk, hOA, hlA, hOR, hlR, hzA, hzR, heq, hB⟩ := hrel
    have HOA := Lib.hid hOA
    have HLA := Lib.hid hlA
    have HOR := Lib.hid hOR
    have HLR := Lib.hid hlR
    have HZA := Lib.hid hzA
    have HZR := Lib.hid hzR
    have HEQ := Lib.hid heq
    have HBB := Lib.hid hB
    clear hOA hlA hOR hlR hzA hzR heq hB
    cases k with
    | zero =>
      have e1 : ((0 : Nat) : Int) - 1 = -1 := by omega
      rw [e1]
      have hTA := Lib.hid (rtrim_any (some ⟨g, 0, none⟩) A n wr (show Row wr _ A n from (show Own wr w.heap.size (.slice (some ⟨g, 0, none⟩) A.length n) A by rw [HLA.out]; exact HOA.out).rowAt) (by rw [HLA.out]; omega))
      rw [HLA.out] at hTA
      go_wp2_with fail
      (with_reducible refine hTA.out.mono ?_)
      rintro e w5 ⟨⟨a5, c5, rfl, ho5⟩, hb5⟩
      have hTR := Lib.hid (rtrim_any (some ⟨gr, 0, none⟩) R cr w5 ((show Row wr _ R cr from (show Own wr w.heap.size (.slice (some ⟨gr, 0, none⟩) R.length cr) R by rw [HLR.out]; exact HOR.out).rowAt).below hb5) (by rw [HLR.out]; omega))
      rw [HLR.out] at hTR
      have HO5 := Lib.hid ho5
      have HB5 := Lib.hid (HBB.out.trans (hb5.mono HBB.out.size))
      clear ho5 hb5
      go_wp2_with fail
      (with_reducible refine hTR.out.mono ?_)
      rintro e w6 ⟨⟨a6, c6, rfl, ho6⟩, hb6⟩
      have hpolR : Pol (PM.trimL R) := ⟨PM.can_trimL R, by have := PM.trimL_len R; have := HLR.out; omega⟩
      have hde := div_eq HP.out hq0 hl hpolR (fun k => PM.el_trimL R k) HZR.out HEQ.out (by rw [HLA.out, hn])
      have hTA2 : PM.trimL A = A := PM.trimL_can hde.canq
      have HDE := Lib.hid hde
      have hr5 := (HO5.out.rowAt).below hb6
      rw [hTA2] at hr5 ⊢
      have HR5 := Lib.hid hr5
      have HR6 := Lib.hid ho6.rowAt
      have HB6 := Lib.hid (HB5.out.trans (hb6.mono HB5.out.size))
      clear hr5 ho6 hb6 hde hTA2 hTA hTR HO5
      go_wp2_with fail
      exact bodyPost_ret (v := .tuple #[.slice a5 A.length c5, .slice a6 (PM.trimL R).length c6, .int .i64 0]) (by simp [results, Try.results29, go_sem]) rfl ⟨⟨A, PM.trimL R, a5, c5, a6, c6, rfl, HR5.out, HR6.out, HDE.out⟩, HB6.out⟩
    | succ k =>
      have e1 : ((k + 1 : Nat) : Int) - 1 = (k : Int) := by omega
      rw [e1]
      obtain ⟨d0, hd0⟩ : ∃ d0, k + nq = d0 := ⟨_, rfl⟩
      have hqq : (q.length : Int) = (nq : Int) + 1 := by omega
      have hidx0 : (k : Int) + (q.length : Int) - 1 = (d0 : Int) := by omega
      have hd0l : d0 < p.length := by have := HNQ.out; omega
      have hwd0 : IntKind.i64.wrap (d0 : Int) = (d0 : Int) := by rw [IntKind.wrap_i64]; omega
      clear hqq
      obtain ⟨_, _, hcrm, hcrl, hr1, _⟩ := HOR.out.at d0 (by rw [HLR.out]; exact hd0l)
      obtain ⟨_, _, _, _, ha1, ha2⟩ := HOA.out.at k (by rw [HLA.out]; omega)
      have hkn : k < n := by omega
      have hplc : p.length ≤ cr := by have := HLR.out; omega
      go_upto_region 14 with (go_at_call 38; refine (rfmul_any _ _ _).mono ?_; rintro e w5 ⟨rfl, rfl⟩)
      obtain ⟨f, hf⟩ : ∃ f, PM.el R d0 * iv = f := ⟨_, rfl⟩
      rw [hf]
      obtain ⟨w6, hw6⟩ : ∃ w6, wr.setCell ⟨g, k, none⟩ (.int .u8 (f.v : Int)) = w6 := ⟨_, rfl⟩
      have hi0 : RDIn w g gr n p.length cr q (A.set k f) R f k (.int .i64 0) w6 := by
        refine ⟨0, R, rfl, Nat.zero_le _, HLR.out, fun j => by rw [part_zero, PM.G.add_zero], ?_, ?_, ?_⟩
        · rw [← hw6]; exact HOR.out.other _ (by simp [Value.ownBlock]; omega)
        · rw [← hw6]
          have := (show Own wr w.heap.size (.slice (some ⟨g, 0, none⟩) A.length n) A by rw [HLA.out]; exact HOA.out).set k f
          rwa [HLA.out] at this
        · rw [← hw6]; exact HBB.out.setCell (p := ⟨g, k, none⟩) (by show w.heap.size ≤ g; omega) _
      have HI0 := Lib.hid hi0
      have HF := Lib.hid hf
      have HD0 := Lib.hid hd0
      clear hi0 hf hd0 hr1
      go_wp2_with fail
      clear ha1 ha2 hidx0 hwd0 hw6
      go_loopw [13] (fun i wq => RDIn w g gr n p.length cr q (A.set k f) R f k i wq) (fun i _ => q.length - (intOf i).toNat)
      case atStart => exact HI0.out
      case round =>
        clear HI0
        obtain ⟨m, ys, rfl, hm, hlen, hel, hown, hownA, hB⟩ := hrel
        have HLN := Lib.hid hlen
        have HEL := Lib.hid hel
        have HOY := Lib.hid hown
        have HOA2 := Lib.hid hownA
        have HBW := Lib.hid hB
        have hBW := HB.out.below hB
        clear hlen hel hown hownA hB
        by_cases hmt : m < q.length
        · obtain ⟨d, hd⟩ : ∃ d, k + m = d := ⟨_, rfl⟩
          have hidx : (k : Int) + (m : Int) = (d : Int) := by omega
          have hdn : d < p.length := by omega
          have hwd : IntKind.i64.wrap (d : Int) = (d : Int) := by rw [IntKind.wrap_i64]; omega
          obtain ⟨_, _, _, _, hcz, hfz⟩ := HOY.out.at d (by rw [HLN.out]; omega)
          have hc2 := hBW.cell m hmt
          have hb2 := HB.out.lt hq0
          have HDK := Lib.hid hd
          clear hBW hd
          go_wp2_with fail
          have hmx : Try.prog.follows .mixedOrders = true := by kernel_rfl
          refine wp_region_held (S := fun W' => W'.cell? ⟨b2, o2 + m, none⟩ = some (.int .u8 ((PM.el q m).v : Int))) hmx ?_
          have hHeld := (show (fun W' : World => W'.cell? ⟨b2, o2 + m, none⟩ = some (.int .u8 ((PM.el q m).v : Int))) wr.drew from hc2)
          refine wpAnyH_at 0 (some 78) (v := ?_) rfl rfl (by kernel_rfl) (by kernel_rfl) (by kernel_rfl) (fun _ _ _ h => h) (Or.inl ⟨by rfl, ?_⟩) hHeld ?_
          rotate_left
          · (intro W2 hSw; have j2 := hSw; go_simp; try with_reducible rfl)
          simp only [Act.put, List.setIfInBounds_toArray, List.set_cons_zero, List.set_cons_succ]
          refine wpAnyH_at 1 (some 79) (v := ?_) rfl rfl (by kernel_rfl) (by kernel_rfl) (by kernel_rfl) (fun _ _ _ h => h) (Or.inl ⟨by rfl, ?_⟩) hHeld ?_
          rotate_left
          · (intro W2 hSw; have j2 := hSw; go_simp; try with_reducible rfl)
          simp only [Act.put, List.setIfInBounds_toArray, List.set_cons_zero, List.set_cons_succ]
          refine wpAnyH_at 2 (some 80) (v := ?_) rfl rfl (by kernel_rfl) (by kernel_rfl) (by kernel_rfl) (fun _ _ _ h => h) (Or.inl ⟨by rfl, ?_⟩) hHeld ?_
          rotate_left
          · (intro W2 hSw; have j2 := hSw; go_simp; try with_reducible rfl)
          simp only [Act.put, List.setIfInBounds_toArray, List.set_cons_zero, List.set_cons_succ]
          refine wpAnyH_at 3 (some 81) (v := ?_) rfl rfl (by kernel_rfl) (by kernel_rfl) (by kernel_rfl) (fun _ _ _ h => h) (Or.inl ⟨by rfl, ?_⟩) hHeld ?_
          rotate_left
          · (intro W2 hSw; have j2 := hSw; go_simp; try with_reducible rfl)
          simp only [Act.put, List.setIfInBounds_toArray, List.set_cons_zero, List.set_cons_succ]
          refine wpAnyH_at 4 (some 82) (v := ?_) rfl rfl (by kernel_rfl) (by kernel_rfl) (by kernel_rfl) (fun _ _ _ h => h) (Or.inl ⟨by rfl, ?_⟩) hHeld ?_
          rotate_left
          · (intro W2 hSw; have j2 := hSw; go_simp; try with_reducible rfl)
          simp only [Act.put, List.setIfInBounds_toArray, List.set_cons_zero, List.set_cons_succ]
          refine wpAnyH_at 6 (some 84) (v := ?_) rfl rfl (by kernel_rfl) (by kernel_rfl) (by kernel_rfl) (fun _ _ _ h => h) (Or.inl ⟨by rfl, ?_⟩) hHeld ?_
          rotate_left
          · (intro W2 hSw; have j2 := hSw; go_simp; try with_reducible rfl)
          simp only [Act.put, List.setIfInBounds_toArray, List.set_cons_zero, List.set_cons_succ]
          refine wpAnyH_at 7 (some 85) (v := ?_) rfl rfl (by kernel_rfl) (by kernel_rfl) (by kernel_rfl) (fun _ _ _ h => h) (Or.inl ⟨by rfl, ?_⟩) hHeld ?_
          rotate_left
          · (intro W2 hSw; have j2 := hSw; go_simp; try with_reducible rfl)
          simp only [Act.put, List.setIfInBounds_toArray, List.set_cons_zero, List.set_cons_succ]
          refine wpAnyH_at 8 (some 86) (v := ?_) rfl rfl (by kernel_rfl) (by kernel_rfl) (by kernel_rfl) (fun _ _ _ h => h) (Or.inl ⟨by rfl, ?_⟩) hHeld ?_
          rotate_left
          · (intro W2 hSw; have j2 := hSw; go_simp; try with_reducible rfl)
          simp only [Act.put, List.setIfInBounds_toArray, List.set_cons_zero, List.set_cons_succ]
          refine wpAnyH_at 9 (some 87) (v := ?_) rfl rfl (by kernel_rfl) (by kernel_rfl) (by kernel_rfl) (fun _ _ _ h => h) (Or.inl ⟨by rfl, ?_⟩) hHeld ?_
          rotate_left
          · (intro W2 hSw; have j2 := hSw; go_simp; try with_reducible rfl)
          simp only [Act.put, List.setIfInBounds_toArray, List.set_cons_zero, List.set_cons_succ]
          refine wpAnyH_at 10 (some 88) (v := ?_) rfl rfl (by kernel_rfl) (by kernel_rfl) (by kernel_rfl) (fun _ _ _ h => h) (Or.inl ⟨by rfl, ?_⟩) hHeld ?_
          rotate_left
          · (intro W2 hSw; have j2 := hSw; go_simp; try with_reducible rfl)
          simp only [Act.put, List.setIfInBounds_toArray, List.set_cons_zero, List.set_cons_succ]
          refine wpAnyH_ready (rs := [5, 11]) (by kernel_rfl) (by simp) ?_
          refine AllReadyH.cons rfl (fun K hK => ?_) (AllReadyH.cons rfl (fun K hK => ?_) AllReadyH.nil)
          · go_simp
            refine hK.out _ _ (show (fun W' : World => W'.cell? ⟨b2, o2 + m, none⟩ = some (.int .u8 ((PM.el q m).v : Int))) wr.drew from hc2) (fun hHeld => ?_)
            clear hK K
            refine wpAnyH_ready (rs := [11]) (by kernel_rfl) (by simp) ?_
            refine AllReadyH.cons rfl (fun K hK => ?_) AllReadyH.nil
            go_simp
            (with_reducible refine (rfmul_any _ _ _).mono ?_)
            rintro e w1 ⟨rfl, rfl⟩
            refine hK.out _ _ (show (fun W' : World => W'.cell? ⟨b2, o2 + m, none⟩ = some (.int .u8 ((PM.el q m).v : Int))) wr.drew from hc2) (fun hHeld => ?_)
            clear hK K
            refine wpAnyH_at 12 (some 90) (v := ?_) rfl rfl (by kernel_rfl) (by kernel_rfl) (by kernel_rfl) (fun _ _ _ h => h) (Or.inl ⟨by rfl, ?_⟩) hHeld ?_
            rotate_left
            · (intro W2 hSw; have j2 := hSw; go_simp; try with_reducible rfl)
            simp only [Act.put, List.setIfInBounds_toArray, List.set_cons_zero, List.set_cons_succ]
            refine wpAnyH_at 13 (some 91) (v := ?_) rfl rfl (by kernel_rfl) (by kernel_rfl) (by kernel_rfl) (fun _ _ _ h => h) (Or.inl ⟨by rfl, ?_⟩) hHeld ?_
            rotate_left
            · (intro W2 hSw; have j2 := hSw; go_simp; try with_reducible rfl)
            simp only [Act.put, List.setIfInBounds_toArray, List.set_cons_zero, List.set_cons_succ]
            refine wpAnyH_ready (rs := [14]) (by kernel_rfl) (by simp) ?_
            refine AllReadyH.cons rfl (fun K hK => ?_) AllReadyH.nil
            go_simp
            refine hK.out _ _ ((cell_other _ (show b2 ≠ gr by omega)).trans hc2) (fun _ => wpAnyH_done (by kernel_rfl) ?_ _)
            clear hK K
            go_wp2_with fail
            go_roundw
            case rel => exact rdiv_step HDK.out hmt (by omega) hgg HLN.out HEL.out HOY.out HOA2.out HBW.out (by omega) rfl
            case measure => simp [intOf]; omega
          · go_simp
            (with_reducible refine (rfmul_any _ _ _).mono ?_)
            rintro e w1 ⟨rfl, rfl⟩
            refine hK.out _ _ (show (fun W' : World => W'.cell? ⟨b2, o2 + m, none⟩ = some (.int .u8 ((PM.el q m).v : Int))) wr.drew from hc2) (fun hHeld => ?_)
            clear hK K
            refine wpAnyH_ready (rs := [5]) (by kernel_rfl) (by simp) ?_
            refine AllReadyH.cons rfl (fun K hK => ?_) AllReadyH.nil
            go_simp
            refine hK.out _ _ (show (fun W' : World => W'.cell? ⟨b2, o2 + m, none⟩ = some (.int .u8 ((PM.el q m).v : Int))) wr.drew from hc2) (fun hHeld => ?_)
            clear hK K
            refine wpAnyH_at 12 (some 90) (v := ?_) rfl rfl (by kernel_rfl) (by kernel_rfl) (by kernel_rfl) (fun _ _ _ h => h) (Or.inl ⟨by rfl, ?_⟩) hHeld ?_
            rotate_left
            · (intro W2 hSw; have j2 := hSw; go_simp; try with_reducible rfl)
            simp only [Act.put, List.setIfInBounds_toArray, List.set_cons_zero, List.set_cons_succ]
            refine wpAnyH_at 13 (some 91) (v := ?_) rfl rfl (by kernel_rfl) (by kernel_rfl) (by kernel_rfl) (fun _ _ _ h => h) (Or.inl ⟨by rfl, ?_⟩) hHeld ?_
            rotate_left
            · (intro W2 hSw; have j2 := hSw; go_simp; try with_reducible rfl)
            simp only [Act.put, List.setIfInBounds_toArray, List.set_cons_zero, List.set_cons_succ]
            refine wpAnyH_ready (rs := [14]) (by kernel_rfl) (by simp) ?_
            refine AllReadyH.cons rfl (fun K hK => ?_) AllReadyH.nil
            go_simp
            refine hK.out _ _ ((cell_other _ (show b2 ≠ gr by omega)).trans hc2) (fun _ => wpAnyH_done (by kernel_rfl) ?_ _)
            clear hK K
            go_wp2_with fail
            go_roundw
            case rel => exact rdiv_step HDK.out hmt (by omega) hgg HLN.out HEL.out HOY.out HOA2.out HBW.out (by omega) rfl
            case measure => simp [intOf]; omega
        · obtain rfl : m = q.length := by omega
          have hm := div_math (d := d0) (by rw [HNQ.out]; exact HD0.out) (by rw [HLA.out]; exact hkn) hq0 (HQ.out.can hq0) HZA.out HZR.out HEQ.out (f := f) (by rw [HNQ.out, ← HIV.out]; exact HF.out) (ys := ys) (fun j => by rw [HEL.out, part_all])
          have hrel : RDOut w g gr n p.length cr p q (.int .i64 ((k : Int) - 1)) wr := ⟨k, A.set k f, ys, rfl, by omega, HOA2.out, by rw [List.length_set]; exact HLA.out, HOY.out, HLN.out, hm.1, hm.2.1, hm.2.2, HBW.out⟩
          have HREL := Lib.hid hrel
          clear hm hrel hBW
          go_wp2_with fail
          go_roundw
          case rel => exact HREL.out
          case measure => simp [intOf]
end Go.Proofs.Ytfbogjibofeckaa.P
