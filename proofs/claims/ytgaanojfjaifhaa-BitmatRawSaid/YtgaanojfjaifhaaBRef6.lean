/- ref05.echelon. -/
import Derived.Test.YtgaanojfjaifhaaBRef5
import Derived.Test.YtgaanojfjaifhaaBSolve
namespace Go.Proofs.Ytgaanojfjaifhaa.B
open Go Go.RowKit Go.Shelf
open BM (bt St)

/-- What echelon works on. -/
structure EcSt (w W : World) (B gr cr gx cx m : Nat) (ap : Option Addr) (cp : Nat) (C : Int) (a : Option Addr) (ca : Nat) (s : St) : Prop where
  box : MBox W w.heap.size C a m ca
  rows : Own W B (.slice (some ⟨gr, 0, none⟩) m cr) (tab m s.R)
  right : Own W B (.slice (some ⟨gx, 0, none⟩) m cx) (tab m s.r)
  lead : Own W B (.slice ap s.P.length cp) s.P
  ne : ∀ b o, ap = some ⟨b, o, none⟩ → b ≠ gr ∧ b ≠ gx
  n1 : gr ≠ gx
  below : Below w.heap.size w W
  pos : w.heap.size < B
section
variable {w W : World} {B gr cr gx cx m : Nat} {ap : Option Addr} {cp : Nat} {C : Int} {a : Option Addr} {ca : Nat} {s : St}
theorem EcSt.cellR (h : EcSt w W B gr cr gx cx m ap cp C a ca s) (k : Nat) (hk : k < m) : W.cell? ⟨gr, k, none⟩ = some (.int .u64 ((s.R k).toNat : Int)) ∧ W.frozen? ⟨gr, k, none⟩ = false := by
  have := h.rows.cellV k (by rw [tab_len]; exact hk)
  rw [el_tab _ _ _ hk] at this
  exact ⟨this, h.rows.free k (by rw [tab_len]; exact hk)⟩
theorem EcSt.cellX (h : EcSt w W B gr cr gx cx m ap cp C a ca s) (k : Nat) (hk : k < m) : W.cell? ⟨gx, k, none⟩ = some (.int .u64 ((s.r k).toNat : Int)) ∧ W.frozen? ⟨gx, k, none⟩ = false := by
  have := h.right.cellV k (by rw [tab_len]; exact hk)
  rw [el_tab _ _ _ hk] at this
  exact ⟨this, h.right.free k (by rw [tab_len]; exact hk)⟩
theorem EcSt.bR (h : EcSt w W B gr cr gx cx m ap cp C a ca s) (hm : 0 < m) : B ≤ gr := (h.rows.at 0 (by rw [tab_len]; exact hm)).1
theorem EcSt.bX (h : EcSt w W B gr cr gx cx m ap cp C a ca s) (hm : 0 < m) : B ≤ gx := (h.right.at 0 (by rw [tab_len]; exact hm)).1
theorem EcSt.nb (h : EcSt w W B gr cr gx cx m ap cp C a ca s) : (Value.slice ap s.P.length cp).ownBlock ≠ some gr ∧ (Value.slice ap s.P.length cp).ownBlock ≠ some gx :=
  ⟨fun e => by obtain ⟨o, e2⟩ := own_block h.lead e; exact (h.ne _ o e2).1 rfl, fun e => by obtain ⟨o, e2⟩ := own_block h.lead e; exact (h.ne _ o e2).2 rfl⟩
theorem EcSt.setR (h : EcSt w W B gr cr gx cx m ap cp C a ca s) (hm : 0 < m) (j : Nat) (x : V) : EcSt w (W.setCell ⟨gr, j, none⟩ (.int .u64 (x.toNat : Int))) B gr cr gx cx m ap cp C a ca ⟨upd s.R j x, s.r, s.P⟩ := by
  have hb := h.bR hm
  have hp := h.pos
  refine ⟨h.box.other (show gr ≠ w.heap.size by omega) _, ?_, h.right.other _ ?_, h.lead.other _ h.nb.1, h.ne, h.n1, h.below.setCell (p := ⟨gr, j, none⟩) (by show _ ≤ gr; omega) _, hp⟩
  · have := h.rows.setV j x
    rwa [tab_set] at this
  · intro e; simp [Value.ownBlock] at e; exact h.n1 e.symm
theorem EcSt.setX (h : EcSt w W B gr cr gx cx m ap cp C a ca s) (hm : 0 < m) (j : Nat) (x : V) : EcSt w (W.setCell ⟨gx, j, none⟩ (.int .u64 (x.toNat : Int))) B gr cr gx cx m ap cp C a ca ⟨s.R, upd s.r j x, s.P⟩ := by
  have hb := h.bX hm
  have hp := h.pos
  refine ⟨h.box.other (show gx ≠ w.heap.size by omega) _, h.rows.other _ ?_, ?_, h.lead.other _ h.nb.2, h.ne, h.n1, h.below.setCell (p := ⟨gx, j, none⟩) (by show _ ≤ gx; omega) _, hp⟩
  · intro e; simp [Value.ownBlock] at e; exact h.n1 e
  · have := h.right.setV j x
    rwa [tab_set] at this
theorem EcSt.drewN (h : EcSt w W B gr cr gx cx m ap cp C a ca s) (n : Nat) : EcSt w (W.drewN n) B gr cr gx cx m ap cp C a ca s := ⟨h.box.drewN n, h.rows, h.right, h.lead, h.ne, h.n1, belowN h.below n, h.pos⟩
theorem EcSt.as {R r R' r' : Nat → V} {P : List Nat} (h : EcSt w W B gr cr gx cx m ap cp C a ca ⟨R, r, P⟩) (hR : ∀ j, j < m → R j = R' j) (hr : ∀ j, j < m → r j = r' j) : EcSt w W B gr cr gx cx m ap cp C a ca ⟨R', r', P⟩ :=
  ⟨h.box, by have := h.rows; rwa [tab_ext hR] at this, by have := h.right; rwa [tab_ext hr] at this, h.lead, h.ne, h.n1, h.below, h.pos⟩
theorem EcSt.room (h : EcSt w W B gr cr gx cx m ap cp C a ca s) : m ≤ cr ∧ cr ≤ 9223372036854775807 ∧ m ≤ cx ∧ cx ≤ 9223372036854775807 := ⟨h.rows.room.1, h.rows.room.2, h.right.room.1, h.right.room.2⟩
theorem EcSt.push {W' : World} {R r : Nat → V} {P : List Nat} {a' : Option Addr} {cap' c : Nat} (hm : 0 < m) (h : EcSt w W B gr cr gx cx m ap cp C a ca ⟨R, r, P⟩) (o : Obj)
    (hg : (W.alloc o).grownBy W' (Value.slice ap P.length cp).ownBlock) (hb : Below B (W.alloc o) W') (ho : Own W' B (.slice a' (P.length + 1) cap') (P ++ [c])) (hw : ∀ b o', a' = some ⟨b, o', none⟩ → (Value.slice ap P.length cp).ownBlock = some b ∨ b = (W.alloc o).heap.size) :
    EcSt w W' B gr cr gx cx m a' cap' C a ca ⟨R, r, P ++ [c]⟩ := by
  have hrl : gr < W.heap.size := lt_of_cell (h.cellR 0 hm).1
  have hxl : gx < W.heap.size := lt_of_cell (h.cellX 0 hm).1
  have hsz := h.bR hm
  have hp := h.pos
  have hne := h.nb
  have hB0 : Below w.heap.size w (W.alloc o) := h.below.alloc (by omega) o
  refine ⟨(h.box.alloc o).grownTo hb hp, (h.rows.alloc o).grown hg (.inr ?_), (h.right.alloc o).grown hg (.inr ?_), ?_, ?_, h.n1, hB0.trans (hb.mono (Nat.le_of_lt hp)), hp⟩
  · intro e; exact hne.1 (e.symm ▸ rfl)
  · intro e; exact hne.2 (e.symm ▸ rfl)
  · show Own W' B (.slice a' (P ++ [c]).length cap') (P ++ [c])
    rw [List.length_append]; exact ho
  · intro b o' e
    rcases hw b o' e with h5 | h5
    · exact ⟨fun e2 => hne.1 (by subst e2; exact h5), fun e2 => hne.2 (by subst e2; exact h5)⟩
    · rw [World.size_alloc] at h5
      exact ⟨by omega, by omega⟩
end

def ek (R : List V) (v : V) (k : Nat) : St := BM.run R.length ⟨el R, rhs v, []⟩ k
theorem ek_le (R : List V) (v : V) (k : Nat) : (ek R v k).P.length ≤ R.length := run_len _ _ (Nat.zero_le _) _
def EcRhs (w : World) (B gr cr : Nat) (C : Int) (a : Option Addr) (ca : Nat) (R : List V) (v : V) (rv iv : Value) (W : World) : Prop :=
  ∃ (k : Nat) (ax : Option Addr) (cx : Nat), iv = .int .i64 (k : Int) ∧ k ≤ R.length ∧ rv = .slice ax k cx ∧ MBox W w.heap.size C a R.length ca ∧ Own W B (.slice (some ⟨gr, 0, none⟩) R.length cr) R ∧ Own W B (.slice ax k cx) (tab k (rhs v)) ∧ (∀ b o, ax = some ⟨b, o, none⟩ → b ≠ gr) ∧ Below w.heap.size w W ∧ B ≤ W.heap.size
def EcRel (w : World) (B gr cr gx cx D : Nat) (a : Option Addr) (ca : Nat) (R : List V) (v : V) (lv nv kv : Value) (W : World) : Prop :=
  ∃ (k : Nat) (ap : Option Addr) (cp : Nat), kv = .int .i64 (k : Int) ∧ k ≤ D ∧ nv = .int .i64 ((ek R v k).P.length : Int) ∧ lv = .slice ap (ek R v k).P.length cp ∧ EcSt w W B gr cr gx cx R.length ap cp D a ca (ek R v k)

set_option maxRecDepth 100000 in
set_option maxHeartbeats 1000000 in
theorem echelon_any (D : Nat) (a : Option Addr) (ca : Nat) (R : List V) (v : V) (w : World) (hA : Row w a R ca) (hM : MV D R) :
    Calls Try.prog 44 #[.agg #[.int .i64 (D : Int), .slice a R.length ca], .int .u64 (v.toNat : Int)] w fun e W => ∃ gr cr gx cx ap cp, e = .returned (.tuple #[.slice (some ⟨gr, 0, none⟩) R.length cr, .slice (some ⟨gx, 0, none⟩) R.length cx, .slice ap (ek R v D).P.length cp]) ∧ EcSt w W (w.heap.size + 1) gr cr gx cx R.length ap cp D a ca (ek R v D) := by
  have hbx := MBox.new w (D : Int) a R.length ca 24
  have hb1 := (Below.refl w.heap.size w).alloc (Nat.le_refl _) (.cells #[.int .i64 (D : Int), .slice a R.length ca] 24)
  have hr1 := hA.alloc (.cells #[.int .i64 (D : Int), .slice a R.length ca] 24)
  obtain ⟨w1, hw1⟩ : ∃ w1, w.alloc (.cells #[.int .i64 (D : Int), .slice a R.length ca] 24) = w1 := ⟨_, rfl⟩
  have hs1 : w1.heap.size = w.heap.size + 1 := by rw [← hw1]; simp
  rw [hw1] at hbx hb1 hr1
  have a0 := hbx.c0
  have a1 := hbx.c1
  have l1 := hM.r1
  have l2 := hM.r2
  have l4 := hM.c2
  have HBX := Lib.hid hbx
  have HB1 := Lib.hid hb1
  have HR1 := Lib.hid hr1
  have HS1 := Lib.hid hs1
  clear hA hbx hb1 hr1 hs1
  go_enter Try.func44, Try.ntmps44
  go_wp2_with (at_builtin; refine wpList_appAny (α := V) rfl _ _ rfl (B := w.heap.size + 1) (zs := []) (ys := R) rfl (Own.nil _ _) rfl HR1.out (by show 0 + _ < 1000000; omega) (Nat.le_of_eq HS1.out.symm) ?_; intro a3 cap3 w3 hown3 hb3; have HO3 := Lib.hid hown3; have HB3 := Lib.hid hb3; clear hown3 hb3)
  have ho3 : Own w3 (w.heap.size + 1) (.slice a3 R.length cap3) R := by have := HO3.out; simpa using this
  obtain ⟨gr, hg3⟩ : ∃ g, a3 = some ⟨g, 0, none⟩ := by
    rcases ho3.parts with ⟨_, e2⟩ | ⟨g, c2, e2, _⟩
    · rw [e2] at l1; exact absurd l1 (by decide)
    · cases e2; exact ⟨g, rfl⟩
  subst hg3
  have hx3 := HBX.out.grownTo HB3.out (Nat.lt_succ_self _)
  have hbw : Below w.heap.size w w3 := HB1.out.trans (HB3.out.mono (Nat.le_succ _))
  have hsz3 : w.heap.size + 1 ≤ w3.heap.size := by have := HB3.out.size; have := HS1.out; omega
  have HO := Lib.hid ho3
  have HX := Lib.hid hx3
  have HW := Lib.hid hbw
  clear ho3 hx3 hbw HO3 HB3 HBX HB1 HR1 HS1 a0 a1
  go_loopw [8, 9] (fun rv iv wr => EcRhs w (w.heap.size + 1) gr cap3 D a ca R v rv iv wr) (fun _ iv _ => R.length - (intOf iv).toNat)
  case atStart => exact ⟨0, none, 0, rfl, Nat.zero_le _, rfl, HX.out, HO.out, Own.nil _ _, (fun _ _ e => nomatch e), HW.out, hsz3⟩
  case round =>
    clear HX HO HW hsz3
    obtain ⟨k, ax, cx, rfl, hk, rfl, hbx, hro, hxo, hne, hbw, hsz⟩ := hrel
    by_cases hlt : k < R.length
    · have hbit := bit_V v k
      rw [Nat.min_eq_left (show k ≤ 64 by omega)] at hbit
      obtain ⟨y, hy⟩ : ∃ y, Go.Proofs.Ytgaanojfjaifhaa.B.b1 (bt v k) = y := ⟨_, rfl⟩
      rw [hy] at hbit
      have HY := Lib.hid hy
      have HXO := Lib.hid hxo
      have HRO := Lib.hid hro
      have HBX := Lib.hid hbx
      have HBW := Lib.hid hbw
      have HNE := Lib.hid hne
      have hlen : (tab k (rhs v)).length < 1000000 := by rw [tab_len]; omega
      clear hy hxo hro hbx hbw hne
      go_wp2_with (at_builtin; refine wpList_app1 (α := V) rfl _ _ rfl y (by rfl) (HXO.out.alloc (.cells #[.int .u64 (y.toNat : Int)] 25)) rfl (cell_new _ _ _) hlen (by simp; omega) ?_; intro a3 cap3 w6 hown3 hg3 hb3 hw3; have HO3 := Lib.hid hown3; have HG3 := Lib.hid hg3; have HB3 := Lib.hid hb3; have HW3 := Lib.hid hw3; clear hown3 hg3 hb3 hw3)
      go_roundw
      case rel =>
        have hgl : gr < wr.heap.size := lt_of_cell (HRO.out.cellV 0 (by omega))
        have hnb : (Value.slice ax k cx).ownBlock ≠ some gr := fun e => by obtain ⟨o, e2⟩ := own_block HXO.out e; exact HNE.out _ o e2 rfl
        refine ⟨k + 1, a3, cap3, by go_num, hlt, by rw [tab_len], (HBX.out.alloc _).grownTo HB3.out (Nat.lt_succ_self _), (HRO.out.alloc _).grown HG3.out (.inr (fun e => hnb (e.symm ▸ rfl))), ?_, ?_, (HBW.out.alloc (by omega) _).trans (HB3.out.mono (Nat.le_succ _)), Nat.le_trans (by simp; omega) HB3.out.size⟩
        · have := HO3.out
          rw [← HY.out, show Go.Proofs.Ytgaanojfjaifhaa.B.b1 (bt v k) = rhs v k from rfl, tab_snoc, tab_len] at this
          exact this
        · intro b o e
          rcases HW3.out b o e with h5 | h5
          · intro e2; subst e2; exact hnb h5
          · rw [World.size_alloc] at h5; omega
      case measure => simp [intOf]; omega
    · obtain rfl : k = R.length := by omega
      obtain ⟨gx, hgx⟩ : ∃ g, ax = some ⟨g, 0, none⟩ := by
        rcases hxo.parts with ⟨_, e2⟩ | ⟨g, c2, e2, _⟩
        · have e3 := congrArg List.length e2; rw [tab_len] at e3; exact absurd (show R.length = 0 from e3) (by omega)
        · exact ⟨g, by injection e2⟩
      subst hgx
      have hec : EcSt w wr (w.heap.size + 1) gr cap3 gx cx R.length none 0 D a ca (ek R v 0) := ⟨hbx, by rw [show (ek R v 0).R = el R from rfl, tab_el]; exact hro, hxo, Own.nil _ _, (fun _ _ e => nomatch e), (fun e => hne gx 0 rfl e.symm), hbw, Nat.lt_succ_self _⟩
      have HEC := Lib.hid hec
      clear hec hbx hro hxo hne hbw
      go_wp2_with fail
      go_loopw [10, 11, 12, 13, 14] (fun lv nv kv _ _ wq => EcRel w (w.heap.size + 1) gr cap3 gx cx D a ca R v lv nv kv wq) (fun _ _ kv _ _ _ => D - (intOf kv).toNat)
      case atStart => exact ⟨0, none, 0, rfl, Nat.zero_le _, rfl, rfl, HEC.out⟩
      case round =>
        clear HEC
        obtain ⟨k, ap, cp, rfl, hk, rfl, rfl, hs⟩ := hrel
        obtain ⟨n, hn⟩ : ∃ n, (ek R v k).P.length = n := ⟨_, rfl⟩
        obtain ⟨s, hss⟩ : ∃ s, ek R v k = s := ⟨_, rfl⟩
        have hnm : n ≤ R.length := by rw [← hn]; exact ek_le R v k
        rw [hn]
        rw [hss] at hs hn
        have a0 := hs.box.c0
        obtain ⟨r1, r2, r3, r4⟩ := hs.room
        have HS := Lib.hid hs
        have HN := Lib.hid hn
        have HSS := Lib.hid hss
        clear hs hn hss
        by_cases hlt : k < D
        · go_wp2_with fail
          clear a0
          go_loopw [13] (fun pv wz => ∃ p : Nat, pv = .int .i64 (p : Int) ∧ n ≤ p ∧ p ≤ R.length ∧ Hid (∀ j, n ≤ j → j < p → bt (s.R j) k = false) ∧ wz = wr) (fun pv _ => R.length - (intOf pv).toNat)
          case atStart => exact ⟨n, rfl, Nat.le_refl _, hnm, Lib.hid (fun j h1 h2 => absurd h2 (by omega)), rfl⟩
          case round =>
            obtain ⟨p, rfl, hp1, hp2, HNO, hwz⟩ := hrel
            subst hwz
            by_cases hlt2 : p < R.length
            · obtain ⟨cp1, fp1⟩ := HS.out.cellR p hlt2
              have hbit := bit_V (s.R p) k
              rw [Nat.min_eq_left (show k ≤ 64 by omega)] at hbit
              cases hb : bt (s.R p) k with
              | false =>
                rw [hb, show ((Go.Proofs.Ytgaanojfjaifhaa.B.b1 false).toNat : Int) = 0 from rfl] at hbit
                have HB := Lib.hid hb
                clear hb
                go_wp2_with fail
                go_roundw
                case rel =>
                  refine ⟨p + 1, by go_num, by omega, hlt2, Lib.hid (fun j h1 h2 => ?_), by first | rfl | trivial⟩
                  by_cases e : j = p
                  · subst e; exact HB.out
                  · exact HNO.out j h1 (by omega)
                case measure => simp [intOf]; omega
              | true =>
                rw [hb, show ((Go.Proofs.Ytgaanojfjaifhaa.B.b1 true).toNat : Int) = 1 from rfl] at hbit
                have hst : BM.step R.length k s = BM.made p k s := step_yes HN.out hp1 hlt2 hb HNO.out
                have HST := Lib.hid hst
                have hpne : ¬ (p : Int) = (R.length : Int) := by omega
                have hnlt : n < R.length := by omega
                obtain ⟨cn1, fn1⟩ := HS.out.cellR n hnlt
                have S1 := HS.out.setR l1 n (s.R p)
                obtain ⟨w5, hw5⟩ : ∃ w5, wr.setCell ⟨gr, n, none⟩ (.int .u64 ((s.R p).toNat : Int)) = w5 := ⟨_, rfl⟩
                rw [hw5] at S1
                obtain ⟨cq1, fq1⟩ := S1.cellR p hlt2
                have S2 := S1.setR l1 p (s.R n)
                obtain ⟨w6, hw6⟩ : ∃ w6, w5.setCell ⟨gr, p, none⟩ (.int .u64 ((s.R n).toNat : Int)) = w6 := ⟨_, rfl⟩
                rw [hw6] at S2
                rw [show (⟨upd (⟨upd s.R n (s.R p), s.r, s.P⟩ : St).R p (s.R n), (⟨upd s.R n (s.R p), s.r, s.P⟩ : St).r, (⟨upd s.R n (s.R p), s.r, s.P⟩ : St).P⟩ : St) = ⟨BM.swp s.R n p, s.r, s.P⟩ by rw [← swp_upd]] at S2
                have hj1 : w6.cell? ⟨gx, n, none⟩ = some (.int .u64 ((s.r n).toNat : Int)) := (S2.cellX n hnlt).1
                have hj2 := (S2.cellX n hnlt).2
                have hm1 : w6.cell? ⟨gx, p, none⟩ = some (.int .u64 ((s.r p).toNat : Int)) := (S2.cellX p hlt2).1
                have S3 := S2.setX l1 n (s.r p)
                obtain ⟨w7, hw7⟩ : ∃ w7, w6.setCell ⟨gx, n, none⟩ (.int .u64 ((s.r p).toNat : Int)) = w7 := ⟨_, rfl⟩
                rw [hw7] at S3
                obtain ⟨ho1, ho2⟩ := S3.cellX p hlt2
                have S4 := S3.setX l1 p (s.r n)
                obtain ⟨w8, hw8⟩ : ∃ w8, w7.setCell ⟨gx, p, none⟩ (.int .u64 ((s.r n).toNat : Int)) = w8 := ⟨_, rfl⟩
                rw [hw8] at S4
                have S5 : EcSt w w8 (w.heap.size + 1) gr cap3 gx cx R.length ap cp D a ca ⟨BM.swp s.R n p, BM.swp s.r n p, s.P⟩ := by
                  have e : BM.swp s.r n p = upd (upd s.r n (s.r p)) p (s.r n) := (swp_upd _ _ _).symm
                  rw [e]; exact S4
                have HS5 := Lib.hid S5
                clear S1 S2 S3 S4 S5 hb hst
                go_wp2_with fail
                go_region
                go_wp2_with fail
                go_region
                go_wp2_with fail
                have hpu : s.P.length < 1000000 := by have := HN.out; omega
                go_loopw [14] (fun iv wz => ∃ i : Nat, iv = .int .i64 (i : Int) ∧ i ≤ R.length ∧ EcSt w wz (w.heap.size + 1) gr cap3 gx cx R.length ap cp D a ca ⟨mid (BM.swp s.R n p) (BM.swp s.R n p) n k i, mid (BM.swp s.R n p) (BM.swp s.r n p) n k i, s.P⟩) (fun iv _ => R.length - (intOf iv).toNat)
                case atStart => exact ⟨0, rfl, Nat.zero_le _, by rw [mid_0, mid_0]; exact HS5.out.drewN 2⟩
                case round =>
                  clear cn1 fn1 fq1 cq1 cp1 fp1 hj1 hj2 hm1 ho1 ho2 hw5 hw6 hw7 hw8 hbit HS5
                  obtain ⟨i, rfl, hi2, hs⟩ := hrel
                  by_cases hlt3 : i < R.length
                  · have HSI := Lib.hid hs
                    by_cases hin : i = n
                    · subst hin
                      clear hs
                      go_wp2_with fail
                      go_roundw
                      case rel => exact ⟨i + 1, by go_num, hlt3, by rw [mid_same (fun h => h.1 rfl), mid_same (fun h => h.1 rfl)]; exact HSI.out⟩
                      case measure => simp [intOf]; omega
                    · have hne : ¬ (i : Int) = (n : Int) := by omega
                      obtain ⟨ci, fi⟩ := hs.cellR i hlt3
                      obtain ⟨cn, _⟩ := hs.cellR n hnlt
                      obtain ⟨di, gi⟩ := hs.cellX i hlt3
                      obtain ⟨dn, _⟩ := hs.cellX n hnlt
                      rw [show (⟨mid (BM.swp s.R n p) (BM.swp s.R n p) n k i, mid (BM.swp s.R n p) (BM.swp s.r n p) n k i, s.P⟩ : St).R i = BM.swp s.R n p i from mid_k _ _ _ _ _] at ci
                      rw [show (⟨mid (BM.swp s.R n p) (BM.swp s.R n p) n k i, mid (BM.swp s.R n p) (BM.swp s.r n p) n k i, s.P⟩ : St).R n = BM.swp s.R n p n from mid_i _ _ _ _ _] at cn
                      obtain ⟨x, hx⟩ : ∃ x, BM.swp s.R n p i = x := ⟨_, rfl⟩
                      obtain ⟨y, hy⟩ : ∃ y, BM.swp s.R n p n = y := ⟨_, rfl⟩
                      rw [hx] at ci
                      rw [hy] at cn
                      have HX := Lib.hid hx
                      have HY := Lib.hid hy
                      clear hx hy
                      have hbit := bit_V x k
                      rw [Nat.min_eq_left (show k ≤ 64 by omega)] at hbit
                      cases hb : bt x k with
                      | false =>
                        rw [hb, show ((Go.Proofs.Ytgaanojfjaifhaa.B.b1 false).toNat : Int) = 0 from rfl] at hbit
                        have HB := Lib.hid hb
                        clear hb hs
                        go_wp2_with fail
                        go_roundw
                        case rel =>
                          have hno : ¬ (i ≠ n ∧ bt (BM.swp s.R n p i) k = true) := by rw [HX.out, HB.out]; intro h; cases h.2
                          exact ⟨i + 1, by go_num, hlt3, by rw [mid_same hno, mid_same hno]; exact HSI.out⟩
                        case measure => simp [intOf]; omega
                      | true =>
                        rw [hb, show ((Go.Proofs.Ytgaanojfjaifhaa.B.b1 true).toNat : Int) = 1 from rfl] at hbit
                        have hx1 := xor_V x y
                        obtain ⟨z, hz⟩ : ∃ z, x ^^^ y = z := ⟨_, rfl⟩
                        rw [hz] at hx1
                        have S1 := hs.setR l1 i z
                        obtain ⟨w9, hw9⟩ : ∃ w9, wr.setCell ⟨gr, i, none⟩ (.int .u64 (z.toNat : Int)) = w9 := ⟨_, rfl⟩
                        rw [hw9] at S1
                        obtain ⟨ei, ki⟩ := S1.cellX i hlt3
                        obtain ⟨en, _⟩ := S1.cellX n hnlt
                        rw [show (⟨upd (⟨mid (BM.swp s.R n p) (BM.swp s.R n p) n k i, mid (BM.swp s.R n p) (BM.swp s.r n p) n k i, s.P⟩ : St).R i z, (⟨mid (BM.swp s.R n p) (BM.swp s.R n p) n k i, mid (BM.swp s.R n p) (BM.swp s.r n p) n k i, s.P⟩ : St).r, s.P⟩ : St).r i = BM.swp s.r n p i from mid_k _ _ _ _ _] at ei
                        rw [show (⟨upd (⟨mid (BM.swp s.R n p) (BM.swp s.R n p) n k i, mid (BM.swp s.R n p) (BM.swp s.r n p) n k i, s.P⟩ : St).R i z, (⟨mid (BM.swp s.R n p) (BM.swp s.R n p) n k i, mid (BM.swp s.R n p) (BM.swp s.r n p) n k i, s.P⟩ : St).r, s.P⟩ : St).r n = BM.swp s.r n p n from mid_i _ _ _ _ _] at en
                        obtain ⟨x2, hx2⟩ : ∃ x, BM.swp s.r n p i = x := ⟨_, rfl⟩
                        obtain ⟨y2, hy2⟩ : ∃ y, BM.swp s.r n p n = y := ⟨_, rfl⟩
                        rw [hx2] at ei
                        rw [hy2] at en
                        have hx3 := xor_V x2 y2
                        obtain ⟨z2, hz2⟩ : ∃ z, x2 ^^^ y2 = z := ⟨_, rfl⟩
                        rw [hz2] at hx3
                        have S2 := S1.setX l1 i z2
                        obtain ⟨w10, hw10⟩ : ∃ w10, w9.setCell ⟨gx, i, none⟩ (.int .u64 (z2.toNat : Int)) = w10 := ⟨_, rfl⟩
                        rw [hw10] at S2
                        have hh : i ≠ n ∧ bt (BM.swp s.R n p i) k = true := ⟨hin, by rw [HX.out]; exact hb⟩
                        have S3 : EcSt w w10 (w.heap.size + 1) gr cap3 gx cx R.length ap cp D a ca ⟨mid (BM.swp s.R n p) (BM.swp s.R n p) n k (i + 1), mid (BM.swp s.R n p) (BM.swp s.r n p) n k (i + 1), s.P⟩ := by
                          rw [← mid_upd hh, ← mid_upd hh, HX.out, HY.out, hx2, hy2, hz, hz2]
                          exact S2
                        have HS3 := Lib.hid S3
                        clear S1 S2 S3 hb hs hz hz2 hx2 hy2 di gi dn
                        go_wp2_with fail
                        go_region
                        go_wp2_with fail
                        go_region
                        go_wp2_with fail
                        go_roundw
                        case rel => exact ⟨i + 1, by go_num, hlt3, HS3.out.drewN 2⟩
                        case measure => simp [intOf]; omega
                  · obtain rfl : i = R.length := by omega
                    have hfin := hs.as (R' := BM.adr (BM.swp s.R n p) (BM.swp s.R n p) n k) (r' := BM.adr (BM.swp s.R n p) (BM.swp s.r n p) n k) (fun j hj => by unfold mid; rw [if_pos hj]) (fun j hj => by unfold mid; rw [if_pos hj])
                    have hlead : Own wr (w.heap.size + 1) (.slice ap n cp) s.P := by have := hfin.lead; rw [← HN.out]; exact this
                    have hszB : w.heap.size + 1 ≤ wr.heap.size := Nat.succ_le_of_lt (Nat.lt_of_lt_of_le (lt_of_cell hfin.box.c0) (Nat.le_refl _))
                    have HL := Lib.hid hlead
                    have HF := Lib.hid hfin
                    clear hs hlead hfin
                    go_wp2_with (at_builtin; refine wpList_app1 (α := Nat) rfl _ _ rfl k (by rfl) (HL.out.alloc (.cells #[.int .i64 (k : Int)] 3)) rfl (cell_new _ _ _) hpu (by simp; omega) ?_; intro a4 cap4 w11 hown4 hg4 hb4 hw4; have HO4 := Lib.hid hown4; have HG4 := Lib.hid hg4; have HB4 := Lib.hid hb4; have HW4 := Lib.hid hw4; clear hown4 hg4 hb4 hw4)
                    go_roundw
                    case rel =>
                      have e : ek R v (k + 1) = ⟨BM.adr (BM.swp s.R n p) (BM.swp s.R n p) n k, BM.adr (BM.swp s.R n p) (BM.swp s.r n p) n k, s.P ++ [k]⟩ := by
                        show BM.step R.length k (ek R v k) = _
                        rw [HSS.out, HST.out]
                        unfold BM.made
                        rw [HN.out]
                      have e2 : (ek R v (k + 1)).P.length = n + 1 := by rw [e]; show (s.P ++ [k]).length = _; rw [List.length_append, HN.out]; rfl
                      have hpush := HF.out.push l1 (.cells #[.int .i64 (k : Int)] 3) (by rw [HN.out]; exact HG4.out) HB4.out HO4.out (by rw [HN.out]; exact HW4.out)
                      exact ⟨k + 1, a4, cap4, by go_num, hlt, by rw [e2]; go_num, by rw [e2, HN.out], by rw [e]; exact hpush⟩
                    case measure => simp [intOf]; omega
            · obtain rfl : p = R.length := by omega
              have hst : BM.step R.length k s = s := step_no HN.out hnm HNO.out
              have HST := Lib.hid hst
              clear hst
              go_wp2_with fail
              go_roundw
              case rel =>
                have e : ek R v (k + 1) = s := by show BM.step R.length k (ek R v k) = s; rw [HSS.out]; exact HST.out
                exact ⟨k + 1, ap, cp, by go_num, hlt, by rw [e, HN.out], by rw [e, HN.out], by rw [e]; exact HS.out⟩
              case measure => simp [intOf]; omega
        · obtain rfl : k = D := by omega
          go_wp2_with fail
          refine bodyPost_ret (v := .tuple #[.slice (some ⟨gr, 0, none⟩) R.length cap3, .slice (some ⟨gx, 0, none⟩) R.length cx, .slice ap n cp]) (by simp [results, Try.results44, go_sem]) rfl ⟨gr, cap3, gx, cx, ap, cp, by rw [HSS.out, HN.out], by rw [HSS.out]; exact HS.out⟩
end Go.Proofs.Ytgaanojfjaifhaa.B
