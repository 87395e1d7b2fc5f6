/- Contracts for one to one hashes. -/
import Derived.Test.YtodiokladojnjaaHsG
import Derived.Test.YtodiokladojnjaaHsJ
import Derived.Test.YtodiokladojnjaaBSame
import Derived.Test.YtodiokladojnjaaHsP
namespace Go.Proofs.Ytodiokladojnjaa.B
open Go Go.RowKit Go.Shelf

theorem hinv_hs {b cap : Nat} {R : List V} (h : Hs b R) {a : Option Addr} {w : World} (hR : Row w a R cap) :
    Calls Try.prog 9 #[.slice a b cap] w fun e W => (∃ a' c' I, e = .returned (.tuple #[.slice a' b c', .int .i64 0]) ∧ Row W a' I c' ∧ Hs b I ∧ ∀ v, HS.Fits b v → valV I (valV R v) = v ∧ valV R (valV I v) = v) ∧ Below w.heap.size w W := by
  obtain ⟨I, hI, hHI, hv⟩ := hs_inv h
  have := hinverse_any a cap R w hR
  rw [h.len, h.chk, hI] at this
  refine this.mono ?_
  rintro e W ⟨⟨v, rfl, a', c', rfl, hr⟩, hb⟩
  exact ⟨⟨a', c', I, by rw [hHI.len], hr, hHI, hv⟩, hb⟩
theorem hjoin_hs {b ca cb : Nat} {A T : List V} (hA : Hs b A) (hT : Hs b T) {a c : Option Addr} {w : World} (hRA : Row w a A ca) (hRT : Row w c T cb) :
    Calls Try.prog 11 #[.slice a b ca, .slice c b cb] w fun e W => (∃ a' c' P, e = .returned (.tuple #[.slice a' b c', .int .i64 0]) ∧ Row W a' P c' ∧ Hs b P ∧ ∀ v, valV P v = valV T (valV A v)) ∧ Below w.heap.size w W := by
  obtain ⟨P, hE, hJ, hP, hv⟩ := hs_join hA hT
  have := hjoin_any a c ca cb A T w hRA hRT
  rw [hA.len, hT.len, hE, hJ] at this
  refine this.mono ?_
  rintro e W ⟨⟨v, rfl, a', c', rfl, hr⟩, hb⟩
  exact ⟨⟨a', c', P, by rw [hP.len], hr, hP, hv⟩, hb⟩
theorem value_hs {b cap : Nat} {R : List V} (h : Hs b R) {a : Option Addr} {w : World} (hR : Row w a R cap) (v : V) :
    Calls Try.prog 15 #[.slice a b cap, .int .u64 (v.toNat : Int)] w fun e W => e = .returned (.int .u64 ((valV R v).toNat : Int)) ∧ Below w.heap.size w W := by
  have := value_any a cap R v w hR
  rwa [h.len] at this
theorem same_hs {b ca cb : Nat} {P Q : List V} {a c : Option Addr} {w : World} (hRP : Row w a P ca) (hRQ : Row w c Q cb) (hP : Hs b P) (hQ : Hs b Q) (e : P = Q) :
    Calls Try.prog 19 #[.slice a b ca, .slice c b cb] w fun e W => e = .returned (.bool true) ∧ Below w.heap.size w W := by
  have := sameList_yes a c ca cb P Q w hRP hRQ e
  rwa [hP.len, hQ.len] at this
end Go.Proofs.Ytodiokladojnjaa.B
