/-
  Arguments opened: a slice of bytes; whole numbers.
-/
import Derived.Test.YtgcionimhmbgeaaDoorRRowW
import Derived.WalkKit
import Derived.ProofKit
import Derived.OpenShut
import Derived.ChangeOld
import Derived.SizedLaws
namespace Go.Proofs.YtgcionimhmbgeaaDoorR.OpenB
open Go.ChangeShapes Go.WideShapes Go.ChangeAt Go.RowKit Mem
set_option linter.unusedVariables false

theorem laidOut : laidOutB Tryd.prog = true := by kernel_rfl
theorem cells8 : Tryd.prog.cellsOf 5 = 1 := by kernel_rfl
theorem bytes8 : Tryd.prog.bytesOf 5 = 1 := by kernel_rfl

/-- bytes out of their numbers -/
def bs (zs : List Int) : List UInt8 := zs.map fun n => UInt8.ofNat n.toNat
theorem u8_bs (n : Int) (h : (Lit.int .u8 n).wf = true) : u8 (UInt8.ofNat n.toNat) = .int .u8 n := by
  have hb : 0 ≤ n ∧ n ≤ 255 := by simpa [Lit.wf, IntKind.min, IntKind.max, IntKind.signed, IntKind.bits] using h
  unfold u8
  rw [UInt8.toNat_ofNat']
  congr 1
  omega

theorem wf64 {n : Int} (h : (Lit.int .i64 n).wf = true) : -9223372036854775808 ≤ n ∧ n ≤ 9223372036854775807 := by
  simpa [Lit.wf, IntKind.min, IntKind.max, IntKind.signed, IntKind.bits] using h

theorem lt_of_shape {w : World} {b : Nat} {x : TypeId × Nat} (h : w.shape? b = some x) : b < w.heap.size := by
  unfold World.shape? at h
  rcases Nat.lt_or_ge b w.heap.size with hlt | hge
  · exact hlt
  · rw [Array.getElem?_eq_none hge] at h; cases h

set_option maxRecDepth 100000 in
/-- A slice of bytes that came in. -/
theorem open_bytes {H : Type} {enc : TypeId × Value → H} {w : World} {b0 : Nat} {v : Value} {d : DataW H} {p : List MemPlace}
    (hv : Value.okWide Tryd.prog w .any b0 25 v) (h : DataW.Trod enc Tryd.prog w 0 (fun _ => true) true 25 v d p) :
    ∃ l : List UInt8, ∃ ao cap, v = .slice ao l.length cap ∧ Sl w v l ∧ (∀ k, own v k → k < w.heap.size) ∧
      (l = [] ∨ ∃ elems spare, d = .slice elems spare ∧ elems.length = l.length ∧ elems.length + spare.length = cap) := by
  obtain ⟨a0, len, cap, rfl⟩ := okWide_slice Tryd.underlying25 hv
  obtain ⟨fuel, hf⟩ := h
  rcases open_ints Tryd.underlying25 Tryd.underlying5 cells8 hf with ⟨hcs, hx⟩ | ⟨a, len', cap', zs, hcs, _, hl, hm, hz, hx, hcell, hwz⟩
  · have hcs' := (List.cons.inj hcs).1
    injection hcs' with e1 e2 e3
    subst e1 e2 e3
    exact ⟨[], none, 0, rfl, ⟨none, 0, rfl, Nat.le_refl _, Nat.zero_le _, fun _ => rfl, fun _ ha => by cases ha⟩, by simp [own, Value.ownBlock], .inl rfl⟩
  · have hcs' := (List.cons.inj hcs).1
    injection hcs' with e1 e2 e3
    subst e1 e2 e3
    have hz' : zs.length = cap := by simpa using hz
    have hh : w.has Tryd.prog .any b0 a 5 cap := by
      have h2 := hv
      unfold Value.okWide at h2
      rw [Tryd.underlying25] at h2
      unfold Cell.okWide at h2
      rw [Tryd.underlying25] at h2
      unfold Cell.ok at h2
      rw [Tryd.underlying25] at h2
      exact h2.2.2
    obtain ⟨_, hsp, row, cells, hsh, _⟩ := hh
    have hlb : a.block < w.heap.size := lt_of_shape hsh
    have hbl : (bs (zs.take len)).length = len := by simp [bs]; omega
    refine ⟨bs (zs.take len), some a, cap, by rw [hbl], ⟨some a, cap, by rw [hbl], by rw [hbl]; exact hl, hm, by simp, fun a' ha => ?_⟩, fun k hk => ?_, ?_⟩
    · injection ha with ha
      subst ha
      refine ⟨hsp, fun i hi => ?_⟩
      rw [hbl] at hi
      rw [hcell i (by omega)]
      have hi' : i < zs.length := by omega
      have e : (bs (zs.take len)).getD i 0 = UInt8.ofNat (zs[i]).toNat := by
        unfold bs
        rw [List.getD_eq_getElem?_getD, List.getElem?_map, List.getElem?_take_of_lt hi, List.getElem?_eq_getElem hi']
        rfl
      rw [e, u8_bs _ (hwz _ (List.getElem_mem hi')), List.getD_eq_getElem?_getD, List.getElem?_eq_getElem hi']
      rfl
    · simp [own, Value.ownBlock] at hk
      omega
    · right
      have hd := (Prod.mk.inj hx).1
      refine ⟨_, _, hd, by rw [hbl]; simp [lits]; omega, by simp [lits]; omega⟩
end Go.Proofs.YtgcionimhmbgeaaDoorR.OpenB
