/-
  Arguments opened: a digest; a slice of bytes.
-/
import Derived.Test.YtiglaeipbcmlnaaDoorBookW
import Derived.Test.YtiglaeipbcmlnaaDoorLaidW
import Derived.WalkKit
import Derived.ProofKit
import Derived.OpenShut
import Derived.ChangeOld
import Derived.SizedLaws
namespace Go.Proofs.YtiglaeipbcmlnaaDoor.OpenW
open Go.ChangeShapes Go.WideShapes Go.ChangeAt Go.RowKit Mem
set_option linter.unusedVariables false

theorem laidOut : laidOutB Tryd.prog = true := by kernel_rfl
theorem cellsD : Tryd.prog.cellsOf 23 = 32 := by kernel_rfl
theorem cells8 : Tryd.prog.cellsOf 5 = 1 := by kernel_rfl
theorem bytes8 : Tryd.prog.bytesOf 5 = 1 := by kernel_rfl

/-- bytes out of their numbers -/
def bs (zs : List Int) : List UInt8 := zs.map fun n => UInt8.ofNat n.toNat
theorem u8_bs (n : Int) (h : (Lit.int .u8 n).wf = true) : u8 (UInt8.ofNat n.toNat) = .int .u8 n := by
  have hb : 0 ≤ n ∧ n ≤ 255 := by simpa [Lit.wf, IntKind.min, IntKind.max, IntKind.signed, IntKind.bits] using h
  unfold u8
  rw [UInt8.toNat_ofNat']
  congr 1
  omega

set_option maxRecDepth 100000 in
/-- A digest that came in: 32 bytes. -/
theorem open_digest {H : Type} {enc : TypeId × Value → H} {w : World} {base b0 : Nat} {spare : Nat → Bool} {held : Bool} {v : Value} {d : DataW H} {p : List MemPlace}
    (hv : Value.okWide Tryd.prog w .any b0 23 v) (h : DataW.Trod enc Tryd.prog w base spare held 23 v d p) :
    ∃ D : List UInt8, D.length = 32 ∧ v = .agg (D.map u8).toArray := by
  obtain ⟨cs, rfl, hsz, _⟩ : ∃ cs, v = .agg cs ∧ cs.size = Tryd.prog.cellsOf 23 ∧ Row.okWide Tryd.prog w .any b0 23 cs := by
    simpa [Value.okWide, Tryd.underlying23] using hv
  rw [cellsD] at hsz
  obtain ⟨fuel, hf⟩ := h
  obtain ⟨xs, m, _, _, _, hlen, hel⟩ := DataW.trod_array Tryd.underlying23 hf
  rw [cells8] at hel
  have hc : ∀ i (hi : i < cs.toList.length), ∃ c : UInt8, cs.toList[i] = u8 c := by
    intro i hi
    have hi32 : i < 32 := by simpa [hsz] using hi
    have h1 := hel i hi32
    have hx : xs[i]? = some (xs[i]'(by omega)) := List.getElem?_eq_getElem (by omega)
    rw [hx] at h1
    have e1 : (((Value.agg cs).cells.toList.drop (i * 1)).take 1) = [cs.toList[i]] := by
      simp only [Value.cells, Nat.mul_one]
      rw [List.drop_eq_getElem_cons hi]
      rfl
    rw [e1] at h1
    obtain ⟨n, e, _, hw⟩ := DataW.trod_int Tryd.underlying5 h1
    have e2 : cs.toList[i] = .int .u8 n := by simpa using e
    exact ⟨UInt8.ofNat n.toNat, by rw [e2, u8_bs n hw]⟩
  refine ⟨cs.toList.map (fun v => match v with | .int _ n => UInt8.ofNat n.toNat | _ => 0), by simp [hsz], ?_⟩
  congr 1
  apply Array.toList_inj.1
  rw [List.map_map]
  apply List.ext_getElem
  · simp
  · intro i h1 h2
    obtain ⟨c, e⟩ := hc i h1
    simp only [List.getElem_map, Function.comp]
    rw [e]
    unfold u8
    simp
theorem wf64 {n : Int} (h : (Lit.int .i64 n).wf = true) : -9223372036854775808 ≤ n ∧ n ≤ 9223372036854775807 := by
  simpa [Lit.wf, IntKind.min, IntKind.max, IntKind.signed, IntKind.bits] using h

theorem lt_of_shape {w : World} {b : Nat} {x : TypeId × Nat} (h : w.shape? b = some x) : b < w.heap.size := by
  unfold World.shape? at h
  rcases Nat.lt_or_ge b w.heap.size with hlt | hge
  · exact hlt
  · rw [Array.getElem?_eq_none hge] at h; cases h

set_option maxRecDepth 100000 in
/-- A slice of bytes that came in. -/
theorem open_bytes {H : Type} {enc : TypeId × Value → H} {w : World} {b0 : Nat} {v : Value} {d : DataW H} {p : List MemPlace}
    (hv : Value.okWide Tryd.prog w .any b0 25 v) (h : DataW.Trod enc Tryd.prog w 0 (fun _ => true) true 25 v d p) :
    ∃ l : List UInt8, ∃ ao cap, v = .slice ao l.length cap ∧ Sl w v l ∧ (∀ k, own v k → k < w.heap.size) ∧
      (l = [] ∨ ∃ elems spare, d = .slice elems spare ∧ elems.length = l.length ∧ elems.length + spare.length = cap) := by
  obtain ⟨a0, len, cap, rfl⟩ := okWide_slice Tryd.underlying25 hv
  obtain ⟨fuel, hf⟩ := h
  rcases open_ints Tryd.underlying25 Tryd.underlying5 cells8 hf with ⟨hcs, hx⟩ | ⟨a, len', cap', zs, hcs, _, hl, hm, hz, hx, hcell, hwz⟩
  · have hcs' := (List.cons.inj hcs).1
    injection hcs' with e1 e2 e3
    subst e1 e2 e3
    exact ⟨[], none, 0, rfl, ⟨none, 0, rfl, Nat.le_refl _, Nat.zero_le _, fun _ => rfl, fun _ ha => by cases ha⟩, by simp [own, Value.ownBlock], .inl rfl⟩
  · have hcs' := (List.cons.inj hcs).1
    injection hcs' with e1 e2 e3
    subst e1 e2 e3
    have hz' : zs.length = cap := by simpa using hz
    have hh : w.has Tryd.prog .any b0 a 5 cap := by
      have h2 := hv
      unfold Value.okWide at h2
      rw [Tryd.underlying25] at h2
      unfold Cell.okWide at h2
      rw [Tryd.underlying25] at h2
      unfold Cell.ok at h2
      rw [Tryd.underlying25] at h2
      exact h2.2.2
    obtain ⟨_, hsp, row, cells, hsh, _⟩ := hh
    have hlb : a.block < w.heap.size := lt_of_shape hsh
    have hbl : (bs (zs.take len)).length = len := by simp [bs]; omega
    refine ⟨bs (zs.take len), some a, cap, by rw [hbl], ⟨some a, cap, by rw [hbl], by rw [hbl]; exact hl, hm, by simp, fun a' ha => ?_⟩, fun k hk => ?_, ?_⟩
    · injection ha with ha
      subst ha
      refine ⟨hsp, fun i hi => ?_⟩
      rw [hbl] at hi
      rw [hcell i (by omega)]
      have hi' : i < zs.length := by omega
      have e : (bs (zs.take len)).getD i 0 = UInt8.ofNat (zs[i]).toNat := by
        unfold bs
        rw [List.getD_eq_getElem?_getD, List.getElem?_map, List.getElem?_take_of_lt hi, List.getElem?_eq_getElem hi']
        rfl
      rw [e, u8_bs _ (hwz _ (List.getElem_mem hi')), List.getD_eq_getElem?_getD, List.getElem?_eq_getElem hi']
      rfl
    · simp [own, Value.ownBlock] at hk
      omega
    · right
      have hd := (Prod.mk.inj hx).1
      refine ⟨_, _, hd, by rw [hbl]; simp [lits]; omega, by simp [lits]; omega⟩
end Go.Proofs.YtiglaeipbcmlnaaDoor.OpenW
