/-
  Regions that draw their order and only add to memory: the words for them; []byte to string.
-/
import Derived.Test.YtgcionimhmbgeaaDoorRBookW
import Derived.Test.YtgcionimhmbgeaaDoorRSumH
import Derived.Test.YtgcionimhmbgeaaDoorRCutW
import Derived.Deep.RegionWith
import Derived.Deep.RegionHeld3
import Derived.Laws.BytesArg
namespace Go.Proofs.YtgcionimhmbgeaaDoorR.HeldW
open Go.RowKit Sha Mem RowW CopyW BookW EqW
set_option linter.unusedVariables false

theorem range_of {w : World} {g : Nat} {l : List Value} {T : TypeId} (h : w.heap[g]? = some (.cells l.toArray T (0, 0))) : w.rangeAt g 0 l := by
  intro j v hv
  rw [Nat.zero_add, cell_of_row _ _ _ _ _ _ h]
  simpa using hv
theorem range_upd {W0 w : World} {g : Nat} {l : List Value} {T : TypeId} (h : W0.heap[g]? = some (.cells l.toArray T (0, 0))) (hu : Upd (fun _ => False) W0 w) : w.rangeAt g 0 l :=
  range_of ((hu.block _ (lt_of_block h) id).trans h)
theorem strOf_map (l : List UInt8) : strOfNums (l.map fun c => (c.toNat : Int)) = ⟨l.toArray⟩ := by
  apply ByteArray.ext
  apply Array.ext'
  rw [strOfNums_data, List.map_map]
  exact List.map_id'' (fun c => by simp) l
theorem conv_sl {w : World} {ao : Option Addr} {n cap : Nat} {l : List UInt8} (h : Sl w (.slice ao n cap) l) :
    (convert 25 9 (.slice ao n cap)).run Tryd.prog w = .ok (.string ⟨l.toArray⟩) w := by
  obtain ⟨ao', cap', he, h1, h2, h3, h4⟩ := h
  cases he
  cases ao with
  | none =>
    obtain rfl := h3 rfl
    have : l = [] := List.eq_nil_of_length_eq_zero (by omega)
    subst this
    exact run_convert_bytes_nil w 25 5 Tryd.underlying25 Tryd.underlying5 0 0 _ Tryd.underlying9
  | some a =>
    obtain ⟨hsp, hc⟩ := h4 a rfl
    obtain ⟨b, off, sp⟩ := a
    obtain rfl : sp = none := hsp
    have := run_convert_bytes_arg (P := Tryd.prog) w 25 5 Tryd.underlying25 Tryd.underlying5 b off l.length cap (l.map fun c => (c.toNat : Int)) (by simp) (fun i hi => by
      have := hc i hi
      rw [show (⟨b, off, none⟩ : Addr).add i = ⟨b, off + i, none⟩ by unfold Addr.add; split <;> simp_all] at this
      rw [this]
      simp [u8, List.getD, hi]) _ Tryd.underlying9
    rw [this, strOf_map]
theorem dig_all (D : List UInt8) : (D.map u8).toArray.all (·.oneCell') = true := by simpa using one_of D
theorem dig_size (D : List UInt8) (h : D.length = 32) : (Tryd.prog.info? 23).map (·.size) = some (D.map u8).toArray.size := by rw [SumH.size32]; simp [h]
theorem dig_size' (D : List UInt8) (h : D.length = 32) : (Tryd.prog.info? 23).map (·.size) = some (D.map u8).length := by rw [SumH.size32]; simp [h]
theorem dig_old (D : List UInt8) (h : D.length = 32) : SumH.AD.size = (D.map u8).toArray.size := by simp [h, SumH.AD]
theorem form {w : World} {v : Value} {l : List UInt8} (h : Sl w v l) : ∃ ao cap, v = .slice ao l.length cap := by
  obtain ⟨ao, cap, rfl, _⟩ := h
  exact ⟨ao, cap, rfl⟩
end Go.Proofs.YtgcionimhmbgeaaDoorR.HeldW
