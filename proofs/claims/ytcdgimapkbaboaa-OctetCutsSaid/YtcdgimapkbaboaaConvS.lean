/-
  []byte to string; a literal's bytes as a slice.
-/
import Derived.Test.YtcdgimapkbaboaaCopyW
import Derived.Laws.BytesArg
import Derived.Lib.SlBytesConst
namespace Go.Proofs.Ytcdgimapkbaboaa.ConvS
open Go.RowKit Sha Mem RowW CopyW
set_option linter.unusedVariables false

theorem strOf_map (l : List UInt8) : strOfNums (l.map fun c => (c.toNat : Int)) = ⟨l.toArray⟩ := by
  apply ByteArray.ext
  apply Array.ext'
  rw [strOfNums_data, List.map_map]
  exact List.map_id'' (fun c => by simp) l
theorem conv_sl {w : World} {ao : Option Addr} {n cap : Nat} {l : List UInt8} (h : Sl w (.slice ao n cap) l) :
    (convert 30 9 (.slice ao n cap)).run Try.prog w = .ok (.string ⟨l.toArray⟩) w := by
  obtain ⟨ao', cap', he, h1, h2, h3, h4⟩ := h
  cases he
  cases ao with
  | none =>
    obtain rfl := h3 rfl
    have : l = [] := List.eq_nil_of_length_eq_zero (by omega)
    subst this
    exact run_convert_bytes_nil w 30 5 Try.underlying30 Try.underlying5 0 0 _ Try.underlying9
  | some a =>
    obtain ⟨hsp, hc⟩ := h4 a rfl
    obtain ⟨b, off, sp⟩ := a
    obtain rfl : sp = none := hsp
    have := run_convert_bytes_arg (P := Try.prog) w 30 5 Try.underlying30 Try.underlying5 b off l.length cap (l.map fun c => (c.toNat : Int)) (by simp) (fun i hi => by
      have := hc i hi
      rw [show (⟨b, off, none⟩ : Addr).add i = ⟨b, off + i, none⟩ by unfold Addr.add; split <;> simp_all] at this
      rw [this]
      simp [u8, List.getD, hi]) _ Try.underlying9
    rw [this, strOf_map]
theorem sl_row (w : World) (g : Nat) (T : TypeId) (xs : List UInt8) (fr : Nat × Nat) (n : Nat) (hn : n = xs.length) (hm : xs.length ≤ maxLen) (hg : w.heap[g]? = some (.cells (xs.map u8).toArray T fr)) : Sl w (.slice (some ⟨g, 0, none⟩) n n) xs := by
  subst hn
  refine ⟨_, xs.length, rfl, Nat.le_refl _, hm, by simp, fun a ha => ?_⟩
  injection ha with ha
  subst ha
  refine ⟨rfl, fun i hi => ?_⟩
  rw [add_none, Nat.zero_add, cell_of_row _ _ _ _ _ _ hg, List.getElem?_toArray, List.getElem?_map, List.getD_eq_getElem?_getD, List.getElem?_eq_getElem hi]
  rfl
theorem str_eq (a b : List UInt8) : ((⟨a.toArray⟩ : ByteArray) == ⟨b.toArray⟩) = (a == b) := by
  show (a.toArray == b.toArray) = (a == b)
  simp
end Go.Proofs.Ytcdgimapkbaboaa.ConvS
