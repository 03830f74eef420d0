/-
  A Writer behind changes elsewhere; bytes as a string.
-/
import Derived.Test.YtcdgimapkbaboaaFlagW
import Derived.Laws.BytesArg
namespace Go.Proofs.Ytcdgimapkbaboaa.NamesW
open Go.RowKit Mem Width PutW WriterW ReaderW TakeW FlagW
set_option linter.unusedVariables false

theorem Wr.upd {w w' : World} {b : Nat} {v : Value} {l : List UInt8} {S : Nat → Prop} (h : Wr w b v l) (hu : Upd S w w') (hb : ¬ S b) (hv : ∀ k, own v k → ¬ S k) : Wr w' b v l := by
  refine ⟨by rw [hu.block b (lt_of_block h.1) hb]; exact h.1, ?_⟩
  obtain ⟨h1, h2⟩ := h.2
  refine ⟨h1, ?_⟩
  rcases h2 with h2 | ⟨g, cap, cur, rfl, hg, hh, r⟩
  · exact .inl h2
  · exact .inr ⟨g, cap, cur, rfl, hg, by rw [hu.block g (lt_of_block hh) (hv g rfl)]; exact hh, r⟩

theorem Sl.form {w : World} {v : Value} {l : List UInt8} (h : Sl w v l) : ∃ ao cap, v = .slice ao l.length cap := by
  obtain ⟨ao, cap, rfl, _⟩ := h
  exact ⟨ao, cap, rfl⟩

theorem strOf_map (l : List UInt8) : strOfNums (l.map fun c => (c.toNat : Int)) = ⟨l.toArray⟩ := by
  apply ByteArray.ext
  apply Array.ext'
  rw [strOfNums_data, List.map_map]
  exact List.map_id'' (fun c => by simp) l

theorem conv_sl {w : World} {ao : Option Addr} {cap : Nat} {l : List UInt8} (h : Sl w (.slice ao l.length cap) l) :
    (convert 30 9 (.slice ao l.length cap)).run Try.prog w = .ok (.string ⟨l.toArray⟩) w := by
  obtain ⟨ao', cap', he, h1, h2, h3, h4⟩ := h
  cases he
  cases ao with
  | none =>
    obtain rfl := h3 rfl
    have : l = [] := List.eq_nil_of_length_eq_zero (by omega)
    subst this
    exact run_convert_bytes_nil w 30 5 Try.underlying30 Try.underlying5 0 0 _ Try.underlying9
  | some a =>
    obtain ⟨hsp, hc⟩ := h4 a rfl
    obtain ⟨b, off, sp⟩ := a
    obtain rfl : sp = none := hsp
    have := run_convert_bytes_arg (P := Try.prog) w 30 5 Try.underlying30 Try.underlying5 b off l.length cap (l.map fun c => (c.toNat : Int)) (by simp) (fun i hi => by
      have := hc i hi
      rw [show (⟨b, off, none⟩ : Addr).add i = ⟨b, off + i, none⟩ by unfold Addr.add; split <;> simp_all] at this
      rw [this]
      simp [u8, List.getD, hi]) _ Try.underlying9
    rw [this, strOf_map]
end Go.Proofs.Ytcdgimapkbaboaa.NamesW
