/-
  A literal's bytes as a slice: the mark that the conversion lays; the text whose sum is known.
-/
import Derived.Test.YtiglaeipbcmlnaaDoorNamesD
import Derived.Test.YtiglaeipbcmlnaaDoorHeldW
namespace Go.Proofs.YtiglaeipbcmlnaaDoor.TextW
open Go.RowKit Sha Mem RowW CopyW BookW
set_option linter.unusedVariables false

theorem conv_mark (w : World) (b n c : Nat) (C : Array Value) (h : w.heap[b]? = some (.cells C 5 (0, 0))) :
    ∃ w', (convert 25 25 (.slice (some ⟨b, 0, none⟩) n c)).run Tryd.prog w = .ok (.slice (some ⟨b, 0, none⟩) n c) w' ∧ w'.heap[b]? = some (.cells C 5 (C.size, C.size + 1)) ∧ Upd (fun k => k = b) w w' := by
  have hsh : w.shape? b = some (5, C.size) := by unfold World.shape?; rw [h]
  have hlt := lt_of_block h
  refine ⟨w.freeze ⟨b, C.size, none⟩ 1, ?_, ?_, ?_⟩
  · simp [convert, run_underlying Tryd.underlying25, run_underlying Tryd.underlying5, markStringish, hsh]
  · unfold World.freeze
    rw [if_neg (by decide)]
    simp [Array.getElem?_modify, h]
  · unfold World.freeze
    rw [if_neg (by decide)]
    refine ⟨rfl, rfl, rfl, by simp, fun k hk hn => ?_⟩
    simp [Array.getElem?_modify, Ne.symm hn]
end Go.Proofs.YtiglaeipbcmlnaaDoor.TextW
