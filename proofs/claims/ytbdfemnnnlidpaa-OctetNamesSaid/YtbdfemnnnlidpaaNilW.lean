/-
  octet.Put and octet.Take of nil.
-/
import Derived.Test.YtbdfemnnnlidpaaMem
import Derived.Test.YtbdfemnnnlidpaaWidthW
import Derived.Outline
import Derived.WalkSpells
namespace Go.Proofs.Ytbdfemnnnlidpaa.NilW
open Go.RowKit Mem Width
set_option linter.unusedVariables false
theorem put8nil (k : Int) (w : World) : Calls Try.prog 10 #[.pointer none, .int .u8 k] w fun e w' => e = .returned (.tuple #[]) ∧ w = w' := by
  go_enter Try.func10, Try.ntmps10
  go_wp2
  exact bodyPost_ret (v := .tuple #[]) (by simp [results, Try.results10, go_sem]) rfl ⟨rfl, rfl⟩
theorem put64nil (k : Int) (w : World) : Calls Try.prog 11 #[.pointer none, .int .u64 k] w fun e w' => e = .returned (.tuple #[]) ∧ w = w' := by
  go_enter Try.func11, Try.ntmps11
  go_wp2
  exact bodyPost_ret (v := .tuple #[]) (by simp [results, Try.results11, go_sem]) rfl ⟨rfl, rfl⟩
theorem take8nil (w : World) : Calls Try.prog 12 #[.pointer none] w fun e w' => e = .returned (.int .u8 0) ∧ w = w' := by
  go_enter Try.func12, Try.ntmps12
  go_wp2
  go_ret
  exact ⟨rfl, rfl⟩
theorem take64nil (w : World) : Calls Try.prog 13 #[.pointer none] w fun e w' => e = .returned (.int .u64 0) ∧ w = w' := by
  go_enter Try.func13, Try.ntmps13
  go_wp2
  go_ret
  exact ⟨rfl, rfl⟩
end Go.Proofs.Ytbdfemnnnlidpaa.NilW
