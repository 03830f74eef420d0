/-
  digest.turn and math/bits.RotateLeft32; docketref2.right.
-/
import Derived.Test.YtgcionimhmbgeaaDoorRRows
import Derived.Test.YtgcionimhmbgeaaDoorRSha
import Derived.WalkKit
import Derived.ProofKit
import Derived.Lib.Hide
namespace Go.Proofs.YtgcionimhmbgeaaDoorR.TurnW
open Go.RowKit Sha
set_option linter.unusedVariables false
def Turns (n : Int) : Prop := n = 2 ∨ n = 6 ∨ n = 7 ∨ n = 11 ∨ n = 13 ∨ n = 17 ∨ n = 18 ∨ n = 19 ∨ n = 22 ∨ n = 25
set_option maxHeartbeats 4000000 in
theorem rotate_any (x : UInt32) (n : Int) (hn : Turns n) (w : World) :
    Calls Tryd.prog 106 #[.int .u32 (U x), .int .i64 (-n)] w fun e w' => e = .returned (.int .u32 (U (rotr x n.toNat))) ∧ w' = w := by
  rcases hn with rfl | rfl | rfl | rfl | rfl | rfl | rfl | rfl | rfl | rfl
  · have hb : bits .and .u64 (IntKind.u64.wrap (-2)) 31 = 30 := by decide
    have H := Lib.hid (rot_or x 2)
    go_enter Tryd.func106, Tryd.ntmps106
    go_wp2
    go_ret
    exact ⟨congrArg (fun v => Ending.returned (.int .u32 v)) (by simpa using H.out), rfl⟩
  · have hb : bits .and .u64 (IntKind.u64.wrap (-6)) 31 = 26 := by decide
    have H := Lib.hid (rot_or x 6)
    go_enter Tryd.func106, Tryd.ntmps106
    go_wp2
    go_ret
    exact ⟨congrArg (fun v => Ending.returned (.int .u32 v)) (by simpa using H.out), rfl⟩
  · have hb : bits .and .u64 (IntKind.u64.wrap (-7)) 31 = 25 := by decide
    have H := Lib.hid (rot_or x 7)
    go_enter Tryd.func106, Tryd.ntmps106
    go_wp2
    go_ret
    exact ⟨congrArg (fun v => Ending.returned (.int .u32 v)) (by simpa using H.out), rfl⟩
  · have hb : bits .and .u64 (IntKind.u64.wrap (-11)) 31 = 21 := by decide
    have H := Lib.hid (rot_or x 11)
    go_enter Tryd.func106, Tryd.ntmps106
    go_wp2
    go_ret
    exact ⟨congrArg (fun v => Ending.returned (.int .u32 v)) (by simpa using H.out), rfl⟩
  · have hb : bits .and .u64 (IntKind.u64.wrap (-13)) 31 = 19 := by decide
    have H := Lib.hid (rot_or x 13)
    go_enter Tryd.func106, Tryd.ntmps106
    go_wp2
    go_ret
    exact ⟨congrArg (fun v => Ending.returned (.int .u32 v)) (by simpa using H.out), rfl⟩
  · have hb : bits .and .u64 (IntKind.u64.wrap (-17)) 31 = 15 := by decide
    have H := Lib.hid (rot_or x 17)
    go_enter Tryd.func106, Tryd.ntmps106
    go_wp2
    go_ret
    exact ⟨congrArg (fun v => Ending.returned (.int .u32 v)) (by simpa using H.out), rfl⟩
  · have hb : bits .and .u64 (IntKind.u64.wrap (-18)) 31 = 14 := by decide
    have H := Lib.hid (rot_or x 18)
    go_enter Tryd.func106, Tryd.ntmps106
    go_wp2
    go_ret
    exact ⟨congrArg (fun v => Ending.returned (.int .u32 v)) (by simpa using H.out), rfl⟩
  · have hb : bits .and .u64 (IntKind.u64.wrap (-19)) 31 = 13 := by decide
    have H := Lib.hid (rot_or x 19)
    go_enter Tryd.func106, Tryd.ntmps106
    go_wp2
    go_ret
    exact ⟨congrArg (fun v => Ending.returned (.int .u32 v)) (by simpa using H.out), rfl⟩
  · have hb : bits .and .u64 (IntKind.u64.wrap (-22)) 31 = 10 := by decide
    have H := Lib.hid (rot_or x 22)
    go_enter Tryd.func106, Tryd.ntmps106
    go_wp2
    go_ret
    exact ⟨congrArg (fun v => Ending.returned (.int .u32 v)) (by simpa using H.out), rfl⟩
  · have hb : bits .and .u64 (IntKind.u64.wrap (-25)) 31 = 7 := by decide
    have H := Lib.hid (rot_or x 25)
    go_enter Tryd.func106, Tryd.ntmps106
    go_wp2
    go_ret
    exact ⟨congrArg (fun v => Ending.returned (.int .u32 v)) (by simpa using H.out), rfl⟩
theorem turn_any (x : UInt32) (n : Int) (hn : Turns n) (w : World) :
    Calls Tryd.prog 105 #[.int .u32 (U x), .int .i64 n] w fun e w' => e = .returned (.int .u32 (U (rotr x n.toNat))) ∧ w' = w := by
  have H := Lib.hid hn
  have b : -100 ≤ n ∧ n ≤ 100 := by rcases hn with rfl | rfl | rfl | rfl | rfl | rfl | rfl | rfl | rfl | rfl <;> decide
  obtain ⟨b1, b2⟩ := b
  have e := IntWalk.i64_in (-n) (by omega)
  clear hn
  go_enter Tryd.func105, Tryd.ntmps105
  go_wp2_with (go_at_call 106; refine (rotate_any x n H.out _).mono ?_; rintro e w' ⟨rfl, rfl⟩)
  go_ret
  exact ⟨rfl, rfl⟩
end Go.Proofs.YtgcionimhmbgeaaDoorR.TurnW
