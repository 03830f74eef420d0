/-
  A slice whose reading is small is short.
-/
import Derived.Test.YtgfdnljblfkhkabDoorRows
namespace Go.Proofs.YtgfdnljblfkhkabDoor.Bulk
theorem some_ {H : Type} (d : DataW H) : 0 < Rows.uptoBulk d := by
  rcases d with l | _ | _ | _ | _ | _ | _ | _
  · rcases l with _ | _ | _ | _ | _ <;> (unfold Rows.uptoBulk; omega)
  all_goals (unfold Rows.uptoBulk; omega)
theorem many {H : Type} : ∀ l : List (DataW H), l.length ≤ Rows.uptoBulkAll l
  | [] => Nat.zero_le _
  | d :: r => by
    have h1 := some_ d
    have h2 := many r
    rw [List.length_cons, Rows.uptoBulkAll]
    omega
/-- a slice has no more places than its reading has bulk -/
theorem slice_le {H : Type} (elems spare : List (DataW H)) : elems.length + spare.length < Rows.uptoBulk (.slice elems spare) := by
  have h1 := many elems
  have h2 := many spare
  rw [Rows.uptoBulk]
  omega
end Go.Proofs.YtgfdnljblfkhkabDoor.Bulk
