/-
  docketlaw1.OctetCuts: the ends of the accepted, and what its first loop keeps.
-/
import Derived.Test.YtcdgimapkbaboaaBackD
import Derived.Test.YtcdgimapkbaboaaCutL
import Derived.Test.YtcdgimapkbaboaaIntsW
namespace Go.Proofs.Ytcdgimapkbaboaa.OcW
open Go.RowKit Mem RowW PutW TakeW FlagW ReaderW ReadB ReadT ReadD ReadG StrW RawW TextsW DigW ForthL LaysW OpenOp ListsB LaysD OpenF BeyW AgainB BackL BackW
set_option linter.unusedVariables false
set_option linter.unusedSimpArgs false

/-- behind each accepted step: how much is laid -/
def endsOf (ls : List OpD) : List Value := (List.range ls.length).map fun j => .int .i64 ((allD (ls.take (j + 1))).length : Int)
theorem endsOf_len (ls : List OpD) : (endsOf ls).length = ls.length := by simp [endsOf]
theorem endsOf_snoc (ls : List OpD) (o : OpD) : endsOf (ls ++ [o]) = endsOf ls ++ [.int .i64 ((allD ls ++ newsD o).length : Int)] := by
  unfold endsOf
  rw [List.length_append, List.length_singleton, List.range_succ, List.map_append, List.map_singleton]
  congr 1
  · apply List.map_congr_left
    intro j hj
    have := List.mem_range.1 hj
    rw [List.take_append_of_le_length (by omega)]
  · rw [List.take_of_length_le (by simp), allD_snoc]
theorem endsOf_at (ls : List OpD) (j : Nat) (h : j < ls.length) : (endsOf ls)[j]? = some (.int .i64 ((allD (ls.take (j + 1))).length : Int)) := by
  unfold endsOf
  simp [h]
theorem endsOf_last (ls : List OpD) (h : 0 < ls.length) : (endsOf ls)[ls.length - 1]? = some (.int .i64 ((allD ls).length : Int)) := by
  rw [endsOf_at ls _ (by omega), show ls.length - 1 + 1 = ls.length by omega, List.take_length]
/-- behind k steps of the script -/
def LC1 (w w2 : World) (os : List OpD) (od : OpD) (wb : Nat) (lv ev i : Value) (wr : World) : Prop :=
  ∃ (k : Nat) (v : Value) (ls : List OpD) (cl : List (List Value)), k ≤ os.length ∧ i = .int .i64 k ∧ Wr wr wb v (allD ls) ∧ (∀ j, own v j → w2.heap.size ≤ j) ∧ wr.ownsRow 0 54 12 lv ls.length cl.flatten ∧ (∀ j, own lv j → w2.heap.size ≤ j) ∧
    wr.ownsRow 0 3 1 ev ls.length (endsOf ls) ∧ (∀ j, own ev j → w2.heap.size ≤ j) ∧
    LaidOk w ls cl od ∧ (allD ls).length ≤ 4 + 2 * costs (os.take k) ∧ ls.length ≤ k + 1 ∧ 0 < ls.length ∧ (∀ o ∈ ls, 0 < (newsD o).length) ∧ Upd (fun j => j = wb) w2 wr
theorem seg_take (l : List UInt8) (a m n : Nat) (h : a + m ≤ n) : seg (l.take n) a m = seg l a m := by
  unfold seg
  rw [List.drop_take, List.take_take, Nat.min_eq_left (by omega)]
/-- behind j of the accepted, the bytes cut at nn -/
def LC2 (w5 : World) (ls : List OpD) (rb : Nat) (rv : Value) (nn : Nat) (b i : Value) (wr : World) : Prop :=
  ∃ j : Nat, j ≤ ls.length ∧ i = .int .i64 j ∧ b = .int .i64 ((allD (ls.take j)).length : Int) ∧ Rd wr rb rv ((allD ls).take nn) ((allD (ls.take j)).length, 0) ∧ (allD (ls.take j)).length ≤ nn ∧ Upd (fun i => i = rb) w5 wr
end Go.Proofs.Ytcdgimapkbaboaa.OcW
