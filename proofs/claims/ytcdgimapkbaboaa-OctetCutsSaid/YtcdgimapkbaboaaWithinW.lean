/-
  docketbook.Within from 0 on; the head of a slice of bytes.
-/
import Derived.Test.YtcdgimapkbaboaaMem
import Derived.Test.YtcdgimapkbaboaaRowW
namespace Go.Proofs.Ytcdgimapkbaboaa.WithinW
open Go.RowKit Mem RowW
set_option linter.unusedVariables false
set_option linter.unusedSimpArgs false

/-- a number brought into 0 .. hi -/
def WithinAt (hi : Int) (w : World) (e : Ending) (w' : World) : Prop := ∃ x : Int, e = .returned (.int .i64 x) ∧ 0 ≤ x ∧ x ≤ hi ∧ w = w'
theorem within_any (n hi : Int) (w : World) (hn : -9223372036854775808 ≤ n ∧ n ≤ 9223372036854775807) (h0 : 0 ≤ hi) (h1 : hi ≤ 4611686018427387904) :
    Calls Try.prog 41 #[.int .i64 n, .int .i64 0, .int .i64 hi] w (WithinAt hi w) := by
  have hr1 : n.tmod (hi + 1) < hi + 1 := Int.tmod_lt_of_pos _ (by omega)
  have hr2 : -(hi + 1) < n.tmod (hi + 1) := by
    have := Int.tmod_lt_of_pos (-n) (show 0 < hi + 1 by omega)
    rw [Int.neg_tmod] at this
    omega
  have hz : ((hi + 1 : Int) == 0) = false := by rw [beq_eq_false_iff_ne]; omega
  obtain ⟨hn1, hn2⟩ := hn
  by_cases hs : n.tmod (hi + 1) < 0
  · go_enter Try.func41, Try.ntmps41
    go_wp2
    go_ret
    exact ⟨_, rfl, by omega, by omega, rfl⟩
  · go_enter Try.func41, Try.ntmps41
    go_wp2
    go_ret
    exact ⟨_, rfl, by omega, by omega, rfl⟩
theorem sl_take' {w : World} {ao : Option Addr} {n cap k : Nat} {l : List UInt8} (h : Sl w (.slice ao n cap) l) (hk : k ≤ l.length) : Sl w (.slice ao k cap) (l.take k) := by
  obtain ⟨ao', cap', h1, h2, h3, h4, h5⟩ := h
  injection h1 with e1 e2 e3
  subst e1 e3
  have hl : (l.take k).length = k := by simp; omega
  refine ⟨ao, cap, by rw [hl], by omega, h3, h4, fun a ha => ⟨(h5 a ha).1, fun i hi => ?_⟩⟩
  rw [hl] at hi
  rw [(h5 a ha).2 i (by omega)]
  congr 2
  rw [List.getD_eq_getElem?_getD, List.getD_eq_getElem?_getD, List.getElem?_take_of_lt hi]
end Go.Proofs.Ytcdgimapkbaboaa.WithinW
