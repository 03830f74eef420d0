/-
  digest.Empty.
-/
import Derived.Test.YtiglaeipbcmlnaaDoorBranchW
namespace Go.Proofs.YtiglaeipbcmlnaaDoor.EmptyW
open Go.RowKit Sha TurnW Mem RowW SpreadW MixW HashM CopyW WriteW WriteN EndW SumH NewW EqW CutW OfW LeafW BranchW
set_option linter.unusedVariables false

def emp (width : Int) : Nat → List UInt8
  | 0 => ofM width 5 []
  | j + 1 => ofM width 4 [emp width j, emp width j]
theorem emp_len (width : Int) (j : Nat) : (emp width j).length = 32 := by cases j <;> exact of_len _ _ _
def LE (R D : Nat) (width : Int) (n : Nat) (w0 : World) (i : Value) (wr : World) : Prop :=
  ∃ j : Nat, j ≤ n ∧ i = .int .i64 j ∧ wr.heap[R]? = some (.cells AD 23 (0, 0)) ∧ wr.heap[D]? = some (.cells ((emp width j).map u8).toArray 23 (0, 0)) ∧ Upd (fun _ => False) w0 wr

set_option maxHeartbeats 4000000 in
set_option maxRecDepth 100000 in
theorem empty_any (width height : Int) (n : Nat) (hn : (n : Int) = max 0 (min height 256)) (w : World)
    (hk : Kw w) (hg : 0 < w.heap.size) :
    Calls Tryd.prog 16 #[.int .i64 width, .int .i64 height] w fun e w' => e = .returned (.agg ((emp width n).map u8).toArray) ∧ Upd (fun _ => False) w w' := by
  obtain ⟨Y, hY⟩ : ∃ Y, Y = ((emp width n).map u8).toArray := ⟨_, rfl⟩
  have hl32 := emp_len width n
  have HY1 : Hid (Y.all (·.oneCell') = true) := by show _ = _; rw [hY]; simpa using one_of (emp width n)
  have HYs : Hid ((Tryd.prog.info? 23).map (·.size) = some Y.size) := by show _ = _; rw [size32, hY]; simp [hl32]
  have HYl : Hid (AD.size = Y.size) := by show _ = _; rw [hY]; simp [hl32, AD]
  obtain ⟨X, hX⟩ : ∃ X, X = ((emp width 0).map u8).toArray := ⟨_, rfl⟩
  have HX1 : Hid (X.all (·.oneCell') = true) := by show _ = _; rw [hX]; simpa using one_of (emp width 0)
  have HXs : Hid ((Tryd.prog.info? 23).map (·.size) = some X.size) := by show _ = _; rw [size32, hX]; simp [emp_len width 0]
  have HXl : Hid (AD.size = X.size) := by show _ = _; rw [hX]; simp [emp_len width 0, AD]
  have HX := Lib.hid hX
  have HY := Lib.hid hY
  have hu0 : Upd (fun _ => False) w (w.alloc (.cells AD 23)) := (Upd.refl _ w).alloc _
  have hr0 : (w.alloc (.cells AD 23)).heap[w.heap.size]? = some (.cells AD 23 (0, 0)) := heap_alloc_new w _
  have HO := Lib.hid (of_any width 5 none 0 [] (fun k => False) _ (slL_nil (w.alloc (.cells AD 23)) 0 rfl _)
    (by intro k hk; exact hk.elim) (hk.upd hu0 id) (by first | (simp; done) | (simp; omega)) (by simp) (by simp [cat]))
  have HU0 := Lib.hid hu0
  have HR0 := Lib.hid hr0
  have Hk := Lib.hid hk
  have Hg := Lib.hid hg
  have Hn := Lib.hid hn
  have hz := zeroD
  clear hY hX hk hg hn hl32 hu0 hr0
  go_enter Tryd.func16, Tryd.ntmps16
  go_wp2_with (first
    | (go_at_call 41; refine HO.out.mono ?_; rintro e w1 ⟨rfl, hu1⟩; have HU1 := Lib.hid hu1; have HR1 : Hid (w1.heap[w.heap.size]? = some (.cells AD 23 (0, 0))) := (hu1.block _ (lt_of_block HR0.out) id).trans HR0.out; clear hu1)
    | ((with_reducible refine wpList_store_new (o := ⟨none, .store 23 (.tmp 5) (.tmp 7), _, _, _, _⟩) ?_ _ (.tmp 5) (.tmp 7) ?_ w1.heap.size X ?_ ?_ 23 AD (heap_alloc_new _ _) HXs.out HXl.out HX1.out ?_); rfl; rfl; rfl; (rw [HX.out]; rfl); intro w2 Hg2 Hu2))
  rw [← Hn.out]
  have hs1 : w.heap.size < w1.heap.size := lt_of_block HR1.out
  have HS : Hid (LE w.heap.size w1.heap.size width n w (.int .i64 0) w2) := by
    refine ⟨0, Nat.zero_le _, rfl, ?_, ?_, ((HU0.out.trans (HU1.out.mono (fun _ _ h => h.elim))).alloc (.cells AD 23)).trans (Hu2.out.mono (fun k _ e => .inr (by omega)))⟩
    · rw [Hu2.out.block _ (by simp; omega) (by omega), Below.heap_alloc _ _ _ (by omega)]; exact HR1.out
    · rw [← HX.out]; exact Hg2.out
  clear HO HU0 HU1 Hu2 Hg2 HX HX1 HXs HXl
  go_loopw [11] (fun i wr => LE w.heap.size w1.heap.size width n w i wr) (fun i _ => (n - (intOf i).toNat))
  case atStart => exact HS.out
  case round =>
    clear HS HR0 HR1
    obtain ⟨j, hj, rfl, hr, hg, hu⟩ := hrel
    have hn256 : n ≤ 256 := by have := Hn.out; omega
    obtain ⟨E, hE⟩ : ∃ E, E = ((emp width j).map u8).toArray := ⟨_, rfl⟩
    have HEs : Hid ((Tryd.prog.info? 23).map (·.size) = some E.size) := by show _ = _; rw [size32, hE]; simp [emp_len width j]
    rw [← hE] at hg
    have HG := Lib.hid hg
    have HR := Lib.hid hr
    have HU := Lib.hid hu
    by_cases hlt : j < n
    · have hltI : (j : Int) < (n : Int) := by omega
      obtain ⟨F, hF⟩ : ∃ F, F = ((emp width (j + 1)).map u8).toArray := ⟨_, rfl⟩
      have HF1 : Hid (F.all (·.oneCell') = true) := by show _ = _; rw [hF]; simpa using one_of (emp width (j + 1))
      have HFs : Hid ((Tryd.prog.info? 23).map (·.size) = some F.size) := by show _ = _; rw [size32, hF]; simp [emp_len width (j + 1)]
      have HFl : Hid (E.size = F.size) := by show _ = _; rw [hF, hE]; simp [emp_len]
      have HB := Lib.hid (branch_any width (emp width j) (emp width j) (emp_len _ _) (emp_len _ _) wr (Hk.out.upd hu id) (by have := Hg.out; have := hu.size; omega))
      rw [← hE, show ofM width 4 [emp width j, emp width j] = emp width (j + 1) from rfl, ← hF] at HB
      have HF := Lib.hid hF
      clear hr hg hu hE hF
      go_wp2_with (first
        | ((with_reducible refine wpList_load_row (o := ⟨some 14, _, _, _, _, _⟩) ?_ _ (.tmp 5) ?_ w1.heap.size ?_ 23 E (0, 0) _ HG.out Tryd.underlying23 ?_ HEs.out ?_); rfl; rfl; rfl; rfl)
        | ((with_reducible refine wpList_load_row (o := ⟨some 15, _, _, _, _, _⟩) ?_ _ (.tmp 5) ?_ w1.heap.size ?_ 23 E (0, 0) _ HG.out Tryd.underlying23 ?_ HEs.out ?_); rfl; rfl; rfl; rfl)
        | (go_at_call 34; refine HB.out.mono ?_; rintro e w3 ⟨rfl, hu3⟩; have HU3 := Lib.hid hu3; have HG3 : Hid (w3.heap[w1.heap.size]? = some (.cells E 23 (0, 0))) := (hu3.block _ (lt_of_block HG.out) id).trans HG.out; have HR3 : Hid (w3.heap[w.heap.size]? = some (.cells AD 23 (0, 0))) := (hu3.block _ (lt_of_block HR.out) id).trans HR.out; clear hu3)
        | ((with_reducible refine wpList_store_new (o := ⟨none, .store 23 (.tmp 5) (.tmp 16), _, _, _, _⟩) ?_ _ (.tmp 5) (.tmp 16) ?_ w1.heap.size F ?_ ?_ 23 E HG3.out HFs.out HFl.out HF1.out ?_); rfl; rfl; rfl; rfl; intro w4 Hg4 Hu4))
      go_roundw
      case rel => exact ⟨j + 1, by omega, by go_num, (Hu4.out.block _ (lt_of_block HR3.out) (by omega)).trans HR3.out, by rw [← HF.out]; exact Hg4.out, (HU.out.trans (HU3.out.mono (fun _ _ h => h.elim))).trans (Hu4.out.mono (fun k _ e => .inr (by omega)))⟩
      case measure => simp [intOf]; omega
    · obtain rfl : j = n := by omega
      obtain rfl : E = Y := by rw [hE, HY.out]
      clear hr hg hu hE
      go_wp2_with (first
        | ((with_reducible refine wpList_load_row (o := ⟨some 18, _, _, _, _, _⟩) ?_ _ (.tmp 5) ?_ w1.heap.size ?_ 23 E (0, 0) _ HG.out Tryd.underlying23 ?_ HEs.out ?_); rfl; rfl; rfl; rfl)
        | ((with_reducible refine wpList_store_new (o := ⟨none, .store 23 (.tmp 4) (.tmp 18), _, _, _, _⟩) ?_ _ (.tmp 4) (.tmp 18) ?_ w.heap.size E ?_ ?_ 23 AD HR.out HYs.out HYl.out HY1.out ?_); rfl; rfl; rfl; rfl; intro w5 Hg5 Hu5))
      refine bodyPost_ret (results_cell_row rfl _ _ w.heap.size 23 E (0, 0) _ rfl Hg5.out Tryd.underlying23 rfl HYs.out) rfl ?_
      exact ⟨by rw [← HY.out], HU.out.trans (Hu5.out.mono (fun k hk e => .inr (by omega)))⟩
end Go.Proofs.YtiglaeipbcmlnaaDoor.EmptyW
