/-
  frame.begin.
-/
import Derived.Test.YtgfdnljblfkhkabDoorFrFits
import Derived.Deep.Cut
import Derived.Laws.Rows
namespace Go.Proofs.YtgfdnljblfkhkabDoor.FrBegin
open Go.RowKit Sha Mem Width PutW WriterW RowW Crc FrTurn FrScan FrFits
set_option linter.unusedVariables false

/-- a scan that stands ahead of the first byte -/
def Sc.new (n : Int) : Sc := ⟨0, 4294967295, nreg n⟩
def AS : Array Value := #[.int .i64 0, .int .u32 0, .int .u32 0]
theorem sizeS : (Tryd.prog.info? 85).map (·.size) = some 3 := by kernel_rfl
def BegAt (n : Int) (w : World) (e : Ending) (w' : World) : Prop := e = .returned (.agg (Sc.new n).cells.toArray) ∧ Upd (fun _ => False) w w'
set_option maxHeartbeats 1000000 in
theorem begin_any (n : Int) (w : World) (h0 : 0 ≤ n) (h1 : n < 1099511627776) (ht : Tw w) :
    Calls Tryd.prog 50 #[.int .i64 n] w (BegAt n w) := by
  have Ht := Lib.hid ht
  obtain ⟨Y, hY⟩ : ∃ Y, Y = (Sc.new n).cells.toArray := ⟨_, rfl⟩
  have HYs : Hid ((Tryd.prog.info? 85).map (·.size) = some Y.size) := by show _ = _; rw [sizeS, hY]; rfl
  have HYl : Hid (AS.size = Y.size) := by show _ = _; rw [hY]; rfl
  have HY1 : Hid (Y.all (·.oneCell') = true) := by show _ = _; rw [hY]; simp [Sc.cells, Value.oneCell']
  have HY := Lib.hid hY
  have HN := Lib.hid (numbered_any n (w.alloc (.cells AS 85)) h0 h1 (ht.upd ((Upd.refl (fun _ => False) w).alloc _) id))
  have HR := Lib.hid (heap_alloc_new w (.cells AS 85))
  have HU := Lib.hid ((Upd.refl (fun _ => False) w).alloc (.cells AS 85))
  have eS : AS = #[.int .i64 0, .int .u32 0, .int .u32 0] := rfl
  rw [eS] at HN HR HU
  clear hY ht eS
  go_enter Tryd.func50, Tryd.ntmps50
  go_wp2_with fail
  refine HN.out.mono ?_
  rintro e w1 ⟨rfl, hu1⟩
  have HU1 := Lib.hid hu1
  have HR1 : Hid (w1.heap[w.heap.size]? = some (.cells AS 85 (0, 0))) := (hu1.block _ (lt_of_block HR.out) id).trans HR.out
  clear hu1
  go_wp2_with ((with_reducible refine wpList_store_new (o := ⟨none, .store 85 (.tmp 2) (.tmp 5), _, _, _, _⟩) ?_ _ (.tmp 2) (.tmp 5) ?_ w.heap.size Y ?_ ?_ 85 AS HR1.out HYs.out HYl.out HY1.out ?_); rfl; rfl; rfl; (rw [HY.out]; rfl); intro w2 Hg2 Hu2)
  refine bodyPost_ret (results_cell_row rfl _ _ w.heap.size 85 Y (0, 0) _ rfl Hg2.out Tryd.underlying85 rfl HYs.out) rfl ?_
  exact ⟨by rw [← HY.out], (HU.out.trans (HU1.out.mono (fun _ _ h => h.elim))).trans (Hu2.out.mono (fun k _ e => .inr (by omega)))⟩
end Go.Proofs.YtgfdnljblfkhkabDoor.FrBegin
