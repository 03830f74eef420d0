/-
  digest.Cut.
-/
import Derived.Test.YtgcionimhmbgeaaDoorREqW
import Derived.Lib.MinMax
namespace Go.Proofs.YtgcionimhmbgeaaDoorR.CutW
open Go.RowKit Mem RowW CopyW EqW
set_option linter.unusedVariables false

def cutN (a : Int) : Nat := (max 1 (min a 32)).toNat
theorem cutN_lo (a : Int) : 1 ≤ cutN a := by unfold cutN; omega
theorem cutN_hi (a : Int) : cutN a ≤ 32 := by unfold cutN; omega
theorem cutN_eq (a : Int) : max 1 (min a 32) = (cutN a : Int) := by unfold cutN; omega
def cut (D : List UInt8) (a : Int) : List UInt8 := D.take (cutN a) ++ List.replicate (32 - cutN a) 0
theorem cut_len (D : List UInt8) (a : Int) (h : D.length = 32) : (cut D a).length = 32 := by
  have := cutN_hi a
  simp [cut, h]; omega
def A32 : Array Value := ((List.replicate 32 (0 : UInt8)).map u8).toArray
theorem zero32 (w : World) : (zeroValue 23).run Tryd.prog w = .ok (.agg A32) w := by kernel_rfl
theorem zero8 (w : World) : (zeroValue 5).run Tryd.prog w = .ok (u8 0) w := by kernel_rfl
theorem sizeD : (Tryd.prog.info? 23).map (·.size) = some 32 := by kernel_rfl
theorem cut_splice (D : List UInt8) (a : Int) (h : D.length = 32) : splice (D.map u8) (cutN a) (List.replicate (32 - cutN a) (u8 0)) = (cut D a).map u8 := by
  have h1 := cutN_hi a
  unfold splice cut
  rw [List.length_replicate, List.drop_eq_nil_of_le (by simp [h]; omega), List.append_nil, List.map_append, List.map_take, List.map_replicate]

set_option maxHeartbeats 2000000 in
set_option maxRecDepth 100000 in
theorem cut_any (D : List UInt8) (hD : D.length = 32) (a : Int) (w : World) :
    Calls Tryd.prog 68 #[.agg (D.map u8).toArray, .int .i64 a] w fun e w' => e = .returned (.agg ((cut D a).map u8).toArray) ∧ Upd (fun _ => False) w w' := by
  obtain ⟨X, hX⟩ : ∃ X, X = (D.map u8).toArray := ⟨_, rfl⟩
  obtain ⟨Y, hY⟩ : ∃ Y, Y = ((cut D a).map u8).toArray := ⟨_, rfl⟩
  have e1 := cutN_eq a
  have h1 := cutN_lo a
  have h2 := cutN_hi a
  have HYs : Hid ((Tryd.prog.info? 23).map (·.size) = some Y.size) := by show _ = _; rw [sizeD, hY]; simp [cut_len D a hD]
  have HY1 : Hid (Y.all (·.oneCell') = true) := by show _ = _; rw [hY]; simpa using one_of (cut D a)
  have HYl : Hid (A32.size = Y.size) := by show _ = _; rw [hY]; simp [cut_len D a hD, A32]
  have Hsp := Lib.hid (cut_splice D a hD)
  have HX := Lib.hid hX
  have HY := Lib.hid hY
  have HD := Lib.hid hD
  rw [← hX]
  clear hX hY hD
  generalize hn : cutN a = n at *
  have Hn := Lib.hid hn
  clear hn
  have hn32 : (n : Int) ≤ 32 := by omega
  have hR : Hid (Row ((w.alloc (.cells X 23)).alloc (.cells A32 23)) w.heap.size 23 (D.map u8)) := by
    have h := Row.new w 23 (D.map u8)
    rw [← HX.out] at h
    exact h.alloc _
  have hz := zero32
  have hz8 := zero8
  have HZ := Lib.hid hz8
  clear hz8
  have HRR : Hid (Row ((w.alloc (.cells X 23)).alloc (.cells A32 23)) (w.heap.size + 1) 23 ((List.replicate 32 (0 : UInt8)).map u8)) := heap_alloc2_new w _ _
  by_cases h32 : n = 32
  · have HC : Hid ((cut D a).map u8 = splice (D.map u8) 0 (List.replicate 0 (u8 0))) := by
      show _ = _
      unfold cut
      rw [Hn.out, h32]
      simp only [splice, List.replicate_zero, List.take_zero, List.nil_append, List.length_nil, Nat.add_zero, List.drop_zero, Nat.sub_self, List.append_nil]
      rw [List.take_of_length_le (by rw [HD.out]; omega)]
    subst h32
    go_enter Tryd.func68, Tryd.ntmps68
    go_wp2_with (first
      | ((with_reducible refine wpList_clear_new (o := ⟨none, .call { callee := .builtin .clear, args := #[.tmp 8], argTypes := #[25] }, _, _, _, _⟩) ?_ (.tmp 8) 25 ?_ 5 Tryd.underlying25 (u8 0) HZ.out ?_ ?_ w.heap.size 0 0 0 ?_ _ _ hR.out ?_ ?_); rfl; rfl; rfl; rfl; rfl; (simp only [List.length_map, HD.out]; omega); intro w2 HR2 HU2; have HG2 : Hid (w2.heap[w.heap.size]? = some (.cells Y 23 (0, 0))) := (by show _ = _; rw [HY.out, HC.out]; exact HR2.out); have HGR : Hid (Row w2 (w.heap.size + 1) 23 ((List.replicate 32 (0 : UInt8)).map u8)) := (HRR.out.upd HU2.out (by omega)); have HGR' : Hid (w2.heap[w.heap.size + 1]? = some (.cells A32 23 (0, 0))) := HGR.out)
      | ((with_reducible refine wpList_load_row (o := ⟨some 9, _, _, _, _, _⟩) ?_ _ (.tmp 2) ?_ w.heap.size ?_ 23 Y (0, 0) _ HG2.out Tryd.underlying23 ?_ HYs.out ?_); rfl; rfl; rfl; rfl)
      | ((with_reducible refine wpList_store_new (o := ⟨none, .store 23 (.tmp 4) (.tmp 9), _, _, _, _⟩) ?_ _ (.tmp 4) (.tmp 9) ?_ (w.heap.size + 1) Y ?_ ?_ 23 A32 HGR'.out HYs.out HYl.out HY1.out ?_); rfl; rfl; rfl; rfl; intro w5 Hg5 Hu5))
    refine bodyPost_ret (results_cell_row rfl _ _ (w.heap.size + 1) 23 Y (0, 0) _ rfl Hg5.out Tryd.underlying23 rfl HYs.out) rfl ?_
    exact ⟨by rw [← HY.out], ((((Upd.refl (fun _ => False) w).alloc _).alloc _).trans (HU2.out.mono (fun k hk e => .inr (by omega)))).trans (Hu5.out.mono (fun k hk e => .inr (by omega)))⟩
  · have HC : Hid ((cut D a).map u8 = splice (D.map u8) n (List.replicate (32 - n) (u8 0))) := Hsp.out.symm
    go_enter Tryd.func68, Tryd.ntmps68
    go_wp2_with (first
      | ((with_reducible refine wpList_clear_new (o := ⟨none, .call { callee := .builtin .clear, args := #[.tmp 8], argTypes := #[25] }, _, _, _, _⟩) ?_ (.tmp 8) 25 ?_ 5 Tryd.underlying25 (u8 0) HZ.out ?_ ?_ w.heap.size n (32 - n) (32 - n) ?_ _ _ hR.out ?_ ?_); rfl; rfl; rfl; rfl; rfl; (simp only [List.length_map, HD.out]; omega); intro w2 HR2 HU2; have HG2 : Hid (w2.heap[w.heap.size]? = some (.cells Y 23 (0, 0))) := (by show _ = _; rw [HY.out, HC.out]; exact HR2.out); have HGR : Hid (Row w2 (w.heap.size + 1) 23 ((List.replicate 32 (0 : UInt8)).map u8)) := (HRR.out.upd HU2.out (by omega)); have HGR' : Hid (w2.heap[w.heap.size + 1]? = some (.cells A32 23 (0, 0))) := HGR.out)
      | ((with_reducible refine wpList_load_row (o := ⟨some 9, _, _, _, _, _⟩) ?_ _ (.tmp 2) ?_ w.heap.size ?_ 23 Y (0, 0) _ HG2.out Tryd.underlying23 ?_ HYs.out ?_); rfl; rfl; rfl; rfl)
      | ((with_reducible refine wpList_store_new (o := ⟨none, .store 23 (.tmp 4) (.tmp 9), _, _, _, _⟩) ?_ _ (.tmp 4) (.tmp 9) ?_ (w.heap.size + 1) Y ?_ ?_ 23 A32 HGR'.out HYs.out HYl.out HY1.out ?_); rfl; rfl; rfl; rfl; intro w5 Hg5 Hu5))
    refine bodyPost_ret (results_cell_row rfl _ _ (w.heap.size + 1) 23 Y (0, 0) _ rfl Hg5.out Tryd.underlying23 rfl HYs.out) rfl ?_
    exact ⟨by rw [← HY.out], ((((Upd.refl (fun _ => False) w).alloc _).alloc _).trans (HU2.out.mono (fun k hk e => .inr (by omega)))).trans (Hu5.out.mono (fun k hk e => .inr (by omega)))⟩

end Go.Proofs.YtgcionimhmbgeaaDoorR.CutW
