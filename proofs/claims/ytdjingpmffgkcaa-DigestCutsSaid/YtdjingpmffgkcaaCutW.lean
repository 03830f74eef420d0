/-
  digest.Cut.
-/
import Derived.Test.YtdjingpmffgkcaaEqW
import Derived.Lib.MinMax
namespace Go.Proofs.Ytdjingpmffgkcaa.CutW
open Go.RowKit Mem RowW CopyW EqW
set_option linter.unusedVariables false

def cutN (a : Int) : Nat := (max 1 (min a 32)).toNat
theorem cutN_lo (a : Int) : 1 ≤ cutN a := by unfold cutN; omega
theorem cutN_hi (a : Int) : cutN a ≤ 32 := by unfold cutN; omega
theorem cutN_eq (a : Int) : max 1 (min a 32) = (cutN a : Int) := by unfold cutN; omega
def cut (D : List UInt8) (a : Int) : List UInt8 := D.take (cutN a) ++ List.replicate (32 - cutN a) 0
theorem cut_len (D : List UInt8) (a : Int) (h : D.length = 32) : (cut D a).length = 32 := by
  have := cutN_hi a
  simp [cut, h]; omega
def A32 : Array Value := ((List.replicate 32 (0 : UInt8)).map u8).toArray
theorem zero32 (w : World) : (zeroValue 73).run Try.prog w = .ok (.agg A32) w := by kernel_rfl
theorem zero8 (w : World) : (zeroValue 5).run Try.prog w = .ok (u8 0) w := by kernel_rfl
theorem sizeD : (Try.prog.info? 73).map (·.size) = some 32 := by kernel_rfl
theorem cut_splice (D : List UInt8) (a : Int) (h : D.length = 32) : splice (D.map u8) (cutN a) (List.replicate (32 - cutN a) (u8 0)) = (cut D a).map u8 := by
  have h1 := cutN_hi a
  unfold splice cut
  rw [List.length_replicate, List.drop_eq_nil_of_le (by simp [h]; omega), List.append_nil, List.map_append, List.map_take, List.map_replicate]

set_option maxHeartbeats 2000000 in
set_option maxRecDepth 100000 in
theorem cut_any (D : List UInt8) (hD : D.length = 32) (a : Int) (w : World) :
    Calls Try.prog 45 #[.agg (D.map u8).toArray, .int .i64 a] w fun e w' => e = .returned (.agg ((cut D a).map u8).toArray) ∧ Upd (fun _ => False) w w' := by
  obtain ⟨X, hX⟩ : ∃ X, X = (D.map u8).toArray := ⟨_, rfl⟩
  obtain ⟨Y, hY⟩ : ∃ Y, Y = ((cut D a).map u8).toArray := ⟨_, rfl⟩
  have e1 := cutN_eq a
  have h1 := cutN_lo a
  have h2 := cutN_hi a
  have HYs : Hid ((Try.prog.info? 73).map (·.size) = some Y.size) := by show _ = _; rw [sizeD, hY]; simp [cut_len D a hD]
  have HY1 : Hid (Y.all (·.oneCell') = true) := by show _ = _; rw [hY]; simpa using one_of (cut D a)
  have HYl : Hid (A32.size = Y.size) := by show _ = _; rw [hY]; simp [cut_len D a hD, A32]
  have Hsp := Lib.hid (cut_splice D a hD)
  have HX := Lib.hid hX
  have HY := Lib.hid hY
  have HD := Lib.hid hD
  rw [← hX]
  clear hX hY hD
  generalize hn : cutN a = n at *
  have Hn := Lib.hid hn
  clear hn
  have hn32 : (n : Int) ≤ 32 := by omega
  have hR : Hid (Row ((w.alloc (.cells X 73)).alloc (.cells A32 73)) w.heap.size 73 (D.map u8)) := by
    have h := Row.new w 73 (D.map u8)
    rw [← HX.out] at h
    exact h.alloc _
  have hz := zero32
  have hz8 := zero8
  have HZ := Lib.hid hz8
  clear hz8
  have HRR : Hid (Row ((w.alloc (.cells X 73)).alloc (.cells A32 73)) (w.heap.size + 1) 73 ((List.replicate 32 (0 : UInt8)).map u8)) := heap_alloc2_new w _ _
  by_cases h32 : n = 32
  · have HC : Hid ((cut D a).map u8 = splice (D.map u8) 0 (List.replicate 0 (u8 0))) := by
      show _ = _
      unfold cut
      rw [Hn.out, h32]
      simp only [splice, List.replicate_zero, List.take_zero, List.nil_append, List.length_nil, Nat.add_zero, List.drop_zero, Nat.sub_self, List.append_nil]
      rw [List.take_of_length_le (by rw [HD.out]; omega)]
    subst h32
    go_enter Try.func45, Try.ntmps45
    go_wp2_with (first
      | ((with_reducible refine wpList_clear_new (o := ⟨none, .call { callee := .builtin .clear, args := #[.tmp 8], argTypes := #[30] }, _, _, _, _⟩) ?_ (.tmp 8) 30 ?_ 5 Try.underlying30 (u8 0) HZ.out ?_ ?_ w.heap.size 0 0 0 ?_ _ _ hR.out ?_ ?_); rfl; rfl; rfl; rfl; rfl; (simp only [List.length_map, HD.out]; omega); intro w2 HR2 HU2; have HG2 : Hid (w2.heap[w.heap.size]? = some (.cells Y 73 (0, 0))) := (by show _ = _; rw [HY.out, HC.out]; exact HR2.out); have HGR : Hid (Row w2 (w.heap.size + 1) 73 ((List.replicate 32 (0 : UInt8)).map u8)) := (HRR.out.upd HU2.out (by omega)); have HGR' : Hid (w2.heap[w.heap.size + 1]? = some (.cells A32 73 (0, 0))) := HGR.out)
      | ((with_reducible refine wpList_load_row (o := ⟨some 9, _, _, _, _, _⟩) ?_ _ (.tmp 2) ?_ w.heap.size ?_ 73 Y (0, 0) _ HG2.out Try.underlying73 ?_ HYs.out ?_); rfl; rfl; rfl; rfl)
      | ((with_reducible refine wpList_store_new (o := ⟨none, .store 73 (.tmp 4) (.tmp 9), _, _, _, _⟩) ?_ _ (.tmp 4) (.tmp 9) ?_ (w.heap.size + 1) Y ?_ ?_ 73 A32 HGR'.out HYs.out HYl.out HY1.out ?_); rfl; rfl; rfl; rfl; intro w5 Hg5 Hu5))
    refine bodyPost_ret (results_cell_row rfl _ _ (w.heap.size + 1) 73 Y (0, 0) _ rfl Hg5.out Try.underlying73 rfl HYs.out) rfl ?_
    exact ⟨by rw [← HY.out], ((((Upd.refl (fun _ => False) w).alloc _).alloc _).trans (HU2.out.mono (fun k hk e => .inr (by omega)))).trans (Hu5.out.mono (fun k hk e => .inr (by omega)))⟩
  · have HC : Hid ((cut D a).map u8 = splice (D.map u8) n (List.replicate (32 - n) (u8 0))) := Hsp.out.symm
    go_enter Try.func45, Try.ntmps45
    go_wp2_with (first
      | ((with_reducible refine wpList_clear_new (o := ⟨none, .call { callee := .builtin .clear, args := #[.tmp 8], argTypes := #[30] }, _, _, _, _⟩) ?_ (.tmp 8) 30 ?_ 5 Try.underlying30 (u8 0) HZ.out ?_ ?_ w.heap.size n (32 - n) (32 - n) ?_ _ _ hR.out ?_ ?_); rfl; rfl; rfl; rfl; rfl; (simp only [List.length_map, HD.out]; omega); intro w2 HR2 HU2; have HG2 : Hid (w2.heap[w.heap.size]? = some (.cells Y 73 (0, 0))) := (by show _ = _; rw [HY.out, HC.out]; exact HR2.out); have HGR : Hid (Row w2 (w.heap.size + 1) 73 ((List.replicate 32 (0 : UInt8)).map u8)) := (HRR.out.upd HU2.out (by omega)); have HGR' : Hid (w2.heap[w.heap.size + 1]? = some (.cells A32 73 (0, 0))) := HGR.out)
      | ((with_reducible refine wpList_load_row (o := ⟨some 9, _, _, _, _, _⟩) ?_ _ (.tmp 2) ?_ w.heap.size ?_ 73 Y (0, 0) _ HG2.out Try.underlying73 ?_ HYs.out ?_); rfl; rfl; rfl; rfl)
      | ((with_reducible refine wpList_store_new (o := ⟨none, .store 73 (.tmp 4) (.tmp 9), _, _, _, _⟩) ?_ _ (.tmp 4) (.tmp 9) ?_ (w.heap.size + 1) Y ?_ ?_ 73 A32 HGR'.out HYs.out HYl.out HY1.out ?_); rfl; rfl; rfl; rfl; intro w5 Hg5 Hu5))
    refine bodyPost_ret (results_cell_row rfl _ _ (w.heap.size + 1) 73 Y (0, 0) _ rfl Hg5.out Try.underlying73 rfl HYs.out) rfl ?_
    exact ⟨by rw [← HY.out], ((((Upd.refl (fun _ => False) w).alloc _).alloc _).trans (HU2.out.mono (fun k hk e => .inr (by omega)))).trans (Hu5.out.mono (fun k hk e => .inr (by omega)))⟩

/-- docketref2.Cut -/
def LC (F R n : Nat) (D : List UInt8) (w0 : World) (i : Value) (wr : World) : Prop :=
  ∃ j : Nat, n ≤ j ∧ j ≤ 32 ∧ i = .int .i64 j ∧ Row wr F 73 ((D.take n ++ List.replicate (j - n) 0 ++ D.drop j).map u8) ∧ Row wr R 73 ((List.replicate 32 (0 : UInt8)).map u8) ∧ Upd (fun _ => False) w0 wr
theorem LC_set (D : List UInt8) (n j : Nat) (h : D.length = 32) (h1 : n ≤ j) (h2 : j < 32) : (D.take n ++ List.replicate (j - n) 0 ++ D.drop j).set j 0 = D.take n ++ List.replicate (j + 1 - n) 0 ++ D.drop (j + 1) := by
  have hl : (D.take n ++ List.replicate (j - n) (0 : UInt8)).length = j := by simp [h]; omega
  rw [List.set_append_right _ _ (by omega), hl, Nat.sub_self, List.drop_eq_getElem_cons (by omega), List.set_cons_zero, show j + 1 - n = (j - n) + 1 by omega, List.replicate_succ', List.append_assoc, List.append_assoc, List.append_assoc]
  rfl
set_option maxHeartbeats 2000000 in
set_option maxRecDepth 100000 in
theorem refcut_any (D : List UInt8) (hD : D.length = 32) (a : Int) (ha : -9223372036854775808 ≤ a ∧ a ≤ 9223372036854775807) (w : World) :
    Calls Try.prog 46 #[.agg (D.map u8).toArray, .int .i64 a] w fun e w' => e = .returned (.agg ((cut D a).map u8).toArray) ∧ Upd (fun _ => False) w w' := by
  obtain ⟨X, hX⟩ : ∃ X, X = (D.map u8).toArray := ⟨_, rfl⟩
  obtain ⟨Y, hY⟩ : ∃ Y, Y = ((cut D a).map u8).toArray := ⟨_, rfl⟩
  have h1 := cutN_lo a
  have h2 := cutN_hi a
  have HYs : Hid ((Try.prog.info? 73).map (·.size) = some Y.size) := by show _ = _; rw [sizeD, hY]; simp [cut_len D a hD]
  have HY1 : Hid (Y.all (·.oneCell') = true) := by show _ = _; rw [hY]; simpa using one_of (cut D a)
  have HYl : Hid (A32.size = Y.size) := by show _ = _; rw [hY]; simp [cut_len D a hD, A32]
  have HX := Lib.hid hX
  have HY := Lib.hid hY
  have HD := Lib.hid hD
  rw [← hX]
  clear hX hY hD
  have hR : Hid (Row ((w.alloc (.cells X 73)).alloc (.cells A32 73)) w.heap.size 73 (D.map u8)) := by
    have h := Row.new w 73 (D.map u8)
    rw [← HX.out] at h
    exact h.alloc _
  have hz := zero32
  have HRR : Hid (Row ((w.alloc (.cells X 73)).alloc (.cells A32 73)) (w.heap.size + 1) 73 ((List.replicate 32 (0 : UInt8)).map u8)) := heap_alloc2_new w _ _
  have HU0 : Hid (Upd (fun _ => False) w ((w.alloc (.cells X 73)).alloc (.cells A32 73))) := ((Upd.refl (fun _ => False) w).alloc _).alloc _
  obtain ⟨ha1, ha2⟩ := ha
  rcases Int.lt_or_le a 1 with hlo | hlo
  · have hlo' : a ≤ 0 := by omega
    have Hn : Hid (cutN a = 1) := by show _ = _; unfold cutN; omega
    clear h1 h2
    have HS : Hid (LC w.heap.size (w.heap.size + 1) 1 D w (.int .i64 1) ((w.alloc (.cells X 73)).alloc (.cells A32 73))) := by
      refine ⟨1, Nat.le_refl _, by omega, rfl, ?_, HRR.out, HU0.out⟩
      rw [Nat.sub_self, List.replicate_zero, List.append_nil, List.take_append_drop]
      exact hR.out
    clear hz
    go_enter Try.func46, Try.ntmps46
    go_wp2
    go_loopw [5] (fun i wr => LC w.heap.size (w.heap.size + 1) 1 D w i wr) (fun i _ => (32 - intOf i).toNat)
    case atStart => exact HS.out
    case round =>
      clear HS
      obtain ⟨j, hj1, hj2, rfl, hr, hr0, hu⟩ := hrel
      by_cases hlt : j < 32
      · have hltI : (j : Int) < 32 := by omega
        have HN : Hid (Row (wr.setCell ⟨w.heap.size, j, none⟩ (u8 0)) w.heap.size 73 ((D.take 1 ++ List.replicate (j + 1 - 1) 0 ++ D.drop (j + 1)).map u8)) := by
          show Row _ _ _ _
          rw [← LC_set D 1 j HD.out hj1 hlt, List.map_set]
          exact hr.set j _
        have HN0 : Hid (Row (wr.setCell ⟨w.heap.size, j, none⟩ (u8 0)) (w.heap.size + 1) 73 ((List.replicate 32 (0 : UInt8)).map u8)) := hr0.far (by simp) _
        have HU : Hid (Upd (fun _ => False) w (wr.setCell ⟨w.heap.size, j, none⟩ (u8 0))) := hu.put _ _ (.inr (Nat.le_refl _)) _
        have c0 : wr.cell? ⟨w.heap.size, j, none⟩ = some (((D.take 1 ++ List.replicate (j - 1) 0 ++ D.drop j).map u8).getD j (u8 0)) := by
          have hl : j < ((D.take 1 ++ List.replicate (j - 1) 0 ++ D.drop j).map u8).length := by simp [HD.out]; omega
          rw [hr.cell, List.getD_eq_getElem?_getD, List.getElem?_eq_getElem hl]
          rfl
        have f0 := hr.frozen j
        clear hr hr0 hu
        go_wp2
        go_roundw
        case rel => exact ⟨j + 1, by omega, by omega, by go_num, HN.out, HN0.out, HU.out⟩
        case measure => simp [intOf]; omega
      · obtain rfl : j = 32 := by omega
        rw [show ((32 : Nat) : Int) = 32 from rfl]
        have HG2 : Hid (wr.heap[w.heap.size]? = some (.cells Y 73 (0, 0))) := by
          show _ = _
          rw [HY.out]
          unfold cut
          rw [Hn.out]
          have h := hr
          rw [List.drop_eq_nil_of_le (by rw [HD.out]; omega), List.append_nil] at h
          exact h
        have HGR' : Hid (wr.heap[w.heap.size + 1]? = some (.cells A32 73 (0, 0))) := hr0
        have HUF := Lib.hid hu
        clear hr hr0 hu hlt hj1 hj2
        go_wp2_with (first
      | ((with_reducible refine wpList_load_row (o := ⟨some 15, _, _, _, _, _⟩) ?_ _ (.tmp 2) ?_ w.heap.size ?_ 73 Y (0, 0) _ HG2.out Try.underlying73 ?_ HYs.out ?_); rfl; rfl; rfl; rfl)
      | ((with_reducible refine wpList_store_new (o := ⟨none, .store 73 (.tmp 4) (.tmp 15), _, _, _, _⟩) ?_ _ (.tmp 4) (.tmp 15) ?_ (w.heap.size + 1) Y ?_ ?_ 73 A32 HGR'.out HYs.out HYl.out HY1.out ?_); rfl; rfl; rfl; rfl; intro w5 Hg5 Hu5))
        refine bodyPost_ret (results_cell_row rfl _ _ (w.heap.size + 1) 73 Y (0, 0) _ rfl Hg5.out Try.underlying73 rfl HYs.out) rfl ?_
        exact ⟨by rw [← HY.out], HUF.out.trans (Hu5.out.mono (fun k hk e => .inr (by omega)))⟩
  · have hdec : decide (a < 1) = false := by simp; omega
    rcases Int.lt_or_le a 32 with hhi | hhi
    · obtain ⟨m, rfl⟩ : ∃ m : Nat, a = m := ⟨a.toNat, by omega⟩
      have Hn : Hid (cutN (m : Int) = m) := by show _ = _; unfold cutN; omega
      clear h1 h2
      have HS : Hid (LC w.heap.size (w.heap.size + 1) m D w (.int .i64 (m : Int)) ((w.alloc (.cells X 73)).alloc (.cells A32 73))) := by
        refine ⟨m, Nat.le_refl _, by omega, rfl, ?_, HRR.out, HU0.out⟩
        rw [Nat.sub_self, List.replicate_zero, List.append_nil, List.take_append_drop]
        exact hR.out
      clear hz
      go_enter Try.func46, Try.ntmps46
      go_wp2
      go_loopw [5] (fun i wr => LC w.heap.size (w.heap.size + 1) m D w i wr) (fun i _ => (32 - intOf i).toNat)
      case atStart => exact HS.out
      case round =>
        clear HS
        obtain ⟨j, hj1, hj2, rfl, hr, hr0, hu⟩ := hrel
        by_cases hlt : j < 32
        · have hltI : (j : Int) < 32 := by omega
          have HN : Hid (Row (wr.setCell ⟨w.heap.size, j, none⟩ (u8 0)) w.heap.size 73 ((D.take m ++ List.replicate (j + 1 - m) 0 ++ D.drop (j + 1)).map u8)) := by
            show Row _ _ _ _
            rw [← LC_set D m j HD.out hj1 hlt, List.map_set]
            exact hr.set j _
          have HN0 : Hid (Row (wr.setCell ⟨w.heap.size, j, none⟩ (u8 0)) (w.heap.size + 1) 73 ((List.replicate 32 (0 : UInt8)).map u8)) := hr0.far (by simp) _
          have HU : Hid (Upd (fun _ => False) w (wr.setCell ⟨w.heap.size, j, none⟩ (u8 0))) := hu.put _ _ (.inr (Nat.le_refl _)) _
          have c0 : wr.cell? ⟨w.heap.size, j, none⟩ = some (((D.take m ++ List.replicate (j - m) 0 ++ D.drop j).map u8).getD j (u8 0)) := by
            have hl : j < ((D.take m ++ List.replicate (j - m) 0 ++ D.drop j).map u8).length := by simp [HD.out]; omega
            rw [hr.cell, List.getD_eq_getElem?_getD, List.getElem?_eq_getElem hl]
            rfl
          have f0 := hr.frozen j
          clear hr hr0 hu
          go_wp2
          go_roundw
          case rel => exact ⟨j + 1, by omega, by omega, by go_num, HN.out, HN0.out, HU.out⟩
          case measure => simp [intOf]; omega
        · obtain rfl : j = 32 := by omega
          rw [show ((32 : Nat) : Int) = 32 from rfl]
          have HG2 : Hid (wr.heap[w.heap.size]? = some (.cells Y 73 (0, 0))) := by
            show _ = _
            rw [HY.out]
            unfold cut
            rw [Hn.out]
            have h := hr
            rw [List.drop_eq_nil_of_le (by rw [HD.out]; omega), List.append_nil] at h
            exact h
          have HGR' : Hid (wr.heap[w.heap.size + 1]? = some (.cells A32 73 (0, 0))) := hr0
          have HUF := Lib.hid hu
          clear hr hr0 hu hlt hj1 hj2
          go_wp2_with (first
        | ((with_reducible refine wpList_load_row (o := ⟨some 15, _, _, _, _, _⟩) ?_ _ (.tmp 2) ?_ w.heap.size ?_ 73 Y (0, 0) _ HG2.out Try.underlying73 ?_ HYs.out ?_); rfl; rfl; rfl; rfl)
        | ((with_reducible refine wpList_store_new (o := ⟨none, .store 73 (.tmp 4) (.tmp 15), _, _, _, _⟩) ?_ _ (.tmp 4) (.tmp 15) ?_ (w.heap.size + 1) Y ?_ ?_ 73 A32 HGR'.out HYs.out HYl.out HY1.out ?_); rfl; rfl; rfl; rfl; intro w5 Hg5 Hu5))
          refine bodyPost_ret (results_cell_row rfl _ _ (w.heap.size + 1) 73 Y (0, 0) _ rfl Hg5.out Try.underlying73 rfl HYs.out) rfl ?_
          exact ⟨by rw [← HY.out], HUF.out.trans (Hu5.out.mono (fun k hk e => .inr (by omega)))⟩
    · have Hn : Hid (cutN a = 32) := by show _ = _; unfold cutN; omega
      clear h1 h2
      have hx : ¬ a < 32 := by omega
      have hxI : decide (a < 32) = false := by simpa using hx
      have HG2 : Hid (((w.alloc (.cells X 73)).alloc (.cells A32 73)).heap[w.heap.size]? = some (.cells Y 73 (0, 0))) := by
        show _ = _
        rw [HY.out]
        unfold cut
        rw [Hn.out, List.take_of_length_le (by rw [HD.out]; omega), Nat.sub_self, List.replicate_zero, List.append_nil]
        exact hR.out
      have HGR' : Hid (((w.alloc (.cells X 73)).alloc (.cells A32 73)).heap[w.heap.size + 1]? = some (.cells A32 73 (0, 0))) := HRR.out
      have HUF := HU0
      go_enter Try.func46, Try.ntmps46
      go_wp2
      refine wp_loop_rounds 1 ?_
      rw [rounds_succ]
      go_wp2_with (first
        | ((with_reducible refine wpList_load_row (o := ⟨some 15, _, _, _, _, _⟩) ?_ _ (.tmp 2) ?_ w.heap.size ?_ 73 Y (0, 0) _ HG2.out Try.underlying73 ?_ HYs.out ?_); rfl; rfl; rfl; rfl)
        | ((with_reducible refine wpList_store_new (o := ⟨none, .store 73 (.tmp 4) (.tmp 15), _, _, _, _⟩) ?_ _ (.tmp 4) (.tmp 15) ?_ (w.heap.size + 1) Y ?_ ?_ 73 A32 HGR'.out HYs.out HYl.out HY1.out ?_); rfl; rfl; rfl; rfl; intro w5 Hg5 Hu5))
      refine bodyPost_ret (results_cell_row rfl _ _ (w.heap.size + 1) 73 Y (0, 0) _ rfl Hg5.out Try.underlying73 rfl HYs.out) rfl ?_
      exact ⟨by rw [← HY.out], HUF.out.trans (Hu5.out.mono (fun k hk e => .inr (by omega)))⟩
end Go.Proofs.Ytdjingpmffgkcaa.CutW
