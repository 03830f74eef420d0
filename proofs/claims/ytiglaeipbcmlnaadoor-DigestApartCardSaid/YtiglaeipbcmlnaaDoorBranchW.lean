/-
  digest.Branch.
-/
import Derived.Test.YtiglaeipbcmlnaaDoorLeafW
import Derived.Test.YtiglaeipbcmlnaaDoorMacW
import Derived.Deep.RegionHeld
namespace Go.Proofs.YtiglaeipbcmlnaaDoor.BranchW
open Go.RowKit Sha TurnW Mem RowW SpreadW MixW HashM CopyW WriteW WriteN EndW SumH NewW EqW CutW OfW LeafW
set_option linter.unusedVariables false
set_option linter.unusedSimpArgs false

theorem sl_row (w : World) (g : Nat) (T : TypeId) (xs : List UInt8) (fr : Nat × Nat) (n : Nat) (hn : n = xs.length) (hm : xs.length ≤ maxLen) (hg : w.heap[g]? = some (.cells (xs.map u8).toArray T fr)) : Sl w (.slice (some ⟨g, 0, none⟩) n n) xs := by
  subst hn
  refine ⟨_, xs.length, rfl, Nat.le_refl _, hm, by simp, fun a ha => ?_⟩
  injection ha with ha
  subst ha
  refine ⟨rfl, fun i hi => ?_⟩
  rw [add_none, Nat.zero_add, cell_of_row _ _ _ _ _ _ hg, List.getElem?_toArray, List.getElem?_map, List.getD_eq_getElem?_getD, List.getElem?_eq_getElem hi]
  rfl
theorem slL_two (w : World) (g : Nat) (v v' : Value) (xs ys : List UInt8) (B : Nat) (hg : w.heap[g]? = some (.cells #[v, v'] 25 (0, 0))) (hs : Sl w v xs) (hs' : Sl w v' ys) (ho : ∀ k, own v k → k < B) (ho' : ∀ k, own v' k → k < B) (hB : g < B) :
    SlL w (.slice (some ⟨g, 0, none⟩) 2 2) [xs, ys] (fun k => k < B) := by
  refine ⟨_, 2, fun i => if i = 0 then v else v', rfl, by simp, fun k hk => by have := own_at hk; omega, fun a ha => ?_⟩
  injection ha with ha
  subst ha
  refine ⟨rfl, fun i hi => ?_⟩
  have hi' : i < 2 := hi
  obtain rfl | rfl : i = 0 ∨ i = 1 := by omega
  · exact ⟨by rw [add_none, cell_of_row _ _ _ _ _ _ hg]; rfl, hs, ho⟩
  · exact ⟨by rw [add_none, cell_of_row _ _ _ _ _ _ hg]; rfl, hs', ho'⟩

set_option maxHeartbeats 4000000 in
set_option maxRecDepth 100000 in
theorem branch_any (width : Int) (xs ys : List UInt8) (hx : xs.length = 32) (hy : ys.length = 32) (w : World)
    (hk : Kw w) (hg : 0 < w.heap.size) :
    Calls Tryd.prog 34 #[.int .i64 width, .agg (xs.map u8).toArray, .agg (ys.map u8).toArray] w fun e w' => e = .returned (.agg ((ofM width 4 [xs, ys]).map u8).toArray) ∧ Upd (fun _ => False) w w' := by
  obtain ⟨X, hX⟩ : ∃ X, X = (xs.map u8).toArray := ⟨_, rfl⟩
  obtain ⟨Z, hZ⟩ : ∃ Z, Z = (ys.map u8).toArray := ⟨_, rfl⟩
  obtain ⟨Y, hY⟩ : ∃ Y, Y = ((ofM width 4 [xs, ys]).map u8).toArray := ⟨_, rfl⟩
  have hl32 := of_len width 4 [xs, ys]
  have HY1 : Hid (Y.all (·.oneCell') = true) := by show _ = _; rw [hY]; simpa using one_of (ofM width 4 [xs, ys])
  have HYs : Hid ((Tryd.prog.info? 23).map (·.size) = some Y.size) := by show _ = _; rw [size32, hY]; simp [hl32]
  have HYl : Hid (AD.size = Y.size) := by show _ = _; rw [hY]; simp [hl32, AD]
  have HY := Lib.hid hY
  obtain ⟨w3, hw3⟩ : ∃ w3, w3 = ((w.alloc (.cells X 23)).alloc (.cells Z 23)).alloc (.cells AD 23) := ⟨_, rfl⟩
  have hs3 : w3.heap.size = w.heap.size + 3 := by rw [hw3]; simp
  have hu3 : Upd (fun _ => False) w w3 := by rw [hw3]; exact (((Upd.refl _ w).alloc _).alloc _).alloc _
  have hgx : w3.heap[w.heap.size]? = some (.cells (xs.map u8).toArray 23 (0, 0)) := by
    rw [hw3, ← hX, Below.heap_alloc _ _ _ (by simp; omega)]; exact heap_alloc2_old w _ _
  have hgz : w3.heap[w.heap.size + 1]? = some (.cells (ys.map u8).toArray 23 (0, 0)) := by
    rw [hw3, ← hZ, Below.heap_alloc _ _ _ (by simp)]; exact heap_alloc2_new w _ _
  have hgr : w3.heap[w.heap.size + 2]? = some (.cells AD 23 (0, 0)) := by
    rw [hw3]; have h := heap_alloc_new ((w.alloc (.cells X 23)).alloc (.cells Z 23)) (.cells AD 23); simpa using h
  obtain ⟨w4, hw4⟩ : ∃ w4, w4 = w3.drew.alloc (.cells #[.slice (some ⟨w.heap.size, 0, none⟩) 32 32, .slice (some ⟨w.heap.size + 1, 0, none⟩) 32 32] 25) := ⟨_, rfl⟩
  have hs4 : w4.heap.size = w3.heap.size + 1 := by rw [hw4]; first | (simp; done) | (simp; rfl)
  have hu4 : Upd (fun _ => False) w3 w4 := by rw [hw4]; exact (Upd.refl _ w3).drew.alloc _
  have hsx := (sl_row w3 w.heap.size 23 xs _ 32 hx.symm (by rw [hx]; unfold maxLen; omega) hgx).upd hu4 (fun _ _ => id)
  have hsz := (sl_row w3 (w.heap.size + 1) 23 ys _ 32 hy.symm (by rw [hy]; unfold maxLen; omega) hgz).upd hu4 (fun _ _ => id)
  have hnew : w4.heap[w3.heap.size]? = some (.cells #[.slice (some ⟨w.heap.size, 0, none⟩) 32 32, .slice (some ⟨w.heap.size + 1, 0, none⟩) 32 32] 25 (0, 0)) := by rw [hw4]; exact heap_alloc_new w3.drew _
  have HO := Lib.hid (of_any width 4 _ 2 [xs, ys] (fun k => k < w.heap.size + 4) w4
    (slL_two _ w3.heap.size _ _ xs ys _ hnew hsx hsz (fun k h => by have := own_at h; omega) (fun k h => by have := own_at h; omega) (by omega))
    (by intro k hk; omega) (hk.upd (hu3.trans (hu4.mono fun _ _ h => h.elim)) id)
    (by omega) (by simp) (by simp [cat, hx, hy]))
  have HU4 : Hid (Upd (fun _ => False) w w4) := hu3.trans (hu4.mono fun _ _ h => h.elim)
  have HR4 : Hid (w4.heap[w.heap.size + 2]? = some (.cells AD 23 (0, 0))) := (hu4.block _ (by omega) id).trans hgr
  subst hw4
  have HX := Lib.hid hX
  have HZ := Lib.hid hZ
  have Hw3 := Lib.hid hw3
  have Hs3 := Lib.hid hs3
  have hz := zeroD
  rw [← hX, ← hZ]
  clear hY hX hZ hk hg hl32 hu3 hgx hgz hgr hu4 hsx hsz hnew hs3 hs4
  go_enter Tryd.func34, Tryd.ntmps34
  go_wp2_with fail
  rw [← hw3]
  clear hw3
  refine wp_region_held (S := fun _ => True) (by kernel_rfl) ?_
  refine wpAnyH_take (i := 0) (oi := ⟨some 7, _, _, _, _, _⟩) (v := .int .i64 width) rfl (by kernel_rfl) (by kernel_rfl) (by kernel_rfl) (fun _ _ _ h => h) (Or.inl ⟨by rfl, fun w hS => by go_simp⟩) trivial ?_
  try simp only [Act.put, List.setIfInBounds_toArray, List.set_cons_zero, List.set_cons_succ]
  refine wpAnyH_take (i := 1) (oi := ⟨some 8, _, _, _, _, _⟩) (v := .slice (some ⟨w.heap.size, 0, none⟩) 32 32) rfl (by kernel_rfl) (by kernel_rfl) (by kernel_rfl) (fun _ _ _ h => h) (Or.inl ⟨by rfl, fun w hS => by go_simp⟩) trivial ?_
  try simp only [Act.put, List.setIfInBounds_toArray, List.set_cons_zero, List.set_cons_succ]
  refine wpAnyH_take (i := 2) (oi := ⟨some 9, _, _, _, _, _⟩) (v := .slice (some ⟨w.heap.size + 1, 0, none⟩) 32 32) rfl (by kernel_rfl) (by kernel_rfl) (by kernel_rfl) (fun _ _ _ h => h) (Or.inl ⟨by rfl, fun w hS => by go_simp⟩) trivial ?_
  try simp only [Act.put, List.setIfInBounds_toArray, List.set_cons_zero, List.set_cons_succ]
  refine wpAnyH_ready (rs := [3]) (by kernel_rfl) (by simp) ?_
  refine AllReadyH.cons rfl (fun K hK => ?_) AllReadyH.nil
  change ite _ (Oper.wp _ _ _ w3.drew _ _) _
  go_simp
  refine hK.out _ _ trivial (fun hHeld => ?_)
  clear hK K hHeld
  try simp only [Act.put, List.setIfInBounds_toArray, List.set_cons_zero, List.set_cons_succ]
  refine wpAnyH_ready (rs := [4]) (by kernel_rfl) (by simp) ?_
  refine AllReadyH.cons rfl (fun K hK => ?_) AllReadyH.nil
  go_simp
  refine HO.out.mono ?_
  rintro e w5 ⟨rfl, hu5⟩
  have HU5 := Lib.hid hu5
  have HR5 : Hid (w5.heap[w.heap.size + 2]? = some (.cells AD 23 (0, 0))) := (hu5.block _ (lt_of_block HR4.out) id).trans HR4.out
  clear hu5
  refine hK.out _ _ trivial (fun hHeld => ?_)
  clear hK K hHeld
  try simp only [Act.put, List.setIfInBounds_toArray, List.set_cons_zero, List.set_cons_succ]
  refine wpAnyH_ready (rs := [5]) (by kernel_rfl) (by simp) ?_
  refine AllReadyH.cons rfl (fun K hK => ?_) AllReadyH.nil
  rw [if_pos (by rfl)]
  refine wp_store_row 23 (.tmp 6) (.tmp 11) rfl (w.heap.size + 2) Y rfl (by rw [HY.out]; rfl) 23 AD HR5.out HYs.out HYl.out HY1.out ?_
  have Hg6 := Lib.hid (setRow_heap _ _ AD Y _ _ HR5.out)
  have Hu6 : Hid (Upd (fun k => k = w.heap.size + 2) w5 (w5.setRow (w.heap.size + 2) Y)) := Upd.setRow (Upd.refl _ _) _ Y (.inl rfl)
  generalize w5.setRow (w.heap.size + 2) Y = w6 at Hg6 Hu6 ⊢
  refine hK.out _ _ trivial (fun hHeld => ?_)
  clear hK K hHeld
  try simp only [Act.put, List.setIfInBounds_toArray, List.set_cons_zero, List.set_cons_succ]
  refine wpAnyH_done (by kernel_rfl) ?_ _
  go_wp2
  refine bodyPost_ret (results_cell_row rfl _ _ (w.heap.size + 2) 23 Y (0, 0) _ rfl Hg6.out Tryd.underlying23 rfl HYs.out) rfl ?_
  exact ⟨by rw [← HY.out], (HU4.out.trans (HU5.out.mono (fun _ _ h => h.elim))).trans (Hu6.out.mono (fun k hk e => .inr (by omega)))⟩
end Go.Proofs.YtiglaeipbcmlnaaDoor.BranchW
