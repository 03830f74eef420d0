/-
  docketlaw2.DigestCuts: the walk.
-/
import Derived.Test.YtdjingpmffgkcaaCutW
import Derived.Deep.RegionWith
import Derived.Deep.RegionHeld3
namespace Go.Proofs.Ytdjingpmffgkcaa.CutsW
open Go.RowKit Mem RowW CopyW EqW CutW
set_option linter.unusedVariables false
set_option linter.unusedSimpArgs false

theorem cut_cut (D : List UInt8) (h : D.length = 32) (a b : Int) : cut (cut D a) b = cut D (min b a) := by
  have e : cutN (min b a) = min (cutN b) (cutN a) := by unfold cutN; omega
  have h1 := cutN_hi a
  have h2 := cutN_hi b
  unfold cut
  rw [e, List.take_append, List.length_take, h, List.take_take, List.take_replicate]
  rcases Nat.le_total (cutN b) (cutN a) with hab | hab
  · rw [Nat.min_eq_left hab, show cutN b - min (cutN a) 32 = 0 by omega, Nat.zero_min, List.replicate_zero, List.append_nil]
  · rw [Nat.min_eq_right hab, Nat.min_eq_left h1, Nat.min_eq_left (by omega), List.append_assoc, List.replicate_append_replicate]
    congr 2
    omega
theorem range_of {w : World} {g : Nat} {l : List Value} {T : TypeId} (h : w.heap[g]? = some (.cells l.toArray T (0, 0))) : w.rangeAt g 0 l := by
  intro j v hv
  rw [Nat.zero_add, cell_of_row _ _ _ _ _ _ h]
  simpa using hv

set_option maxHeartbeats 4000000 in
set_option maxRecDepth 100000 in
theorem walk (D : List UInt8) (hD : D.length = 32) (a b : Int) (ha : -9223372036854775808 ≤ a ∧ a ≤ 9223372036854775807) (hb : -9223372036854775808 ≤ b ∧ b ≤ 9223372036854775807) (w : World) :
    Calls Try.prog 10 #[.agg (D.map u8).toArray, .int .i64 a, .int .i64 b] w fun e w' => e = .returned (.bool true) ∧ Below w.heap.size w w' := by
  obtain ⟨L0, hX0⟩ : ∃ L, L = D.map u8 := ⟨_, rfl⟩
  obtain ⟨L1, hX1⟩ : ∃ L, L = (cut D a).map u8 := ⟨_, rfl⟩
  obtain ⟨L2, hX2⟩ : ∃ L, L = (cut (cut D a) b).map u8 := ⟨_, rfl⟩
  have HD := Lib.hid hD
  have HD1 : Hid ((cut D a).length = 32) := cut_len _ _ hD
  have HD2 : Hid ((cut (cut D a) b).length = 32) := cut_len _ _ HD1.out
  have s0 : L0.toArray.size = 32 := by rw [hX0]; simp [hD]
  have s1 : L1.toArray.size = 32 := by rw [hX1]; simp [HD1.out]
  have s2 : L2.toArray.size = 32 := by rw [hX2]; simp [HD2.out]
  have q1 : ∀ w, (binOp .eql 73 (.agg L1.toArray) (.agg L1.toArray)).run Try.prog w = .ok (.bool true) w := fun w => by rw [hX1, eql_digest _ _ HD1.out HD1.out]; simp
  have q2 : ∀ w, (binOp .eql 73 (.agg L2.toArray) (.agg L2.toArray)).run Try.prog w = .ok (.bool true) w := fun w => by rw [hX2, eql_digest _ _ HD2.out HD2.out]; simp
  have o1 : Hid (L1.toArray.all (·.oneCell') = true) := by show _ = _; rw [hX1]; simpa using one_of (cut D a)
  have o2 : Hid (L2.toArray.all (·.oneCell') = true) := by show _ = _; rw [hX2]; simpa using one_of (cut (cut D a) b)
  have i1 : Hid ((Try.prog.info? 73).map (·.size) = some L1.toArray.size) := by show _ = _; rw [sizeD, s1]
  have i2 : Hid ((Try.prog.info? 73).map (·.size) = some L2.toArray.size) := by show _ = _; rw [sizeD, s2]
  have l1 : Hid (A32.size = L1.toArray.size) := by show _ = _; rw [s1]; rfl
  have l2 : Hid (A32.size = L2.toArray.size) := by show _ = _; rw [s2]; rfl
  have c0 := fun w => cut_any D hD a w
  have c1 := fun w => cut_any (cut D a) HD1.out b w
  rw [← hX0, ← hX1] at c0
  rw [← hX1, ← hX2] at c1
  have HC0 := Lib.hid c0
  have HC1 := Lib.hid c1
  have r0 := fun w => refcut_any D hD a ha w
  rw [← hX0, ← hX1] at r0
  have HR0 := Lib.hid r0
  rw [← hX0]
  have hz := zero32
  have g0 : (w.alloc (.cells L0.toArray 73)).heap[w.heap.size]? = some (.cells L0.toArray 73 (0, 0)) := heap_alloc_new _ _
  have Ha := Lib.hid ha
  have Hb := Lib.hid hb
  have S0 := Lib.hid s0
  have S1 := Lib.hid s1
  have S2 := Lib.hid s2
  have i0 : Hid ((Try.prog.info? 73).map (·.size) = some L0.toArray.size) := by show _ = _; rw [sizeD, s0]
  have G0 := Lib.hid g0
  have Q1 := Lib.hid q1
  have Q2 := Lib.hid q2
  clear ha hb s0 s1 s2 g0 q1 q2
  have HX0 := Lib.hid hX0
  have HX1 := Lib.hid hX1
  have HX2 := Lib.hid hX2
  clear hX0 hX1 hX2 hD c0 c1 r0
  obtain ⟨m, hm⟩ : ∃ m, m = min b a := ⟨_, rfl⟩
  have hm1 : -9223372036854775808 ≤ m ∧ m ≤ 9223372036854775807 := by have h1 := Ha.out; have h2 := Hb.out; omega
  have cm := fun w => cut_any D HD.out m w
  have rm := fun w => refcut_any D HD.out m hm1 w
  rw [hm, ← cut_cut D HD.out a b, ← HX2.out, ← HX0.out, ← hm] at cm rm
  have HCm := Lib.hid cm
  have HRm := Lib.hid rm
  have E1 := Lib.hid (fun w => show (Op.equalIn 10000 73 (.agg L1.toArray) (.agg L1.toArray)).run Try.prog w = .ok true w by rw [HX1.out, run_eq_digest _ _ HD1.out HD1.out]; simp)
  have E2 := Lib.hid (fun w => show (Op.equalIn 10000 73 (.agg L2.toArray) (.agg L2.toArray)).run Try.prog w = .ok true w by rw [HX2.out, run_eq_digest _ _ HD2.out HD2.out]; simp)
  clear cm rm hm1 Q1 Q2
  rcases Int.lt_or_le b a with hba | hba
  · obtain rfl : m = b := by omega
    clear hm
    go_enter Try.func10, Try.ntmps10
    go_wp2_with (first
      | ((with_reducible refine wpList_load_row (o := ⟨some 10, _, _, _, _, _⟩) ?_ _ (.tmp 3) ?_ w.heap.size ?_ 73 L0.toArray (0, 0) _ G0.out Try.underlying73 ?_ i0.out ?_); rfl; rfl; rfl; rfl)
      | (go_at_call 45; refine (HC0.out _).mono ?_; rintro e w1 ⟨rfl, hu1⟩; have Hu1 := Lib.hid hu1; clear hu1)
      | ((with_reducible refine wpList_store_new (o := ⟨none, .store 73 (.tmp 7) (.tmp 12), _, _, _, _⟩) ?_ _ (.tmp 7) (.tmp 12) ?_ w1.heap.size L1.toArray ?_ ?_ 73 A32 (heap_alloc_new _ _) i1.out l1.out o1.out ?_); rfl; rfl; rfl; rfl; intro w2 Hg2 Hu2)
      | ((with_reducible refine wpList_load_row (o := ⟨some 13, _, _, _, _, _⟩) ?_ _ (.tmp 7) ?_ w1.heap.size ?_ 73 L1.toArray (0, 0) _ Hg2.out Try.underlying73 ?_ i1.out ?_); rfl; rfl; rfl; rfl)
      | (go_at_call 45; refine (HC1.out _).mono ?_; rintro e w3 ⟨rfl, hu3⟩; have Hu3 := Lib.hid hu3; clear hu3)
      | ((with_reducible refine wpList_store_new (o := ⟨none, .store 73 (.tmp 8) (.tmp 15), _, _, _, _⟩) ?_ _ (.tmp 8) (.tmp 15) ?_ w3.heap.size L2.toArray ?_ ?_ 73 A32 (heap_alloc_new _ _) i2.out l2.out o2.out ?_); rfl; rfl; rfl; rfl; intro w4 Hg4 Hu4))

    have hs1 : w.heap.size < w1.heap.size := by have := Hu1.out.size; simp at this; omega
    have hs2 : w1.heap.size < w2.heap.size := lt_of_block Hg2.out
    have hs3 : w2.heap.size ≤ w3.heap.size := Hu3.out.size
    have hs4 : w3.heap.size < w4.heap.size := lt_of_block Hg4.out
    have n0 : w2.heap[w.heap.size]? = some (.cells L0.toArray 73 (0, 0)) := by
      rw [Hu2.out.block _ (by simp; omega) (by omega), Below.heap_alloc _ _ _ hs1, Hu1.out.block _ (by simp) id]; exact G0.out
    have m0 : w4.heap[w.heap.size]? = some (.cells L0.toArray 73 (0, 0)) := by
      rw [Hu4.out.block _ (by simp; omega) (by omega), Below.heap_alloc _ _ _ (by omega), Hu3.out.block _ (by omega) id]; exact n0
    have m1 : w4.heap[w1.heap.size]? = some (.cells L1.toArray 73 (0, 0)) := by
      rw [Hu4.out.block _ (by simp; omega) (by omega), Below.heap_alloc _ _ _ (by omega), Hu3.out.block _ (by omega) id]; exact Hg2.out
    have HB4 : Hid (Below w.heap.size w w4) := by
      have h1 : Below w.heap.size w w1 := ((Upd.refl (fun _ => False) w).alloc _).below (Nat.le_refl _) (fun _ _ => id) |>.trans (Hu1.out.below (by simp) (fun _ _ => id))
      have h2 : Below w.heap.size w w2 := (h1.alloc (by omega) _).trans (Hu2.out.below (by simp; omega) (fun k hk e => by omega))
      have h3 : Below w.heap.size w w3 := h2.trans (Hu3.out.below (by omega) (fun _ _ => id))
      exact (h3.alloc (by omega) _).trans (Hu4.out.below (by simp; omega) (fun k hk e => by omega))
    have M0 := Lib.hid m0
    have M1 := Lib.hid m1
    have M2 := Lib.hid Hg4.out
    have q1 := E1.out
    have q2 := E2.out
    have k0 := range_of m0
    have k1 := range_of m1
    have k2 := range_of Hg4.out
    have hud := Try.underlying73
    have hz0 := i0.out
    have hz1 := i1.out
    have hz2 := i2.out
    rw [List.size_toArray] at hz0 hz1 hz2
    clear n0 m0 m1 Hg2 Hg4 Hu1 Hu2 Hu3 Hu4 hz
    refine wp_region_held (S := fun w' => w'.rangeAt w.heap.size 0 L0 ∧ w'.rangeAt w1.heap.size 0 L1 ∧ w'.rangeAt w3.heap.size 0 L2) (by kernel_rfl) ?_
    refine wpAnyH_take (i := 0) rfl (by kernel_rfl) (by kernel_rfl) (by kernel_rfl) (fun _ _ _ h => h) (yieldsIf_load_mid (by rfl) _ _ rfl _ _ rfl L1 _ (fun w h => h.2.1) hud rfl hz1) ⟨k0, k1, k2⟩ ?_
    try simp only [Act.put, List.setIfInBounds_toArray, List.set_cons_zero, List.set_cons_succ]
    refine wpAnyH_take (i := 1) rfl (by kernel_rfl) (by kernel_rfl) (by kernel_rfl) (fun _ _ _ h => h) (yieldsIf_load_mid (by rfl) _ _ rfl _ _ rfl L0 _ (fun w h => h.1) hud rfl hz0) ⟨k0, k1, k2⟩ ?_
    try simp only [Act.put, List.setIfInBounds_toArray, List.set_cons_zero, List.set_cons_succ]
    refine wpAnyH_take (i := 2) (oi := ⟨some 23, _, _, _, _, _⟩) (v := .int .i64 a) rfl (by kernel_rfl) (by kernel_rfl) (by kernel_rfl) (fun _ _ _ h => h) (Or.inl ⟨by rfl, fun w hS => by go_simp⟩) ⟨k0, k1, k2⟩ ?_
    try simp only [Act.put, List.setIfInBounds_toArray, List.set_cons_zero, List.set_cons_succ]
    refine wpAnyH_ready (rs := [3]) (by kernel_rfl) (by simp) ?_
    refine AllReadyH.cons rfl (fun K hK => ?_) AllReadyH.nil
    go_simp
    refine (HR0.out _).mono ?_
    rintro e w5 ⟨rfl, hu0⟩
    have hu5 : Upd (fun _ => False) w4 w5 := ⟨hu0.os, hu0.tape, hu0.output, hu0.size, hu0.block⟩
    clear hu0
    clear k0 k1 k2
    have M0 := Lib.hid ((hu5.block w.heap.size (show w.heap.size < w4.heap.size by omega) id).trans M0.out)
    have M1 := Lib.hid ((hu5.block w1.heap.size (show w1.heap.size < w4.heap.size by omega) id).trans M1.out)
    have M2 := Lib.hid ((hu5.block w3.heap.size (show w3.heap.size < w4.heap.size by omega) id).trans M2.out)
    have HB4 := Lib.hid (HB4.out.trans (hu5.below (show w.heap.size ≤ w4.heap.size by omega) (fun _ _ => id)))
    have k0 := range_of M0.out
    have k1 := range_of M1.out
    have k2 := range_of M2.out
    have hsz_w5 : w4.heap.size ≤ w5.heap.size := hu5.size
    clear hu5
    refine hK.out _ _ ⟨k0, k1, k2⟩ (fun hHeld => ?_)
    clear hK K hHeld
    try simp only [Act.put, List.setIfInBounds_toArray, List.set_cons_zero, List.set_cons_succ]
    refine wpAnyH_take (i := 4) (oi := ⟨some 25, _, _, _, _, _⟩) (v := .bool true) rfl (by kernel_rfl) (by kernel_rfl) (by kernel_rfl) (fun _ _ _ h => h) (Or.inl ⟨by rfl, fun w hS => by go_simp⟩) ⟨k0, k1, k2⟩ ?_
    try simp only [Act.put, List.setIfInBounds_toArray, List.set_cons_zero, List.set_cons_succ]
    refine wpAnyH_take (i := 5) (oi := ⟨some 26, _, _, _, _, _⟩) (v := .bool true) rfl (by kernel_rfl) (by kernel_rfl) (by kernel_rfl) (fun _ _ _ h => h) (Or.inl ⟨by rfl, fun w hS => by go_simp⟩) ⟨k0, k1, k2⟩ ?_
    try simp only [Act.put, List.setIfInBounds_toArray, List.set_cons_zero, List.set_cons_succ]
    refine wpAnyH_take (i := 6) rfl (by kernel_rfl) (by kernel_rfl) (by kernel_rfl) (fun _ _ _ h => h) (yieldsIf_load_mid (by rfl) _ _ rfl _ _ rfl L2 _ (fun w h => h.2.2) hud rfl hz2) ⟨k0, k1, k2⟩ ?_
    try simp only [Act.put, List.setIfInBounds_toArray, List.set_cons_zero, List.set_cons_succ]
    refine wpAnyH_take (i := 7) rfl (by kernel_rfl) (by kernel_rfl) (by kernel_rfl) (fun _ _ _ h => h) (yieldsIf_load_mid (by rfl) _ _ rfl _ _ rfl L0 _ (fun w h => h.1) hud rfl hz0) ⟨k0, k1, k2⟩ ?_
    try simp only [Act.put, List.setIfInBounds_toArray, List.set_cons_zero, List.set_cons_succ]
    refine wpAnyH_take (i := 8) (oi := ⟨some 29, _, _, _, _, _⟩) (v := .int .i64 m) rfl (by kernel_rfl) (by kernel_rfl) (by kernel_rfl) (fun _ _ _ h => h) (Or.inl ⟨by rfl, fun w hS => by go_simp⟩) ⟨k0, k1, k2⟩ ?_
    try simp only [Act.put, List.setIfInBounds_toArray, List.set_cons_zero, List.set_cons_succ]
    refine wpAnyH_ready (rs := [9]) (by kernel_rfl) (by simp) ?_
    refine AllReadyH.cons rfl (fun K hK => ?_) AllReadyH.nil
    go_simp
    refine (HRm.out _).mono ?_
    rintro e w6 ⟨rfl, hu0⟩
    have hu5 : Upd (fun _ => False) w5 w6 := ⟨hu0.os, hu0.tape, hu0.output, hu0.size, hu0.block⟩
    clear hu0
    clear k0 k1 k2
    have M0 := Lib.hid ((hu5.block w.heap.size (show w.heap.size < w5.heap.size by omega) id).trans M0.out)
    have M1 := Lib.hid ((hu5.block w1.heap.size (show w1.heap.size < w5.heap.size by omega) id).trans M1.out)
    have M2 := Lib.hid ((hu5.block w3.heap.size (show w3.heap.size < w5.heap.size by omega) id).trans M2.out)
    have HB4 := Lib.hid (HB4.out.trans (hu5.below (show w.heap.size ≤ w5.heap.size by omega) (fun _ _ => id)))
    have k0 := range_of M0.out
    have k1 := range_of M1.out
    have k2 := range_of M2.out
    have hsz_w6 : w5.heap.size ≤ w6.heap.size := hu5.size
    clear hu5
    refine hK.out _ _ ⟨k0, k1, k2⟩ (fun hHeld => ?_)
    clear hK K hHeld
    try simp only [Act.put, List.setIfInBounds_toArray, List.set_cons_zero, List.set_cons_succ]
    refine wpAnyH_take (i := 10) (oi := ⟨some 31, _, _, _, _, _⟩) (v := .bool true) rfl (by kernel_rfl) (by kernel_rfl) (by kernel_rfl) (fun _ _ _ h => h) (Or.inl ⟨by rfl, fun w hS => by go_simp⟩) ⟨k0, k1, k2⟩ ?_
    try simp only [Act.put, List.setIfInBounds_toArray, List.set_cons_zero, List.set_cons_succ]
    refine wpAnyH_take (i := 11) (oi := ⟨some 32, _, _, _, _, _⟩) (v := .bool true) rfl (by kernel_rfl) (by kernel_rfl) (by kernel_rfl) (fun _ _ _ h => h) (Or.inl ⟨by rfl, fun w hS => by go_simp⟩) ⟨k0, k1, k2⟩ ?_
    try simp only [Act.put, List.setIfInBounds_toArray, List.set_cons_zero, List.set_cons_succ]
    refine wpAnyH_take (i := 12) (oi := ⟨some 33, _, _, _, _, _⟩) (v := .bool true) rfl (by kernel_rfl) (by kernel_rfl) (by kernel_rfl) (fun _ _ _ h => h) (Or.inl ⟨by rfl, fun w hS => by go_simp⟩) ⟨k0, k1, k2⟩ ?_
    try simp only [Act.put, List.setIfInBounds_toArray, List.set_cons_zero, List.set_cons_succ]
    refine wpAnyH_take (i := 13) rfl (by kernel_rfl) (by kernel_rfl) (by kernel_rfl) (fun _ _ _ h => h) (yieldsIf_load_mid (by rfl) _ _ rfl _ _ rfl L2 _ (fun w h => h.2.2) hud rfl hz2) ⟨k0, k1, k2⟩ ?_
    try simp only [Act.put, List.setIfInBounds_toArray, List.set_cons_zero, List.set_cons_succ]
    refine wpAnyH_take (i := 14) rfl (by kernel_rfl) (by kernel_rfl) (by kernel_rfl) (fun _ _ _ h => h) (yieldsIf_load_mid (by rfl) _ _ rfl _ _ rfl L0 _ (fun w h => h.1) hud rfl hz0) ⟨k0, k1, k2⟩ ?_
    try simp only [Act.put, List.setIfInBounds_toArray, List.set_cons_zero, List.set_cons_succ]
    refine wpAnyH_take (i := 15) (oi := ⟨some 36, _, _, _, _, _⟩) (v := .int .i64 m) rfl (by kernel_rfl) (by kernel_rfl) (by kernel_rfl) (fun _ _ _ h => h) (Or.inl ⟨by rfl, fun w hS => by go_simp⟩) ⟨k0, k1, k2⟩ ?_
    try simp only [Act.put, List.setIfInBounds_toArray, List.set_cons_zero, List.set_cons_succ]
    refine wpAnyH_ready (rs := [16]) (by kernel_rfl) (by simp) ?_
    refine AllReadyH.cons rfl (fun K hK => ?_) AllReadyH.nil
    go_simp
    refine (HCm.out _).mono ?_
    rintro e w7 ⟨rfl, hu0⟩
    have hu5 : Upd (fun _ => False) w6 w7 := ⟨hu0.os, hu0.tape, hu0.output, hu0.size, hu0.block⟩
    clear hu0
    clear k0 k1 k2
    have M0 := Lib.hid ((hu5.block w.heap.size (show w.heap.size < w6.heap.size by omega) id).trans M0.out)
    have M1 := Lib.hid ((hu5.block w1.heap.size (show w1.heap.size < w6.heap.size by omega) id).trans M1.out)
    have M2 := Lib.hid ((hu5.block w3.heap.size (show w3.heap.size < w6.heap.size by omega) id).trans M2.out)
    have HB4 := Lib.hid (HB4.out.trans (hu5.below (show w.heap.size ≤ w6.heap.size by omega) (fun _ _ => id)))
    have k0 := range_of M0.out
    have k1 := range_of M1.out
    have k2 := range_of M2.out
    have hsz_w7 : w6.heap.size ≤ w7.heap.size := hu5.size
    clear hu5
    refine hK.out _ _ ⟨k0, k1, k2⟩ (fun hHeld => ?_)
    clear hK K hHeld
    try simp only [Act.put, List.setIfInBounds_toArray, List.set_cons_zero, List.set_cons_succ]
    refine wpAnyH_take (i := 17) (oi := ⟨some 38, _, _, _, _, _⟩) (v := .bool true) rfl (by kernel_rfl) (by kernel_rfl) (by kernel_rfl) (fun _ _ _ h => h) (Or.inl ⟨by rfl, fun w hS => by go_simp⟩) ⟨k0, k1, k2⟩ ?_
    try simp only [Act.put, List.setIfInBounds_toArray, List.set_cons_zero, List.set_cons_succ]
    refine wpAnyH_take (i := 18) (oi := ⟨some 39, _, _, _, _, _⟩) (v := .bool true) rfl (by kernel_rfl) (by kernel_rfl) (by kernel_rfl) (fun _ _ _ h => h) (Or.inl ⟨by rfl, fun w hS => by go_simp⟩) ⟨k0, k1, k2⟩ ?_
    try simp only [Act.put, List.setIfInBounds_toArray, List.set_cons_zero, List.set_cons_succ]
    refine wpAnyH_take (i := 19) (oi := ⟨some 6, _, _, _, _, _⟩) (v := .bool true) rfl (by kernel_rfl) (by kernel_rfl) (by kernel_rfl) (fun _ _ _ h => h) (Or.inl ⟨by rfl, fun w hS => by go_simp⟩) ⟨k0, k1, k2⟩ ?_
    try simp only [Act.put, List.setIfInBounds_toArray, List.set_cons_zero, List.set_cons_succ]
    refine wpAnyH_done (by kernel_rfl) ?_ _
    go_wp2
    go_ret
    exact ⟨rfl, HB4.out⟩
  · obtain rfl : m = a := by omega
    have hbn : ¬ b < m := by omega
    clear hm
    go_enter Try.func10, Try.ntmps10
    go_wp2_with (first
      | ((with_reducible refine wpList_load_row (o := ⟨some 10, _, _, _, _, _⟩) ?_ _ (.tmp 3) ?_ w.heap.size ?_ 73 L0.toArray (0, 0) _ G0.out Try.underlying73 ?_ i0.out ?_); rfl; rfl; rfl; rfl)
      | (go_at_call 45; refine (HC0.out _).mono ?_; rintro e w1 ⟨rfl, hu1⟩; have Hu1 := Lib.hid hu1; clear hu1)
      | ((with_reducible refine wpList_store_new (o := ⟨none, .store 73 (.tmp 7) (.tmp 12), _, _, _, _⟩) ?_ _ (.tmp 7) (.tmp 12) ?_ w1.heap.size L1.toArray ?_ ?_ 73 A32 (heap_alloc_new _ _) i1.out l1.out o1.out ?_); rfl; rfl; rfl; rfl; intro w2 Hg2 Hu2)
      | ((with_reducible refine wpList_load_row (o := ⟨some 13, _, _, _, _, _⟩) ?_ _ (.tmp 7) ?_ w1.heap.size ?_ 73 L1.toArray (0, 0) _ Hg2.out Try.underlying73 ?_ i1.out ?_); rfl; rfl; rfl; rfl)
      | (go_at_call 45; refine (HC1.out _).mono ?_; rintro e w3 ⟨rfl, hu3⟩; have Hu3 := Lib.hid hu3; clear hu3)
      | ((with_reducible refine wpList_store_new (o := ⟨none, .store 73 (.tmp 8) (.tmp 15), _, _, _, _⟩) ?_ _ (.tmp 8) (.tmp 15) ?_ w3.heap.size L2.toArray ?_ ?_ 73 A32 (heap_alloc_new _ _) i2.out l2.out o2.out ?_); rfl; rfl; rfl; rfl; intro w4 Hg4 Hu4))

    have hs1 : w.heap.size < w1.heap.size := by have := Hu1.out.size; simp at this; omega
    have hs2 : w1.heap.size < w2.heap.size := lt_of_block Hg2.out
    have hs3 : w2.heap.size ≤ w3.heap.size := Hu3.out.size
    have hs4 : w3.heap.size < w4.heap.size := lt_of_block Hg4.out
    have n0 : w2.heap[w.heap.size]? = some (.cells L0.toArray 73 (0, 0)) := by
      rw [Hu2.out.block _ (by simp; omega) (by omega), Below.heap_alloc _ _ _ hs1, Hu1.out.block _ (by simp) id]; exact G0.out
    have m0 : w4.heap[w.heap.size]? = some (.cells L0.toArray 73 (0, 0)) := by
      rw [Hu4.out.block _ (by simp; omega) (by omega), Below.heap_alloc _ _ _ (by omega), Hu3.out.block _ (by omega) id]; exact n0
    have m1 : w4.heap[w1.heap.size]? = some (.cells L1.toArray 73 (0, 0)) := by
      rw [Hu4.out.block _ (by simp; omega) (by omega), Below.heap_alloc _ _ _ (by omega), Hu3.out.block _ (by omega) id]; exact Hg2.out
    have HB4 : Hid (Below w.heap.size w w4) := by
      have h1 : Below w.heap.size w w1 := ((Upd.refl (fun _ => False) w).alloc _).below (Nat.le_refl _) (fun _ _ => id) |>.trans (Hu1.out.below (by simp) (fun _ _ => id))
      have h2 : Below w.heap.size w w2 := (h1.alloc (by omega) _).trans (Hu2.out.below (by simp; omega) (fun k hk e => by omega))
      have h3 : Below w.heap.size w w3 := h2.trans (Hu3.out.below (by omega) (fun _ _ => id))
      exact (h3.alloc (by omega) _).trans (Hu4.out.below (by simp; omega) (fun k hk e => by omega))
    have M0 := Lib.hid m0
    have M1 := Lib.hid m1
    have M2 := Lib.hid Hg4.out
    have q1 := E1.out
    have q2 := E2.out
    have k0 := range_of m0
    have k1 := range_of m1
    have k2 := range_of Hg4.out
    have hud := Try.underlying73
    have hz0 := i0.out
    have hz1 := i1.out
    have hz2 := i2.out
    rw [List.size_toArray] at hz0 hz1 hz2
    clear n0 m0 m1 Hg2 Hg4 Hu1 Hu2 Hu3 Hu4 hz
    refine wp_region_held (S := fun w' => w'.rangeAt w.heap.size 0 L0 ∧ w'.rangeAt w1.heap.size 0 L1 ∧ w'.rangeAt w3.heap.size 0 L2) (by kernel_rfl) ?_
    refine wpAnyH_take (i := 0) rfl (by kernel_rfl) (by kernel_rfl) (by kernel_rfl) (fun _ _ _ h => h) (yieldsIf_load_mid (by rfl) _ _ rfl _ _ rfl L1 _ (fun w h => h.2.1) hud rfl hz1) ⟨k0, k1, k2⟩ ?_
    try simp only [Act.put, List.setIfInBounds_toArray, List.set_cons_zero, List.set_cons_succ]
    refine wpAnyH_take (i := 1) rfl (by kernel_rfl) (by kernel_rfl) (by kernel_rfl) (fun _ _ _ h => h) (yieldsIf_load_mid (by rfl) _ _ rfl _ _ rfl L0 _ (fun w h => h.1) hud rfl hz0) ⟨k0, k1, k2⟩ ?_
    try simp only [Act.put, List.setIfInBounds_toArray, List.set_cons_zero, List.set_cons_succ]
    refine wpAnyH_take (i := 2) (oi := ⟨some 23, _, _, _, _, _⟩) (v := .int .i64 m) rfl (by kernel_rfl) (by kernel_rfl) (by kernel_rfl) (fun _ _ _ h => h) (Or.inl ⟨by rfl, fun w hS => by go_simp⟩) ⟨k0, k1, k2⟩ ?_
    try simp only [Act.put, List.setIfInBounds_toArray, List.set_cons_zero, List.set_cons_succ]
    refine wpAnyH_ready (rs := [3]) (by kernel_rfl) (by simp) ?_
    refine AllReadyH.cons rfl (fun K hK => ?_) AllReadyH.nil
    go_simp
    refine (HR0.out _).mono ?_
    rintro e w5 ⟨rfl, hu0⟩
    have hu5 : Upd (fun _ => False) w4 w5 := ⟨hu0.os, hu0.tape, hu0.output, hu0.size, hu0.block⟩
    clear hu0
    clear k0 k1 k2
    have M0 := Lib.hid ((hu5.block w.heap.size (show w.heap.size < w4.heap.size by omega) id).trans M0.out)
    have M1 := Lib.hid ((hu5.block w1.heap.size (show w1.heap.size < w4.heap.size by omega) id).trans M1.out)
    have M2 := Lib.hid ((hu5.block w3.heap.size (show w3.heap.size < w4.heap.size by omega) id).trans M2.out)
    have HB4 := Lib.hid (HB4.out.trans (hu5.below (show w.heap.size ≤ w4.heap.size by omega) (fun _ _ => id)))
    have k0 := range_of M0.out
    have k1 := range_of M1.out
    have k2 := range_of M2.out
    have hsz_w5 : w4.heap.size ≤ w5.heap.size := hu5.size
    clear hu5
    refine hK.out _ _ ⟨k0, k1, k2⟩ (fun hHeld => ?_)
    clear hK K hHeld
    try simp only [Act.put, List.setIfInBounds_toArray, List.set_cons_zero, List.set_cons_succ]
    refine wpAnyH_take (i := 4) (oi := ⟨some 25, _, _, _, _, _⟩) (v := .bool true) rfl (by kernel_rfl) (by kernel_rfl) (by kernel_rfl) (fun _ _ _ h => h) (Or.inl ⟨by rfl, fun w hS => by go_simp⟩) ⟨k0, k1, k2⟩ ?_
    try simp only [Act.put, List.setIfInBounds_toArray, List.set_cons_zero, List.set_cons_succ]
    refine wpAnyH_take (i := 5) (oi := ⟨some 26, _, _, _, _, _⟩) (v := .bool true) rfl (by kernel_rfl) (by kernel_rfl) (by kernel_rfl) (fun _ _ _ h => h) (Or.inl ⟨by rfl, fun w hS => by go_simp⟩) ⟨k0, k1, k2⟩ ?_
    try simp only [Act.put, List.setIfInBounds_toArray, List.set_cons_zero, List.set_cons_succ]
    refine wpAnyH_take (i := 6) rfl (by kernel_rfl) (by kernel_rfl) (by kernel_rfl) (fun _ _ _ h => h) (yieldsIf_load_mid (by rfl) _ _ rfl _ _ rfl L2 _ (fun w h => h.2.2) hud rfl hz2) ⟨k0, k1, k2⟩ ?_
    try simp only [Act.put, List.setIfInBounds_toArray, List.set_cons_zero, List.set_cons_succ]
    refine wpAnyH_take (i := 7) rfl (by kernel_rfl) (by kernel_rfl) (by kernel_rfl) (fun _ _ _ h => h) (yieldsIf_load_mid (by rfl) _ _ rfl _ _ rfl L0 _ (fun w h => h.1) hud rfl hz0) ⟨k0, k1, k2⟩ ?_
    try simp only [Act.put, List.setIfInBounds_toArray, List.set_cons_zero, List.set_cons_succ]
    refine wpAnyH_take (i := 8) (oi := ⟨some 29, _, _, _, _, _⟩) (v := .int .i64 m) rfl (by kernel_rfl) (by kernel_rfl) (by kernel_rfl) (fun _ _ _ h => h) (Or.inl ⟨by rfl, fun w hS => by go_simp⟩) ⟨k0, k1, k2⟩ ?_
    try simp only [Act.put, List.setIfInBounds_toArray, List.set_cons_zero, List.set_cons_succ]
    refine wpAnyH_ready (rs := [9]) (by kernel_rfl) (by simp) ?_
    refine AllReadyH.cons rfl (fun K hK => ?_) AllReadyH.nil
    go_simp
    refine (HRm.out _).mono ?_
    rintro e w6 ⟨rfl, hu0⟩
    have hu5 : Upd (fun _ => False) w5 w6 := ⟨hu0.os, hu0.tape, hu0.output, hu0.size, hu0.block⟩
    clear hu0
    clear k0 k1 k2
    have M0 := Lib.hid ((hu5.block w.heap.size (show w.heap.size < w5.heap.size by omega) id).trans M0.out)
    have M1 := Lib.hid ((hu5.block w1.heap.size (show w1.heap.size < w5.heap.size by omega) id).trans M1.out)
    have M2 := Lib.hid ((hu5.block w3.heap.size (show w3.heap.size < w5.heap.size by omega) id).trans M2.out)
    have HB4 := Lib.hid (HB4.out.trans (hu5.below (show w.heap.size ≤ w5.heap.size by omega) (fun _ _ => id)))
    have k0 := range_of M0.out
    have k1 := range_of M1.out
    have k2 := range_of M2.out
    have hsz_w6 : w5.heap.size ≤ w6.heap.size := hu5.size
    clear hu5
    refine hK.out _ _ ⟨k0, k1, k2⟩ (fun hHeld => ?_)
    clear hK K hHeld
    try simp only [Act.put, List.setIfInBounds_toArray, List.set_cons_zero, List.set_cons_succ]
    refine wpAnyH_take (i := 10) (oi := ⟨some 31, _, _, _, _, _⟩) (v := .bool true) rfl (by kernel_rfl) (by kernel_rfl) (by kernel_rfl) (fun _ _ _ h => h) (Or.inl ⟨by rfl, fun w hS => by go_simp⟩) ⟨k0, k1, k2⟩ ?_
    try simp only [Act.put, List.setIfInBounds_toArray, List.set_cons_zero, List.set_cons_succ]
    refine wpAnyH_take (i := 11) (oi := ⟨some 32, _, _, _, _, _⟩) (v := .bool true) rfl (by kernel_rfl) (by kernel_rfl) (by kernel_rfl) (fun _ _ _ h => h) (Or.inl ⟨by rfl, fun w hS => by go_simp⟩) ⟨k0, k1, k2⟩ ?_
    try simp only [Act.put, List.setIfInBounds_toArray, List.set_cons_zero, List.set_cons_succ]
    refine wpAnyH_take (i := 12) (oi := ⟨some 33, _, _, _, _, _⟩) (v := .bool true) rfl (by kernel_rfl) (by kernel_rfl) (by kernel_rfl) (fun _ _ _ h => h) (Or.inl ⟨by rfl, fun w hS => by go_simp⟩) ⟨k0, k1, k2⟩ ?_
    try simp only [Act.put, List.setIfInBounds_toArray, List.set_cons_zero, List.set_cons_succ]
    refine wpAnyH_take (i := 13) rfl (by kernel_rfl) (by kernel_rfl) (by kernel_rfl) (fun _ _ _ h => h) (yieldsIf_load_mid (by rfl) _ _ rfl _ _ rfl L2 _ (fun w h => h.2.2) hud rfl hz2) ⟨k0, k1, k2⟩ ?_
    try simp only [Act.put, List.setIfInBounds_toArray, List.set_cons_zero, List.set_cons_succ]
    refine wpAnyH_take (i := 14) rfl (by kernel_rfl) (by kernel_rfl) (by kernel_rfl) (fun _ _ _ h => h) (yieldsIf_load_mid (by rfl) _ _ rfl _ _ rfl L0 _ (fun w h => h.1) hud rfl hz0) ⟨k0, k1, k2⟩ ?_
    try simp only [Act.put, List.setIfInBounds_toArray, List.set_cons_zero, List.set_cons_succ]
    refine wpAnyH_take (i := 15) (oi := ⟨some 36, _, _, _, _, _⟩) (v := .int .i64 m) rfl (by kernel_rfl) (by kernel_rfl) (by kernel_rfl) (fun _ _ _ h => h) (Or.inl ⟨by rfl, fun w hS => by go_simp⟩) ⟨k0, k1, k2⟩ ?_
    try simp only [Act.put, List.setIfInBounds_toArray, List.set_cons_zero, List.set_cons_succ]
    refine wpAnyH_ready (rs := [16]) (by kernel_rfl) (by simp) ?_
    refine AllReadyH.cons rfl (fun K hK => ?_) AllReadyH.nil
    go_simp
    refine (HCm.out _).mono ?_
    rintro e w7 ⟨rfl, hu0⟩
    have hu5 : Upd (fun _ => False) w6 w7 := ⟨hu0.os, hu0.tape, hu0.output, hu0.size, hu0.block⟩
    clear hu0
    clear k0 k1 k2
    have M0 := Lib.hid ((hu5.block w.heap.size (show w.heap.size < w6.heap.size by omega) id).trans M0.out)
    have M1 := Lib.hid ((hu5.block w1.heap.size (show w1.heap.size < w6.heap.size by omega) id).trans M1.out)
    have M2 := Lib.hid ((hu5.block w3.heap.size (show w3.heap.size < w6.heap.size by omega) id).trans M2.out)
    have HB4 := Lib.hid (HB4.out.trans (hu5.below (show w.heap.size ≤ w6.heap.size by omega) (fun _ _ => id)))
    have k0 := range_of M0.out
    have k1 := range_of M1.out
    have k2 := range_of M2.out
    have hsz_w7 : w6.heap.size ≤ w7.heap.size := hu5.size
    clear hu5
    refine hK.out _ _ ⟨k0, k1, k2⟩ (fun hHeld => ?_)
    clear hK K hHeld
    try simp only [Act.put, List.setIfInBounds_toArray, List.set_cons_zero, List.set_cons_succ]
    refine wpAnyH_take (i := 17) (oi := ⟨some 38, _, _, _, _, _⟩) (v := .bool true) rfl (by kernel_rfl) (by kernel_rfl) (by kernel_rfl) (fun _ _ _ h => h) (Or.inl ⟨by rfl, fun w hS => by go_simp⟩) ⟨k0, k1, k2⟩ ?_
    try simp only [Act.put, List.setIfInBounds_toArray, List.set_cons_zero, List.set_cons_succ]
    refine wpAnyH_take (i := 18) (oi := ⟨some 39, _, _, _, _, _⟩) (v := .bool true) rfl (by kernel_rfl) (by kernel_rfl) (by kernel_rfl) (fun _ _ _ h => h) (Or.inl ⟨by rfl, fun w hS => by go_simp⟩) ⟨k0, k1, k2⟩ ?_
    try simp only [Act.put, List.setIfInBounds_toArray, List.set_cons_zero, List.set_cons_succ]
    refine wpAnyH_take (i := 19) (oi := ⟨some 6, _, _, _, _, _⟩) (v := .bool true) rfl (by kernel_rfl) (by kernel_rfl) (by kernel_rfl) (fun _ _ _ h => h) (Or.inl ⟨by rfl, fun w hS => by go_simp⟩) ⟨k0, k1, k2⟩ ?_
    try simp only [Act.put, List.setIfInBounds_toArray, List.set_cons_zero, List.set_cons_succ]
    refine wpAnyH_done (by kernel_rfl) ?_ _
    go_wp2
    go_ret
    exact ⟨rfl, HB4.out⟩
end Go.Proofs.Ytdjingpmffgkcaa.CutsW
