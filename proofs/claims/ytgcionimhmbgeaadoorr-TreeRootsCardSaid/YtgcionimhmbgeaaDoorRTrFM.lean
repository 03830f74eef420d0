/-
  tree.Fold, docketref6.Fold.
-/
import Derived.Test.YtgcionimhmbgeaaDoorRTrDM
namespace Go.Proofs.YtgcionimhmbgeaaDoorR.TrF
open Go.RowKit Sha TurnW Mem RowW SpreadW MixW HashM CopyW WriteW WriteN EndW SumH NewW EqW CutW OfW LeafW TabK BitsW SpL RefOf TabR TrD
set_option linter.unusedVariables false
set_option linter.unusedSimpArgs false

theorem fold_step (width : Int) (ds : List (List UInt8)) (k : Nat) (h : k + 1 < ds.length) : foldM width (ds.drop k) = Nd width (ds.getD k []) (foldM width (ds.drop (k + 1))) := by
  unfold foldM
  rw [List.drop_eq_getElem_cons (by omega), fold_cons _ _ _ _ (by
    intro e
    have := congrArg List.length e
    simp at this
    omega), List.getD_eq_getElem?_getD, List.getElem?_eq_getElem (by omega)]
  rfl
theorem fold_last (width : Int) (ds : List (List UInt8)) (k : Nat) (h : k + 1 = ds.length) : foldM width (ds.drop k) = ds.getD k [] := by
  unfold foldM
  rw [List.drop_eq_getElem_cons (by omega), List.drop_eq_nil_of_le (by omega), List.getD_eq_getElem?_getD, List.getElem?_eq_getElem (by omega)]
  rfl
theorem at_range {w : World} {b off n cap : Nat} {ds : List (List UInt8)} {O : Nat → Prop} (h : DsL w (.slice (some ⟨b, off, none⟩) n cap) ds O) (k : Nat) (hk : k < n) : ∀ (j : Nat) v, ((ds.getD k []).map u8)[j]? = some v → w.cell? ⟨b, off + k * 32 + j, none⟩ = some v := by
  obtain ⟨_, _, he, _, _, _, _, h6⟩ := h
  injection he with e1 e2 e3
  subst e1 e2
  exact (h6 _ rfl).2.2 k hk
theorem ds_block {w : World} {b off n cap : Nat} {ds : List (List UInt8)} {O : Nat → Prop} (h : DsL w (.slice (some ⟨b, off, none⟩) n cap) ds O) (hn : 0 < n) : O b := by
  obtain ⟨_, _, he, _, _, _, _, h6⟩ := h
  injection he with e1 e2 e3
  subst e1 e2
  exact (h6 _ rfl).2.1 hn
/-- the box of the fold so far -/
def LFo (width : Int) (ds : List (List UInt8)) (n bd : Nat) (w1 : World) (i : Value) (wr : World) : Prop :=
  ∃ (k : Nat) (z : Int), k + 1 ≤ n ∧ z + 1 = (k : Int) ∧ i = .int .i64 z ∧ wr.heap[bd]? = some (.cells ((foldM width (ds.drop k)).map u8).toArray 23 (0, 0)) ∧ Upd (fun j => j = bd) w1 wr

set_option maxHeartbeats 4000000 in
set_option maxRecDepth 100000 in
theorem fold_any (width : Int) (n : Nat) (ao : Option Addr) (cap : Nat) (ds : List (List UInt8)) (O : Nat → Prop) (w : World) (hn : n = ds.length) (hnm : n ≤ 140737488355328) (hs : DsL w (.slice ao n cap) ds O) (hO : ∀ k, O k → k < w.heap.size) (hk : Kw w) (hg : 2 < w.heap.size) :
    Calls Tryd.prog 20 #[.int .i64 width, .slice ao n cap] w (AtD (foldM width ds) w) := by
  obtain ⟨Y, hY⟩ : ∃ Y, Y = ((foldM width ds).map u8).toArray := ⟨_, rfl⟩
  obtain ⟨ao', cap', he, h1, h2, h3, h4, h5⟩ := id hs
  injection he with e1 e2 e3
  subst e1 e3
  have hl32 := fold_len width ds h3
  have HY1 : Hid (Y.all (·.oneCell') = true) := by show _ = _; rw [hY]; simpa using one_of (foldM width ds)
  have HYs : Hid ((Tryd.prog.info? 23).map (·.size) = some Y.size) := by show _ = _; rw [size32, hY]; simp [hl32]
  have HYl : Hid (AD.size = Y.size) := by show _ = _; rw [hY]; simp [hl32, AD]
  have HYo : Hid (Row2 Y (foldM width ds)) := hY
  obtain ⟨w0, hw0⟩ : ∃ x, x = w.alloc (.cells AD 23) := ⟨_, rfl⟩
  have hu0 : Upd (fun _ => False) w w0 := by rw [hw0]; exact (Upd.refl _ w).alloc _
  have hr0 : w0.heap[w.heap.size]? = some (.cells AD 23 (0, 0)) := by rw [hw0]; exact heap_alloc_new w _
  have hs0 : w0.heap.size = w.heap.size + 1 := by rw [hw0]; simp
  have HU0 := Lib.hid hu0
  have HR0 := Lib.hid hr0
  have HsW := Lib.hid hs
  have Hs := Lib.hid (hs.upd hu0 (fun _ _ => id))
  have HO := Lib.hid hO
  have HKw := Lib.hid hk
  have HK := Lib.hid (hk.upd hu0 id)
  have hg0 : 2 < w0.heap.size := by omega
  have hz := zeroD
  have hncap : n ≤ cap := by omega
  have hcm : cap ≤ 9223372036854775807 := by unfold maxLen at h2; omega
  have Hn := Lib.hid hn
  have H3 := Lib.hid h3
  clear hY hl32 hu0 hr0 hs hO hk e2 h1 h2 h3 hn
  by_cases hn0 : n = 0
  · subst hn0
    have HN : Hid (Calls Tryd.prog 43 #[.int .i64 width] w0 fun e w'' => e = .returned (.agg Y) ∧ Upd (fun _ => False) w0 w'') := by
      have e1 : foldM width ds = notM width := by
        have h := Hn.out
        rw [List.eq_nil_of_length_eq_zero h.symm]
        rfl
      show Calls _ _ _ _ _
      rw [HYo.out, e1]
      exact nothing_any width w0 HK.out hg0
    clear h4 h5
    go_enter Tryd.func20, Tryd.ntmps20
    go_wp2_with fail
    rw [← hw0]
    clear hw0
    refine HN.out.mono ?_
    rintro e w3 ⟨rfl, hu3⟩
    have HU3 := Lib.hid hu3
    have HR3 : Hid (w3.heap[w.heap.size]? = some (.cells AD 23 (0, 0))) := (hu3.block _ (lt_of_block HR0.out) id).trans HR0.out
    clear hu3 HN
    go_wp2_with ((with_reducible refine wpList_store_new (o := ⟨none, .store 23 (.tmp 4) (.tmp 12), _, _, _, _⟩) ?_ _ (.tmp 4) (.tmp 12) ?_ w.heap.size Y ?_ ?_ 23 AD HR3.out HYs.out HYl.out HY1.out ?_); rfl; rfl; rfl; rfl; intro w4 Hg_w4 Hu_w4)
    refine bodyPost_ret (results_cell_row rfl _ _ w.heap.size 23 Y (0, 0) _ rfl Hg_w4.out Tryd.underlying23 rfl HYs.out) rfl ?_
    exact ⟨by rw [← HYo.out], (HU0.out.trans (HU3.out.mono (fun _ _ e => e.elim))).trans (Hu_w4.out.mono (fun k hk e => .inr (by omega)))⟩
  · obtain ⟨⟨b, off, sp⟩, rfl⟩ : ∃ a, ao = some a := by
      cases ao with
      | some a => exact ⟨a, rfl⟩
      | none => have := h4 rfl; have := Hn.out; omega
    obtain ⟨hsp, _, _⟩ := h5 _ rfl
    obtain rfl : sp = none := hsp
    obtain ⟨m, rfl⟩ : ∃ m, n = m + 1 := ⟨n - 1, by omega⟩
    obtain ⟨A, hA⟩ : ∃ X, X = (ds.getD m []).map u8 := ⟨_, rfl⟩
    have hAl : A.length = 32 := by rw [hA, List.length_map]; exact getD32 H3.out m (by have := Hn.out; omega)
    have HA1 : Hid (A.toArray.all (·.oneCell') = true) := by show _ = _; rw [hA]; simpa using one_of (ds.getD m [])
    have HAs : Hid ((Tryd.prog.info? 23).map (·.size) = some A.toArray.size) := by show _ = _; rw [size32]; simp [hAl]
    have HAz : Hid ((Tryd.prog.info? 23).map (·.size) = some A.length) := by show _ = _; rw [size32, hAl]
    have HAl : Hid (AD.size = A.toArray.size) := by show _ = _; simp [hAl, AD]
    have HRa : Hid (∀ (j : Nat) v, A[j]? = some v → w0.cell? ⟨b, off + m * 32 + j, none⟩ = some v) := fun j v hv => at_range Hs.out m (by omega) j v (by rw [← hA]; exact hv)
    have HA := Lib.hid hA
    have d0 : ((m : Int) + 1 == 0) = false := by simp; omega
    have d1 : (m : Int) + 1 - 1 = (m : Int) := by omega
    clear h4 h5 hA hAl
    go_enter Tryd.func20, Tryd.ntmps20
    go_wp2_with (first
      | ((with_reducible refine wpList_load_part (o := ⟨some 19, _, _, _, _, _⟩) ?_ _ (.tmp 18) ?_ b (off + m * 32) ?_ A _ ?_ Tryd.underlying23 ?_ HAz.out ?_); rfl; rfl; rfl; (rw [← hw0]; exact HRa.out); rfl; skip)
      | ((with_reducible refine wpList_store_new (o := ⟨none, .store 23 (.tmp 6) (.tmp 19), _, _, _, _⟩) ?_ _ (.tmp 6) (.tmp 19) ?_ (w.heap.size + 1) A.toArray ?_ ?_ 23 AD (heap_alloc2_new w _ _) HAs.out HAl.out HA1.out ?_); rfl; rfl; rfl; rfl; intro w1 Hg_w1 Hu_w1))
    obtain ⟨bd, hbd⟩ : ∃ x, x = w.heap.size + 1 := ⟨_, rfl⟩
    have HU1 : Hid (Upd (fun _ => False) w w1) := (((Upd.refl _ w).alloc _).alloc _).trans (Hu_w1.out.mono (fun k _ e => .inr (by omega)))
    have HR1 : Hid (w1.heap[w.heap.size]? = some (.cells AD 23 (0, 0))) := (Hu_w1.out.block _ (by simp; omega) (by omega)).trans (heap_alloc2_old w _ _)
    rw [← hbd] at Hg_w1 ⊢
    have hbw : w.heap.size < bd := by omega
    have hbl : bd < w1.heap.size := lt_of_block Hg_w1.out
    have HL0 : Hid (LFo width ds (m + 1) bd w1 (.int .i64 ((m : Int) - 1)) w1) := ⟨m, (m : Int) - 1, Nat.le_refl _, by omega, rfl, by rw [fold_last width ds m Hn.out, ← HA.out]; exact Hg_w1.out, Upd.refl _ _⟩
    clear hw0 hbd HA HAl HA1 HAs HAz HRa d0 d1
    go_wp2
    go_loopw [7] (fun i wr => LFo width ds (m + 1) bd w1 i wr) (fun i _ => (intOf i + 1).toNat)
    case atStart => exact HL0.out
    case round =>
      clear HL0
      obtain ⟨k, z, hk, hz1, rfl, hbx, hu⟩ := hrel
      obtain ⟨wq, rfl⟩ : ∃ x : World, x = wr := ⟨_, rfl⟩
      have HU := Lib.hid hu
      have HUw : Hid (Upd (fun _ => False) w wq) := HU1.out.trans (hu.mono (fun j _ e => .inr (by omega)))
      by_cases hk0 : k = 0
      · subst hk0
        obtain rfl : z = -1 := by omega
        have HBx : Hid (wq.heap[bd]? = some (.cells Y 23 (0, 0))) := by show _ = _; rw [HYo.out]; exact hbx
        have HRq : Hid (wq.heap[w.heap.size]? = some (.cells AD 23 (0, 0))) := (hu.block _ (lt_of_block HR1.out) (by omega)).trans HR1.out
        clear hbx hu
        go_wp2_with (first
          | ((with_reducible refine wpList_load_row (o := ⟨some 33, _, _, _, _, _⟩) ?_ 23 (.tmp 6) ?_ bd ?_ 23 Y (0, 0) _ HBx.out Tryd.underlying23 ?_ HYs.out ?_); rfl; rfl; rfl; rfl)
          | ((with_reducible refine wpList_store_new (o := ⟨none, .store 23 (.tmp 4) (.tmp 33), _, _, _, _⟩) ?_ _ (.tmp 4) (.tmp 33) ?_ w.heap.size Y ?_ ?_ 23 AD HRq.out HYs.out HYl.out HY1.out ?_); rfl; rfl; rfl; rfl; intro w4 Hg_w4 Hu_w4))
        refine bodyPost_ret (results_cell_row rfl _ _ w.heap.size 23 Y (0, 0) _ rfl Hg_w4.out Tryd.underlying23 rfl HYs.out) rfl ?_
        exact ⟨by rw [← HYo.out], HUw.out.trans (Hu_w4.out.mono (fun k hk e => .inr (by omega)))⟩
      · obtain ⟨q, rfl⟩ : ∃ q, k = q + 1 := ⟨k - 1, by omega⟩
        obtain rfl : z = (q : Int) := by omega
        obtain ⟨B, hB⟩ : ∃ X, X = (ds.getD q []).map u8 := ⟨_, rfl⟩
        obtain ⟨C, hC⟩ : ∃ X, X = (foldM width (ds.drop (q + 1))).map u8 := ⟨_, rfl⟩
        obtain ⟨E, hE⟩ : ∃ X, X = (foldM width (ds.drop q)).map u8 := ⟨_, rfl⟩
        have hqn : q + 1 < ds.length := by have := Hn.out; omega
        have l3 : ∀ k, ∀ d ∈ ds.drop k, d.length = 32 := fun k d hd => H3.out d (List.mem_of_mem_drop hd)
        have HBz : Hid ((Tryd.prog.info? 23).map (·.size) = some B.length) := by show _ = _; rw [size32, hB, List.length_map, getD32 H3.out q (by omega)]
        have HCz : Hid ((Tryd.prog.info? 23).map (·.size) = some C.length) := by show _ = _; rw [size32, hC, List.length_map, fold_len width _ (l3 _)]
        have HEs : Hid ((Tryd.prog.info? 23).map (·.size) = some E.toArray.size) := by show _ = _; rw [size32, hE]; simp [fold_len width _ (l3 q)]
        have HEl : Hid (C.toArray.size = E.toArray.size) := by show _ = _; rw [hC, hE]; simp [fold_len width _ (l3 q), fold_len width _ (l3 (q + 1))]
        have HE1 : Hid (E.toArray.all (·.oneCell') = true) := by show _ = _; rw [hE]; simpa using one_of (foldM width (ds.drop q))
        have HBx : Hid (wq.heap[bd]? = some (.cells C.toArray 23 (0, 0))) := by show _ = _; rw [hC]; exact hbx
        have HRb : Hid (∀ w', Upd (fun j => j = bd) wq w' → ∀ (j : Nat) v, B[j]? = some v → w'.cell? ⟨b, off + q * 32 + j, none⟩ = some v) := fun w' h j v hv => by
          have hob := ds_block HsW.out (by omega)
          have hbw2 := HO.out b hob
          have h2 : w.cell? ⟨b, off + q * 32 + j, none⟩ = some v := at_range HsW.out q (by omega) j v (by rw [← hB]; exact hv)
          exact h.cell (HUw.out.cell h2 id) (fun e => by have e : b = bd := e; omega)
        have HNd : Hid (∀ w', Upd (fun j => j = bd) wq w' → Calls Tryd.prog 45 #[.int .i64 width, .agg B.toArray, .agg C.toArray] w' fun e w'' => e = .returned (.agg E.toArray) ∧ Upd (fun _ => False) w' w'') := fun w' h => by
          rw [hE, fold_step width ds q hqn, hB, hC]
          refine TabN.node_any width _ _ (getD32 H3.out q (by omega)) (fold_len width _ (l3 _)) w' ?_ (by have := h.size; have := HUw.out.size; omega)
          exact (HKw.out.upd HUw.out id).upd h (by omega)
        have HBE : Hid (E = (foldM width (ds.drop q)).map u8) := hE
        have d3 : (q : Int) < (m : Int) + 1 := by omega
        clear hB hC hE hbx hu hqn l3
        go_wp2_with fail
        have HS_0 : Hid (Upd (fun j => j = bd) wq wq.drew) := (Upd.refl _ _).drew
        refine wp_region_held_drew (S := Upd (fun j => j = bd) wq) (by kernel_rfl) HS_0.out (fun _ => ?_)
        refine wpAnyH_take (i := 0) (oi := ⟨some 26, _, _, _, _, _⟩) (v := .int .i64 width) rfl (by kernel_rfl) (by kernel_rfl) (by kernel_rfl) (fun _ _ _ h => h) (Or.inl ⟨by rfl, fun w hS => by go_simp⟩) HS_0.out ?_
        try simp only [Act.put, List.setIfInBounds_toArray, List.set_cons_zero, List.set_cons_succ]
        refine wpAnyH_take (i := 1) (oi := ⟨some 27, _, _, _, _, _⟩) (v := .slice (some ⟨b, off, none⟩) (m + 1) cap) rfl (by kernel_rfl) (by kernel_rfl) (by kernel_rfl) (fun _ _ _ h => h) (Or.inl ⟨by rfl, fun w hS => by go_simp⟩) HS_0.out ?_
        try simp only [Act.put, List.setIfInBounds_toArray, List.set_cons_zero, List.set_cons_succ]
        refine wpAnyH_take (i := 2) (oi := ⟨some 28, _, _, _, _, _⟩) (v := .int .i64 (q : Int)) rfl (by kernel_rfl) (by kernel_rfl) (by kernel_rfl) (fun _ _ _ h => h) (Or.inl ⟨by rfl, fun w hS => by go_simp⟩) HS_0.out ?_
        try simp only [Act.put, List.setIfInBounds_toArray, List.set_cons_zero, List.set_cons_succ]
        refine wpAnyH_take (i := 3) (oi := ⟨some 29, _, _, _, _, _⟩) (v := .pointer (some ⟨b, off + q * 32, none⟩)) rfl (by kernel_rfl) (by kernel_rfl) (by kernel_rfl) (fun _ _ _ h => h) (Or.inl ⟨by rfl, fun w hS => by go_simp⟩) HS_0.out ?_
        try simp only [Act.put, List.setIfInBounds_toArray, List.set_cons_zero, List.set_cons_succ]
        refine wpAnyH_take (i := 4) (oi := ⟨some 30, _, _, _, _, _⟩) rfl (by kernel_rfl) (by kernel_rfl) (by kernel_rfl) (fun _ _ _ h => h) (yieldsIf_load_mid (by rfl) _ _ rfl (b) (off + q * 32) rfl B _ (fun w h => HRb.out w h) Tryd.underlying23 rfl HBz.out) HS_0.out ?_
        try simp only [Act.put, List.setIfInBounds_toArray, List.set_cons_zero, List.set_cons_succ]
        refine wpAnyH_ready (rs := [5]) (by kernel_rfl) (by simp) ?_
        refine AllReadyH.cons rfl (fun K hK => ?_) AllReadyH.nil
        rw [if_pos (by rfl)]
        refine SumH.wp_load_part 23 (.tmp 6) rfl bd 0 rfl C _ (fun j v hv => by rw [cell_of_row wq.drew _ _ _ _ _ HBx.out, Nat.zero_add]; simpa using hv) Tryd.underlying23 rfl HCz.out ?_
        refine hK.out _ _ HS_0.out (fun hHeld => ?_)
        clear hK K hHeld
        try simp only [Act.put, List.setIfInBounds_toArray, List.set_cons_zero, List.set_cons_succ]
        refine wpAnyH_ready (rs := [6]) (by kernel_rfl) (by simp) ?_
        refine AllReadyH.cons rfl (fun K hK => ?_) AllReadyH.nil
        go_simp
        refine (HNd.out _ HS_0.out).mono ?_
        rintro e w5 ⟨rfl, hu⟩
        have HS_1 : Hid (Upd (fun j => j = bd) wq w5) := HS_0.out.trans (hu.mono (fun _ _ e => e.elim))
        have HB5 : Hid (w5.heap[bd]? = some (.cells C.toArray 23 (0, 0))) := (hu.block _ (lt_of_block HBx.out) id).trans HBx.out
        clear hu
        refine hK.out _ _ HS_1.out (fun hHeld => ?_)
        clear hK K hHeld
        try simp only [Act.put, List.setIfInBounds_toArray, List.set_cons_zero, List.set_cons_succ]
        refine wpAnyH_ready (rs := [7]) (by kernel_rfl) (by simp) ?_
        refine AllReadyH.cons rfl (fun K hK => ?_) AllReadyH.nil
        rw [if_pos (by rfl)]
        refine wp_store_row 23 (.tmp 6) (.tmp 32) rfl bd E.toArray rfl (by first | rfl | (rw [HY.out]; rfl)) 23 C.toArray HB5.out HEs.out HEl.out HE1.out ?_
        have Hg_w6 := Lib.hid (setRow_heap _ _ C.toArray E.toArray _ _ HB5.out)
        have Hu_w6 : Hid (Upd (fun k => k = bd) w5 (w5.setRow bd E.toArray)) := Upd.setRow (Upd.refl _ _) _ E.toArray (.inl rfl)
        generalize w5.setRow bd E.toArray = w6 at Hg_w6 Hu_w6 ⊢
        have HS_2 : Hid (Upd (fun j => j = bd) wq w6) := HS_1.out.trans (Hu_w6.out.mono (fun k _ e => .inl e))
        refine hK.out _ _ HS_2.out (fun hHeld => ?_)
        clear hK K hHeld
        try simp only [Act.put, List.setIfInBounds_toArray, List.set_cons_zero, List.set_cons_succ]
        refine wpAnyH_done (by kernel_rfl) ?_ _
        go_wp2
        go_roundw
        case rel => exact ⟨q, (q : Int) - 1, by omega, by omega, by go_num, by rw [← HBE.out]; exact Hg_w6.out, HU.out.trans (HS_2.out.mono (fun j _ e => .inl e))⟩
        case measure => first | (simp [intOf]; done) | (simp [intOf]; omega)

set_option maxHeartbeats 4000000 in
set_option maxRecDepth 100000 in
theorem rfold_any (width : Int) (hw : -9223372036854775808 ≤ width ∧ width ≤ 9223372036854775807) (n : Nat) : ∀ (ao : Option Addr) (cap : Nat) (ds : List (List UInt8)) (O : Nat → Prop) (w : World), n = ds.length → n ≤ 140737488355328 → DsL w (.slice ao n cap) ds O → (∀ k, O k → k < w.heap.size) →
    Calls Tryd.prog 21 #[.int .i64 width, .slice ao n cap] w (AtD (foldM width ds) w) := by
  induction n with
  | zero =>
    intro ao cap ds O w hn hnm hs hO
    obtain ⟨Y, hY⟩ : ∃ Y, Y = ((foldM width ds).map u8).toArray := ⟨_, rfl⟩
    obtain ⟨ao', cap', he, h1, h2, h3, h4, h5⟩ := id hs
    injection he with e1 e2 e3
    subst e1 e3
    have hl32 := fold_len width ds h3
    have HY1 : Hid (Y.all (·.oneCell') = true) := by show _ = _; rw [hY]; simpa using one_of (foldM width ds)
    have HYs : Hid ((Tryd.prog.info? 23).map (·.size) = some Y.size) := by show _ = _; rw [size32, hY]; simp [hl32]
    have HYl : Hid (AD.size = Y.size) := by show _ = _; rw [hY]; simp [hl32, AD]
    have HYo : Hid (Row2 Y (foldM width ds)) := hY
    obtain ⟨w0, hw0⟩ : ∃ x, x = w.alloc (.cells AD 23) := ⟨_, rfl⟩
    have hu0 : Upd (fun _ => False) w w0 := by rw [hw0]; exact (Upd.refl _ w).alloc _
    have hr0 : w0.heap[w.heap.size]? = some (.cells AD 23 (0, 0)) := by rw [hw0]; exact heap_alloc_new w _
    have hs0 : w0.heap.size = w.heap.size + 1 := by rw [hw0]; simp
    have HU0 := Lib.hid hu0
    have HR0 := Lib.hid hr0
    have Hs := Lib.hid (hs.upd hu0 (fun _ _ => id))
    have HO := Lib.hid hO
    have hz := zeroD
    have hncap : 0 ≤ cap := by omega
    have hcm : cap ≤ 9223372036854775807 := by unfold maxLen at h2; omega
    have Hn := Lib.hid hn
    have H3 := Lib.hid h3
    clear hY hl32 hu0 hr0 hs hO e2 h1 h2 h3 hn
    have HN : Hid (Calls Tryd.prog 15 #[.int .i64 width] w0 fun e w'' => e = .returned (.agg Y) ∧ Upd (fun _ => False) w0 w'') := by
      have e1 : foldM width ds = notM width := by
        have h := Hn.out
        rw [List.eq_nil_of_length_eq_zero h.symm]
        rfl
      show Calls _ _ _ _ _
      rw [HYo.out, e1]
      exact rnothing_any width hw w0
    clear h4 h5
    go_enter Tryd.func21, Tryd.ntmps21
    go_wp2_with fail
    rw [← hw0]
    clear hw0
    refine HN.out.mono ?_
    rintro e w3 ⟨rfl, hu3⟩
    have HU3 := Lib.hid hu3
    have HR3 : Hid (w3.heap[w.heap.size]? = some (.cells AD 23 (0, 0))) := (hu3.block _ (lt_of_block HR0.out) id).trans HR0.out
    clear hu3 HN
    go_wp2_with ((with_reducible refine wpList_store_new (o := ⟨none, .store 23 (.tmp 4) (.tmp 9), _, _, _, _⟩) ?_ _ (.tmp 4) (.tmp 9) ?_ w.heap.size Y ?_ ?_ 23 AD HR3.out HYs.out HYl.out HY1.out ?_); rfl; rfl; rfl; rfl; intro w4 Hg_w4 Hu_w4)
    refine bodyPost_ret (results_cell_row rfl _ _ w.heap.size 23 Y (0, 0) _ rfl Hg_w4.out Tryd.underlying23 rfl HYs.out) rfl ?_
    exact ⟨by rw [← HYo.out], (HU0.out.trans (HU3.out.mono (fun _ _ e => e.elim))).trans (Hu_w4.out.mono (fun k hk e => .inr (by omega)))⟩
  | succ m ih =>
    intro ao cap ds O w hn hnm hs hO
    obtain ⟨Y, hY⟩ : ∃ Y, Y = ((foldM width ds).map u8).toArray := ⟨_, rfl⟩
    obtain ⟨ao', cap', he, h1, h2, h3, h4, h5⟩ := id hs
    injection he with e1 e2 e3
    subst e1 e3
    have hl32 := fold_len width ds h3
    have HY1 : Hid (Y.all (·.oneCell') = true) := by show _ = _; rw [hY]; simpa using one_of (foldM width ds)
    have HYs : Hid ((Tryd.prog.info? 23).map (·.size) = some Y.size) := by show _ = _; rw [size32, hY]; simp [hl32]
    have HYl : Hid (AD.size = Y.size) := by show _ = _; rw [hY]; simp [hl32, AD]
    have HYo : Hid (Row2 Y (foldM width ds)) := hY
    obtain ⟨w0, hw0⟩ : ∃ x, x = w.alloc (.cells AD 23) := ⟨_, rfl⟩
    have hu0 : Upd (fun _ => False) w w0 := by rw [hw0]; exact (Upd.refl _ w).alloc _
    have hr0 : w0.heap[w.heap.size]? = some (.cells AD 23 (0, 0)) := by rw [hw0]; exact heap_alloc_new w _
    have hs0 : w0.heap.size = w.heap.size + 1 := by rw [hw0]; simp
    have HU0 := Lib.hid hu0
    have HR0 := Lib.hid hr0
    have Hs := Lib.hid (hs.upd hu0 (fun _ _ => id))
    have HO := Lib.hid hO
    have hz := zeroD
    have hncap : m + 1 ≤ cap := by omega
    have hcm : cap ≤ 9223372036854775807 := by unfold maxLen at h2; omega
    have Hn := Lib.hid hn
    have H3 := Lib.hid h3
    clear hY hl32 hu0 hr0 hs hO e2 h1 h2 h3 hn
    obtain ⟨⟨b, off, sp⟩, rfl⟩ : ∃ a, ao = some a := by
      cases ao with
      | some a => exact ⟨a, rfl⟩
      | none => have := h4 rfl; have := Hn.out; omega
    obtain ⟨hsp, _, _⟩ := h5 _ rfl
    obtain rfl : sp = none := hsp
    have d0 : ((m : Int) + 1 == 0) = false := by simp; omega
    have hdrop0 : ds.drop 0 = ds := List.drop_zero
    by_cases hm : m = 0
    · subst hm
      have e1 : foldM width ds = ds.getD 0 [] := by have h := fold_last width ds 0 Hn.out; rw [hdrop0] at h; exact h
      have HRa : Hid (∀ (j : Nat) v, Y.toList[j]? = some v → w0.cell? ⟨b, off + j, none⟩ = some v) := fun j v hv => by
        rw [HYo.out, e1, List.toList_toArray] at hv
        have h8 := at_range Hs.out 0 (by omega) j v hv
        simpa using h8
      have HYs2 : Hid ((Tryd.prog.info? 23).map (·.size) = some Y.toList.length) := by show _ = _; rw [Array.length_toList]; exact HYs.out
      clear h4 h5 ih e1 hdrop0
      go_enter Tryd.func21, Tryd.ntmps21
      go_wp2_with (first
        | ((with_reducible refine wpList_load_part (o := ⟨some 15, _, _, _, _, _⟩) ?_ _ (.tmp 14) ?_ b off ?_ Y.toList _ ?_ Tryd.underlying23 ?_ HYs2.out ?_); rfl; rfl; rfl; (rw [← hw0]; exact HRa.out); rfl; rw [Array.toArray_toList])
        | ((with_reducible refine wpList_store_new (o := ⟨none, .store 23 (.tmp 4) (.tmp 15), _, _, _, _⟩) ?_ _ (.tmp 4) (.tmp 15) ?_ w.heap.size Y ?_ ?_ 23 AD (heap_alloc_new _ _) HYs.out HYl.out HY1.out ?_); rfl; rfl; rfl; rfl; intro w4 Hg_w4 Hu_w4))
      refine bodyPost_ret (results_cell_row rfl _ _ w.heap.size 23 Y (0, 0) _ rfl Hg_w4.out Tryd.underlying23 rfl HYs.out) rfl ?_
      exact ⟨by rw [← HYo.out], ((Upd.refl (fun _ => False) w).alloc _).trans (Hu_w4.out.mono (fun k hk e => .inr (by omega)))⟩
    · have e1 : foldM width ds = Nd width (ds.getD 0 []) (foldM width (ds.drop 1)) := by have h := fold_step width ds 0 (by have := Hn.out; omega); rw [hdrop0] at h; exact h
      have l1 : ∀ d ∈ ds.drop 1, d.length = 32 := fun d hd => H3.out d (List.mem_of_mem_drop hd)
      obtain ⟨X, hX⟩ : ∃ X, X = (ds.getD 0 []).map u8 := ⟨_, rfl⟩
      obtain ⟨Z, hZ⟩ : ∃ Z, Z = ((foldM width (ds.drop 1)).map u8).toArray := ⟨_, rfl⟩
      have HXz : Hid ((Tryd.prog.info? 23).map (·.size) = some X.length) := by show _ = _; rw [size32, hX, List.length_map, getD32 H3.out 0 (by have := Hn.out; omega)]
      have HRb : Hid (∀ w', Upd (fun k => k = w.heap.size) w0 w' → ∀ (j : Nat) v, X[j]? = some v → w'.cell? ⟨b, off + j, none⟩ = some v) := fun w' h j v hv => by
        have h1 := at_range Hs.out 0 (by omega) j v (by rw [← hX]; exact hv)
        rw [Nat.zero_mul, Nat.add_zero] at h1
        have hob := HO.out b (ds_block Hs.out (by omega))
        exact h.cell h1 (fun e => by have e : b = w.heap.size := e; omega)
      have HI2 : Hid (∀ w', Upd (fun k => k = w.heap.size) w0 w' → Calls Tryd.prog 21 #[.int .i64 width, .slice (some ⟨b, off + 32, none⟩) m (cap - 1)] w' fun e w'' => e = .returned (.agg Z) ∧ Upd (fun _ => False) w' w'') := fun w' h => by
        rw [hZ]
        have h2 := DsL.drop (k := 1) (Hs.out.upd h (fun i hi e => by have := HO.out i hi; omega)) (by omega)
        rw [Nat.one_mul, Nat.add_sub_cancel] at h2
        exact ih (some ⟨b, off + 32, none⟩) (cap - 1) (ds.drop 1) O w' (by rw [List.length_drop]; have := Hn.out; omega) (by omega) h2 (fun i hi => by have := HO.out i hi; have := h.size; omega)
      have HI3 : Hid (∀ w', Upd (fun k => k = w.heap.size) w0 w' → Calls Tryd.prog 12 #[.int .i64 width, .agg X.toArray, .agg Z] w' fun e w'' => e = .returned (.agg Y) ∧ Upd (fun _ => False) w' w'') := fun w' h => by
        rw [HYo.out, e1, hX, hZ]
        exact rnode_any width hw _ _ (getD32 H3.out 0 (by have := Hn.out; omega)) (fold_len width _ l1) w' trivial trivial
      have d1 : ((m : Int) + 1 == 1) = false := by simp; omega
      have d2 : ¬ cap < 1 := by omega
      have d3 : ¬ cap = 1 := by omega
      have d4 : ¬ m + 1 < 1 := by omega
      have d5 : (1 : Int) ≤ (m : Int) + 1 := by omega
      have d6 : (m : Int) + 1 ≤ (cap : Int) := by omega
      clear h4 h5 ih e1 hX hZ hdrop0 l1
      go_enter Tryd.func21, Tryd.ntmps21
      go_wp2_with fail
      rw [← hw0]
      clear hw0
      have HS_0 : Hid (Upd (fun k => k = w.heap.size) w0 w0.drew) := (Upd.refl _ _).drew
      refine wp_region_held_drew (S := Upd (fun k => k = w.heap.size) w0) (by kernel_rfl) HS_0.out (fun _ => ?_)
      refine wpAnyH_take (i := 0) (oi := ⟨some 16, _, _, _, _, _⟩) (v := .int .i64 width) rfl (by kernel_rfl) (by kernel_rfl) (by kernel_rfl) (fun _ _ _ h => h) (Or.inl ⟨by rfl, fun w hS => by go_simp⟩) HS_0.out ?_
      try simp only [Act.put, List.setIfInBounds_toArray, List.set_cons_zero, List.set_cons_succ]
      refine wpAnyH_take (i := 1) (oi := ⟨some 17, _, _, _, _, _⟩) (v := .slice (some ⟨b, off, none⟩) (m + 1) cap) rfl (by kernel_rfl) (by kernel_rfl) (by kernel_rfl) (fun _ _ _ h => h) (Or.inl ⟨by rfl, fun w hS => by go_simp⟩) HS_0.out ?_
      try simp only [Act.put, List.setIfInBounds_toArray, List.set_cons_zero, List.set_cons_succ]
      refine wpAnyH_take (i := 2) (oi := ⟨some 18, _, _, _, _, _⟩) (v := .pointer (some ⟨b, off, none⟩)) rfl (by kernel_rfl) (by kernel_rfl) (by kernel_rfl) (fun _ _ _ h => h) (Or.inl ⟨by rfl, fun w hS => by go_simp⟩) HS_0.out ?_
      try simp only [Act.put, List.setIfInBounds_toArray, List.set_cons_zero, List.set_cons_succ]
      refine wpAnyH_take (i := 3) (oi := ⟨some 19, _, _, _, _, _⟩) rfl (by kernel_rfl) (by kernel_rfl) (by kernel_rfl) (fun _ _ _ h => h) (yieldsIf_load_mid (by rfl) _ _ rfl (b) (off) rfl X _ (fun w h => HRb.out w h) Tryd.underlying23 rfl HXz.out) HS_0.out ?_
      try simp only [Act.put, List.setIfInBounds_toArray, List.set_cons_zero, List.set_cons_succ]
      refine wpAnyH_take (i := 4) (oi := ⟨some 20, _, _, _, _, _⟩) (v := .int .i64 width) rfl (by kernel_rfl) (by kernel_rfl) (by kernel_rfl) (fun _ _ _ h => h) (Or.inl ⟨by rfl, fun w hS => by go_simp⟩) HS_0.out ?_
      try simp only [Act.put, List.setIfInBounds_toArray, List.set_cons_zero, List.set_cons_succ]
      refine wpAnyH_take (i := 5) (oi := ⟨some 21, _, _, _, _, _⟩) (v := .slice (some ⟨b, off, none⟩) (m + 1) cap) rfl (by kernel_rfl) (by kernel_rfl) (by kernel_rfl) (fun _ _ _ h => h) (Or.inl ⟨by rfl, fun w hS => by go_simp⟩) HS_0.out ?_
      try simp only [Act.put, List.setIfInBounds_toArray, List.set_cons_zero, List.set_cons_succ]
      refine wpAnyH_take (i := 6) (oi := ⟨some 22, _, _, _, _, _⟩) (v := .slice (some ⟨b, off + 32, none⟩) m (cap - 1)) rfl (by kernel_rfl) (by kernel_rfl) (by kernel_rfl) (fun _ _ _ h => h) (Or.inl ⟨by rfl, fun w hS => by go_simp⟩) HS_0.out ?_
      try simp only [Act.put, List.setIfInBounds_toArray, List.set_cons_zero, List.set_cons_succ]
      refine wpAnyH_ready (rs := [7]) (by kernel_rfl) (by simp) ?_
      refine AllReadyH.cons rfl (fun K hK => ?_) AllReadyH.nil
      go_simp
      refine (HI2.out _ HS_0.out).mono ?_
      rintro e w1 ⟨rfl, hu⟩
      have HS_1 : Hid (Upd (fun k => k = w.heap.size) w0 w1) := HS_0.out.trans (hu.mono (fun _ _ e => e.elim))
      have HR1 : Hid (w1.heap[w.heap.size]? = some (.cells AD 23 (0, 0))) := (hu.block _ (lt_of_block HR0.out) id).trans HR0.out
      refine hK.out _ _ HS_1.out (fun hHeld => ?_)
      clear hK K hHeld
      try simp only [Act.put, List.setIfInBounds_toArray, List.set_cons_zero, List.set_cons_succ]
      refine wpAnyH_ready (rs := [8]) (by kernel_rfl) (by simp) ?_
      refine AllReadyH.cons rfl (fun K hK => ?_) AllReadyH.nil
      go_simp
      refine (HI3.out _ HS_1.out).mono ?_
      rintro e w2 ⟨rfl, hu⟩
      have HS_2 : Hid (Upd (fun k => k = w.heap.size) w0 w2) := HS_1.out.trans (hu.mono (fun _ _ e => e.elim))
      have HR2 : Hid (w2.heap[w.heap.size]? = some (.cells AD 23 (0, 0))) := (hu.block _ (lt_of_block HR1.out) id).trans HR1.out
      refine hK.out _ _ HS_2.out (fun hHeld => ?_)
      clear hK K hHeld
      try simp only [Act.put, List.setIfInBounds_toArray, List.set_cons_zero, List.set_cons_succ]
      refine wpAnyH_ready (rs := [9]) (by kernel_rfl) (by simp) ?_
      refine AllReadyH.cons rfl (fun K hK => ?_) AllReadyH.nil
      rw [if_pos (by rfl)]
      refine wp_store_row 23 (.tmp 4) (.tmp 24) rfl w.heap.size Y rfl (by first | rfl | (rw [HY.out]; rfl)) 23 AD HR2.out HYs.out HYl.out HY1.out ?_
      have Hg_w4 := Lib.hid (setRow_heap _ _ AD Y _ _ HR2.out)
      have Hu_w4 : Hid (Upd (fun k => k = w.heap.size) w2 (w2.setRow w.heap.size Y)) := Upd.setRow (Upd.refl _ _) _ Y (.inl rfl)
      generalize w2.setRow w.heap.size Y = w4 at Hg_w4 Hu_w4 ⊢
      have HS_3 : Hid (Upd (fun k => k = w.heap.size) w0 w4) := HS_2.out.trans (Hu_w4.out.mono (fun k _ e => .inl e))
      refine hK.out _ _ HS_3.out (fun hHeld => ?_)
      clear hK K hHeld
      try simp only [Act.put, List.setIfInBounds_toArray, List.set_cons_zero, List.set_cons_succ]
      refine wpAnyH_done (by kernel_rfl) ?_ _
      go_wp2
      refine bodyPost_ret (results_cell_row rfl _ _ w.heap.size 23 Y (0, 0) _ rfl Hg_w4.out Tryd.underlying23 rfl HYs.out) rfl ?_
      exact ⟨by rw [← HYo.out], HU0.out.trans (HS_3.out.mono (fun k hk e => .inr (by omega)))⟩
end Go.Proofs.YtgcionimhmbgeaaDoorR.TrF
