/-
  digest.Must of 32 bytes; docketlaw2.DigestMust, walked.
-/
import Derived.Test.YtmjadoicapfoeaaDoorHeldW
namespace Go.Proofs.YtmjadoicapfoeaaDoor.MustW
open Go.RowKit Sha Mem RowW CopyW BookW EqW SumH HeldW
set_option linter.unusedVariables false
set_option linter.unusedSimpArgs false

theorem run_arrayAt (a : Addr) (cap : Nat) (w : World) : (Instr.arrayAt 23 (.slice (some a) 32 cap)).run Tryd.prog w = .ok (.pointer (some a)) w := by
  simp [Instr.arrayAt, run_underlying Tryd.underlying23]

set_option maxHeartbeats 2000000 in
set_option maxRecDepth 100000 in
theorem must_any (g o cap : Nat) (D : List UInt8) (hD : D.length = 32) (w : World) (hs : Sl w (.slice (some ⟨g, o, none⟩) 32 cap) D) :
    Calls Tryd.prog 22 #[.slice (some ⟨g, o, none⟩) 32 cap] w fun e w' => e = .returned (.agg (D.map u8).toArray) ∧ Upd (fun _ => False) w w' := by
  obtain ⟨L, hL⟩ : ∃ L, L = D.map u8 := ⟨_, rfl⟩
  have HY1 : Hid (L.toArray.all (·.oneCell') = true) := by show _ = _; rw [hL]; exact dig_all D
  have HYs : Hid ((Tryd.prog.info? 23).map (·.size) = some L.toArray.size) := by show _ = _; rw [hL]; exact dig_size D hD
  have HYi : Hid ((Tryd.prog.info? 23).map (·.size) = some L.length) := by show _ = _; rw [hL]; exact dig_size' D hD
  have HYl : Hid (AD.size = L.toArray.size) := by show _ = _; rw [hL]; exact dig_old D hD
  have HC : Hid (∀ (j : Nat) v, L[j]? = some v → (w.alloc (.cells AD 23)).cell? ⟨g, o + j, none⟩ = some v) := by
    intro j v hv
    have h2 := (Sl.cells (hs.upd ((Upd.refl (fun _ => False) w).alloc (.cells AD 23)) (fun _ _ => id))).2
    rw [hL, List.getElem?_map] at hv
    have hj : j < D.length := by
      rcases Nat.lt_or_ge j D.length with h | h
      · exact h
      · rw [List.getElem?_eq_none h] at hv; cases hv
    have h3 := h2 j hj
    rw [add_none] at h3
    rw [h3, ← hv, List.getD_eq_getElem?_getD, List.getElem?_eq_getElem hj]
    rfl
  have hL' := Lib.hid hL
  have hap := fun w => run_arrayAt ⟨g, o, none⟩ cap w
  have hz := zeroD
  rw [← hL]
  have HR0 : Hid ((w.alloc (.cells AD 23)).heap[w.heap.size]? = some (.cells AD 23 (0, 0))) := heap_alloc_new _ _
  have HU0 : Hid (Upd (fun _ => False) w (w.alloc (.cells AD 23))) := (Upd.refl _ w).alloc _
  clear hL hs hD
  go_enter Tryd.func22, Tryd.ntmps22
  go_wp2_with (first
    | ((with_reducible refine wpList_load_part (o := ⟨some 14, _, _, _, _, _⟩) ?_ _ (.tmp 13) ?_ g o ?_ L _ ?_ Tryd.underlying23 ?_ HYi.out ?_); rfl; rfl; rfl; (exact HC.out); rfl)
    | ((with_reducible refine wpList_store_new (o := ⟨none, .store 23 (.tmp 2) (.tmp 14), _, _, _, _⟩) ?_ _ (.tmp 2) (.tmp 14) ?_ w.heap.size L.toArray ?_ ?_ 23 AD HR0.out HYs.out HYl.out HY1.out ?_); rfl; rfl; rfl; rfl; intro w5 Hg5 Hu5))
  refine bodyPost_ret (results_cell_row rfl _ _ w.heap.size 23 L.toArray (0, 0) _ rfl Hg5.out Tryd.underlying23 rfl HYs.out) rfl ?_
  exact ⟨rfl, HU0.out.trans (Hu5.out.mono (fun k hk e => .inr (by omega)))⟩

theorem flip_ne (D : List UInt8) (h : D.length = 32) : (((tsub (FL D 165) 32).take 32 == D) = false) := by
  match D, h with
  | x :: D, h =>
    have e : (tsub (FL (x :: D) 165) 32).take 32 = (x ^^^ 255) :: ((tsub (FL (x :: D) 165) 32).take 32).tail := rfl
    rw [e]
    have hx : (x ^^^ 255) ≠ x := by
      intro hh
      have h2 := congrArg (x ^^^ ·) hh
      simp only [← UInt8.xor_assoc, UInt8.xor_self, UInt8.zero_xor] at h2
      exact absurd h2 (by decide)
    simp [hx]
theorem late_len (D : List UInt8) (h : D.length = 32) : ((tsub (FL D 165) 32).take 32).length = 32 := by
  rw [List.length_take, tsub_len, FL_len, h]; rfl

set_option maxHeartbeats 4000000 in
set_option maxRecDepth 100000 in
theorem walk (D : List UInt8) (hD : D.length = 32) (w : World) :
    Calls Tryd.prog 6 #[.agg (D.map u8).toArray] w fun e w' => e = .returned (.bool true) ∧ Below w.heap.size w w' := by
  obtain ⟨L0, hL0⟩ : ∃ L, L = D.map u8 := ⟨_, rfl⟩
  obtain ⟨E, hE⟩ : ∃ E, E = (tsub (FL D 165) 32).take 32 := ⟨_, rfl⟩
  obtain ⟨L1, hL1⟩ : ∃ L, L = E.map u8 := ⟨_, rfl⟩
  have hEl : E.length = 32 := by rw [hE]; exact late_len D hD
  have hne : (E == D) = false := by rw [hE]; exact flip_ne D hD
  have HD := Lib.hid hD
  have HE := Lib.hid hE
  have HEl := Lib.hid hEl
  have HL0 := Lib.hid hL0
  have HL1 := Lib.hid hL1
  have o0 : Hid (L0.toArray.all (·.oneCell') = true) := by show _ = _; rw [hL0]; exact dig_all D
  have i0 : Hid ((Tryd.prog.info? 23).map (·.size) = some L0.toArray.size) := by show _ = _; rw [hL0]; exact dig_size D hD
  have j0 : Hid ((Tryd.prog.info? 23).map (·.size) = some L0.length) := by show _ = _; rw [hL0]; exact dig_size' D hD
  have l0 : Hid (AD.size = L0.toArray.size) := by show _ = _; rw [hL0]; exact dig_old D hD
  have o1 : Hid (L1.toArray.all (·.oneCell') = true) := by show _ = _; rw [hL1]; exact dig_all E
  have i1 : Hid ((Tryd.prog.info? 23).map (·.size) = some L1.toArray.size) := by show _ = _; rw [hL1]; exact dig_size E hEl
  have j1 : Hid ((Tryd.prog.info? 23).map (·.size) = some L1.length) := by show _ = _; rw [hL1]; exact dig_size' E hEl
  have l1 : Hid (L0.toArray.size = L1.toArray.size) := by show _ = _; rw [hL0, hL1]; simp [hD, hEl]
  have E1 := Lib.hid (fun w => show (Op.equalIn 10000 23 (.agg L0.toArray) (.agg L0.toArray)).run Tryd.prog w = .ok true w by rw [hL0, run_eq_digest _ _ hD hD]; simp)
  have E2 := Lib.hid (fun w => show (Op.equalIn 10000 23 (.agg L1.toArray) (.agg L0.toArray)).run Tryd.prog w = .ok false w by rw [hL0, hL1, run_eq_digest _ _ hEl hD, hne])
  have hrow0 : Row (w.alloc (.cells L0.toArray 23)) w.heap.size 23 (D.map u8) := by rw [hL0]; exact Row.new _ _ _
  have hs0 : Sl (w.alloc (.cells L0.toArray 23)) (.slice (some ⟨w.heap.size, 0, none⟩) 32 32) D := by
    have h := Sl.row (cap := 32) hrow0 (by omega) (by unfold maxLen; omega)
    rwa [hD] at h
  have HRm := Lib.hid (roomy_any (some ⟨w.heap.size, 0, none⟩) 32 32 D 165 _ hs0 (by omega))
  have G0 : Hid ((w.alloc (.cells L0.toArray 23)).heap[w.heap.size]? = some (.cells L0.toArray 23 (0, 0))) := heap_alloc_new _ _
  have HU0 : Hid (Upd (fun _ => False) w (w.alloc (.cells L0.toArray 23))) := (Upd.refl _ w).alloc _
  have hz := zeroD
  rw [← hL0]
  clear hL0 hL1 hE hD hEl hne hrow0 hs0
  go_enter Tryd.func6, Tryd.ntmps6
  go_wp2_with fail
  refine HRm.out.mono ?_
  rintro e w1 ⟨g, rfl, hg, hr, hu⟩
  have hgs : w.heap.size < g := by simp at hg; omega
  have HR1 := Lib.hid hr
  have HU1 : Hid (Upd (fun _ => False) w w1) := HU0.out.trans (hu.mono (fun _ _ h => h.elim))
  have G1 : Hid (w1.heap[w.heap.size]? = some (.cells L0.toArray 23 (0, 0))) := (hu.block _ (lt_of_block G0.out) id).trans G0.out
  clear hg hr hu
  have HF32 : Hid (∀ w', Row w' g 5 ((FL D 165).map u8) → Sl w' (.slice (some ⟨g, 0, none⟩) 32 112) D) := fun w' h => by
    have h2 := Sl.of_row (n := 32) (cap := 112) h (by rw [FL_len, HD.out]; omega) (by omega) (by unfold maxLen; omega)
    rw [← HD.out, FL_take] at h2
    rw [← HD.out]
    exact h2
  have HM1 := Lib.hid (must_any g 0 112 D HD.out w1 (HF32.out w1 HR1.out))
  rw [← HL0.out] at HM1
  go_wp2_with fail
  refine HM1.out.mono ?_
  rintro e w2 ⟨rfl, hu⟩
  have HU2' := Lib.hid hu
  clear hu
  have HU2 : Hid (Upd (fun _ => False) w w2) := HU1.out.trans (HU2'.out.mono (fun _ _ h => h.elim))
  have HR2 := Lib.hid (HR1.out.upd HU2'.out id)
  have G2 : Hid (w2.heap[w.heap.size]? = some (.cells L0.toArray 23 (0, 0))) := (HU2'.out.block _ (lt_of_block G1.out) id).trans G1.out
  go_wp2_with ((with_reducible refine wpList_store_new (o := ⟨none, .store 23 (.tmp 4) (.tmp 10), _, _, _, _⟩) ?_ _ (.tmp 4) (.tmp 10) ?_ w2.heap.size L0.toArray ?_ ?_ 23 AD (heap_alloc_new _ _) i0.out l0.out o0.out ?_); rfl; rfl; rfl; rfl; intro w3 Hg3 Hu3)
  have hgl2 : g < w2.heap.size := HR2.out.lt
  have G3 : Hid (w3.heap[w.heap.size]? = some (.cells L0.toArray 23 (0, 0))) := by
    show _ = _
    rw [Hu3.out.block _ (by simp; omega) (by omega), Below.heap_alloc _ _ _ (by omega)]; exact G2.out
  have HR3 := Lib.hid ((HR2.out.alloc (.cells AD 23)).upd Hu3.out (by omega))
  have HU3 : Hid (Upd (fun _ => False) w w3) := (HU2.out.alloc _).trans (Hu3.out.mono (fun k _ e => .inr (by omega)))
  have hs3 : w2.heap.size < w3.heap.size := lt_of_block Hg3.out
  have HM3 := Lib.hid (must_any g 0 112 D HD.out w3.drew (HF32.out w3.drew HR3.out.drew))
  rw [← HL0.out] at HM3
  have HIn := Lib.hid (fun w' (h : Upd (fun _ => False) w3 w') => intact_any ⟨g, 0, none⟩ 112 (some ⟨w.heap.size, 0, none⟩) 32 32 D 165 w'
    (by have h2 := Sl.row (cap := 112) (HR3.out.upd h id) (by rw [FL_len, HD.out]; omega) (by unfold maxLen; omega)
        rwa [FL_len, HD.out] at h2)
    (by have h3 : Row w' w.heap.size 23 (D.map u8) := by
          have h4 := (h.block _ (lt_of_block G3.out) id).trans G3.out
          rw [HL0.out] at h4
          exact h4
        have h2 := Sl.row (cap := 32) h3 (by rw [HD.out]; omega) (by unfold maxLen; omega)
        rwa [HD.out] at h2) (by omega))
  have q1 := E1.out
  have HS_w3_0 : Hid (Upd (fun _ => False) w3 w3.drew) := (Upd.refl _ _).drew
  refine wp_region_held_drew (S := Upd (fun _ => False) w3) (by kernel_rfl) HS_w3_0.out (fun _ => ?_)
  refine wpAnyH_take (i := 0) rfl (by kernel_rfl) (by kernel_rfl) (by kernel_rfl) (fun _ _ _ h => h) (yieldsIf_load_mid (by rfl) _ _ rfl _ _ rfl L0 _ (fun w h => range_upd Hg3.out h) Tryd.underlying23 rfl j0.out) HS_w3_0.out ?_
  try simp only [Act.put, List.setIfInBounds_toArray, List.set_cons_zero, List.set_cons_succ]
  refine wpAnyH_take (i := 1) rfl (by kernel_rfl) (by kernel_rfl) (by kernel_rfl) (fun _ _ _ h => h) (yieldsIf_load_mid (by rfl) _ _ rfl _ _ rfl L0 _ (fun w h => range_upd G3.out h) Tryd.underlying23 rfl j0.out) HS_w3_0.out ?_
  try simp only [Act.put, List.setIfInBounds_toArray, List.set_cons_zero, List.set_cons_succ]
  refine wpAnyH_take (i := 2) (oi := ⟨some 13, _, _, _, _, _⟩) (v := .bool false) rfl (by kernel_rfl) (by kernel_rfl) (by kernel_rfl) (fun _ _ _ h => h) (Or.inl ⟨by rfl, fun w hS => by go_simp⟩) HS_w3_0.out ?_
  try simp only [Act.put, List.setIfInBounds_toArray, List.set_cons_zero, List.set_cons_succ]
  refine wpAnyH_take (i := 3) (oi := ⟨some 14, _, _, _, _, _⟩) (v := .bool false) rfl (by kernel_rfl) (by kernel_rfl) (by kernel_rfl) (fun _ _ _ h => h) (Or.inl ⟨by rfl, fun w hS => by go_simp⟩) HS_w3_0.out ?_
  try simp only [Act.put, List.setIfInBounds_toArray, List.set_cons_zero, List.set_cons_succ]
  refine wpAnyH_take (i := 4) (oi := ⟨some 15, _, _, _, _, _⟩) (v := .slice (some ⟨g, 0, none⟩) (32 + 80) (32 + 80)) rfl (by kernel_rfl) (by kernel_rfl) (by kernel_rfl) (fun _ _ _ h => h) (Or.inl ⟨by rfl, fun w hS => by go_simp⟩) HS_w3_0.out ?_
  try simp only [Act.put, List.setIfInBounds_toArray, List.set_cons_zero, List.set_cons_succ]
  refine wpAnyH_take (i := 5) (oi := ⟨some 16, _, _, _, _, _⟩) (v := .slice (some ⟨g, 0, none⟩) 32 112) rfl (by kernel_rfl) (by kernel_rfl) (by kernel_rfl) (fun _ _ _ h => h) (Or.inl ⟨by rfl, fun w hS => by go_simp⟩) HS_w3_0.out ?_
  try simp only [Act.put, List.setIfInBounds_toArray, List.set_cons_zero, List.set_cons_succ]
  refine wpAnyH_take (i := 7) rfl (by kernel_rfl) (by kernel_rfl) (by kernel_rfl) (fun _ _ _ h => h) (yieldsIf_load_mid (by rfl) _ _ rfl _ _ rfl L0 _ (fun w h => range_upd G3.out h) Tryd.underlying23 rfl j0.out) HS_w3_0.out ?_
  try simp only [Act.put, List.setIfInBounds_toArray, List.set_cons_zero, List.set_cons_succ]
  refine wpAnyH_ready (rs := [6]) (by kernel_rfl) (by simp) ?_
  refine AllReadyH.cons rfl (fun K hK => ?_) AllReadyH.nil
  go_simp
  refine (HM3.out).mono ?_
  rintro e w4 ⟨rfl, hu_⟩
  have HS_w3_1 : Hid (Upd (fun _ => False) w3 w4) := HS_w3_0.out.trans (hu_.mono (fun _ _ h => h.elim))
  have HU_w4 := Lib.hid hu_
  clear hu_
  refine hK.out _ _ HS_w3_1.out (fun hHeld => ?_)
  clear hK K hHeld
  try simp only [Act.put, List.setIfInBounds_toArray, List.set_cons_zero, List.set_cons_succ]
  refine wpAnyH_take (i := 8) (oi := ⟨some 19, _, _, _, _, _⟩) (v := .bool false) rfl (by kernel_rfl) (by kernel_rfl) (by kernel_rfl) (fun _ _ _ h => h) (Or.inl ⟨by rfl, fun w hS => by go_simp⟩) HS_w3_1.out ?_
  try simp only [Act.put, List.setIfInBounds_toArray, List.set_cons_zero, List.set_cons_succ]
  refine wpAnyH_take (i := 9) (oi := ⟨some 20, _, _, _, _, _⟩) (v := .bool false) rfl (by kernel_rfl) (by kernel_rfl) (by kernel_rfl) (fun _ _ _ h => h) (Or.inl ⟨by rfl, fun w hS => by go_simp⟩) HS_w3_1.out ?_
  try simp only [Act.put, List.setIfInBounds_toArray, List.set_cons_zero, List.set_cons_succ]
  refine wpAnyH_take (i := 10) (oi := ⟨some 21, _, _, _, _, _⟩) (v := .bool false) rfl (by kernel_rfl) (by kernel_rfl) (by kernel_rfl) (fun _ _ _ h => h) (Or.inl ⟨by rfl, fun w hS => by go_simp⟩) HS_w3_1.out ?_
  try simp only [Act.put, List.setIfInBounds_toArray, List.set_cons_zero, List.set_cons_succ]
  refine wpAnyH_take (i := 11) (oi := ⟨some 22, _, _, _, _, _⟩) (v := .slice (some ⟨g, 0, none⟩) (32 + 80) (32 + 80)) rfl (by kernel_rfl) (by kernel_rfl) (by kernel_rfl) (fun _ _ _ h => h) (Or.inl ⟨by rfl, fun w hS => by go_simp⟩) HS_w3_1.out ?_
  try simp only [Act.put, List.setIfInBounds_toArray, List.set_cons_zero, List.set_cons_succ]
  refine wpAnyH_take (i := 12) (oi := ⟨some 23, _, _, _, _, _⟩) (v := .slice (some ⟨w.heap.size, 0, none⟩) 32 32) rfl (by kernel_rfl) (by kernel_rfl) (by kernel_rfl) (fun _ _ _ h => h) (Or.inl ⟨by rfl, fun w hS => by go_simp⟩) HS_w3_1.out ?_
  try simp only [Act.put, List.setIfInBounds_toArray, List.set_cons_zero, List.set_cons_succ]
  refine wpAnyH_ready (rs := [13]) (by kernel_rfl) (by simp) ?_
  refine AllReadyH.cons rfl (fun K hK => ?_) AllReadyH.nil
  go_simp
  refine (HIn.out w4 HS_w3_1.out).mono ?_
  rintro e w5 ⟨rfl, hu_⟩
  have HS_w3_2 : Hid (Upd (fun _ => False) w3 w5) := HS_w3_1.out.trans (hu_.mono (fun _ _ h => h.elim))
  have HU_w5 := Lib.hid hu_
  clear hu_
  refine hK.out _ _ HS_w3_2.out (fun hHeld => ?_)
  clear hK K hHeld
  try simp only [Act.put, List.setIfInBounds_toArray, List.set_cons_zero, List.set_cons_succ]
  refine wpAnyH_take (i := 14) (oi := ⟨some 25, _, _, _, _, _⟩) (v := .bool false) rfl (by kernel_rfl) (by kernel_rfl) (by kernel_rfl) (fun _ _ _ h => h) (Or.inl ⟨by rfl, fun w hS => by go_simp⟩) HS_w3_2.out ?_
  try simp only [Act.put, List.setIfInBounds_toArray, List.set_cons_zero, List.set_cons_succ]
  refine wpAnyH_take (i := 15) (oi := ⟨some 26, _, _, _, _, _⟩) (v := .bool false) rfl (by kernel_rfl) (by kernel_rfl) (by kernel_rfl) (fun _ _ _ h => h) (Or.inl ⟨by rfl, fun w hS => by go_simp⟩) HS_w3_2.out ?_
  try simp only [Act.put, List.setIfInBounds_toArray, List.set_cons_zero, List.set_cons_succ]
  refine wpAnyH_done (by kernel_rfl) ?_ _
  clear q1
  have HR5 := Lib.hid (HR3.out.upd HS_w3_2.out id)
  have HU5 : Hid (Upd (fun _ => False) w w5) := HU3.out.trans (HS_w3_2.out.mono (fun _ _ h => h.elim))
  have G5 : Hid (w5.heap[w.heap.size]? = some (.cells L0.toArray 23 (0, 0))) := (HS_w3_2.out.block _ (lt_of_block G3.out) id).trans G3.out
  have GD5 : Hid (w5.heap[w2.heap.size]? = some (.cells L0.toArray 23 (0, 0))) := (HS_w3_2.out.block _ (lt_of_block Hg3.out) id).trans Hg3.out
  have HTn := Lib.hid (turned_any g 32 112 (FL D 165) w5 HR5.out (by rw [FL_len, HD.out]; omega) (by omega) (by unfold maxLen; omega) (by omega))
  have hgl5 : g < w5.heap.size := HR5.out.lt
  have hs5 : w2.heap.size < w5.heap.size := lt_of_block GD5.out
  go_wp2_with fail
  refine HTn.out.mono ?_
  rintro e w6 ⟨v, rfl, hsv, hov, hr, hu⟩
  rw [← HE.out] at hsv
  obtain ⟨av, cv, hv⟩ := form hsv
  rw [HEl.out] at hv
  subst hv
  have HSv := Lib.hid hsv
  have Hov := Lib.hid hov
  have HR6 := Lib.hid hr
  have HU6' := Lib.hid hu
  clear hsv hov hr hu
  have HU6 : Hid (Upd (fun _ => False) w w6) := HU5.out.trans (HU6'.out.mono (fun k _ e => .inr (by omega)))
  have G6 : Hid (w6.heap[w.heap.size]? = some (.cells L0.toArray 23 (0, 0))) := (HU6'.out.block _ (lt_of_block G5.out) (by omega)).trans G5.out
  have GD6 : Hid (w6.heap[w2.heap.size]? = some (.cells L0.toArray 23 (0, 0))) := (HU6'.out.block _ (lt_of_block GD5.out) (by omega)).trans GD5.out
  have HM6 := Lib.hid (must_any g 0 112 E HEl.out w6 (by
    have h2 := Sl.of_row (n := 32) (cap := 112) HR6.out (by rw [tsub_len, FL_len, HD.out]; omega) (by omega) (by unfold maxLen; omega)
    rw [HE.out]; exact h2))
  rw [← HL1.out] at HM6
  go_wp2_with fail
  refine HM6.out.mono ?_
  rintro e w7 ⟨rfl, hu⟩
  have HU7' := Lib.hid hu
  clear hu
  have HU7 : Hid (Upd (fun _ => False) w w7) := HU6.out.trans (HU7'.out.mono (fun _ _ h => h.elim))
  have G7 : Hid (w7.heap[w.heap.size]? = some (.cells L0.toArray 23 (0, 0))) := (HU7'.out.block _ (lt_of_block G6.out) id).trans G6.out
  have GD7 : Hid (w7.heap[w2.heap.size]? = some (.cells L0.toArray 23 (0, 0))) := (HU7'.out.block _ (lt_of_block GD6.out) id).trans GD6.out
  have HSv7 := Lib.hid (HSv.out.upd HU7'.out (fun _ _ => id))
  have hs6 : w5.heap.size ≤ w6.heap.size := HU6'.out.size
  have hs7 : w6.heap.size ≤ w7.heap.size := HU7'.out.size
  go_wp2_with ((with_reducible refine wpList_store_new (o := ⟨none, .store 23 (.tmp 4) (.tmp 32), _, _, _, _⟩) ?_ _ (.tmp 4) (.tmp 32) ?_ w2.heap.size L1.toArray ?_ ?_ 23 L0.toArray GD7.out i1.out l1.out o1.out ?_); rfl; rfl; rfl; rfl; intro w8 Hg8 Hu8)
  have G8 : Hid (w8.heap[w.heap.size]? = some (.cells L0.toArray 23 (0, 0))) := (Hu8.out.block _ (lt_of_block G7.out) (by omega)).trans G7.out
  have HU8 : Hid (Upd (fun _ => False) w w8) := HU7.out.trans (Hu8.out.mono (fun k _ e => .inr (by omega)))
  have HSv8 := Lib.hid (HSv7.out.upd Hu8.out (fun k hk e => by have := Hov.out k hk; omega))
  have HSd8 : Hid (Sl w8 (.slice (some ⟨w2.heap.size, 0, none⟩) 32 32) E) := by
    have h3 : Row w8 w2.heap.size 23 (E.map u8) := by
      have h4 := Hg8.out
      rw [HL1.out] at h4
      exact h4
    have h2 := Sl.row (cap := 32) h3 (by rw [HEl.out]; omega) (by unfold maxLen; omega)
    rwa [HEl.out] at h2
  obtain ⟨s, hs⟩ : ∃ s, s = ByteArray.mk E.toArray := ⟨_, rfl⟩
  have HC1 : Hid (∀ w', Upd (fun _ => False) w8 w' → (convert 25 9 (.slice (some ⟨w2.heap.size, 0, none⟩) 32 32)).run Tryd.prog w' = .ok (.string s) w') := fun w' h => by rw [hs]; exact conv_sl (HSd8.out.upd h (fun _ _ => id))
  have HC2 : Hid (∀ w', Upd (fun _ => False) w8 w' → (convert 25 9 (.slice av 32 cv)).run Tryd.prog w' = .ok (.string s) w') := fun w' h => by rw [hs]; exact conv_sl (HSv8.out.upd h (fun _ _ => id))
  clear hs
  have q2 := E2.out
  have HS_w8_0 : Hid (Upd (fun _ => False) w8 w8.drew) := (Upd.refl _ _).drew
  refine wp_region_held_drew (S := Upd (fun _ => False) w8) (by kernel_rfl) HS_w8_0.out (fun _ => ?_)
  refine wpAnyH_take (i := 0) (oi := ⟨some 33, _, _, _, _, _⟩) (v := .slice (some ⟨w2.heap.size, 0, none⟩) 32 32) rfl (by kernel_rfl) (by kernel_rfl) (by kernel_rfl) (fun _ _ _ h => h) (Or.inl ⟨by rfl, fun w hS => by go_simp⟩) HS_w8_0.out ?_
  try simp only [Act.put, List.setIfInBounds_toArray, List.set_cons_zero, List.set_cons_succ]
  refine wpAnyH_take (i := 1) (oi := ⟨some 34, _, _, _, _, _⟩) (v := .string s) rfl (by kernel_rfl) (by kernel_rfl) (by kernel_rfl) (fun _ _ _ h => h) (Or.inl ⟨by rfl, fun w hS => by have hc := HC1.out w hS; go_simp⟩) HS_w8_0.out ?_
  try simp only [Act.put, List.setIfInBounds_toArray, List.set_cons_zero, List.set_cons_succ]
  refine wpAnyH_take (i := 2) (oi := ⟨some 35, _, _, _, _, _⟩) (v := .slice av 32 cv) rfl (by kernel_rfl) (by kernel_rfl) (by kernel_rfl) (fun _ _ _ h => h) (Or.inl ⟨by rfl, fun w hS => by go_simp⟩) HS_w8_0.out ?_
  try simp only [Act.put, List.setIfInBounds_toArray, List.set_cons_zero, List.set_cons_succ]
  refine wpAnyH_take (i := 3) (oi := ⟨some 36, _, _, _, _, _⟩) (v := .string s) rfl (by kernel_rfl) (by kernel_rfl) (by kernel_rfl) (fun _ _ _ h => h) (Or.inl ⟨by rfl, fun w hS => by have hc := HC2.out w hS; go_simp⟩) HS_w8_0.out ?_
  try simp only [Act.put, List.setIfInBounds_toArray, List.set_cons_zero, List.set_cons_succ]
  refine wpAnyH_take (i := 4) (oi := ⟨some 37, _, _, _, _, _⟩) (v := .bool true) rfl (by kernel_rfl) (by kernel_rfl) (by kernel_rfl) (fun _ _ _ h => h) (Or.inl ⟨by rfl, fun w hS => by go_simp⟩) HS_w8_0.out ?_
  try simp only [Act.put, List.setIfInBounds_toArray, List.set_cons_zero, List.set_cons_succ]
  refine wpAnyH_take (i := 5) (oi := ⟨some 38, _, _, _, _, _⟩) (v := .bool true) rfl (by kernel_rfl) (by kernel_rfl) (by kernel_rfl) (fun _ _ _ h => h) (Or.inl ⟨by rfl, fun w hS => by go_simp⟩) HS_w8_0.out ?_
  try simp only [Act.put, List.setIfInBounds_toArray, List.set_cons_zero, List.set_cons_succ]
  refine wpAnyH_take (i := 6) rfl (by kernel_rfl) (by kernel_rfl) (by kernel_rfl) (fun _ _ _ h => h) (yieldsIf_load_mid (by rfl) _ _ rfl _ _ rfl L1 _ (fun w h => range_upd Hg8.out h) Tryd.underlying23 rfl j1.out) HS_w8_0.out ?_
  try simp only [Act.put, List.setIfInBounds_toArray, List.set_cons_zero, List.set_cons_succ]
  refine wpAnyH_take (i := 7) rfl (by kernel_rfl) (by kernel_rfl) (by kernel_rfl) (fun _ _ _ h => h) (yieldsIf_load_mid (by rfl) _ _ rfl _ _ rfl L0 _ (fun w h => range_upd G8.out h) Tryd.underlying23 rfl j0.out) HS_w8_0.out ?_
  try simp only [Act.put, List.setIfInBounds_toArray, List.set_cons_zero, List.set_cons_succ]
  refine wpAnyH_take (i := 8) (oi := ⟨some 41, _, _, _, _, _⟩) (v := .bool true) rfl (by kernel_rfl) (by kernel_rfl) (by kernel_rfl) (fun _ _ _ h => h) (Or.inl ⟨by rfl, fun w hS => by go_simp⟩) HS_w8_0.out ?_
  try simp only [Act.put, List.setIfInBounds_toArray, List.set_cons_zero, List.set_cons_succ]
  refine wpAnyH_take (i := 9) (oi := ⟨some 42, _, _, _, _, _⟩) (v := .bool true) rfl (by kernel_rfl) (by kernel_rfl) (by kernel_rfl) (fun _ _ _ h => h) (Or.inl ⟨by rfl, fun w hS => by go_simp⟩) HS_w8_0.out ?_
  try simp only [Act.put, List.setIfInBounds_toArray, List.set_cons_zero, List.set_cons_succ]
  refine wpAnyH_take (i := 10) (oi := ⟨some 2, _, _, _, _, _⟩) (v := .bool true) rfl (by kernel_rfl) (by kernel_rfl) (by kernel_rfl) (fun _ _ _ h => h) (Or.inl ⟨by rfl, fun w hS => by go_simp⟩) HS_w8_0.out ?_
  try simp only [Act.put, List.setIfInBounds_toArray, List.set_cons_zero, List.set_cons_succ]
  refine wpAnyH_done (by kernel_rfl) ?_ _
  go_wp2
  go_ret
  exact ⟨by first | rfl | (simp; done) | (dsimp only [List.set]; rfl), (HU8.out.drew).below (Nat.le_refl _) (fun _ _ => id)⟩
end Go.Proofs.YtmjadoicapfoeaaDoor.MustW
