/-
  docketlaw6.TreeNumbers, walked.
-/
import Derived.Test.YtgcionimhmbgeaaDoorRTrDM
import Derived.Test.YtgcionimhmbgeaaDoorRSpS
import Derived.Great.BuildSlice
import Derived.Deep.LoopGhost
import Derived.Deep.DeepCutAuto
import Derived.Deep.RegionHeld3
import Derived.WalkMore
namespace Go.Proofs.YtgcionimhmbgeaaDoorR.TrN
open Go.RowKit Sha TurnW Mem RowW SpreadW MixW HashM CopyW WriteW WriteN EndW SumH NewW EqW CutW OfW LeafW TabK BitsW SpL RefOf TabR TrD SpW SpR SpS
set_option linter.unusedVariables false
set_option linter.unusedSimpArgs false

theorem spots07 : spotsZ 0 7 = [(2, 0), (1, 2), (0, 6)] := by
  have e : spotsZ 0 7 = spots 0 7 := by unfold spotsZ; rw [if_neg (by decide)]; rfl
  have l0 : lev 0 7 = 2 := by decide
  have l1 : lev 4 7 = 1 := by decide
  have l2 : lev 6 7 = 0 := by decide
  rw [e, spots_cons (by decide), l0]
  show _ :: spots 4 7 = _
  rw [spots_cons (by decide), l1]
  show _ :: _ :: spots 6 7 = _
  rw [spots_cons (by decide), l2]
  show _ :: _ :: _ :: spots 7 7 = _
  rw [spots_nil (by decide)]
def lf (c : UInt8) : List UInt8 := ofM 32 0 [[c]]
theorem lf_len (c : UInt8) : (lf c).length = 32 := of_len _ _ _
theorem leaf_c (c : UInt8) (A : List Value) (hA : A = (lf c).map u8) (w : World) :
    Calls Tryd.prog 11 #[.int .i64 32, .slice (some ⟨w.heap.size, 0, none⟩) 1 1] (w.alloc (.cells #[u8 c] 5)) fun e w' => e = .returned (.agg A.toArray) ∧ Upd (fun _ => False) w w' := by
  rw [hA]
  refine (rleaf_any 32 (by decide) (some ⟨w.heap.size, 0, none⟩) 1 1 [c] (w.alloc (.cells #[u8 c] 5)) (BranchW.sl_row _ _ _ [c] (0, 0) 1 rfl (by unfold maxLen; simp) (heap_alloc_new _ _)) (fun k h => by have := own_at h; simp; omega) trivial trivial (by simp)).mono ?_
  rintro e w' ⟨rfl, hu⟩
  exact ⟨rfl, ((Upd.refl (fun _ => False) w).alloc _).trans (hu.mono (fun _ _ e => e.elim))⟩
theorem cells3 {a b c : List UInt8} (ha : a.length = 32) (hb : b.length = 32) (hc : c.length = 32) (i : Nat) (hi : i < 3) : ∀ (j : Nat) v, (([a, b, c].getD i []).map u8)[j]? = some v → (a.map u8 ++ b.map u8 ++ c.map u8)[i * 32 + j]? = some v := by
  intro j v hv
  have hj : j < 32 := by
    have := (List.getElem?_eq_some_iff.1 hv).1
    match i, hi with
    | 0, _ => simpa [ha] using this
    | 1, _ => simpa [hb] using this
    | 2, _ => simpa [hc] using this
  match i, hi with
  | 0, _ =>
    rw [List.append_assoc, List.getElem?_append_left (by simp; omega)]
    simpa using hv
  | 1, _ =>
    rw [List.append_assoc, List.getElem?_append_right (by simp; omega), List.getElem?_append_left (by simp; omega)]
    simpa [ha] using hv
  | 2, _ =>
    rw [List.getElem?_append_right (by simp; omega)]
    simpa [ha, hb] using hv
theorem ds3 {w : World} {g : Nat} {T : TypeId} {a b c : List UInt8} (ha : a.length = 32) (hb : b.length = 32) (hc : c.length = 32) (h : w.heap[g]? = some (.cells (a.map u8 ++ b.map u8 ++ c.map u8).toArray T (0, 0))) :
    DsL w (.slice (some ⟨g, 0, none⟩) 3 3) [a, b, c] (fun k => k = g) := by
  refine ⟨_, _, rfl, by simp, by unfold maxLen; simp, fun d hd => ?_, by simp, fun ad had => ?_⟩
  · simp at hd
    rcases hd with rfl | rfl | rfl <;> assumption
  · injection had with had
    subst had
    refine ⟨rfl, fun _ => rfl, fun i hi j v hv => ?_⟩
    rw [cell_of_row _ _ _ _ _ _ h]
    have := cells3 ha hb hc i (by simpa using hi) j v hv
    simpa using this
theorem infoDz : (Tryd.prog.info? 23).map (fun i => (i.zero, i.size, i.bytes)) = some (some (.agg A32), 32, 32) := by kernel_rfl
/-- a literal of digests -/
theorem wp_lit {o : Oper} {a : Act} {w : World} {K : Act → World → Prop} {Q : Exit → Act → World → Prop} (len : Nat) (hlen : 0 < len) (hle : len ≤ 1000) (parts : Array (Nat × Operand)) (ho : o.op = .buildSlice 30 len parts) (vs : List (List Value))
    (hv : (parts.map fun (i, x) => (i, a.eval x)).toList = ((vs.map fun v => Value.agg v.toArray).zipIdx 0).map fun x => (x.2, x.1)) (hn : vs.length = len) (h32 : ∀ v ∈ vs, v.length = 32)
    (h : K (a.put o.dst (.slice (some ⟨w.heap.size, 0, none⟩) len len)) (w.alloc (.cells vs.flatten.toArray 23))) : o.wp Tryd.prog a w K Q := by
  obtain ⟨i0, hi, hz0, hz1, hz2⟩ := info_parts infoDz
  refine wp_buildSlice 30 23 len parts ho vs.flatten.toArray i0 (.agg A32) Tryd.underlying30 hi hz0 (by rw [hz1]; omega) (by rw [hz1]; omega) ?_ h
  rw [hv, hz1]
  have h2 := Go.Great.fill_whole (s := 32) (by decide) (vs.map fun v => Value.agg v.toArray) ((Array.range (len * 32)).map ((Value.agg A32).cells[· % (Value.agg A32).cells.size]!)) (fun v hv' => by
    obtain ⟨x, hx, rfl⟩ := List.mem_map.1 hv'
    show x.toArray.size = 32
    simp [h32 x hx]) (by simp [hn])
  have e3 : ((vs.map fun v => Value.agg v.toArray).flatMap fun v => v.cells.toList) = vs.flatten := by
    rw [List.flatMap_map]
    rw [List.flatten_eq_flatMap]
    rfl
  rw [h2, e3]
/-- t4 is a box with E in it -/
def PB (w3 : World) (E : List Value) (s4 : Value) (wx : World) : Prop := ∃ b, s4 = .pointer (some ⟨b, 0, none⟩) ∧ w3.heap.size ≤ b ∧ wx.heap[b]? = some (.cells E.toArray 23 (0, 0)) ∧ Upd (fun _ => False) w3 wx
theorem box_range {w w' : World} {b : Nat} {A : List Value} {T : TypeId} (h : w.heap[b]? = some (.cells A.toArray T (0, 0))) (hu : Upd (fun _ => False) w w') : ∀ (j : Nat) v, A[j]? = some v → w'.cell? ⟨b, 0 + j, none⟩ = some v := fun j v hv =>
  hu.cell (by rw [cell_of_row _ _ _ _ _ _ h]; simpa using hv) id
theorem ds0 (w : World) : DsL w (.slice none 0 0) [] (fun _ => False) := ⟨none, 0, rfl, by simp, by simp, by simp, by simp, fun a ha => by simp at ha⟩
set_option maxHeartbeats 8000000 in
set_option maxRecDepth 100000 in
theorem walk (w : World) (hz : Zw w) (hgz : 1 < w.heap.size) (hk : Kw w) (hg : 2 < w.heap.size) :
    Calls Tryd.prog 3 #[] w fun e w' => e = .returned (.bool true) ∧ Upd (fun _ => False) w w' := by
  obtain ⟨xa, hxa⟩ : ∃ x, x = lf 1 := ⟨_, rfl⟩
  obtain ⟨xb, hxb⟩ : ∃ x, x = lf 2 := ⟨_, rfl⟩
  obtain ⟨xc, hxc⟩ : ∃ x, x = lf 3 := ⟨_, rfl⟩
  have la : xa.length = 32 := by rw [hxa]; exact lf_len 1
  have lb : xb.length = 32 := by rw [hxb]; exact lf_len 2
  have lc : xc.length = 32 := by rw [hxc]; exact lf_len 3
  obtain ⟨xd, hxd⟩ : ∃ x, x = Nd 32 xa xb := ⟨_, rfl⟩
  obtain ⟨xe, hxe⟩ : ∃ x, x = Nd 32 xd xc := ⟨_, rfl⟩
  have ld : xd.length = 32 := by rw [hxd]; exact nd_len _ _ _
  have le : xe.length = 32 := by rw [hxe]; exact nd_len _ _ _
  have hroot : rootM 32 [xa, xb, xc] = xe := by
    have h2 := mth_two (Nd 32) (notM 32) [xa, xb, xc] (by simp) (by simp)
    have hl : lft 3 = 2 := by decide
    have h3 := mth_two (Nd 32) (notM 32) [xa, xb] (by simp) (by simp)
    have hl2 : lft 2 = 1 := by decide
    simp [hl] at h2
    simp [hl2, mth_one] at h3
    unfold rootM
    rw [h2, h3, mth_one, hxe, hxd]
  obtain ⟨A, hA⟩ : ∃ X, X = xa.map u8 := ⟨_, rfl⟩
  have HA1 : Hid (A.toArray.all (·.oneCell') = true) := by show _ = _; rw [hA]; simpa using one_of xa
  have HAs : Hid ((Tryd.prog.info? 23).map (·.size) = some A.toArray.size) := by show _ = _; rw [size32, hA]; simp [la]
  have HAz : Hid ((Tryd.prog.info? 23).map (·.size) = some A.length) := by show _ = _; rw [size32, hA]; simp [la]
  have HAl : Hid (AD.size = A.toArray.size) := by show _ = _; rw [hA]; simp [la, AD]
  obtain ⟨B, hB⟩ : ∃ X, X = xb.map u8 := ⟨_, rfl⟩
  have HB1 : Hid (B.toArray.all (·.oneCell') = true) := by show _ = _; rw [hB]; simpa using one_of xb
  have HBs : Hid ((Tryd.prog.info? 23).map (·.size) = some B.toArray.size) := by show _ = _; rw [size32, hB]; simp [lb]
  have HBz : Hid ((Tryd.prog.info? 23).map (·.size) = some B.length) := by show _ = _; rw [size32, hB]; simp [lb]
  have HBl : Hid (AD.size = B.toArray.size) := by show _ = _; rw [hB]; simp [lb, AD]
  obtain ⟨C, hC⟩ : ∃ X, X = xc.map u8 := ⟨_, rfl⟩
  have HC1 : Hid (C.toArray.all (·.oneCell') = true) := by show _ = _; rw [hC]; simpa using one_of xc
  have HCs : Hid ((Tryd.prog.info? 23).map (·.size) = some C.toArray.size) := by show _ = _; rw [size32, hC]; simp [lc]
  have HCz : Hid ((Tryd.prog.info? 23).map (·.size) = some C.length) := by show _ = _; rw [size32, hC]; simp [lc]
  have HCl : Hid (AD.size = C.toArray.size) := by show _ = _; rw [hC]; simp [lc, AD]
  obtain ⟨D, hD⟩ : ∃ X, X = xd.map u8 := ⟨_, rfl⟩
  have HD1 : Hid (D.toArray.all (·.oneCell') = true) := by show _ = _; rw [hD]; simpa using one_of xd
  have HDs : Hid ((Tryd.prog.info? 23).map (·.size) = some D.toArray.size) := by show _ = _; rw [size32, hD]; simp [ld]
  have HDz : Hid ((Tryd.prog.info? 23).map (·.size) = some D.length) := by show _ = _; rw [size32, hD]; simp [ld]
  have HDl : Hid (AD.size = D.toArray.size) := by show _ = _; rw [hD]; simp [ld, AD]
  obtain ⟨E, hE⟩ : ∃ X, X = xe.map u8 := ⟨_, rfl⟩
  have HE1 : Hid (E.toArray.all (·.oneCell') = true) := by show _ = _; rw [hE]; simpa using one_of xe
  have HEs : Hid ((Tryd.prog.info? 23).map (·.size) = some E.toArray.size) := by show _ = _; rw [size32, hE]; simp [le]
  have HEz : Hid ((Tryd.prog.info? 23).map (·.size) = some E.length) := by show _ = _; rw [size32, hE]; simp [le]
  have HEl : Hid (AD.size = E.toArray.size) := by show _ = _; rw [hE]; simp [le, AD]
  obtain ⟨NN, hNN⟩ : ∃ X, X = (notM 32).map u8 := ⟨_, rfl⟩
  have Le := Lib.hid le
  have HLA := Lib.hid (leaf_c 1 A (by rw [hA, hxa]))
  have HLB := Lib.hid (leaf_c 2 B (by rw [hB, hxb]))
  have HLC := Lib.hid (leaf_c 3 C (by rw [hC, hxc]))
  have HN1 : Hid (∀ w', Calls Tryd.prog 12 #[.int .i64 32, .agg A.toArray, .agg B.toArray] w' fun e w'' => e = .returned (.agg D.toArray) ∧ Upd (fun _ => False) w' w'') := fun w' => by
    rw [hA, hB, hD, hxd]; exact rnode_any 32 (by decide) xa xb la lb w' trivial trivial
  have HN2 : Hid (∀ w', Calls Tryd.prog 12 #[.int .i64 32, .agg D.toArray, .agg C.toArray] w' fun e w'' => e = .returned (.agg E.toArray) ∧ Upd (fun _ => False) w' w'') := fun w' => by
    rw [hD, hC, hE, hxe]; exact rnode_any 32 (by decide) xd xc ld lc w' trivial trivial
  have Hz := Lib.hid hz
  have Hk := Lib.hid hk
  have hzz := zeroD
  have HNN := Lib.hid hNN
  clear hNN
  have EA := Lib.hid hA
  have EB := Lib.hid hB
  have EC := Lib.hid hC
  have ED := Lib.hid hD
  have EE := Lib.hid hE
  have Hroot := Lib.hid hroot
  have La := Lib.hid la
  have Lb := Lib.hid lb
  have Lc := Lib.hid lc
  clear hA hB hC hD hE hz hk hxa hxb hxc hxd hxe la lb lc ld le hroot
  go_enter Tryd.func3, Tryd.ntmps3
  go_wp2_with fail
  refine (HLA.out w).mono ?_
  rintro e v1 ⟨rfl, hu1⟩
  have HV1 := Lib.hid hu1
  clear hu1
  go_wp2_with ((with_reducible refine wpList_store_new (o := ⟨none, .store 23 (.tmp 1) (.tmp 7), _, _, _, _⟩) ?_ _ (.tmp 1) (.tmp 7) ?_ v1.heap.size A.toArray ?_ ?_ 23 AD (heap_alloc_new _ _) HAs.out HAl.out HA1.out ?_); rfl; rfl; rfl; rfl; intro wS1 Hg_wS1 Hu_wS1)
  have HS1 : Hid (Upd (fun _ => False) v1 wS1) := ((Upd.refl _ v1).alloc _).trans (Hu_wS1.out.mono (fun k _ e => .inr (by omega)))
  refine (HLB.out wS1).mono ?_
  rintro e v2 ⟨rfl, hu2⟩
  have HV2 := Lib.hid hu2
  clear hu2
  go_wp2_with ((with_reducible refine wpList_store_new (o := ⟨none, .store 23 (.tmp 2) (.tmp 9), _, _, _, _⟩) ?_ _ (.tmp 2) (.tmp 9) ?_ v2.heap.size B.toArray ?_ ?_ 23 AD (heap_alloc_new _ _) HBs.out HBl.out HB1.out ?_); rfl; rfl; rfl; rfl; intro wS2 Hg_wS2 Hu_wS2)
  have HS2 : Hid (Upd (fun _ => False) v2 wS2) := ((Upd.refl _ v2).alloc _).trans (Hu_wS2.out.mono (fun k _ e => .inr (by omega)))
  refine (HLC.out wS2).mono ?_
  rintro e v3 ⟨rfl, hu3⟩
  have HV3 := Lib.hid hu3
  clear hu3
  go_wp2_with ((with_reducible refine wpList_store_new (o := ⟨none, .store 23 (.tmp 3) (.tmp 11), _, _, _, _⟩) ?_ _ (.tmp 3) (.tmp 11) ?_ v3.heap.size C.toArray ?_ ?_ 23 AD (heap_alloc_new _ _) HCs.out HCl.out HC1.out ?_); rfl; rfl; rfl; rfl; intro wS3 Hg_wS3 Hu_wS3)
  have HS3 : Hid (Upd (fun _ => False) v3 wS3) := ((Upd.refl _ v3).alloc _).trans (Hu_wS3.out.mono (fun k _ e => .inr (by omega)))
  have HU2 : Hid (Upd (fun _ => False) wS1 wS2) := HV2.out.trans (HS2.out.mono (fun _ _ e => e.elim))
  have HU3 : Hid (Upd (fun _ => False) wS2 wS3) := HV3.out.trans (HS3.out.mono (fun _ _ e => e.elim))
  have HBC := Hg_wS3
  have HBB : Hid (wS3.heap[v2.heap.size]? = some (.cells B.toArray 23 (0, 0))) := (HU3.out.block _ (lt_of_block Hg_wS2.out) id).trans Hg_wS2.out
  have HBA : Hid (wS3.heap[v1.heap.size]? = some (.cells A.toArray 23 (0, 0))) := (HU3.out.block _ (by have := lt_of_block Hg_wS1.out; have := HU2.out.size; omega) id).trans ((HU2.out.block _ (lt_of_block Hg_wS1.out) id).trans Hg_wS1.out)
  have HUw : Hid (Upd (fun _ => False) w wS3) := ((HV1.out.trans (HS1.out.mono (fun _ _ e => e.elim))).trans (HU2.out.mono (fun _ _ e => e.elim))).trans (HU3.out.mono (fun _ _ e => e.elim))
  go_upto_region 5 with (fail)
  simp only [Act.put]
  go_cut [4] (fun s4 wx => PB wS3 E s4 wx)
  case first =>
    have HS_0 : Hid (Upd (fun _ => False) wS3 wS3.drew) := (Upd.refl _ _).drew
    refine wp_region_held_drew (S := Upd (fun _ => False) wS3) (by kernel_rfl) HS_0.out (fun _ => ?_)
    refine wpAnyH_take (i := 0) (oi := ⟨some 12, _, _, _, _, _⟩) rfl (by kernel_rfl) (by kernel_rfl) (by kernel_rfl) (fun _ _ _ h => h) (yieldsIf_load_mid (by rfl) _ _ rfl (v1.heap.size) (0) rfl A _ (fun w h => box_range HBA.out h) Tryd.underlying23 rfl HAz.out) HS_0.out ?_
    try simp only [Act.put, List.setIfInBounds_toArray, List.set_cons_zero, List.set_cons_succ]
    refine wpAnyH_take (i := 1) (oi := ⟨some 13, _, _, _, _, _⟩) rfl (by kernel_rfl) (by kernel_rfl) (by kernel_rfl) (fun _ _ _ h => h) (yieldsIf_load_mid (by rfl) _ _ rfl (v2.heap.size) (0) rfl B _ (fun w h => box_range HBB.out h) Tryd.underlying23 rfl HBz.out) HS_0.out ?_
    try simp only [Act.put, List.setIfInBounds_toArray, List.set_cons_zero, List.set_cons_succ]
    refine wpAnyH_take (i := 3) (oi := ⟨some 15, _, _, _, _, _⟩) rfl (by kernel_rfl) (by kernel_rfl) (by kernel_rfl) (fun _ _ _ h => h) (yieldsIf_load_mid (by rfl) _ _ rfl (v3.heap.size) (0) rfl C _ (fun w h => box_range HBC.out h) Tryd.underlying23 rfl HCz.out) HS_0.out ?_
    try simp only [Act.put, List.setIfInBounds_toArray, List.set_cons_zero, List.set_cons_succ]
    refine wpAnyH_ready (rs := [2, 5]) (by kernel_rfl) (by simp) ?_
    refine AllReadyH.cons rfl (fun K hK => ?_) (AllReadyH.cons rfl (fun K hK => ?_) AllReadyH.nil)
    · go_simp
      refine (HN1.out _).mono ?_
      rintro e wc1 ⟨rfl, hu_⟩
      have HSc1 : Hid (Upd (fun _ => False) wS3 wc1) := HS_0.out.trans (hu_.mono (fun _ _ h => h.elim))
      clear hu_
      refine hK.out _ _ HSc1.out (fun hHeld => ?_)
      clear hK K hHeld
      try simp only [Act.put, List.setIfInBounds_toArray, List.set_cons_zero, List.set_cons_succ]
      refine wpAnyH_ready (rs := [4, 5]) (by kernel_rfl) (by simp) ?_
      refine AllReadyH.cons rfl (fun K hK => ?_) (AllReadyH.cons rfl (fun K hK => ?_) AllReadyH.nil)
      · go_simp
        refine (HN2.out _).mono ?_
        rintro e wc2 ⟨rfl, hu_⟩
        have HSc2 : Hid (Upd (fun _ => False) wS3 wc2) := HSc1.out.trans (hu_.mono (fun _ _ h => h.elim))
        clear hu_
        refine hK.out _ _ HSc2.out (fun hHeld => ?_)
        clear hK K hHeld
        try simp only [Act.put, List.setIfInBounds_toArray, List.set_cons_zero, List.set_cons_succ]
        refine wpAnyH_ready (rs := [5]) (by kernel_rfl) (by simp) ?_
        refine AllReadyH.cons rfl (fun K hK => ?_) AllReadyH.nil
        go_simp
        obtain ⟨b4, hb4⟩ : ∃ x, x = wc2.heap.size := ⟨_, rfl⟩
        obtain ⟨wa, hwa⟩ : ∃ x, x = (wc2.alloc (.cells AD 23)) := ⟨_, rfl⟩
        rw [← hwa]
        have HRa : Hid (wa.heap[b4]? = some (.cells AD 23 (0, 0))) := by show _ = _; rw [hwa, hb4]; exact heap_alloc_new _ _
        have HSa : Hid (Upd (fun _ => False) wS3 wa) := by show Upd _ _ _; rw [hwa]; exact HSc2.out.alloc _
        have hdb : wS3.heap.size ≤ b4 := by rw [hb4]; exact HSc2.out.size
        try rw [← hb4]
        have Hb4 := Lib.hid hb4
        clear hwa hb4
        refine hK.out _ _ HSa.out (fun hHeld => ?_)
        clear hK K hHeld
        try simp only [Act.put, List.setIfInBounds_toArray, List.set_cons_zero, List.set_cons_succ]
        refine wpAnyH_ready (rs := [6]) (by kernel_rfl) (by simp) ?_
        refine AllReadyH.cons rfl (fun K hK => ?_) AllReadyH.nil
        rw [if_pos (by rfl)]
        refine wp_store_row 23 (.tmp 4) (.tmp 16) rfl b4 E.toArray (by first | rfl | (rw [Hb4.out]; rfl)) rfl 23 AD HRa.out HEs.out HEl.out HE1.out ?_
        have Hg6 := Lib.hid (setRow_heap _ _ AD E.toArray _ _ HRa.out)
        have Hu6 : Hid (Upd (fun k => k = b4) wa (wa.setRow b4 E.toArray)) := Upd.setRow (Upd.refl _ _) _ E.toArray (.inl rfl)
        generalize wa.setRow b4 E.toArray = w6 at Hg6 Hu6 ⊢
        have HSf : Hid (Upd (fun _ => False) wS3 w6) := HSa.out.trans (Hu6.out.mono (fun k _ e => .inr (by omega)))
        refine hK.out _ _ HSf.out (fun hHeld => ?_)
        clear hK K hHeld
        try simp only [Act.put, List.setIfInBounds_toArray, List.set_cons_zero, List.set_cons_succ]
        refine wpAnyH_done (by kernel_rfl) ?_ _
        go_wp2_with fail
        go_meet
        exact ⟨b4, by first | rfl | (rw [Hb4.out]; rfl), hdb, Hg6.out, HSf.out⟩
      · go_simp
        obtain ⟨b4, hb4⟩ : ∃ x, x = wc1.heap.size := ⟨_, rfl⟩
        obtain ⟨wa, hwa⟩ : ∃ x, x = (wc1.alloc (.cells AD 23)) := ⟨_, rfl⟩
        rw [← hwa]
        have HRa : Hid (wa.heap[b4]? = some (.cells AD 23 (0, 0))) := by show _ = _; rw [hwa, hb4]; exact heap_alloc_new _ _
        have HSa : Hid (Upd (fun _ => False) wS3 wa) := by show Upd _ _ _; rw [hwa]; exact HSc1.out.alloc _
        have hdb : wS3.heap.size ≤ b4 := by rw [hb4]; exact HSc1.out.size
        try rw [← hb4]
        have Hb4 := Lib.hid hb4
        clear hwa hb4
        refine hK.out _ _ HSa.out (fun hHeld => ?_)
        clear hK K hHeld
        try simp only [Act.put, List.setIfInBounds_toArray, List.set_cons_zero, List.set_cons_succ]
        refine wpAnyH_ready (rs := [4]) (by kernel_rfl) (by simp) ?_
        refine AllReadyH.cons rfl (fun K hK => ?_) AllReadyH.nil
        go_simp
        refine (HN2.out _).mono ?_
        rintro e wc2 ⟨rfl, hu_⟩
        have HSc2 : Hid (Upd (fun _ => False) wS3 wc2) := HSa.out.trans (hu_.mono (fun _ _ h => h.elim))
        have HRa' : Hid (wc2.heap[b4]? = some (.cells AD 23 (0, 0))) := (hu_.block _ (lt_of_block HRa.out) id).trans HRa.out
        clear HRa
        have HRa : Hid (wc2.heap[b4]? = some (.cells AD 23 (0, 0))) := HRa'
        clear HRa'
        clear hu_
        refine hK.out _ _ HSc2.out (fun hHeld => ?_)
        clear hK K hHeld
        try simp only [Act.put, List.setIfInBounds_toArray, List.set_cons_zero, List.set_cons_succ]
        refine wpAnyH_ready (rs := [6]) (by kernel_rfl) (by simp) ?_
        refine AllReadyH.cons rfl (fun K hK => ?_) AllReadyH.nil
        rw [if_pos (by rfl)]
        refine wp_store_row 23 (.tmp 4) (.tmp 16) rfl b4 E.toArray (by first | rfl | (rw [Hb4.out]; rfl)) rfl 23 AD HRa.out HEs.out HEl.out HE1.out ?_
        have Hg6 := Lib.hid (setRow_heap _ _ AD E.toArray _ _ HRa.out)
        have Hu6 : Hid (Upd (fun k => k = b4) wc2 (wc2.setRow b4 E.toArray)) := Upd.setRow (Upd.refl _ _) _ E.toArray (.inl rfl)
        generalize wc2.setRow b4 E.toArray = w6 at Hg6 Hu6 ⊢
        have HSf : Hid (Upd (fun _ => False) wS3 w6) := HSc2.out.trans (Hu6.out.mono (fun k _ e => .inr (by omega)))
        refine hK.out _ _ HSf.out (fun hHeld => ?_)
        clear hK K hHeld
        try simp only [Act.put, List.setIfInBounds_toArray, List.set_cons_zero, List.set_cons_succ]
        refine wpAnyH_done (by kernel_rfl) ?_ _
        go_wp2_with fail
        go_meet
        exact ⟨b4, by first | rfl | (rw [Hb4.out]; rfl), hdb, Hg6.out, HSf.out⟩
    · go_simp
      obtain ⟨b4, hb4⟩ : ∃ x, x = wS3.heap.size := ⟨_, rfl⟩
      obtain ⟨wa, hwa⟩ : ∃ x, x = (wS3.alloc (.cells AD 23)).drew := ⟨_, rfl⟩
      rw [← hwa]
      have HRa : Hid (wa.heap[b4]? = some (.cells AD 23 (0, 0))) := by show _ = _; rw [hwa, hb4]; exact heap_alloc_new _ _
      have HSa : Hid (Upd (fun _ => False) wS3 wa) := by show Upd _ _ _; rw [hwa]; exact ((Upd.refl _ wS3).alloc _).drew
      have hdb : wS3.heap.size ≤ b4 := by rw [hb4]; exact Nat.le_refl _
      try rw [← hb4]
      have Hb4 := Lib.hid hb4
      clear hwa hb4
      refine hK.out _ _ HSa.out (fun hHeld => ?_)
      clear hK K hHeld
      try simp only [Act.put, List.setIfInBounds_toArray, List.set_cons_zero, List.set_cons_succ]
      refine wpAnyH_ready (rs := [2]) (by kernel_rfl) (by simp) ?_
      refine AllReadyH.cons rfl (fun K hK => ?_) AllReadyH.nil
      go_simp
      refine (HN1.out _).mono ?_
      rintro e wc1 ⟨rfl, hu_⟩
      have HSc1 : Hid (Upd (fun _ => False) wS3 wc1) := HSa.out.trans (hu_.mono (fun _ _ h => h.elim))
      have HRa' : Hid (wc1.heap[b4]? = some (.cells AD 23 (0, 0))) := (hu_.block _ (lt_of_block HRa.out) id).trans HRa.out
      clear HRa
      have HRa : Hid (wc1.heap[b4]? = some (.cells AD 23 (0, 0))) := HRa'
      clear HRa'
      clear hu_
      refine hK.out _ _ HSc1.out (fun hHeld => ?_)
      clear hK K hHeld
      try simp only [Act.put, List.setIfInBounds_toArray, List.set_cons_zero, List.set_cons_succ]
      refine wpAnyH_ready (rs := [4]) (by kernel_rfl) (by simp) ?_
      refine AllReadyH.cons rfl (fun K hK => ?_) AllReadyH.nil
      go_simp
      refine (HN2.out _).mono ?_
      rintro e wc2 ⟨rfl, hu_⟩
      have HSc2 : Hid (Upd (fun _ => False) wS3 wc2) := HSc1.out.trans (hu_.mono (fun _ _ h => h.elim))
      have HRa' : Hid (wc2.heap[b4]? = some (.cells AD 23 (0, 0))) := (hu_.block _ (lt_of_block HRa.out) id).trans HRa.out
      clear HRa
      have HRa : Hid (wc2.heap[b4]? = some (.cells AD 23 (0, 0))) := HRa'
      clear HRa'
      clear hu_
      refine hK.out _ _ HSc2.out (fun hHeld => ?_)
      clear hK K hHeld
      try simp only [Act.put, List.setIfInBounds_toArray, List.set_cons_zero, List.set_cons_succ]
      refine wpAnyH_ready (rs := [6]) (by kernel_rfl) (by simp) ?_
      refine AllReadyH.cons rfl (fun K hK => ?_) AllReadyH.nil
      rw [if_pos (by rfl)]
      refine wp_store_row 23 (.tmp 4) (.tmp 16) rfl b4 E.toArray (by first | rfl | (rw [Hb4.out]; rfl)) rfl 23 AD HRa.out HEs.out HEl.out HE1.out ?_
      have Hg6 := Lib.hid (setRow_heap _ _ AD E.toArray _ _ HRa.out)
      have Hu6 : Hid (Upd (fun k => k = b4) wc2 (wc2.setRow b4 E.toArray)) := Upd.setRow (Upd.refl _ _) _ E.toArray (.inl rfl)
      generalize wc2.setRow b4 E.toArray = w6 at Hg6 Hu6 ⊢
      have HSf : Hid (Upd (fun _ => False) wS3 w6) := HSc2.out.trans (Hu6.out.mono (fun k _ e => .inr (by omega)))
      refine hK.out _ _ HSf.out (fun hHeld => ?_)
      clear hK K hHeld
      try simp only [Act.put, List.setIfInBounds_toArray, List.set_cons_zero, List.set_cons_succ]
      refine wpAnyH_done (by kernel_rfl) ?_ _
      go_wp2_with fail
      go_meet
      exact ⟨b4, by first | rfl | (rw [Hb4.out]; rfl), hdb, Hg6.out, HSf.out⟩
  case rest =>
    obtain ⟨b4, rfl, hb4, hbe, hu4⟩ := hcut
    have HBE := Lib.hid hbe
    have HU4 := Lib.hid hu4
    have HSp := Lib.hid (spots_any 0 7 (by decide) (by decide) wc (Hz.out.upd (HUw.out.trans (hu4.mono (fun _ _ e => e.elim))) id) (by have := hu4.size; have := HUw.out.size; omega))
    clear hb4 hbe hu4
    go_wp2_with fail
    refine HSp.out.mono ?_
    rintro e w5 ⟨v5, rfl, hv5, _, hu5⟩
    rw [spots07] at hv5
    have HV5 := Lib.hid hv5
    have HU5 : Hid (Upd (fun _ => False) wS3 w5) := HU4.out.trans (hu5.mono (fun _ _ e => e.elim))
    have HBE5 : Hid (w5.heap[b4]? = some (.cells E.toArray 23 (0, 0))) := (hu5.block _ (lt_of_block HBE.out) id).trans HBE.out
    clear hv5 hu5 HSp
    have HBA5 : Hid (w5.heap[v1.heap.size]? = some (.cells A.toArray 23 (0, 0))) := (HU5.out.block _ (lt_of_block HBA.out) id).trans HBA.out
    have HBB5 : Hid (w5.heap[v2.heap.size]? = some (.cells B.toArray 23 (0, 0))) := (HU5.out.block _ (lt_of_block HBB.out) id).trans HBB.out
    have HBC5 : Hid (w5.heap[v3.heap.size]? = some (.cells C.toArray 23 (0, 0))) := (HU5.out.block _ (lt_of_block HBC.out) id).trans HBC.out
    have H32 : Hid (∀ v ∈ [A, B, C], v.length = 32) := fun v hv => by
      simp at hv
      rcases hv with rfl | rfl | rfl
      · rw [EA.out]; simpa using La.out
      · rw [EB.out]; simpa using Lb.out
      · rw [EC.out]; simpa using Lc.out
    have HKw : Hid (MixW.Kw w5 ∧ 2 < w5.heap.size) := ⟨Hk.out.upd (HUw.out.trans (HU5.out.mono (fun _ _ e => e.elim))) id, by have := HU5.out.size; have := HUw.out.size; omega⟩
    have HRt : ∀ w', DsL w' (.slice (some ⟨w5.heap.size, 0, none⟩) 3 3) [xa, xb, xc] (fun k => k = w5.heap.size) → Upd (fun _ => False) w5 w' → Hid (Calls Tryd.prog 14 #[.int .i64 32, .slice (some ⟨w5.heap.size, 0, none⟩) 3 3] w' fun e w'' => e = .returned (.agg E.toArray) ∧ Upd (fun _ => False) w' w'') := fun w' h hu => by
      have h2 := root_any 32 3 (some ⟨w5.heap.size, 0, none⟩) 3 [xa, xb, xc] (fun k => k = w5.heap.size) w' rfl (by decide) h (fun k hk => by
        obtain ⟨_, _, he, _, _, _, _, h6⟩ := h
        have h7 := (h6 ⟨w5.heap.size, 0, none⟩ (by injection he with e1; exact e1.symm)).2.2 0 (by simp) 0 (Mem.u8 (xa.getD 0 0)) (by
          have := La.out
          cases xa with
          | nil => simp at this
          | cons c r => simp)
        have := World.block_lt_of_cell? w' _ h7
        rw [hk]
        exact this) (HKw.out.1.upd hu id) (by have := hu.size; have := HKw.out.2; omega)
      show Calls _ _ _ _ _
      rw [EE.out, ← Hroot.out]
      exact h2
    have HRn : Hid (∀ w', Upd (fun _ => False) w5 w' → Calls Tryd.prog 14 #[.int .i64 32, .slice none 0 0] w' fun e w'' => e = .returned (.agg NN.toArray) ∧ Upd (fun _ => False) w' w'') := fun w' hu => by
      rw [HNN.out]
      exact root_any 32 0 none 0 [] (fun _ => False) w' rfl (by decide) (ds0 w') (fun _ h => h.elim) (HKw.out.1.upd hu id) (by have := hu.size; have := HKw.out.2; omega)
    have HNo : Hid (∀ w', Calls Tryd.prog 15 #[.int .i64 32] w' fun e w'' => e = .returned (.agg NN.toArray) ∧ Upd (fun _ => False) w' w'') := fun w' => by
      rw [HNN.out]
      exact rnothing_any 32 (by decide) w'
    have HEq : Hid (∀ w, (Op.equalIn 10000 23 (.agg E.toArray) (.agg E.toArray)).run Tryd.prog w = .ok true w) := fun w => by
      rw [EE.out, run_eq_digest xe xe Le.out Le.out]; simp
    have HEn : Hid (∀ w, (Op.equalIn 10000 23 (.agg NN.toArray) (.agg NN.toArray)).run Tryd.prog w = .ok true w) := fun w => by
      rw [HNN.out, run_eq_digest _ _ (not_len 32) (not_len 32)]; simp
    obtain ⟨g5, c5, rfl⟩ : ∃ g c, v5 = .slice (some ⟨g, 0, none⟩) 3 c := by
      rcases HV5.out.2 with ⟨_, h⟩ | ⟨g, cap, cur, h, _⟩
      · simp at h
      · exact ⟨g, cap, h⟩
    have HV0 : Hid (∀ w', Upd (fun _ => False) w5 w' → ∀ (j : Nat) v, [Value.int .i64 2, .int .i64 0][j]? = some v → w'.cell? ⟨g5, 0 + j, none⟩ = some v) := fun w' hu j v hv => by
      have h := spot_at HV5.out 0 (by decide) (2, 0) rfl j v hv
      exact hu.cell (by simpa using h) id
    have HV2 : Hid (∀ w', Upd (fun _ => False) w5 w' → ∀ (j : Nat) v, [Value.int .i64 0, .int .i64 6][j]? = some v → w'.cell? ⟨g5, 4 + j, none⟩ = some v) := fun w' hu j v hv => by
      have h := spot_at HV5.out 2 (by decide) (0, 6) rfl j v hv
      exact hu.cell (by simpa using h) id
    have HZs : Hid ((Tryd.prog.info? 33).map (·.size) = some [Value.int .i64 2, .int .i64 0].length) := sizeS
    have HZs2 : Hid ((Tryd.prog.info? 33).map (·.size) = some [Value.int .i64 0, .int .i64 6].length) := sizeS
    go_wp2_with fail
    have HS_0 : Hid (Upd (fun _ => False) w5 w5.drew) := (Upd.refl _ _).drew
    refine wp_region_held_drew (S := Upd (fun _ => False) w5) (by kernel_rfl) HS_0.out (fun _ => ?_)
    refine wpAnyH_take (i := 0) (oi := ⟨some 18, _, _, _, _, _⟩) rfl (by kernel_rfl) (by kernel_rfl) (by kernel_rfl) (fun _ _ _ h => h) (yieldsIf_load_mid (by rfl) _ _ rfl (v1.heap.size) (0) rfl A _ (fun w h => box_range HBA5.out h) Tryd.underlying23 rfl HAz.out) HS_0.out ?_
    try simp only [Act.put, List.setIfInBounds_toArray, List.set_cons_zero, List.set_cons_succ]
    refine wpAnyH_take (i := 1) (oi := ⟨some 19, _, _, _, _, _⟩) rfl (by kernel_rfl) (by kernel_rfl) (by kernel_rfl) (fun _ _ _ h => h) (yieldsIf_load_mid (by rfl) _ _ rfl (v2.heap.size) (0) rfl B _ (fun w h => box_range HBB5.out h) Tryd.underlying23 rfl HBz.out) HS_0.out ?_
    try simp only [Act.put, List.setIfInBounds_toArray, List.set_cons_zero, List.set_cons_succ]
    refine wpAnyH_take (i := 2) (oi := ⟨some 20, _, _, _, _, _⟩) rfl (by kernel_rfl) (by kernel_rfl) (by kernel_rfl) (fun _ _ _ h => h) (yieldsIf_load_mid (by rfl) _ _ rfl (v3.heap.size) (0) rfl C _ (fun w h => box_range HBC5.out h) Tryd.underlying23 rfl HCz.out) HS_0.out ?_
    try simp only [Act.put, List.setIfInBounds_toArray, List.set_cons_zero, List.set_cons_succ]
    refine wpAnyH_take (i := 5) (oi := ⟨some 23, _, _, _, _, _⟩) rfl (by kernel_rfl) (by kernel_rfl) (by kernel_rfl) (fun _ _ _ h => h) (yieldsIf_load_mid (by rfl) _ _ rfl (b4) (0) rfl E _ (fun w h => box_range HBE5.out h) Tryd.underlying23 rfl HEz.out) HS_0.out ?_
    try simp only [Act.put, List.setIfInBounds_toArray, List.set_cons_zero, List.set_cons_succ]
    refine wpAnyH_ready (rs := [3]) (by kernel_rfl) (by simp) ?_
    refine AllReadyH.cons rfl (fun K hK => ?_) AllReadyH.nil
    rw [if_pos (by rfl)]
    refine wp_lit 3 (by decide) (by decide) _ rfl [A, B, C] (by kernel_rfl) rfl H32.out ?_
    obtain ⟨w6, hw6⟩ : ∃ x, x = w5.drew.alloc (.cells [A, B, C].flatten.toArray 23) := ⟨_, rfl⟩
    rw [← hw6]
    have hb6 : w6.heap[w5.heap.size]? = some (.cells [A, B, C].flatten.toArray 23 (0, 0)) := by rw [hw6]; exact heap_alloc_new w5.drew _
    have HS_1 : Hid (Upd (fun _ => False) w5 w6) := by show Upd _ _ _; rw [hw6]; exact HS_0.out.alloc _
    have HDs : Hid (DsL w6 (.slice (some ⟨w5.heap.size, 0, none⟩) 3 3) [xa, xb, xc] (fun k => k = w5.heap.size)) := by
      rw [EA.out, EB.out, EC.out] at hb6
      exact ds3 La.out Lb.out Lc.out (by simpa [List.append_assoc] using hb6)
    have hs6 : w6.heap.size = w5.heap.size + 1 := by rw [hw6]; simp
    clear hw6 hb6
    refine hK.out _ _ HS_1.out (fun hHeld => ?_)
    clear hK K hHeld
    try simp only [Act.put, List.setIfInBounds_toArray, List.set_cons_zero, List.set_cons_succ]
    refine wpAnyH_ready (rs := [4]) (by kernel_rfl) (by simp) ?_
    refine AllReadyH.cons rfl (fun K hK => ?_) AllReadyH.nil
    go_simp
    refine ((HRt w6 HDs.out HS_1.out).out).mono ?_
    rintro e w7 ⟨rfl, hu⟩
    have HS_2 : Hid (Upd (fun _ => False) w5 w7) := HS_1.out.trans (hu.mono (fun _ _ e => e.elim))
    refine hK.out _ _ HS_2.out (fun hHeld => ?_)
    clear hK K hHeld
    try simp only [Act.put, List.setIfInBounds_toArray, List.set_cons_zero, List.set_cons_succ]
    refine wpAnyH_take (i := 6) (oi := ⟨some 24, _, _, _, _, _⟩) (v := .bool true) rfl (by kernel_rfl) (by kernel_rfl) (by kernel_rfl) (fun _ _ _ h => h) (Or.inl ⟨by rfl, fun w hS => by have h := HEq.out w; go_simp⟩) HS_2.out ?_
    try simp only [Act.put, List.setIfInBounds_toArray, List.set_cons_zero, List.set_cons_succ]
    refine wpAnyH_take (i := 7) (oi := ⟨some 25, _, _, _, _, _⟩) (v := .bool true) rfl (by kernel_rfl) (by kernel_rfl) (by kernel_rfl) (fun _ _ _ h => h) (Or.inl ⟨by rfl, fun w hS => by go_simp⟩) HS_2.out ?_
    try simp only [Act.put, List.setIfInBounds_toArray, List.set_cons_zero, List.set_cons_succ]
    refine wpAnyH_ready (rs := [8]) (by kernel_rfl) (by simp) ?_
    refine AllReadyH.cons rfl (fun K hK => ?_) AllReadyH.nil
    go_simp
    refine (HRn.out _ HS_2.out).mono ?_
    rintro e w8 ⟨rfl, hu⟩
    have HS_3 : Hid (Upd (fun _ => False) w5 w8) := HS_2.out.trans (hu.mono (fun _ _ e => e.elim))
    refine hK.out _ _ HS_3.out (fun hHeld => ?_)
    clear hK K hHeld
    try simp only [Act.put, List.setIfInBounds_toArray, List.set_cons_zero, List.set_cons_succ]
    refine wpAnyH_ready (rs := [9]) (by kernel_rfl) (by simp) ?_
    refine AllReadyH.cons rfl (fun K hK => ?_) AllReadyH.nil
    go_simp
    refine (HNo.out _).mono ?_
    rintro e w9 ⟨rfl, hu⟩
    have HS_4 : Hid (Upd (fun _ => False) w5 w9) := HS_3.out.trans (hu.mono (fun _ _ e => e.elim))
    refine hK.out _ _ HS_4.out (fun hHeld => ?_)
    clear hK K hHeld
    try simp only [Act.put, List.setIfInBounds_toArray, List.set_cons_zero, List.set_cons_succ]
    refine wpAnyH_take (i := 10) (oi := ⟨some 28, _, _, _, _, _⟩) (v := .bool true) rfl (by kernel_rfl) (by kernel_rfl) (by kernel_rfl) (fun _ _ _ h => h) (Or.inl ⟨by rfl, fun w hS => by have h := HEn.out w; go_simp⟩) HS_4.out ?_
    try simp only [Act.put, List.setIfInBounds_toArray, List.set_cons_zero, List.set_cons_succ]
    refine wpAnyH_take (i := 11) (oi := ⟨some 29, _, _, _, _, _⟩) (v := .bool true) rfl (by kernel_rfl) (by kernel_rfl) (by kernel_rfl) (fun _ _ _ h => h) (Or.inl ⟨by rfl, fun w hS => by go_simp⟩) HS_4.out ?_
    try simp only [Act.put, List.setIfInBounds_toArray, List.set_cons_zero, List.set_cons_succ]
    refine wpAnyH_take (i := 12) (oi := ⟨some 30, _, _, _, _, _⟩) (v := .bool true) rfl (by kernel_rfl) (by kernel_rfl) (by kernel_rfl) (fun _ _ _ h => h) (Or.inl ⟨by rfl, fun w hS => by go_simp⟩) HS_4.out ?_
    try simp only [Act.put, List.setIfInBounds_toArray, List.set_cons_zero, List.set_cons_succ]
    refine wpAnyH_take (i := 13) (oi := ⟨some 31, _, _, _, _, _⟩) (v := .slice (some ⟨g5, 0, none⟩) 3 c5) rfl (by kernel_rfl) (by kernel_rfl) (by kernel_rfl) (fun _ _ _ h => h) (Or.inl ⟨by rfl, fun w hS => by go_simp⟩) HS_4.out ?_
    try simp only [Act.put, List.setIfInBounds_toArray, List.set_cons_zero, List.set_cons_succ]
    refine wpAnyH_take (i := 14) (oi := ⟨some 32, _, _, _, _, _⟩) (v := .int .i64 3) rfl (by kernel_rfl) (by kernel_rfl) (by kernel_rfl) (fun _ _ _ h => h) (Or.inl ⟨by rfl, fun w hS => by go_simp⟩) HS_4.out ?_
    try simp only [Act.put, List.setIfInBounds_toArray, List.set_cons_zero, List.set_cons_succ]
    refine wpAnyH_take (i := 15) (oi := ⟨some 33, _, _, _, _, _⟩) (v := .bool true) rfl (by kernel_rfl) (by kernel_rfl) (by kernel_rfl) (fun _ _ _ h => h) (Or.inl ⟨by rfl, fun w hS => by go_simp⟩) HS_4.out ?_
    try simp only [Act.put, List.setIfInBounds_toArray, List.set_cons_zero, List.set_cons_succ]
    refine wpAnyH_take (i := 16) (oi := ⟨some 34, _, _, _, _, _⟩) (v := .bool true) rfl (by kernel_rfl) (by kernel_rfl) (by kernel_rfl) (fun _ _ _ h => h) (Or.inl ⟨by rfl, fun w hS => by go_simp⟩) HS_4.out ?_
    try simp only [Act.put, List.setIfInBounds_toArray, List.set_cons_zero, List.set_cons_succ]
    refine wpAnyH_take (i := 17) (oi := ⟨some 35, _, _, _, _, _⟩) (v := .bool true) rfl (by kernel_rfl) (by kernel_rfl) (by kernel_rfl) (fun _ _ _ h => h) (Or.inl ⟨by rfl, fun w hS => by go_simp⟩) HS_4.out ?_
    try simp only [Act.put, List.setIfInBounds_toArray, List.set_cons_zero, List.set_cons_succ]
    refine wpAnyH_take (i := 18) (oi := ⟨some 36, _, _, _, _, _⟩) (v := .slice (some ⟨g5, 0, none⟩) 3 c5) rfl (by kernel_rfl) (by kernel_rfl) (by kernel_rfl) (fun _ _ _ h => h) (Or.inl ⟨by rfl, fun w hS => by go_simp⟩) HS_4.out ?_
    try simp only [Act.put, List.setIfInBounds_toArray, List.set_cons_zero, List.set_cons_succ]
    refine wpAnyH_take (i := 19) (oi := ⟨some 37, _, _, _, _, _⟩) (v := .pointer (some ⟨g5, 0, none⟩)) rfl (by kernel_rfl) (by kernel_rfl) (by kernel_rfl) (fun _ _ _ h => h) (Or.inl ⟨by rfl, fun w hS => by go_simp⟩) HS_4.out ?_
    try simp only [Act.put, List.setIfInBounds_toArray, List.set_cons_zero, List.set_cons_succ]
    refine wpAnyH_take (i := 20) (oi := ⟨some 38, _, _, _, _, _⟩) rfl (by kernel_rfl) (by kernel_rfl) (by kernel_rfl) (fun _ _ _ h => h) (yieldsIf_load_mid (by rfl) _ _ rfl (g5) (0) rfl [Value.int .i64 2, .int .i64 0] _ (fun w h => (HV0.out w h)) Tryd.underlying33 rfl HZs.out) HS_4.out ?_
    try simp only [Act.put, List.setIfInBounds_toArray, List.set_cons_zero, List.set_cons_succ]
    refine wpAnyH_take (i := 21) (oi := ⟨some 39, _, _, _, _, _⟩) (v := .agg #[.int .i64 2, .int .i64 0]) rfl (by kernel_rfl) (by kernel_rfl) (by kernel_rfl) (fun _ _ _ h => h) (Or.inl ⟨by rfl, fun w hS => by go_simp⟩) HS_4.out ?_
    try simp only [Act.put, List.setIfInBounds_toArray, List.set_cons_zero, List.set_cons_succ]
    refine wpAnyH_take (i := 22) (oi := ⟨some 40, _, _, _, _, _⟩) (v := .bool true) rfl (by kernel_rfl) (by kernel_rfl) (by kernel_rfl) (fun _ _ _ h => h) (Or.inl ⟨by rfl, fun w hS => by go_simp⟩) HS_4.out ?_
    try simp only [Act.put, List.setIfInBounds_toArray, List.set_cons_zero, List.set_cons_succ]
    refine wpAnyH_take (i := 23) (oi := ⟨some 41, _, _, _, _, _⟩) (v := .bool true) rfl (by kernel_rfl) (by kernel_rfl) (by kernel_rfl) (fun _ _ _ h => h) (Or.inl ⟨by rfl, fun w hS => by go_simp⟩) HS_4.out ?_
    try simp only [Act.put, List.setIfInBounds_toArray, List.set_cons_zero, List.set_cons_succ]
    refine wpAnyH_take (i := 24) (oi := ⟨some 42, _, _, _, _, _⟩) (v := .bool true) rfl (by kernel_rfl) (by kernel_rfl) (by kernel_rfl) (fun _ _ _ h => h) (Or.inl ⟨by rfl, fun w hS => by go_simp⟩) HS_4.out ?_
    try simp only [Act.put, List.setIfInBounds_toArray, List.set_cons_zero, List.set_cons_succ]
    refine wpAnyH_take (i := 25) (oi := ⟨some 43, _, _, _, _, _⟩) (v := .slice (some ⟨g5, 0, none⟩) 3 c5) rfl (by kernel_rfl) (by kernel_rfl) (by kernel_rfl) (fun _ _ _ h => h) (Or.inl ⟨by rfl, fun w hS => by go_simp⟩) HS_4.out ?_
    try simp only [Act.put, List.setIfInBounds_toArray, List.set_cons_zero, List.set_cons_succ]
    refine wpAnyH_take (i := 26) (oi := ⟨some 44, _, _, _, _, _⟩) (v := .pointer (some ⟨g5, 4, none⟩)) rfl (by kernel_rfl) (by kernel_rfl) (by kernel_rfl) (fun _ _ _ h => h) (Or.inl ⟨by rfl, fun w hS => by go_simp⟩) HS_4.out ?_
    try simp only [Act.put, List.setIfInBounds_toArray, List.set_cons_zero, List.set_cons_succ]
    refine wpAnyH_take (i := 27) (oi := ⟨some 45, _, _, _, _, _⟩) rfl (by kernel_rfl) (by kernel_rfl) (by kernel_rfl) (fun _ _ _ h => h) (yieldsIf_load_mid (by rfl) _ _ rfl (g5) (4) rfl [Value.int .i64 0, .int .i64 6] _ (fun w h => (HV2.out w h)) Tryd.underlying33 rfl HZs2.out) HS_4.out ?_
    try simp only [Act.put, List.setIfInBounds_toArray, List.set_cons_zero, List.set_cons_succ]
    refine wpAnyH_take (i := 28) (oi := ⟨some 46, _, _, _, _, _⟩) (v := .agg #[.int .i64 0, .int .i64 6]) rfl (by kernel_rfl) (by kernel_rfl) (by kernel_rfl) (fun _ _ _ h => h) (Or.inl ⟨by rfl, fun w hS => by go_simp⟩) HS_4.out ?_
    try simp only [Act.put, List.setIfInBounds_toArray, List.set_cons_zero, List.set_cons_succ]
    refine wpAnyH_take (i := 29) (oi := ⟨some 47, _, _, _, _, _⟩) (v := .bool true) rfl (by kernel_rfl) (by kernel_rfl) (by kernel_rfl) (fun _ _ _ h => h) (Or.inl ⟨by rfl, fun w hS => by go_simp⟩) HS_4.out ?_
    try simp only [Act.put, List.setIfInBounds_toArray, List.set_cons_zero, List.set_cons_succ]
    refine wpAnyH_take (i := 30) (oi := ⟨some 48, _, _, _, _, _⟩) (v := .bool true) rfl (by kernel_rfl) (by kernel_rfl) (by kernel_rfl) (fun _ _ _ h => h) (Or.inl ⟨by rfl, fun w hS => by go_simp⟩) HS_4.out ?_
    try simp only [Act.put, List.setIfInBounds_toArray, List.set_cons_zero, List.set_cons_succ]
    refine wpAnyH_take (i := 31) (oi := ⟨some 0, _, _, _, _, _⟩) (v := .bool true) rfl (by kernel_rfl) (by kernel_rfl) (by kernel_rfl) (fun _ _ _ h => h) (Or.inl ⟨by rfl, fun w hS => by go_simp⟩) HS_4.out ?_
    try simp only [Act.put, List.setIfInBounds_toArray, List.set_cons_zero, List.set_cons_succ]
    refine wpAnyH_done (by kernel_rfl) ?_ _
    go_wp2
    go_ret
    exact ⟨rfl, (HUw.out.trans (HU5.out.mono (fun _ _ e => e.elim))).trans (HS_4.out.mono (fun _ _ e => e.elim))⟩
end Go.Proofs.YtgcionimhmbgeaaDoorR.TrN
