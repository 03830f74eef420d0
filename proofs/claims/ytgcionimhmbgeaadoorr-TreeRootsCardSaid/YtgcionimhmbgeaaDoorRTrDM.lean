/-
  Slices of digests; tree.leftPart, Root.
-/
import Derived.Test.YtgcionimhmbgeaaDoorRBitsW
import Derived.Test.YtgcionimhmbgeaaDoorRChG
import Derived.Test.YtgcionimhmbgeaaDoorRSpL
import Derived.Deep.MidRow
import Derived.Deep.RegionHeld
namespace Go.Proofs.YtgcionimhmbgeaaDoorR.TrD
open Go.RowKit Sha TurnW Mem RowW SpreadW MixW HashM CopyW WriteW WriteN EndW SumH NewW EqW CutW OfW LeafW TabK BitsW SpL RefOf TabR
set_option linter.unusedVariables false
set_option linter.unusedSimpArgs false

/-- v is a slice of digests; what is read of it lies in blocks of O -/
def DsL (w : World) (v : Value) (ds : List (List UInt8)) (O : Nat → Prop) : Prop :=
  ∃ ao cap, v = .slice ao ds.length cap ∧ ds.length ≤ cap ∧ cap ≤ maxLen ∧ (∀ d ∈ ds, d.length = 32) ∧ (ao = none → ds.length = 0) ∧
    ∀ a, ao = some a → a.spot = none ∧ (0 < ds.length → O a.block) ∧ ∀ i, i < ds.length → w.rangeAt a.block (a.off + i * 32) ((ds.getD i []).map u8)
theorem DsL.upd {S O : Nat → Prop} {w w' : World} {v : Value} {ds : List (List UInt8)} (h : DsL w v ds O) (hu : Upd S w w') (hd : ∀ k, O k → ¬ S k) : DsL w' v ds O := by
  obtain ⟨ao, cap, rfl, h1, h2, h3, h4, h5⟩ := h
  refine ⟨ao, cap, rfl, h1, h2, h3, h4, fun a ha => ⟨(h5 a ha).1, (h5 a ha).2.1, fun i hi => ?_⟩⟩
  exact fun j v hv => hu.cell ((h5 a ha).2.2 i hi j v hv) (hd _ ((h5 a ha).2.1 (by omega)))
theorem getD32 {ds : List (List UInt8)} (h : ∀ d ∈ ds, d.length = 32) (i : Nat) (hi : i < ds.length) : (ds.getD i []).length = 32 := by
  rw [List.getD_eq_getElem?_getD, List.getElem?_eq_getElem hi]
  exact h _ (List.getElem_mem hi)
theorem getD_drop' (ds : List (List UInt8)) (k i : Nat) : (ds.drop k).getD i [] = ds.getD (k + i) [] := by
  rw [List.getD_eq_getElem?_getD, List.getD_eq_getElem?_getD, List.getElem?_drop]
theorem getD_take' (ds : List (List UInt8)) (k i : Nat) (h : i < k) : (ds.take k).getD i [] = ds.getD i [] := by
  rw [List.getD_eq_getElem?_getD, List.getD_eq_getElem?_getD, List.getElem?_take_of_lt h]
theorem DsL.take {O : Nat → Prop} {w : World} {ao : Option Addr} {n cap k : Nat} {ds : List (List UInt8)} (h : DsL w (.slice ao n cap) ds O) (hk : k ≤ n) : DsL w (.slice ao k cap) (ds.take k) O := by
  obtain ⟨ao', cap', he, h1, h2, h3, h4, h5⟩ := h
  injection he with e1 e2 e3
  subst e1 e2 e3
  have hl : (ds.take k).length = k := by rw [List.length_take]; omega
  refine ⟨ao, cap, by rw [hl], by omega, h2, fun d hd => h3 d (List.mem_of_mem_take hd), fun e => by have := h4 e; omega, fun a ha => ⟨(h5 a ha).1, fun hp => (h5 a ha).2.1 (by omega), fun i hi => ?_⟩⟩
  rw [hl] at hi
  rw [getD_take' ds k i hi]
  exact (h5 a ha).2.2 i (by omega)
theorem DsL.drop {O : Nat → Prop} {w : World} {b off n cap k : Nat} {ds : List (List UInt8)} (h : DsL w (.slice (some ⟨b, off, none⟩) n cap) ds O) (hk : k < n) : DsL w (.slice (some ⟨b, off + k * 32, none⟩) (n - k) (cap - k)) (ds.drop k) O := by
  obtain ⟨ao', cap', he, h1, h2, h3, h4, h5⟩ := h
  injection he with e1 e2 e3
  subst e1 e2 e3
  have hl : (ds.drop k).length = ds.length - k := by rw [List.length_drop]
  refine ⟨_, _, by rw [hl], by omega, by omega, fun d hd => h3 d (List.mem_of_mem_drop hd), by simp, fun a ha => ?_⟩
  injection ha with ha
  subst ha
  refine ⟨rfl, fun hp => (h5 _ rfl).2.1 (by omega), fun i hi => ?_⟩
  rw [getD_drop' ds k i]
  have := (h5 _ rfl).2.2 (k + i) (by omega)
  rw [show off + k * 32 + i * 32 = off + (k + i) * 32 by omega]
  exact this
/-- the sum of two -/
def Nd (width : Int) (x y : List UInt8) : List UInt8 := ofM width 1 [x, y]
def rootM (width : Int) (ds : List (List UInt8)) : List UInt8 := mth (Nd width) (notM width) ds
def foldM (width : Int) (ds : List (List UInt8)) : List UInt8 := fold (Nd width) (notM width) ds
theorem nd_len (width : Int) (x y : List UInt8) : (Nd width x y).length = 32 := of_len _ _ _
theorem mthF_len (width : Int) (f : Nat) : ∀ (ds : List (List UInt8)), (∀ d ∈ ds, d.length = 32) → (mthF (Nd width) (notM width) f ds).length = 32 := by
  induction f with
  | zero => intro ds _; exact not_len width
  | succ f ih =>
    intro ds h
    unfold mthF
    by_cases h0 : ds.length = 0
    · rw [if_pos h0]; exact not_len width
    · rw [if_neg h0]
      by_cases h1 : ds.length = 1
      · rw [if_pos h1]
        cases ds with
        | nil => exact not_len width
        | cons d ds => exact h d (by simp)
      · rw [if_neg h1]; exact nd_len _ _ _
theorem root_len (width : Int) (ds : List (List UInt8)) (h : ∀ d ∈ ds, d.length = 32) : (rootM width ds).length = 32 := mthF_len width _ ds h
theorem fold_len (width : Int) : ∀ (ds : List (List UInt8)), (∀ d ∈ ds, d.length = 32) → (foldM width ds).length = 32
  | [], _ => not_len width
  | [d], h => h d (by simp)
  | d :: e :: r, _ => nd_len _ _ _
/-- tree.leftPart -/
theorem left_part (n : Nat) (h : 2 ≤ n) (hn : n ≤ 140737488355328) (w : World) :
    Calls Tryd.prog 44 #[.int .i64 n] w fun e w' => e = .returned (.int .i64 (lft n)) ∧ w = w' := by
  have c := Lib.hid (flog_any (n - 1) (by omega) (by omega) w)
  rw [Int.natCast_sub (by omega)] at c
  obtain ⟨a, b, _⟩ := lft_spec n h (by omega)
  obtain ⟨k, hk⟩ : ∃ k, k = lft n := ⟨_, rfl⟩
  have hL : (2 : Int) ^ (flog (n - 1)) = (k : Int) := by rw [hk]; unfold lft; rw [Int.natCast_pow]; rfl
  have hLb : flog (n - 1) ≤ 62 := by
    apply Decidable.byContradiction
    intro hc
    have h1 := (flog_spec (n - 1) (by omega) (by omega)).1
    have h2 : 2 ^ 63 ≤ 2 ^ flog (n - 1) := Nat.pow_le_pow_right (by decide) (by omega)
    omega
  obtain ⟨L, hLe⟩ : ∃ L, L = flog (n - 1) := ⟨_, rfl⟩
  rw [← hLe] at hL c hLb
  rw [← hk] at a b ⊢
  clear hk hLe
  go_enter Tryd.func44, Tryd.ntmps44
  go_wp2_with (go_at_call 42; refine c.out.mono ?_; rintro e w' ⟨rfl, rfl⟩)
  go_ret
  exact ⟨rfl, rfl⟩
/-- Y are the cells of l -/
def Row2 (Y : Array Value) (l : List UInt8) : Prop := Y = (l.map u8).toArray
def AtD (Y : List UInt8) (w : World) (e : Ending) (w' : World) : Prop := e = .returned (.agg (Y.map u8).toArray) ∧ Upd (fun _ => False) w w'

set_option maxHeartbeats 4000000 in
set_option maxRecDepth 100000 in
theorem root_any (width : Int) (n : Nat) : ∀ (ao : Option Addr) (cap : Nat) (ds : List (List UInt8)) (O : Nat → Prop) (w : World), n = ds.length → n ≤ 140737488355328 → DsL w (.slice ao n cap) ds O → (∀ k, O k → k < w.heap.size) → Kw w → 2 < w.heap.size →
    Calls Tryd.prog 14 #[.int .i64 width, .slice ao n cap] w (AtD (rootM width ds) w) := by
  induction n using Nat.strongRecOn with
  | _ n ih =>
    intro ao cap ds O w hn hnm hs hO hk hg
    obtain ⟨Y, hY⟩ : ∃ Y, Y = ((rootM width ds).map u8).toArray := ⟨_, rfl⟩
    obtain ⟨ao', cap', he, h1, h2, h3, h4, h5⟩ := id hs
    injection he with e1 e2 e3
    subst e1 e3
    have hl32 := root_len width ds h3
    have HY1 : Hid (Y.all (·.oneCell') = true) := by show _ = _; rw [hY]; simpa using one_of (rootM width ds)
    have HYs : Hid ((Tryd.prog.info? 23).map (·.size) = some Y.size) := by show _ = _; rw [size32, hY]; simp [hl32]
    have HYl : Hid (AD.size = Y.size) := by show _ = _; rw [hY]; simp [hl32, AD]
    have HYo : Hid (Row2 Y (rootM width ds)) := hY
    obtain ⟨w0, hw0⟩ : ∃ x, x = w.alloc (.cells AD 23) := ⟨_, rfl⟩
    have hu0 : Upd (fun _ => False) w w0 := by rw [hw0]; exact (Upd.refl _ w).alloc _
    have hr0 : w0.heap[w.heap.size]? = some (.cells AD 23 (0, 0)) := by rw [hw0]; exact heap_alloc_new w _
    have hs0 : w0.heap.size = w.heap.size + 1 := by rw [hw0]; simp
    have HU0 := Lib.hid hu0
    have HR0 := Lib.hid hr0
    have Hs := Lib.hid (hs.upd hu0 (fun _ _ => id))
    have HO := Lib.hid hO
    have HK := Lib.hid (hk.upd hu0 id)
    have hg0 : 2 < w0.heap.size := by omega
    have hz := zeroD
    have hncap : n ≤ cap := by omega
    have hcm : cap ≤ 9223372036854775807 := by unfold maxLen at h2; omega
    have Hn := Lib.hid hn
    have H3 := Lib.hid h3
    clear hY hl32 hu0 hr0 hs hO hk e2 h1 h2 h3 hn
    by_cases hn0 : n = 0
    · subst hn0
      have HN : Hid (Calls Tryd.prog 43 #[.int .i64 width] w0 fun e w'' => e = .returned (.agg Y) ∧ Upd (fun _ => False) w0 w'') := by
        have e1 : rootM width ds = notM width := by
          have h := Hn.out
          rw [List.eq_nil_of_length_eq_zero h.symm]
          rfl
        show Calls _ _ _ _ _
        rw [HYo.out, e1]
        exact nothing_any width w0 HK.out hg0
      clear h4 h5 ih
      go_enter Tryd.func14, Tryd.ntmps14
      go_wp2_with fail
      rw [← hw0]
      clear hw0
      refine HN.out.mono ?_
      rintro e w3 ⟨rfl, hu3⟩
      have HU3 := Lib.hid hu3
      have HR3 : Hid (w3.heap[w.heap.size]? = some (.cells AD 23 (0, 0))) := (hu3.block _ (lt_of_block HR0.out) id).trans HR0.out
      clear hu3 HN
      go_wp2_with ((with_reducible refine wpList_store_new (o := ⟨none, .store 23 (.tmp 4) (.tmp 27), _, _, _, _⟩) ?_ _ (.tmp 4) (.tmp 27) ?_ w.heap.size Y ?_ ?_ 23 AD HR3.out HYs.out HYl.out HY1.out ?_); rfl; rfl; rfl; rfl; intro w4 Hg_w4 Hu_w4)
      refine bodyPost_ret (results_cell_row rfl _ _ w.heap.size 23 Y (0, 0) _ rfl Hg_w4.out Tryd.underlying23 rfl HYs.out) rfl ?_
      exact ⟨by rw [← HYo.out], (HU0.out.trans (HU3.out.mono (fun _ _ e => e.elim))).trans (Hu_w4.out.mono (fun k hk e => .inr (by omega)))⟩
    · by_cases hn1 : n = 1
      · subst hn1
        obtain ⟨d, hd⟩ : ∃ d, ds = [d] := by
          have h := Hn.out
          match ds, h with
          | [d], _ => exact ⟨d, rfl⟩
        have e1 : rootM width ds = d := by rw [hd]; rfl
        obtain ⟨⟨b, off, sp⟩, rfl⟩ : ∃ a, ao = some a := by
          cases ao with
          | some a => exact ⟨a, rfl⟩
          | none => have := h4 rfl; have := Hn.out; omega
        obtain ⟨hsp, _, _⟩ := h5 _ rfl
        obtain rfl : sp = none := hsp
        obtain ⟨_, _, he, _, _, _, _, h6⟩ := Hs.out
        injection he with e2 e3 e4
        subst e2 e4
        have h7 := (h6 _ rfl).2.2 0 (by have := Hn.out; omega)
        have HRa : Hid (∀ (j : Nat) v, Y.toList[j]? = some v → w0.cell? ⟨b, off + j, none⟩ = some v) := fun j v hv => by
          rw [HYo.out, e1, List.toList_toArray] at hv
          have h8 := h7 j v (by rw [hd]; exact hv)
          simpa using h8
        have HYs2 : Hid ((Tryd.prog.info? 23).map (·.size) = some Y.toList.length) := by show _ = _; rw [Array.length_toList]; exact HYs.out
        clear h4 h5 h6 h7 ih e1 hd e3
        go_enter Tryd.func14, Tryd.ntmps14
        go_wp2_with (first
          | ((with_reducible refine wpList_load_part (o := ⟨some 32, _, _, _, _, _⟩) ?_ _ (.tmp 31) ?_ b off ?_ Y.toList _ ?_ Tryd.underlying23 ?_ HYs2.out ?_); rfl; rfl; rfl; (rw [← hw0]; exact HRa.out); rfl; rw [Array.toArray_toList])
          | ((with_reducible refine wpList_store_new (o := ⟨none, .store 23 (.tmp 4) (.tmp 32), _, _, _, _⟩) ?_ _ (.tmp 4) (.tmp 32) ?_ w.heap.size Y ?_ ?_ 23 AD (heap_alloc_new _ _) HYs.out HYl.out HY1.out ?_); rfl; rfl; rfl; rfl; intro w4 Hg_w4 Hu_w4))
        refine bodyPost_ret (results_cell_row rfl _ _ w.heap.size 23 Y (0, 0) _ rfl Hg_w4.out Tryd.underlying23 rfl HYs.out) rfl ?_
        exact ⟨by rw [← HYo.out], ((Upd.refl (fun _ => False) w).alloc _).trans (Hu_w4.out.mono (fun k hk e => .inr (by omega)))⟩
      · obtain ⟨ka, kb, kc⟩ := lft_spec n (by omega) (by omega)
        have HP := Lib.hid (left_part n (by omega) hnm w0)
        obtain ⟨k, hk⟩ : ∃ k, k = lft n := ⟨_, rfl⟩
        rw [← hk] at ka kb kc HP
        have Hk := Lib.hid hk
        obtain ⟨⟨b, off, sp⟩, rfl⟩ : ∃ a, ao = some a := by
          cases ao with
          | some a => exact ⟨a, rfl⟩
          | none => have := h4 rfl; have := Hn.out; omega
        obtain ⟨hsp, _, _⟩ := h5 _ rfl
        obtain rfl : sp = none := hsp
        have d0 : ((n : Int) == 0) = false := by simp; omega
        have d1 : ((n : Int) == 1) = false := by simp; omega
        have d2 : (k : Int) ≤ (n : Int) := by omega
        have d3 : (k : Int) < (cap : Int) := by omega
        have d4 : (n : Int) ≤ (cap : Int) := by omega
        have d5 : ¬ cap < k := by omega
        have d6 : ¬ cap = k := by omega
        have d7 : ¬ n < k := by omega
        obtain ⟨X, hX⟩ : ∃ X, X = ((rootM width (ds.take k)).map u8).toArray := ⟨_, rfl⟩
        obtain ⟨Z, hZ⟩ : ∃ Z, Z = ((rootM width (ds.drop k)).map u8).toArray := ⟨_, rfl⟩
        have HI1 : Hid (∀ w', Upd (fun k => k = w.heap.size) w0 w' → Calls Tryd.prog 14 #[.int .i64 width, .slice (some ⟨b, off, none⟩) k cap] w' fun e w'' => e = .returned (.agg X) ∧ Upd (fun _ => False) w' w'') := fun w' h => by
          rw [hX]
          exact ih k kb (some ⟨b, off, none⟩) cap (ds.take k) O w' (by rw [List.length_take]; have := Hn.out; omega) (by omega) (DsL.take (Hs.out.upd h (fun i hi e => by have := HO.out i hi; omega)) (by omega)) (fun i hi => by have := HO.out i hi; have := h.size; omega) (HK.out.upd h (by omega)) (by have := h.size; omega)
        have HI2 : Hid (∀ w', Upd (fun k => k = w.heap.size) w0 w' → Calls Tryd.prog 14 #[.int .i64 width, .slice (some ⟨b, off + k * 32, none⟩) (n - k) (cap - k)] w' fun e w'' => e = .returned (.agg Z) ∧ Upd (fun _ => False) w' w'') := fun w' h => by
          rw [hZ]
          exact ih (n - k) (by omega) (some ⟨b, off + k * 32, none⟩) (cap - k) (ds.drop k) O w' (by rw [List.length_drop]; have := Hn.out; omega) (by omega) (DsL.drop (Hs.out.upd h (fun i hi e => by have := HO.out i hi; omega)) kb) (fun i hi => by have := HO.out i hi; have := h.size; omega) (HK.out.upd h (by omega)) (by have := h.size; omega)
        have HI3 : Hid (∀ w', Upd (fun k => k = w.heap.size) w0 w' → Calls Tryd.prog 45 #[.int .i64 width, .agg X, .agg Z] w' fun e w'' => e = .returned (.agg Y) ∧ Upd (fun _ => False) w' w'') := fun w' h => by
          have e1 : rootM width ds = Nd width (rootM width (ds.take k)) (rootM width (ds.drop k)) := by
            have h2 := mth_two (Nd width) (notM width) ds (by have := Hn.out; omega) (by have := Hn.out; omega)
            rw [← Hn.out, ← Hk.out] at h2
            exact h2
          rw [HYo.out, e1, hX, hZ]
          exact TabN.node_any width _ _ (root_len width _ (fun d hd => H3.out d (List.mem_of_mem_take hd))) (root_len width _ (fun d hd => H3.out d (List.mem_of_mem_drop hd))) w' (HK.out.upd h (by omega)) (by have := h.size; omega)
        clear h4 h5 hk hX hZ ih
        go_enter Tryd.func14, Tryd.ntmps14
        go_wp2_with fail
        rw [← hw0]
        clear hw0
        refine HP.out.mono ?_
        rintro e w' ⟨rfl, rfl⟩
        clear HP
        go_wp2_with fail
        have HS_0 : Hid (Upd (fun k => k = w.heap.size) w0 w0.drew) := (Upd.refl _ _).drew
        refine wp_region_held_drew (S := Upd (fun k => k = w.heap.size) w0) (by kernel_rfl) HS_0.out (fun _ => ?_)
        refine wpAnyH_take (i := 0) (oi := ⟨some 12, _, _, _, _, _⟩) (v := .int .i64 width) rfl (by kernel_rfl) (by kernel_rfl) (by kernel_rfl) (fun _ _ _ h => h) (Or.inl ⟨by rfl, fun w hS => by go_simp⟩) HS_0.out ?_
        try simp only [Act.put, List.setIfInBounds_toArray, List.set_cons_zero, List.set_cons_succ]
        refine wpAnyH_take (i := 1) (oi := ⟨some 13, _, _, _, _, _⟩) (v := .int .i64 width) rfl (by kernel_rfl) (by kernel_rfl) (by kernel_rfl) (fun _ _ _ h => h) (Or.inl ⟨by rfl, fun w hS => by go_simp⟩) HS_0.out ?_
        try simp only [Act.put, List.setIfInBounds_toArray, List.set_cons_zero, List.set_cons_succ]
        refine wpAnyH_take (i := 2) (oi := ⟨some 14, _, _, _, _, _⟩) (v := .slice (some ⟨b, off, none⟩) n cap) rfl (by kernel_rfl) (by kernel_rfl) (by kernel_rfl) (fun _ _ _ h => h) (Or.inl ⟨by rfl, fun w hS => by go_simp⟩) HS_0.out ?_
        try simp only [Act.put, List.setIfInBounds_toArray, List.set_cons_zero, List.set_cons_succ]
        refine wpAnyH_take (i := 3) (oi := ⟨some 15, _, _, _, _, _⟩) (v := .int .i64 (k : Int)) rfl (by kernel_rfl) (by kernel_rfl) (by kernel_rfl) (fun _ _ _ h => h) (Or.inl ⟨by rfl, fun w hS => by go_simp⟩) HS_0.out ?_
        try simp only [Act.put, List.setIfInBounds_toArray, List.set_cons_zero, List.set_cons_succ]
        refine wpAnyH_take (i := 4) (oi := ⟨some 16, _, _, _, _, _⟩) (v := .slice (some ⟨b, off, none⟩) k cap) rfl (by kernel_rfl) (by kernel_rfl) (by kernel_rfl) (fun _ _ _ h => h) (Or.inl ⟨by rfl, fun w hS => by go_simp⟩) HS_0.out ?_
        try simp only [Act.put, List.setIfInBounds_toArray, List.set_cons_zero, List.set_cons_succ]
        refine wpAnyH_take (i := 6) (oi := ⟨some 18, _, _, _, _, _⟩) (v := .int .i64 width) rfl (by kernel_rfl) (by kernel_rfl) (by kernel_rfl) (fun _ _ _ h => h) (Or.inl ⟨by rfl, fun w hS => by go_simp⟩) HS_0.out ?_
        try simp only [Act.put, List.setIfInBounds_toArray, List.set_cons_zero, List.set_cons_succ]
        refine wpAnyH_take (i := 7) (oi := ⟨some 19, _, _, _, _, _⟩) (v := .slice (some ⟨b, off, none⟩) n cap) rfl (by kernel_rfl) (by kernel_rfl) (by kernel_rfl) (fun _ _ _ h => h) (Or.inl ⟨by rfl, fun w hS => by go_simp⟩) HS_0.out ?_
        try simp only [Act.put, List.setIfInBounds_toArray, List.set_cons_zero, List.set_cons_succ]
        refine wpAnyH_take (i := 8) (oi := ⟨some 20, _, _, _, _, _⟩) (v := .int .i64 (k : Int)) rfl (by kernel_rfl) (by kernel_rfl) (by kernel_rfl) (fun _ _ _ h => h) (Or.inl ⟨by rfl, fun w hS => by go_simp⟩) HS_0.out ?_
        try simp only [Act.put, List.setIfInBounds_toArray, List.set_cons_zero, List.set_cons_succ]
        refine wpAnyH_take (i := 9) (oi := ⟨some 21, _, _, _, _, _⟩) (v := .slice (some ⟨b, off + k * 32, none⟩) (n - k) (cap - k)) rfl (by kernel_rfl) (by kernel_rfl) (by kernel_rfl) (fun _ _ _ h => h) (Or.inl ⟨by rfl, fun w hS => by go_simp⟩) HS_0.out ?_
        try simp only [Act.put, List.setIfInBounds_toArray, List.set_cons_zero, List.set_cons_succ]
        refine wpAnyH_ready (rs := [5]) (by kernel_rfl) (by simp) ?_
        refine AllReadyH.cons rfl (fun K hK => ?_) AllReadyH.nil
        go_simp
        refine (HI1.out _ HS_0.out).mono ?_
        rintro e w1 ⟨rfl, hu⟩
        have HS_1 : Hid (Upd (fun k => k = w.heap.size) w0 w1) := HS_0.out.trans (hu.mono (fun _ _ e => e.elim))
        have HR1 : Hid (w1.heap[w.heap.size]? = some (.cells AD 23 (0, 0))) := (hu.block _ (lt_of_block HR0.out) id).trans HR0.out
        refine hK.out _ _ HS_1.out (fun hHeld => ?_)
        clear hK K hHeld
        try simp only [Act.put, List.setIfInBounds_toArray, List.set_cons_zero, List.set_cons_succ]
        refine wpAnyH_ready (rs := [10]) (by kernel_rfl) (by simp) ?_
        refine AllReadyH.cons rfl (fun K hK => ?_) AllReadyH.nil
        go_simp
        refine (HI2.out _ HS_1.out).mono ?_
        rintro e w2 ⟨rfl, hu⟩
        have HS_2 : Hid (Upd (fun k => k = w.heap.size) w0 w2) := HS_1.out.trans (hu.mono (fun _ _ e => e.elim))
        have HR2 : Hid (w2.heap[w.heap.size]? = some (.cells AD 23 (0, 0))) := (hu.block _ (lt_of_block HR1.out) id).trans HR1.out
        refine hK.out _ _ HS_2.out (fun hHeld => ?_)
        clear hK K hHeld
        try simp only [Act.put, List.setIfInBounds_toArray, List.set_cons_zero, List.set_cons_succ]
        refine wpAnyH_ready (rs := [11]) (by kernel_rfl) (by simp) ?_
        refine AllReadyH.cons rfl (fun K hK => ?_) AllReadyH.nil
        go_simp
        refine (HI3.out _ HS_2.out).mono ?_
        rintro e w3 ⟨rfl, hu⟩
        have HS_3 : Hid (Upd (fun k => k = w.heap.size) w0 w3) := HS_2.out.trans (hu.mono (fun _ _ e => e.elim))
        have HR3 : Hid (w3.heap[w.heap.size]? = some (.cells AD 23 (0, 0))) := (hu.block _ (lt_of_block HR2.out) id).trans HR2.out
        refine hK.out _ _ HS_3.out (fun hHeld => ?_)
        clear hK K hHeld
        try simp only [Act.put, List.setIfInBounds_toArray, List.set_cons_zero, List.set_cons_succ]
        refine wpAnyH_ready (rs := [12]) (by kernel_rfl) (by simp) ?_
        refine AllReadyH.cons rfl (fun K hK => ?_) AllReadyH.nil
        rw [if_pos (by rfl)]
        refine wp_store_row 23 (.tmp 4) (.tmp 23) rfl w.heap.size Y rfl (by first | rfl | (rw [HY.out]; rfl)) 23 AD HR3.out HYs.out HYl.out HY1.out ?_
        have Hg_w4 := Lib.hid (setRow_heap _ _ AD Y _ _ HR3.out)
        have Hu_w4 : Hid (Upd (fun k => k = w.heap.size) w3 (w3.setRow w.heap.size Y)) := Upd.setRow (Upd.refl _ _) _ Y (.inl rfl)
        generalize w3.setRow w.heap.size Y = w4 at Hg_w4 Hu_w4 ⊢
        have HS_4 : Hid (Upd (fun k => k = w.heap.size) w0 w4) := HS_3.out.trans (Hu_w4.out.mono (fun k _ e => .inl e))
        refine hK.out _ _ HS_4.out (fun hHeld => ?_)
        clear hK K hHeld
        try simp only [Act.put, List.setIfInBounds_toArray, List.set_cons_zero, List.set_cons_succ]
        refine wpAnyH_done (by kernel_rfl) ?_ _
        go_wp2
        refine bodyPost_ret (results_cell_row rfl _ _ w.heap.size 23 Y (0, 0) _ rfl Hg_w4.out Tryd.underlying23 rfl HYs.out) rfl ?_
        exact ⟨by rw [← HYo.out], HU0.out.trans (HS_4.out.mono (fun k hk e => .inr (by omega)))⟩
end Go.Proofs.YtgcionimhmbgeaaDoorR.TrD
