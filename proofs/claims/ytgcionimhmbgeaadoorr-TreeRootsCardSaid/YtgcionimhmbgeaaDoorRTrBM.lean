/-
  docketbook.Same of digests; few, stranger.
-/
import Derived.Test.YtgcionimhmbgeaaDoorRTrFM
import Derived.Test.YtgcionimhmbgeaaDoorRIntsW
namespace Go.Proofs.YtgcionimhmbgeaaDoorR.TrB
open Go.RowKit Sha TurnW Mem RowW SpreadW MixW HashM CopyW WriteW WriteN EndW SumH NewW EqW CutW OfW LeafW TabK BitsW SpL RefOf TabR TrD TrF IntsW
set_option linter.unusedVariables false
set_option linter.unusedSimpArgs false

def BoolAt (p : Prop) (w : World) (e : Ending) (w' : World) : Prop := ∃ b : Bool, e = .returned (.bool b) ∧ (b = true ↔ p) ∧ Upd (fun _ => False) w w'
/-- so far they are alike -/
def LSa (ds es : List (List UInt8)) (w0 : World) (i : Value) (wr : World) : Prop :=
  ∃ k : Nat, k ≤ ds.length ∧ i = .int .i64 k ∧ (∀ j, j < k → ds.getD j [] = es.getD j []) ∧ Upd (fun _ => False) w0 wr
theorem eq_of_getD {ds es : List (List UInt8)} (hl : ds.length = es.length) (h : ∀ j, j < ds.length → ds.getD j [] = es.getD j []) : ds = es := by
  apply List.ext_getElem hl
  intro i h1 h2
  have := h i h1
  rw [List.getD_eq_getElem?_getD, List.getD_eq_getElem?_getD, List.getElem?_eq_getElem h1, List.getElem?_eq_getElem h2] at this
  exact this
set_option maxHeartbeats 4000000 in
set_option maxRecDepth 100000 in
theorem same_ds (aa ab : Option Addr) (n m ca cb : Nat) (ds es : List (List UInt8)) (Oa Ob : Nat → Prop) (w : World) (ha : DsL w (.slice aa n ca) ds Oa) (hb : DsL w (.slice ab m cb) es Ob) (hr : n ≤ 140737488355328) :
    Calls Tryd.prog 29 #[.slice aa n ca, .slice ab m cb] w (BoolAt (ds = es) w) := by
  have hn : n = ds.length := by obtain ⟨_, _, h, _⟩ := ha; injection h
  have hm : m = es.length := by obtain ⟨_, _, h, _⟩ := hb; injection h
  by_cases hnm : n = m
  · subst hnm
    have Hn := Lib.hid hn
    have Hm := Lib.hid hm
    have Ha := Lib.hid ha
    have Hb := Lib.hid hb
    have hnn : ((n : Int) != (n : Int)) = false := by simp
    have h32a : ∀ d ∈ ds, d.length = 32 := by obtain ⟨_, _, _, _, _, h3, _⟩ := ha; exact h3
    have h32b : ∀ d ∈ es, d.length = 32 := by obtain ⟨_, _, _, _, _, h3, _⟩ := hb; exact h3
    have H32a := Lib.hid h32a
    have H32b := Lib.hid h32b
    clear ha hb hn hm h32a h32b
    go_enter Tryd.func29, Tryd.ntmps29
    go_wp2
    go_loopw [5] (fun i wr => LSa ds es w i wr) (fun i _ => (n - (intOf i).toNat))
    case atStart => exact ⟨0, Nat.zero_le _, rfl, fun j hj => absurd hj (Nat.not_lt_zero _), Upd.refl _ _⟩
    case round =>
      obtain ⟨k, hk, rfl, hal, hu⟩ := hrel
      obtain ⟨wq, rfl⟩ : ∃ x : World, x = wr := ⟨_, rfl⟩
      have HU := Lib.hid hu
      have Hal := Lib.hid hal
      have hkn : k ≤ n := by rw [Hn.out]; exact hk
      clear hu hal hk
      by_cases hlt : k < n
      · have hltI : (k : Int) < (n : Int) := by omega
        obtain ⟨⟨pa, oa, sa⟩, rfl⟩ : ∃ ad, aa = some ad := by
          cases aa with
          | some ad => exact ⟨ad, rfl⟩
          | none =>
            obtain ⟨_, _, he, _, _, _, h4, _⟩ := Ha.out
            injection he with e1
            have := h4 e1.symm
            have := Hn.out
            omega
        obtain ⟨⟨pb, ob, sb⟩, rfl⟩ : ∃ ad, ab = some ad := by
          cases ab with
          | some ad => exact ⟨ad, rfl⟩
          | none =>
            obtain ⟨_, _, he, _, _, _, h4, _⟩ := Hb.out
            injection he with e1
            have := h4 e1.symm
            have := Hm.out
            omega
        obtain rfl : sa = none := by
          obtain ⟨_, _, he, _, _, _, _, h5⟩ := Ha.out
          injection he with e1
          exact (h5 _ e1.symm).1
        obtain rfl : sb = none := by
          obtain ⟨_, _, he, _, _, _, _, h5⟩ := Hb.out
          injection he with e1
          exact (h5 _ e1.symm).1
        obtain ⟨x, hx⟩ : ∃ x, x = ds.getD k [] := ⟨_, rfl⟩
        obtain ⟨y, hy⟩ : ∃ y, y = es.getD k [] := ⟨_, rfl⟩
        have lx : x.length = 32 := by rw [hx]; exact getD32 H32a.out k (by rw [← Hn.out]; exact hlt)
        have ly : y.length = 32 := by rw [hy]; exact getD32 H32b.out k (by rw [← Hm.out]; exact hlt)
        obtain ⟨X, hX⟩ : ∃ X, X = x.map u8 := ⟨_, rfl⟩
        obtain ⟨Z, hZ⟩ : ∃ X, X = y.map u8 := ⟨_, rfl⟩
        have HXz : Hid ((Tryd.prog.info? 23).map (·.size) = some X.length) := by show _ = _; rw [size32, hX]; simp [lx]
        have HZz : Hid ((Tryd.prog.info? 23).map (·.size) = some Z.length) := by show _ = _; rw [size32, hZ]; simp [ly]
        have HRa : Hid (∀ w', Upd (fun _ => False) wq w' → ∀ (j : Nat) v, X[j]? = some v → w'.cell? ⟨pa, oa + k * 32 + j, none⟩ = some v) := fun w' h j v hv =>
          h.cell (at_range (Ha.out.upd HU.out (fun _ _ => id)) k hlt j v (by rw [← hx, ← hX]; exact hv)) id
        have HRb : Hid (∀ w', Upd (fun _ => False) wq w' → ∀ (j : Nat) v, Z[j]? = some v → w'.cell? ⟨pb, ob + k * 32 + j, none⟩ = some v) := fun w' h j v hv =>
          h.cell (at_range (Hb.out.upd HU.out (fun _ _ => id)) k hlt j v (by rw [← hy, ← hZ]; exact hv)) id
        by_cases hxy : x = y
        · have HQ : Hid (∀ w, (binOp .neq 23 (.agg X.toArray) (.agg Z.toArray)).run Tryd.prog w = .ok (.bool false) w) := fun w => by rw [hX, hZ, neq_digest x y lx ly, hxy]; simp
          have HN : Hid (∀ j, j < k + 1 → ds.getD j [] = es.getD j []) := fun j hj => by
            rcases Nat.lt_succ_iff_lt_or_eq.1 hj with h | rfl
            · exact Hal.out j h
            · rw [← hx, ← hy, hxy]
          clear hx hy lx ly hX hZ hxy
          go_wp2_with fail
          have HS_0 : Hid (Upd (fun _ => False) wq wq.drew) := (Upd.refl _ _).drew
          refine wp_region_held_drew (S := Upd (fun _ => False) wq) (by kernel_rfl) HS_0.out (fun _ => ?_)
          refine wpAnyH_take (i := 0) (oi := ⟨some 17, _, _, _, _, _⟩) (v := .slice (some ⟨pa, oa, none⟩) n ca) rfl (by kernel_rfl) (by kernel_rfl) (by kernel_rfl) (fun _ _ _ h => h) (Or.inl ⟨by rfl, fun w hS => by go_simp⟩) HS_0.out ?_
          try simp only [Act.put, List.setIfInBounds_toArray, List.set_cons_zero, List.set_cons_succ]
          refine wpAnyH_take (i := 1) (oi := ⟨some 18, _, _, _, _, _⟩) (v := .int .i64 (k : Int)) rfl (by kernel_rfl) (by kernel_rfl) (by kernel_rfl) (fun _ _ _ h => h) (Or.inl ⟨by rfl, fun w hS => by go_simp⟩) HS_0.out ?_
          try simp only [Act.put, List.setIfInBounds_toArray, List.set_cons_zero, List.set_cons_succ]
          refine wpAnyH_take (i := 2) (oi := ⟨some 19, _, _, _, _, _⟩) (v := .pointer (some ⟨pa, oa + k * 32, none⟩)) rfl (by kernel_rfl) (by kernel_rfl) (by kernel_rfl) (fun _ _ _ h => h) (Or.inl ⟨by rfl, fun w hS => by go_simp⟩) HS_0.out ?_
          try simp only [Act.put, List.setIfInBounds_toArray, List.set_cons_zero, List.set_cons_succ]
          refine wpAnyH_take (i := 3) (oi := ⟨some 20, _, _, _, _, _⟩) rfl (by kernel_rfl) (by kernel_rfl) (by kernel_rfl) (fun _ _ _ h => h) (yieldsIf_load_mid (by rfl) _ _ rfl (pa) (oa + k * 32) rfl X _ (fun w h => HRa.out w h) Tryd.underlying23 rfl HXz.out) HS_0.out ?_
          try simp only [Act.put, List.setIfInBounds_toArray, List.set_cons_zero, List.set_cons_succ]
          refine wpAnyH_take (i := 4) (oi := ⟨some 21, _, _, _, _, _⟩) (v := .slice (some ⟨pb, ob, none⟩) n cb) rfl (by kernel_rfl) (by kernel_rfl) (by kernel_rfl) (fun _ _ _ h => h) (Or.inl ⟨by rfl, fun w hS => by go_simp⟩) HS_0.out ?_
          try simp only [Act.put, List.setIfInBounds_toArray, List.set_cons_zero, List.set_cons_succ]
          refine wpAnyH_take (i := 5) (oi := ⟨some 22, _, _, _, _, _⟩) (v := .int .i64 (k : Int)) rfl (by kernel_rfl) (by kernel_rfl) (by kernel_rfl) (fun _ _ _ h => h) (Or.inl ⟨by rfl, fun w hS => by go_simp⟩) HS_0.out ?_
          try simp only [Act.put, List.setIfInBounds_toArray, List.set_cons_zero, List.set_cons_succ]
          refine wpAnyH_take (i := 6) (oi := ⟨some 23, _, _, _, _, _⟩) (v := .pointer (some ⟨pb, ob + k * 32, none⟩)) rfl (by kernel_rfl) (by kernel_rfl) (by kernel_rfl) (fun _ _ _ h => h) (Or.inl ⟨by rfl, fun w hS => by go_simp⟩) HS_0.out ?_
          try simp only [Act.put, List.setIfInBounds_toArray, List.set_cons_zero, List.set_cons_succ]
          refine wpAnyH_take (i := 7) (oi := ⟨some 24, _, _, _, _, _⟩) rfl (by kernel_rfl) (by kernel_rfl) (by kernel_rfl) (fun _ _ _ h => h) (yieldsIf_load_mid (by rfl) _ _ rfl (pb) (ob + k * 32) rfl Z _ (fun w h => HRb.out w h) Tryd.underlying23 rfl HZz.out) HS_0.out ?_
          try simp only [Act.put, List.setIfInBounds_toArray, List.set_cons_zero, List.set_cons_succ]
          refine wpAnyH_take (i := 8) (oi := ⟨some 25, _, _, _, _, _⟩) (v := .bool false) rfl (by kernel_rfl) (by kernel_rfl) (by kernel_rfl) (fun _ _ _ h => h) (Or.inl ⟨by rfl, fun w hS => by have q0 := HQ.out; go_simp⟩) HS_0.out ?_
          try simp only [Act.put, List.setIfInBounds_toArray, List.set_cons_zero, List.set_cons_succ]
          refine wpAnyH_done (by kernel_rfl) ?_ _
          go_wp2
          go_roundw
          case rel => exact ⟨k + 1, by rw [← Hn.out]; omega, by go_num, HN.out, HU.out.trans (HS_0.out.mono (fun _ _ e => e.elim))⟩
          case measure => simp [intOf]; omega
        · have HQ : Hid (∀ w, (binOp .neq 23 (.agg X.toArray) (.agg Z.toArray)).run Tryd.prog w = .ok (.bool true) w) := fun w => by rw [hX, hZ, neq_digest x y lx ly]; simp [hxy]
          have HN : Hid (¬ ds = es) := fun e => hxy (by rw [hx, hy, e])
          clear hx hy lx ly hX hZ hxy
          go_wp2_with fail
          have HS_0 : Hid (Upd (fun _ => False) wq wq.drew) := (Upd.refl _ _).drew
          refine wp_region_held_drew (S := Upd (fun _ => False) wq) (by kernel_rfl) HS_0.out (fun _ => ?_)
          refine wpAnyH_take (i := 0) (oi := ⟨some 17, _, _, _, _, _⟩) (v := .slice (some ⟨pa, oa, none⟩) n ca) rfl (by kernel_rfl) (by kernel_rfl) (by kernel_rfl) (fun _ _ _ h => h) (Or.inl ⟨by rfl, fun w hS => by go_simp⟩) HS_0.out ?_
          try simp only [Act.put, List.setIfInBounds_toArray, List.set_cons_zero, List.set_cons_succ]
          refine wpAnyH_take (i := 1) (oi := ⟨some 18, _, _, _, _, _⟩) (v := .int .i64 (k : Int)) rfl (by kernel_rfl) (by kernel_rfl) (by kernel_rfl) (fun _ _ _ h => h) (Or.inl ⟨by rfl, fun w hS => by go_simp⟩) HS_0.out ?_
          try simp only [Act.put, List.setIfInBounds_toArray, List.set_cons_zero, List.set_cons_succ]
          refine wpAnyH_take (i := 2) (oi := ⟨some 19, _, _, _, _, _⟩) (v := .pointer (some ⟨pa, oa + k * 32, none⟩)) rfl (by kernel_rfl) (by kernel_rfl) (by kernel_rfl) (fun _ _ _ h => h) (Or.inl ⟨by rfl, fun w hS => by go_simp⟩) HS_0.out ?_
          try simp only [Act.put, List.setIfInBounds_toArray, List.set_cons_zero, List.set_cons_succ]
          refine wpAnyH_take (i := 3) (oi := ⟨some 20, _, _, _, _, _⟩) rfl (by kernel_rfl) (by kernel_rfl) (by kernel_rfl) (fun _ _ _ h => h) (yieldsIf_load_mid (by rfl) _ _ rfl (pa) (oa + k * 32) rfl X _ (fun w h => HRa.out w h) Tryd.underlying23 rfl HXz.out) HS_0.out ?_
          try simp only [Act.put, List.setIfInBounds_toArray, List.set_cons_zero, List.set_cons_succ]
          refine wpAnyH_take (i := 4) (oi := ⟨some 21, _, _, _, _, _⟩) (v := .slice (some ⟨pb, ob, none⟩) n cb) rfl (by kernel_rfl) (by kernel_rfl) (by kernel_rfl) (fun _ _ _ h => h) (Or.inl ⟨by rfl, fun w hS => by go_simp⟩) HS_0.out ?_
          try simp only [Act.put, List.setIfInBounds_toArray, List.set_cons_zero, List.set_cons_succ]
          refine wpAnyH_take (i := 5) (oi := ⟨some 22, _, _, _, _, _⟩) (v := .int .i64 (k : Int)) rfl (by kernel_rfl) (by kernel_rfl) (by kernel_rfl) (fun _ _ _ h => h) (Or.inl ⟨by rfl, fun w hS => by go_simp⟩) HS_0.out ?_
          try simp only [Act.put, List.setIfInBounds_toArray, List.set_cons_zero, List.set_cons_succ]
          refine wpAnyH_take (i := 6) (oi := ⟨some 23, _, _, _, _, _⟩) (v := .pointer (some ⟨pb, ob + k * 32, none⟩)) rfl (by kernel_rfl) (by kernel_rfl) (by kernel_rfl) (fun _ _ _ h => h) (Or.inl ⟨by rfl, fun w hS => by go_simp⟩) HS_0.out ?_
          try simp only [Act.put, List.setIfInBounds_toArray, List.set_cons_zero, List.set_cons_succ]
          refine wpAnyH_take (i := 7) (oi := ⟨some 24, _, _, _, _, _⟩) rfl (by kernel_rfl) (by kernel_rfl) (by kernel_rfl) (fun _ _ _ h => h) (yieldsIf_load_mid (by rfl) _ _ rfl (pb) (ob + k * 32) rfl Z _ (fun w h => HRb.out w h) Tryd.underlying23 rfl HZz.out) HS_0.out ?_
          try simp only [Act.put, List.setIfInBounds_toArray, List.set_cons_zero, List.set_cons_succ]
          refine wpAnyH_take (i := 8) (oi := ⟨some 25, _, _, _, _, _⟩) (v := .bool true) rfl (by kernel_rfl) (by kernel_rfl) (by kernel_rfl) (fun _ _ _ h => h) (Or.inl ⟨by rfl, fun w hS => by have q0 := HQ.out; go_simp⟩) HS_0.out ?_
          try simp only [Act.put, List.setIfInBounds_toArray, List.set_cons_zero, List.set_cons_succ]
          refine wpAnyH_done (by kernel_rfl) ?_ _
          go_wp2
          go_ret
          exact ⟨false, rfl, ⟨fun h => (by cases h), fun h => absurd h HN.out⟩, HU.out.trans (HS_0.out.mono (fun _ _ e => e.elim))⟩
      · have HE : Hid (ds = es) := eq_of_getD (by rw [← Hn.out, ← Hm.out]) (fun j hj => Hal.out j (by have := Hn.out; omega))
        go_wp2
        go_ret
        exact ⟨true, rfl, ⟨fun _ => HE.out, fun _ => rfl⟩, HU.out⟩
  · have hne : ((n : Int) != (m : Int)) = true := by simp; omega
    have HN : Hid (¬ ds = es) := fun e => hnm (by rw [hn, hm, e])
    clear ha hb hn hm
    go_enter Tryd.func29, Tryd.ntmps29
    go_wp2
    go_ret
    exact ⟨false, rfl, ⟨fun h => (by cases h), fun h => absurd h HN.out⟩, Upd.refl _ _⟩
/-- at most 300 of them -/
theorem few_any (ao : Option Addr) (n cap : Nat) (hc : n ≤ cap) (hcm : cap ≤ 9223372036854775807) (w : World) :
    Calls Tryd.prog 16 #[.slice ao n cap, .int .i64 300] w fun e w' => e = .returned (.slice ao (min n 300) cap) ∧ w = w' := by
  by_cases h : 300 < n
  · have e : min n 300 = 300 := by omega
    have d1 : decide ((300 : Int) < (n : Int)) = true := by simp; omega
    have d2 : ¬ cap < 300 := by omega
    have d3 : (300 : Int) ≤ (cap : Int) := by omega
    rw [e]
    clear e
    go_enter Tryd.func16, Tryd.ntmps16
    go_wp2
    go_ret
    exact ⟨rfl, rfl⟩
  · have e : min n 300 = n := by omega
    have d1 : decide ((300 : Int) < (n : Int)) = false := by simp; omega
    rw [e]
    clear e
    go_enter Tryd.func16, Tryd.ntmps16
    go_wp2
    go_ret
    exact ⟨rfl, rfl⟩
def str6 : List UInt8 := [165, 90, 165] ++ List.replicate 29 0
def ST : Array Value := (str6.map u8).toArray
theorem stranger_any (w : World) :
    Calls Tryd.prog 18 #[] w (AtD str6 w) := by
  have hz := zeroD
  have HSs : Hid ((Tryd.prog.info? 23).map (·.size) = some ST.size) := by show _ = _; kernel_rfl
  have HSl : Hid (AD.size = ST.size) := by show _ = _; kernel_rfl
  have HS1 : Hid (ST.all (·.oneCell') = true) := by show _ = _; kernel_rfl
  obtain ⟨Y, hY⟩ : ∃ Y, Y = ST := ⟨_, rfl⟩
  rw [← hY] at HSs HSl HS1
  have HY := Lib.hid hY
  clear hY
  go_enter Tryd.func18, Tryd.ntmps18
  go_wp2_with (first
    | ((with_reducible refine wpList_build_as (o := ⟨some 1, _, _, _, _, _⟩) ?_ _ _ rfl Y ?_ ?_); rfl; (rw [HY.out]; kernel_rfl))
    | ((with_reducible refine wpList_store_new (o := ⟨none, .store 23 (.tmp 0) (.tmp 1), _, _, _, _⟩) ?_ _ (.tmp 0) (.tmp 1) ?_ w.heap.size Y ?_ ?_ 23 AD (heap_alloc_new _ _) HSs.out HSl.out HS1.out ?_); rfl; rfl; rfl; rfl; intro w4 Hg_w4 Hu_w4))
  refine bodyPost_ret (results_cell_row rfl _ _ w.heap.size 23 Y (0, 0) _ rfl Hg_w4.out Tryd.underlying23 rfl HSs.out) rfl ?_
  exact ⟨by rw [HY.out]; rfl, ((Upd.refl (fun _ => False) w).alloc _).trans (Hu_w4.out.mono (fun k hk e => .inr (by omega)))⟩
end Go.Proofs.YtgcionimhmbgeaaDoorR.TrB
