/-
  docketbook.Same of spots that read alike.
-/
import Derived.Test.YtgcionimhmbgeaaDoorRSpR
import Derived.Test.YtgcionimhmbgeaaDoorREqW
import Derived.Deep.RegionHeld
import Derived.Deep.MidRow
namespace Go.Proofs.YtgcionimhmbgeaaDoorR.SpS
open Go.RowKit Mem RowW BitsW SpL IntsW SpW SpR EqW
set_option linter.unusedVariables false
set_option linter.unusedSimpArgs false

theorem sizeS : (Tryd.prog.info? 33).map (·.size) = some 2 := by kernel_rfl
theorem neq_spot (a b : Int) (w : World) : (binOp .neq 33 (.agg [.int .i64 a, .int .i64 b].toArray) (.agg [.int .i64 a, .int .i64 b].toArray)).run Tryd.prog w = .ok (.bool false) w := by
  simp [go_sem]
/-- the i-th spot of a row lies so -/
theorem spot_at {w : World} {ls : List (Nat × Nat)} {g : Nat} {n cap : Nat} (h : w.ownsRow 0 33 2 (.slice (some ⟨g, 0, none⟩) n cap) ls.length (spv ls)) (j : Nat) (hj : j < ls.length) (x : Nat × Nat) (hx : ls.getD j (0, 0) = x) :
    ∀ i u, [Value.int .i64 (x.1 : Int), .int .i64 (x.2 : Int)][i]? = some u → w.cell? ⟨g, 0 + j * 2 + i, none⟩ = some u := by
  subst hx
  intro i u hu
  obtain ⟨h0, h1⟩ := spv_at ls j hj
  have key : ∀ i v, (spv ls)[j * 2 + i]? = some v → w.cell? ⟨g, 0 + j * 2 + i, none⟩ = some v := fun i v hv => by
    have h2 := World.ownsRow.cells h (g := g) rfl _ _ hv
    rw [RowW.add_none] at h2
    rw [Nat.add_assoc]
    exact h2
  match i, hu with
  | 0, hu => obtain rfl := Option.some.inj hu; exact key 0 _ h0
  | 1, hu => obtain rfl := Option.some.inj hu; exact key 1 _ h1
def LSm (n : Nat) (w0 : World) (i : Value) (wr : World) : Prop := ∃ k : Nat, k ≤ n ∧ i = .int .i64 k ∧ Upd (fun _ => False) w0 wr

set_option maxHeartbeats 4000000 in
set_option maxRecDepth 100000 in
theorem same_spot (aa ab : Option Addr) (n ca cb : Nat) (ls : List (Nat × Nat)) (w : World) (hn : n = ls.length) (ha : w.ownsRow 0 33 2 (.slice aa n ca) ls.length (spv ls)) (hb : w.ownsRow 0 33 2 (.slice ab n cb) ls.length (spv ls)) (hr : n ≤ 140737488355328) :
    Calls Tryd.prog 48 #[.slice aa n ca, .slice ab n cb] w fun e w' => e = .returned (.bool true) ∧ Upd (fun _ => False) w w' := by
  have Hn := Lib.hid hn
  have Ha := Lib.hid ha
  have Hb := Lib.hid hb
  clear ha hb hn
  go_enter Tryd.func48, Tryd.ntmps48
  go_wp2
  go_loopw [5] (fun i wr => LSm n w i wr) (fun i _ => (n - (intOf i).toNat))
  case atStart => exact ⟨0, Nat.zero_le _, rfl, Upd.refl _ _⟩
  case round =>
    obtain ⟨k, hk, rfl, hu⟩ := hrel
    obtain ⟨wq, rfl⟩ : ∃ x : World, x = wr := ⟨_, rfl⟩
    have HU := Lib.hid hu
    clear hu
    by_cases hlt : k < n
    · have hltI : (k : Int) < (n : Int) := by omega
      have hkx : k < ls.length := by have := Hn.out; omega
      have Ha1 := own_upd Ha.out HU.out (fun _ _ => id)
      have Hb1 := own_upd Hb.out HU.out (fun _ _ => id)
      obtain ⟨ga, hga⟩ : ∃ g, aa = some ⟨g, 0, none⟩ := by
        rcases Ha1.2 with ⟨h, h2⟩ | ⟨g, cap, cur, h, _⟩
        · omega
        · injection h with h; exact ⟨g, h⟩
      obtain ⟨gb, hgb⟩ : ∃ g, ab = some ⟨g, 0, none⟩ := by
        rcases Hb1.2 with ⟨h, h2⟩ | ⟨g, cap, cur, h, _⟩
        · omega
        · injection h with h; exact ⟨g, h⟩
      subst hga hgb
      obtain ⟨⟨x, y⟩, hx⟩ : ∃ x, ls.getD k (0, 0) = x := ⟨_, rfl⟩
      have c0 := spot_at Ha1 k hkx _ hx
      have c1 := spot_at Hb1 k hkx _ hx
      obtain ⟨X, hX⟩ : ∃ X, X = [Value.int .i64 (x : Int), .int .i64 (y : Int)] := ⟨_, rfl⟩
      rw [← hX] at c0 c1
      have HC0 : Hid (∀ (j : Nat) v, X[j]? = some v → wq.cell? ⟨ga, 0 + k * 2 + j, none⟩ = some v) := c0
      have HC1 : Hid (∀ (j : Nat) v, X[j]? = some v → wq.cell? ⟨gb, 0 + k * 2 + j, none⟩ = some v) := c1
      have HXs : Hid ((Tryd.prog.info? 33).map (·.size) = some X.length) := by show _ = _; rw [sizeS, hX]; rfl
      have HQ : Hid (∀ w, (binOp .neq 33 (.agg X.toArray) (.agg X.toArray)).run Tryd.prog w = .ok (.bool false) w) := fun w => by rw [hX]; exact neq_spot _ _ w
      clear Ha1 Hb1 c0 c1 hX hx hkx
      go_wp2_with fail
      have HS_0 : Hid (Upd (fun _ => False) wq wq.drew) := (Upd.refl _ _).drew
      refine wp_region_held_drew (S := Upd (fun _ => False) wq) (by kernel_rfl) HS_0.out (fun _ => ?_)
      refine wpAnyH_take (i := 0) (oi := ⟨some 17, _, _, _, _, _⟩) (v := .slice (some ⟨ga, 0, none⟩) n ca) rfl (by kernel_rfl) (by kernel_rfl) (by kernel_rfl) (fun _ _ _ h => h) (Or.inl ⟨by rfl, fun w hS => by go_simp⟩) HS_0.out ?_
      try simp only [Act.put, List.setIfInBounds_toArray, List.set_cons_zero, List.set_cons_succ]
      refine wpAnyH_take (i := 1) (oi := ⟨some 18, _, _, _, _, _⟩) (v := .int .i64 (k : Int)) rfl (by kernel_rfl) (by kernel_rfl) (by kernel_rfl) (fun _ _ _ h => h) (Or.inl ⟨by rfl, fun w hS => by go_simp⟩) HS_0.out ?_
      try simp only [Act.put, List.setIfInBounds_toArray, List.set_cons_zero, List.set_cons_succ]
      refine wpAnyH_take (i := 2) (oi := ⟨some 19, _, _, _, _, _⟩) (v := .pointer (some ⟨ga, 0 + k * 2, none⟩)) rfl (by kernel_rfl) (by kernel_rfl) (by kernel_rfl) (fun _ _ _ h => h) (Or.inl ⟨by rfl, fun w hS => by go_simp⟩) HS_0.out ?_
      try simp only [Act.put, List.setIfInBounds_toArray, List.set_cons_zero, List.set_cons_succ]
      refine wpAnyH_take (i := 3) (oi := ⟨some 20, _, _, _, _, _⟩) rfl (by kernel_rfl) (by kernel_rfl) (by kernel_rfl) (fun _ _ _ h => h) (yieldsIf_load_mid (by rfl) _ _ rfl (ga) (0 + k * 2) rfl X _ (fun w h => fun j v hv => h.cell (HC0.out j v hv) id) Tryd.underlying33 rfl HXs.out) HS_0.out ?_
      try simp only [Act.put, List.setIfInBounds_toArray, List.set_cons_zero, List.set_cons_succ]
      refine wpAnyH_take (i := 4) (oi := ⟨some 21, _, _, _, _, _⟩) (v := .slice (some ⟨gb, 0, none⟩) n cb) rfl (by kernel_rfl) (by kernel_rfl) (by kernel_rfl) (fun _ _ _ h => h) (Or.inl ⟨by rfl, fun w hS => by go_simp⟩) HS_0.out ?_
      try simp only [Act.put, List.setIfInBounds_toArray, List.set_cons_zero, List.set_cons_succ]
      refine wpAnyH_take (i := 5) (oi := ⟨some 22, _, _, _, _, _⟩) (v := .int .i64 (k : Int)) rfl (by kernel_rfl) (by kernel_rfl) (by kernel_rfl) (fun _ _ _ h => h) (Or.inl ⟨by rfl, fun w hS => by go_simp⟩) HS_0.out ?_
      try simp only [Act.put, List.setIfInBounds_toArray, List.set_cons_zero, List.set_cons_succ]
      refine wpAnyH_take (i := 6) (oi := ⟨some 23, _, _, _, _, _⟩) (v := .pointer (some ⟨gb, 0 + k * 2, none⟩)) rfl (by kernel_rfl) (by kernel_rfl) (by kernel_rfl) (fun _ _ _ h => h) (Or.inl ⟨by rfl, fun w hS => by go_simp⟩) HS_0.out ?_
      try simp only [Act.put, List.setIfInBounds_toArray, List.set_cons_zero, List.set_cons_succ]
      refine wpAnyH_take (i := 7) (oi := ⟨some 24, _, _, _, _, _⟩) rfl (by kernel_rfl) (by kernel_rfl) (by kernel_rfl) (fun _ _ _ h => h) (yieldsIf_load_mid (by rfl) _ _ rfl (gb) (0 + k * 2) rfl X _ (fun w h => fun j v hv => h.cell (HC1.out j v hv) id) Tryd.underlying33 rfl HXs.out) HS_0.out ?_
      try simp only [Act.put, List.setIfInBounds_toArray, List.set_cons_zero, List.set_cons_succ]
      refine wpAnyH_take (i := 8) (oi := ⟨some 25, _, _, _, _, _⟩) (v := .bool false) rfl (by kernel_rfl) (by kernel_rfl) (by kernel_rfl) (fun _ _ _ h => h) (Or.inl ⟨by rfl, fun w hS => by have q0 := HQ.out; go_simp⟩) HS_0.out ?_
      try simp only [Act.put, List.setIfInBounds_toArray, List.set_cons_zero, List.set_cons_succ]
      refine wpAnyH_done (by kernel_rfl) ?_ _
      go_wp2
      go_roundw
      case rel => exact ⟨k + 1, by omega, by go_num, HU.out.trans (HS_0.out.mono (fun _ _ e => e.elim))⟩
      case measure => simp [intOf]; omega
    · go_wp2
      go_ret
      exact ⟨rfl, HU.out⟩
theorem same2_spot (va vb : Value) (ls : List (Nat × Nat)) (w : World) (ha : w.ownsRow 0 33 2 va ls.length (spv ls)) (hb : w.ownsRow 0 33 2 vb ls.length (spv ls)) (hr : ls.length ≤ 140737488355328) :
    Calls Tryd.prog 23 #[va, vb] w fun e w' => e = .returned (.bool true) ∧ Upd (fun _ => False) w w' := by
  obtain ⟨aa, ca, rfl⟩ := slice_form ha
  obtain ⟨ab, cb, rfl⟩ := slice_form hb
  have HS := Lib.hid (same_spot aa ab ls.length ca cb ls w rfl ha hb hr)
  clear ha hb
  go_enter Tryd.func23, Tryd.ntmps23
  go_wp2_with fail
  refine HS.out.mono ?_
  rintro e w' ⟨rfl, hu⟩
  have HU := Lib.hid hu
  clear hu
  go_wp2
  go_ret
  exact ⟨rfl, HU.out⟩
end Go.Proofs.YtgcionimhmbgeaaDoorR.SpS
