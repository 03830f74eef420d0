/-
  docketbook.Same of strings and of digests that read alike.
-/
import Derived.Test.YtcdgimapkbaboaaLaysD
import Derived.Test.YtcdgimapkbaboaaEqW
import Derived.Test.YtcdgimapkbaboaaBookW
import Derived.Deep.RegionHeld
import Derived.Deep.MidRow
namespace Go.Proofs.Ytcdgimapkbaboaa.SameE
open Go.RowKit Mem RowW PutW StrW RawW TextsW DigW BookW EqW LaysD
set_option linter.unusedVariables false
set_option linter.unusedSimpArgs false

set_option maxHeartbeats 4000000 in
set_option maxRecDepth 100000 in
theorem same_str (aa ab : Option Addr) (n ca cb : Nat) (ss : List ByteArray) (w : World) (hn : n = ss.length) (ha : ss ≠ [] → StrL w (.slice aa n ca) ss) (hb : ss ≠ [] → StrL w (.slice ab n cb) ss) (hr : n ≤ 140737488355328) :
    Calls Try.prog 71 #[.slice aa n ca, .slice ab n cb] w fun e w' => e = .returned (.bool true) ∧ Upd (fun _ => False) w w' := by
  have Hn := Lib.hid hn
  have Ha : Hid (ss ≠ [] → StrL w (.slice aa n ca) ss) := ha
  have Hb : Hid (ss ≠ [] → StrL w (.slice ab n cb) ss) := hb
  clear ha hb hn
  go_enter Try.func71, Try.ntmps71
  go_wp2
  go_loopw [5] (fun i wr => LSm n w i wr) (fun i _ => (n - (intOf i).toNat))
  case atStart => exact ⟨0, Nat.zero_le _, rfl, Upd.refl _ _⟩
  case round =>
    obtain ⟨k, hk, rfl, hu⟩ := hrel
    have HU := Lib.hid hu
    clear hu
    by_cases hlt : k < n
    · have hltI : (k : Int) < (n : Int) := by omega
      have hkx : k < ss.length := by have := Hn.out; omega
      have hne : ss ≠ [] := fun e => by rw [e] at hkx; exact absurd hkx (Nat.not_lt_zero _)
      obtain ⟨_, _, he, h3, _, h4⟩ := (Ha.out hne).upd HU.out (fun _ _ => id)
      cases he
      obtain ⟨_, _, he, g3, _, g4⟩ := (Hb.out hne).upd HU.out (fun _ _ => id)
      cases he
      obtain ⟨⟨pa, oa, sa⟩, rfl⟩ : ∃ ad, aa = some ad := by
        cases aa with
        | some ad => exact ⟨ad, rfl⟩
        | none => have := h3 rfl; omega
      obtain ⟨⟨pb, ob, sb⟩, rfl⟩ : ∃ ad, ab = some ad := by
        cases ab with
        | some ad => exact ⟨ad, rfl⟩
        | none => have := g3 rfl; omega
      obtain ⟨hsa, hca⟩ := h4 _ rfl
      obtain ⟨hsb, hcb⟩ := g4 _ rfl
      obtain rfl : sa = none := hsa
      obtain rfl : sb = none := hsb
      have c0 := hca k hkx
      have c1 := hcb k hkx
      rw [RowW.add_none] at c0 c1
      obtain ⟨x, hx⟩ : ∃ x, x = ss.getD k ByteArray.empty := ⟨_, rfl⟩
      rw [← hx] at c0 c1
      have hxx : (x.toList == x.toList) = true := by simp
      clear h3 h4 g3 g4 hca hcb hx hkx hne
      go_wp2
      go_quiet (fail)
      go_wp2
      go_roundw
      case rel => exact ⟨k + 1, by omega, by go_num, RowW.Upd.drewN HU.out _⟩
      case measure => simp [intOf]; omega
    · go_wp2
      go_ret
      exact ⟨rfl, HU.out⟩

set_option maxHeartbeats 4000000 in
set_option maxRecDepth 100000 in
theorem same_dig (aa ab : Option Addr) (n ca cb : Nat) (ds : List (List UInt8)) (Oa Ob : Nat → Prop) (w : World) (hn : n = ds.length) (ha : ds ≠ [] → DgL w (.slice aa n ca) ds Oa) (hb : ds ≠ [] → DgL w (.slice ab n cb) ds Ob) (hr : n ≤ 140737488355328) :
    Calls Try.prog 70 #[.slice aa n ca, .slice ab n cb] w fun e w' => e = .returned (.bool true) ∧ Upd (fun _ => False) w w' := by
  have Hn := Lib.hid hn
  have Ha : Hid (ds ≠ [] → DgL w (.slice aa n ca) ds Oa) := ha
  have Hb : Hid (ds ≠ [] → DgL w (.slice ab n cb) ds Ob) := hb
  clear ha hb hn
  go_enter Try.func70, Try.ntmps70
  go_wp2
  go_loopw [5] (fun i wr => LSm n w i wr) (fun i _ => (n - (intOf i).toNat))
  case atStart => exact ⟨0, Nat.zero_le _, rfl, Upd.refl _ _⟩
  case round =>
    obtain ⟨k, hk, rfl, hu⟩ := hrel
    obtain ⟨wq, rfl⟩ : ∃ x : World, x = wr := ⟨_, rfl⟩
    have HU := Lib.hid hu
    clear hu
    by_cases hlt : k < n
    · have hltI : (k : Int) < (n : Int) := by omega
      have hkx : k < ds.length := by have := Hn.out; omega
      have hne : ds ≠ [] := fun e => by rw [e] at hkx; exact absurd hkx (Nat.not_lt_zero _)
      obtain ⟨_, _, he, _, _, h32, h3, h4⟩ := (Ha.out hne).upd HU.out (fun _ _ => id)
      injection he with e1 e2 e3
      subst e1 e3
      clear e2
      obtain ⟨_, _, he, _, _, _, g3, g4⟩ := (Hb.out hne).upd HU.out (fun _ _ => id)
      injection he with e1 e2 e3
      subst e1 e3
      clear e2
      obtain ⟨⟨pa, oa, sa⟩, rfl⟩ : ∃ ad, aa = some ad := by
        cases aa with
        | some ad => exact ⟨ad, rfl⟩
        | none => have := h3 rfl; omega
      obtain ⟨⟨pb, ob, sb⟩, rfl⟩ : ∃ ad, ab = some ad := by
        cases ab with
        | some ad => exact ⟨ad, rfl⟩
        | none => have := g3 rfl; omega
      obtain ⟨hsa, _, hca⟩ := h4 _ rfl
      obtain ⟨hsb, _, hcb⟩ := g4 _ rfl
      obtain rfl : sa = none := hsa
      obtain rfl : sb = none := hsb
      have c0 := hca k hkx
      have c1 := hcb k hkx
      obtain ⟨x, hx⟩ : ∃ x, x = ds.getD k [] := ⟨_, rfl⟩
      have hx32 : x.length = 32 := by
        rw [hx, List.getD_eq_getElem?_getD, List.getElem?_eq_getElem hkx]
        exact h32 _ (List.getElem_mem hkx)
      rw [← hx] at c0 c1
      obtain ⟨X, hX⟩ : ∃ X, X = x.map u8 := ⟨_, rfl⟩
      rw [← hX] at c0 c1
      have HC0 : Hid (∀ (j : Nat) v, X[j]? = some v → wq.cell? ⟨pa, oa + k * 32 + j, none⟩ = some v) := c0
      have HC1 : Hid (∀ (j : Nat) v, X[j]? = some v → wq.cell? ⟨pb, ob + k * 32 + j, none⟩ = some v) := c1
      have HXs : Hid ((Try.prog.info? 73).map (·.size) = some X.length) := by show _ = _; rw [DigW.size32, hX]; simp [hx32]
      have HQ : Hid (∀ w, (binOp .neq 73 (.agg X.toArray) (.agg X.toArray)).run Try.prog w = .ok (.bool false) w) := fun w => by rw [hX, neq_digest x x hx32 hx32]; simp
      clear h3 h4 g3 g4 hca hcb hx hkx hne h32 hx32 hX c0 c1
      go_wp2_with fail
      have HS_0 : Hid (Upd (fun _ => False) wq wq.drew) := (Upd.refl _ _).drew
      refine wp_region_held_drew (S := Upd (fun _ => False) wq) (by kernel_rfl) HS_0.out (fun _ => ?_)
      refine wpAnyH_take (i := 0) (oi := ⟨some 17, _, _, _, _, _⟩) (v := .slice (some ⟨pa, oa, none⟩) n ca) rfl (by kernel_rfl) (by kernel_rfl) (by kernel_rfl) (fun _ _ _ h => h) (Or.inl ⟨by rfl, fun w hS => by go_simp⟩) HS_0.out ?_
      try simp only [Act.put, List.setIfInBounds_toArray, List.set_cons_zero, List.set_cons_succ]
      refine wpAnyH_take (i := 1) (oi := ⟨some 18, _, _, _, _, _⟩) (v := .int .i64 (k : Int)) rfl (by kernel_rfl) (by kernel_rfl) (by kernel_rfl) (fun _ _ _ h => h) (Or.inl ⟨by rfl, fun w hS => by go_simp⟩) HS_0.out ?_
      try simp only [Act.put, List.setIfInBounds_toArray, List.set_cons_zero, List.set_cons_succ]
      refine wpAnyH_take (i := 2) (oi := ⟨some 19, _, _, _, _, _⟩) (v := .pointer (some ⟨pa, oa + k * 32, none⟩)) rfl (by kernel_rfl) (by kernel_rfl) (by kernel_rfl) (fun _ _ _ h => h) (Or.inl ⟨by rfl, fun w hS => by go_simp⟩) HS_0.out ?_
      try simp only [Act.put, List.setIfInBounds_toArray, List.set_cons_zero, List.set_cons_succ]
      refine wpAnyH_take (i := 3) (oi := ⟨some 20, _, _, _, _, _⟩) rfl (by kernel_rfl) (by kernel_rfl) (by kernel_rfl) (fun _ _ _ h => h) (yieldsIf_load_mid (by rfl) _ _ rfl (pa) (oa + k * 32) rfl X _ (fun w h => fun j v hv => h.cell (HC0.out j v hv) id) Try.underlying73 rfl HXs.out) HS_0.out ?_
      try simp only [Act.put, List.setIfInBounds_toArray, List.set_cons_zero, List.set_cons_succ]
      refine wpAnyH_take (i := 4) (oi := ⟨some 21, _, _, _, _, _⟩) (v := .slice (some ⟨pb, ob, none⟩) n cb) rfl (by kernel_rfl) (by kernel_rfl) (by kernel_rfl) (fun _ _ _ h => h) (Or.inl ⟨by rfl, fun w hS => by go_simp⟩) HS_0.out ?_
      try simp only [Act.put, List.setIfInBounds_toArray, List.set_cons_zero, List.set_cons_succ]
      refine wpAnyH_take (i := 5) (oi := ⟨some 22, _, _, _, _, _⟩) (v := .int .i64 (k : Int)) rfl (by kernel_rfl) (by kernel_rfl) (by kernel_rfl) (fun _ _ _ h => h) (Or.inl ⟨by rfl, fun w hS => by go_simp⟩) HS_0.out ?_
      try simp only [Act.put, List.setIfInBounds_toArray, List.set_cons_zero, List.set_cons_succ]
      refine wpAnyH_take (i := 6) (oi := ⟨some 23, _, _, _, _, _⟩) (v := .pointer (some ⟨pb, ob + k * 32, none⟩)) rfl (by kernel_rfl) (by kernel_rfl) (by kernel_rfl) (fun _ _ _ h => h) (Or.inl ⟨by rfl, fun w hS => by go_simp⟩) HS_0.out ?_
      try simp only [Act.put, List.setIfInBounds_toArray, List.set_cons_zero, List.set_cons_succ]
      refine wpAnyH_take (i := 7) (oi := ⟨some 24, _, _, _, _, _⟩) rfl (by kernel_rfl) (by kernel_rfl) (by kernel_rfl) (fun _ _ _ h => h) (yieldsIf_load_mid (by rfl) _ _ rfl (pb) (ob + k * 32) rfl X _ (fun w h => fun j v hv => h.cell (HC1.out j v hv) id) Try.underlying73 rfl HXs.out) HS_0.out ?_
      try simp only [Act.put, List.setIfInBounds_toArray, List.set_cons_zero, List.set_cons_succ]
      refine wpAnyH_take (i := 8) (oi := ⟨some 25, _, _, _, _, _⟩) (v := .bool false) rfl (by kernel_rfl) (by kernel_rfl) (by kernel_rfl) (fun _ _ _ h => h) (Or.inl ⟨by rfl, fun w hS => by have q0 := HQ.out; go_simp⟩) HS_0.out ?_
      try simp only [Act.put, List.setIfInBounds_toArray, List.set_cons_zero, List.set_cons_succ]
      refine wpAnyH_done (by kernel_rfl) ?_ _
      go_wp2
      go_roundw
      case rel => exact ⟨k + 1, by omega, by go_num, HU.out.trans (HS_0.out.mono (fun _ _ e => e.elim))⟩
      case measure => simp [intOf]; omega
    · go_wp2
      go_ret
      exact ⟨rfl, HU.out⟩
end Go.Proofs.Ytcdgimapkbaboaa.SameE
