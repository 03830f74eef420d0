/-
  docketlaw2.DigestNames: the walk.
-/
import Derived.Test.YtiglaeipbcmlnaaDoorNamesV
import Derived.Lib.SlBytesConst
namespace Go.Proofs.YtiglaeipbcmlnaaDoor.NamesD
open Go.RowKit Sha TurnW Mem RowW SpreadW MixW HashM CopyW WriteW WriteN EndW SumH NewW EqW CutW OfW LeafW BranchW EmptyW WrittenW PadW MacW NamesV
set_option linter.unusedVariables false
theorem conv_bytes (w : World) (C : Array Value) (n c : Nat) : (convert 25 25 (.slice (some ⟨w.heap.size, 0, none⟩) n c)).run Tryd.prog (w.alloc (.cells C 5)) = .ok (.slice (some ⟨w.heap.size, 0, none⟩) n c) (w.alloc (.cells C 5 (C.size, C.size + 1))) :=
  Lib.run_convert_bytes_const w _ _ C n c Tryd.underlying25 Tryd.underlying5
theorem conv_bytes2 (w : World) (o : Obj) (C : Array Value) (n c : Nat) : (convert 25 25 (.slice (some ⟨w.heap.size + 1, 0, none⟩) n c)).run Tryd.prog ((w.alloc o).alloc (.cells C 5)) = .ok (.slice (some ⟨w.heap.size + 1, 0, none⟩) n c) ((w.alloc o).alloc (.cells C 5 (C.size, C.size + 1))) := by
  have h := Lib.run_convert_bytes_const (w.alloc o) _ _ C n c Tryd.underlying25 Tryd.underlying5
  simpa using h

theorem lit (w : World) (A : Array Value) (T : TypeId) (fr : Nat × Nat) (xs : List UInt8) (n : Nat) (hn : n = xs.length) (hm : xs.length ≤ maxLen) (hA : A = (xs.map u8).toArray) : Sl (w.alloc (.cells A T fr)) (.slice (some ⟨w.heap.size, 0, none⟩) n n) xs := by
  subst hA
  exact sl_row _ _ T xs fr n hn hm (heap_alloc_new w _)
theorem lit1 (w : World) (A : Array Value) (T : TypeId) (fr : Nat × Nat) (o : Obj) (xs : List UInt8) (n : Nat) (hn : n = xs.length) (hm : xs.length ≤ maxLen) (hA : A = (xs.map u8).toArray) : Sl ((w.alloc (.cells A T fr)).alloc o) (.slice (some ⟨w.heap.size, 0, none⟩) n n) xs := by
  subst hA
  exact sl_row _ _ T xs fr n hn hm (heap_alloc2_old w _ o)
theorem lit2 (w : World) (o : Obj) (A : Array Value) (T : TypeId) (fr : Nat × Nat) (xs : List UInt8) (n : Nat) (hn : n = xs.length) (hm : xs.length ≤ maxLen) (hA : A = (xs.map u8).toArray) : Sl ((w.alloc o).alloc (.cells A T fr)) (.slice (some ⟨w.heap.size + 1, 0, none⟩) n n) xs := by
  subst hA
  exact sl_row _ _ T xs fr n hn hm (heap_alloc2_new w o _)
theorem hexs_len (l : List UInt8) : (hexs l).length = 32 := by simp [hexs]

set_option maxHeartbeats 16000000 in
set_option maxRecDepth 100000 in
theorem names_any (w : World) (hk : Kw w) (hg : 0 < w.heap.size) :
    Calls Tryd.prog 3 #[] w fun e w' => e = .returned (.bool true) ∧ Upd (fun _ => False) w w' := by
  obtain ⟨D1, hD1⟩ : ∃ D, D = ((hexs s1.data.toList).map u8).toArray := ⟨_, rfl⟩
  have e1 : ((sha t1).map u8).toArray = D1 := by rw [hD1, v1]
  have q1 : ∀ w, (binOp .neq 23 (.agg D1) (.agg D1)).run Tryd.prog w = .ok (.bool false) w := fun w => by rw [hD1, neq_digest _ _ (hexs_len _) (hexs_len _)]; simp
  have E1 := Lib.hid e1
  have HD1 := Lib.hid hD1
  clear e1 hD1
  obtain ⟨D2, hD2⟩ : ∃ D, D = ((hexs s2.data.toList).map u8).toArray := ⟨_, rfl⟩
  have e2 : ((sha t2).map u8).toArray = D2 := by rw [hD2, v2]
  have q2 : ∀ w, (binOp .neq 23 (.agg D2) (.agg D2)).run Tryd.prog w = .ok (.bool false) w := fun w => by rw [hD2, neq_digest _ _ (hexs_len _) (hexs_len _)]; simp
  have E2 := Lib.hid e2
  have HD2 := Lib.hid hD2
  clear e2 hD2
  obtain ⟨D3, hD3⟩ : ∃ D, D = ((hexs s3.data.toList).map u8).toArray := ⟨_, rfl⟩
  have e3 : ((macM t3 t4).map u8).toArray = D3 := by rw [hD3, v3]
  have q3 : ∀ w, (binOp .neq 23 (.agg D3) (.agg D3)).run Tryd.prog w = .ok (.bool false) w := fun w => by rw [hD3, neq_digest _ _ (hexs_len _) (hexs_len _)]; simp
  have E3 := Lib.hid e3
  have HD3 := Lib.hid hD3
  clear e3 hD3
  obtain ⟨D4, hD4⟩ : ∃ D, D = ((hexs s4.data.toList).map u8).toArray := ⟨_, rfl⟩
  have e4 : ((ofM 32 0 [t5]).map u8).toArray = D4 := by rw [hD4, v4]
  have q4 : ∀ w, (binOp .neq 23 (.agg D4) (.agg D4)).run Tryd.prog w = .ok (.bool false) w := fun w => by rw [hD4, neq_digest _ _ (hexs_len _) (hexs_len _)]; simp
  have E4 := Lib.hid e4
  have HD4 := Lib.hid hD4
  clear e4 hD4
  obtain ⟨D5, hD5⟩ : ∃ D, D = ((hexs s5.data.toList).map u8).toArray := ⟨_, rfl⟩
  have e5 : ((emp 32 0).map u8).toArray = D5 := by rw [hD5, v5]
  have q5 : ∀ w, (binOp .eql 23 (.agg D5) (.agg D5)).run Tryd.prog w = .ok (.bool true) w := fun w => by rw [hD5, eql_digest _ _ (hexs_len _) (hexs_len _)]; simp
  have E5 := Lib.hid e5
  have HD5 := Lib.hid hD5
  clear e5 hD5
  obtain ⟨D6, hD6⟩ : ∃ D, D = ((hexs s6.data.toList).map u8).toArray := ⟨_, rfl⟩
  have e6 : ((emp 32 1).map u8).toArray = D6 := by rw [hD6, v6]
  have q6 : ∀ w, (binOp .eql 23 (.agg D6) (.agg D6)).run Tryd.prog w = .ok (.bool true) w := fun w => by rw [hD6, eql_digest _ _ (hexs_len _) (hexs_len _)]; simp
  have E6 := Lib.hid e6
  have HD6 := Lib.hid hD6
  clear e6 hD6
  have Hk := Lib.hid hk
  have Hg := Lib.hid hg
  have hcv := conv_bytes
  have hcv2 := conv_bytes2
  clear hk hg
  go_enter Tryd.func3, Tryd.ntmps3
  go_wp2_with fail
  refine (sum_text _ t1 _ (lit w _ _ _ t1 28 (by rfl) (by unfold maxLen; decide) (by kernel_rfl)) (Hk.out.upd ((((Upd.refl (fun _ => False) w)).alloc _)) id) (by first | (simp; done) | (simp; have := Hg.out; omega)) (fun k ho => by have := own_at ho; simp; omega) (by decide)).mono ?_
  rintro e w1 ⟨he, hu⟩
  rw [E1.out] at he
  subst he
  have HU1 : Hid (Upd (fun _ => False) w w1) := (((Upd.refl (fun _ => False) w)).alloc _).trans (hu.mono (fun _ _ h => h.elim))
  have hsz1 : w.heap.size ≤ w1.heap.size := HU1.out.size
  clear hu
  go_wp2_with fail
  refine (written_any s1 rfl _).mono ?_
  rintro e w2 ⟨he, hu⟩
  rw [← HD1.out] at he
  subst he
  have HU2 : Hid (Upd (fun _ => False) w w2) := HU1.out.trans (hu.mono (fun _ _ h => h.elim))
  have hsz2 : w.heap.size ≤ w2.heap.size := HU2.out.size
  clear hu
  go_wp2_with fail
  refine (sum_text _ t2 _ (lit w2 _ _ _ t2 56 (by rfl) (by unfold maxLen; decide) (by kernel_rfl)) (Hk.out.upd (((HU2.out).alloc _)) id) (by first | (simp; done) | (simp; have := Hg.out; omega)) (fun k ho => by have := own_at ho; simp; omega) (by decide)).mono ?_
  rintro e w3 ⟨he, hu⟩
  rw [E2.out] at he
  subst he
  have HU3 : Hid (Upd (fun _ => False) w w3) := ((HU2.out).alloc _).trans (hu.mono (fun _ _ h => h.elim))
  have hsz3 : w.heap.size ≤ w3.heap.size := HU3.out.size
  clear hu
  go_wp2_with fail
  refine (written_any s2 rfl _).mono ?_
  rintro e w4 ⟨he, hu⟩
  rw [← HD2.out] at he
  subst he
  have HU4 : Hid (Upd (fun _ => False) w w4) := HU3.out.trans (hu.mono (fun _ _ h => h.elim))
  have hsz4 : w.heap.size ≤ w4.heap.size := HU4.out.size
  clear hu
  go_wp2_with fail
  refine (mac_short _ _ _ _ t3 t4 _ (lit1 w4 _ _ _ _ t3 5 (by rfl) (by unfold maxLen; decide) (by kernel_rfl)) (lit2 w4 _ _ _ _ t4 7 (by rfl) (by unfold maxLen; decide) (by kernel_rfl)) (by decide) (fun k ho => by have := own_at ho; simp; omega) (Hk.out.upd ((((HU4.out).alloc _).alloc _)) id) (by first | (simp; done) | (simp; have := Hg.out; omega)) (by decide)).mono ?_
  rintro e w5 ⟨he, hu⟩
  rw [E3.out] at he
  subst he
  have HU5 : Hid (Upd (fun _ => False) w w5) := (((HU4.out).alloc _).alloc _).trans (hu.mono (fun _ _ h => h.elim))
  have hsz5 : w.heap.size ≤ w5.heap.size := HU5.out.size
  clear hu
  go_wp2_with fail
  refine (written_any s3 rfl _).mono ?_
  rintro e w6 ⟨he, hu⟩
  rw [← HD3.out] at he
  subst he
  have HU6 : Hid (Upd (fun _ => False) w w6) := HU5.out.trans (hu.mono (fun _ _ h => h.elim))
  have hsz6 : w.heap.size ≤ w6.heap.size := HU6.out.size
  clear hu
  go_wp2_with fail
  refine (leaf_any 32 _ _ _ t5 _ (lit w6 _ _ _ t5 4 (by rfl) (by unfold maxLen; decide) (by kernel_rfl)) (fun k ho => by have := own_at ho; simp; omega) (Hk.out.upd (((HU6.out).alloc _)) id) (by first | (simp; done) | (simp; have := Hg.out; omega)) (by decide)).mono ?_
  rintro e w7 ⟨he, hu⟩
  rw [E4.out] at he
  subst he
  have HU7 : Hid (Upd (fun _ => False) w w7) := ((HU6.out).alloc _).trans (hu.mono (fun _ _ h => h.elim))
  have hsz7 : w.heap.size ≤ w7.heap.size := HU7.out.size
  clear hu
  go_wp2_with fail
  refine (written_any s4 rfl _).mono ?_
  rintro e w8 ⟨he, hu⟩
  rw [← HD4.out] at he
  subst he
  have HU8 : Hid (Upd (fun _ => False) w w8) := HU7.out.trans (hu.mono (fun _ _ h => h.elim))
  have hsz8 : w.heap.size ≤ w8.heap.size := HU8.out.size
  clear hu
  go_wp2_with fail
  refine (empty_any 32 0 0 (by decide) w8 (Hk.out.upd ((HU8.out)) id) (by have := Hg.out; omega)).mono ?_
  rintro e w9 ⟨he, hu⟩
  rw [E5.out] at he
  subst he
  have HU9 : Hid (Upd (fun _ => False) w w9) := (HU8.out).trans (hu.mono (fun _ _ h => h.elim))
  have hsz9 : w.heap.size ≤ w9.heap.size := HU9.out.size
  clear hu
  go_wp2_with fail
  refine (written_any s5 rfl _).mono ?_
  rintro e w10 ⟨he, hu⟩
  rw [← HD5.out] at he
  subst he
  have HU10 : Hid (Upd (fun _ => False) w w10) := HU9.out.trans (hu.mono (fun _ _ h => h.elim))
  have hsz10 : w.heap.size ≤ w10.heap.size := HU10.out.size
  clear hu
  go_wp2_with fail
  refine (empty_any 32 1 1 (by decide) w10 (Hk.out.upd ((HU10.out)) id) (by have := Hg.out; omega)).mono ?_
  rintro e w11 ⟨he, hu⟩
  rw [E6.out] at he
  subst he
  have HU11 : Hid (Upd (fun _ => False) w w11) := (HU10.out).trans (hu.mono (fun _ _ h => h.elim))
  have hsz11 : w.heap.size ≤ w11.heap.size := HU11.out.size
  clear hu
  go_wp2_with fail
  refine (written_any s6 rfl _).mono ?_
  rintro e w12 ⟨he, hu⟩
  rw [← HD6.out] at he
  subst he
  have HU12 : Hid (Upd (fun _ => False) w w12) := HU11.out.trans (hu.mono (fun _ _ h => h.elim))
  have hsz12 : w.heap.size ≤ w12.heap.size := HU12.out.size
  clear hu
  go_wp2
  go_ret
  exact ⟨rfl, HU12.out⟩
end Go.Proofs.YtiglaeipbcmlnaaDoor.NamesD
