/-
  docketref4.Pack.
-/
import Derived.Test.YtgfdnljblfkhkabDoorRefLow
namespace Go.Proofs.YtgfdnljblfkhkabDoor.RefPack
open Go.RowKit Sha Mem Width PutW WriterW RowW CopyW BookW RawB Crc FrTurn FrScan FrFits FrBegin FrOne FrWalk FrEnd FrPack ListsB FrPackE RefLow RefCrc
set_option linter.unusedVariables false
set_option linter.unusedSimpArgs false

theorem crc_num (n : Int) (p : List UInt8) : crc (be n 8 ++ p) = ~~~ overc (nreg n) p := by
  unfold crc overc nreg overc
  rw [List.foldl_append]
theorem rpack_number (n : Int) (ao : Option Addr) (m cap : Nat) (p : List UInt8) (w : World) (hk : nok n = false) :
    Calls Tryd.prog 9 #[.int .i64 n, .slice ao m cap] w (PackAt n p w) := by
  have Hk := Lib.hid hk
  have hn : n < 0 ∨ 1099511627775 < n := by
    by_cases h0 : n < 0
    · exact .inl h0
    · refine .inr ?_
      have := mt (nok_iff n).2 (by rw [hk]; decide)
      omega
  clear hk
  by_cases h0 : n < 0
  · have d0 : decide (n < 0) = true := decide_eq_true h0
    go_enter Tryd.func9, Tryd.ntmps9
    go_wp2
    go_ret2
    exact .inr (.inl ⟨Hk.out, rfl, rfl⟩)
  · have d0 : decide (n < 0) = false := decide_eq_false h0
    have h1 : 1099511627775 < n := by omega
    have d1 : decide (1099511627775 < n) = true := decide_eq_true h1
    go_enter Tryd.func9, Tryd.ntmps9
    go_wp2
    go_ret2
    exact .inr (.inl ⟨Hk.out, rfl, rfl⟩)
theorem rpack_long (n : Int) (ao : Option Addr) (m cap : Nat) (p : List UInt8) (w : World) (hk : nok n = true) (hp : p.length = m) (hm : 65536 < m) :
    Calls Tryd.prog 9 #[.int .i64 n, .slice ao m cap] w (PackAt n p w) := by
  have Hk := Lib.hid hk
  have Hp := Lib.hid hp
  have hmI : (65536 : Int) < (m : Int) := by omega
  have hn := (nok_iff n).1 hk
  have d0 : decide (n < 0) = false := decide_eq_false (by omega)
  have d1 : decide (1099511627775 < n) = false := decide_eq_false (by omega)
  clear hk hp
  go_enter Tryd.func9, Tryd.ntmps9
  go_wp2
  go_ret2
  exact .inr (.inr ⟨Hk.out, by rw [Hp.out]; exact hm, rfl, rfl⟩)

/-- a row of the call's own, in memory that is new since w0 -/
structure Nw (w0 w : World) (v : Value) (n : Nat) (l : List UInt8) : Prop where
  own : w.ownsRow 0 5 1 v n (l.map u8)
  len : n = l.length
  new : ∀ k, Mem.own v k → w0.heap.size ≤ k
theorem Nw.sl {w0 w : World} {v : Value} {n : Nat} {l : List UInt8} (h : Nw w0 w v n l) : Sl w v l := by
  have := h.own; rw [h.len] at this; exact Sl.of_own this
theorem Nw.upd {S : Nat → Prop} {w0 w w' : World} {v : Value} {n : Nat} {l : List UInt8} (h : Nw w0 w v n l) (hu : Upd S w w') (hd : ∀ k, Mem.own v k → ¬ S k) : Nw w0 w' v n l := ⟨IntsW.own_upd h.own hu hd, h.len, h.new⟩
theorem Nw.weak {w0 w1 w : World} {v : Value} {n : Nat} {l : List UInt8} (h : Nw w1 w v n l) (hu : w0.heap.size ≤ w1.heap.size) : Nw w0 w v n l := ⟨h.own, h.len, fun k hk => Nat.le_trans hu (h.new k hk)⟩
theorem Nw.of {w w' : World} {l : List UInt8} {e : Ending} (n : Nat) (hn : n = l.length) (h : NewAt w l e w') : ∃ ao cap, e = .returned (.slice ao n cap) ∧ Nw w w' (.slice ao n cap) n l ∧ Upd (fun _ => False) w w' := by
  subst hn
  obtain ⟨v, rfl, h1, h2⟩ := h
  obtain ⟨ao, cap, rfl⟩ := IntsW.slice_form h1
  exact ⟨ao, cap, rfl, ⟨World.ownsRow.mono h1 (Nat.zero_le _), rfl, fun k hk => (h1.lt k hk).1⟩, h2⟩
theorem Nw.base {w0 w : World} {v : Value} {n : Nat} {l : List UInt8} (h : Nw w0 w v n l) : w.ownsRow w0.heap.size 5 1 v n (l.map u8) := by
  refine ⟨h.own.1, h.own.2.imp id ?_⟩
  rintro ⟨g, cap, cur, rfl, _, r⟩
  exact ⟨g, cap, cur, rfl, h.new g rfl, r⟩
/-- what append to such a row gives -/
theorem Nw.app {w0 w w' : World} {v v' : Value} {l t : List UInt8} {n m : Nat} (h : Nw w0 w v n l) (hm : m = l.length + t.length) (hown : w'.ownsRow 0 5 1 v' m ((l ++ t).map u8)) (hg : w.grownBy w' v.ownBlock) (ha : v'.ownBlock = v.ownBlock ∨ v'.ownBlock = some w.heap.size) (hu : Upd (fun _ => False) w0 w) :
    Nw w0 w' v' m (l ++ t) ∧ Upd (Mem.own v) w w' ∧ Upd (fun _ => False) w0 w' ∧ ∀ k, Mem.own v' k → Mem.own v k ∨ w.heap.size ≤ k := by
  have h1 : Upd (Mem.own v) w w' := Upd.grown hg (fun k hk => hk)
  refine ⟨⟨hown, by rw [List.length_append]; exact hm, fun k hk => ?_⟩, h1, hu.trans (h1.mono fun k _ e => .inr (h.new k e)), fun k hk => ?_⟩
  · rcases ha with ha | ha
    · exact h.new k (by unfold Mem.own at hk ⊢; rw [← ha]; exact hk)
    · unfold Mem.own at hk; rw [ha] at hk; cases hk; exact hu.size
  · rcases ha with ha | ha
    · exact .inl (by unfold Mem.own at hk ⊢; rw [← ha]; exact hk)
    · unfold Mem.own at hk; rw [ha] at hk; cases hk; exact .inr (Nat.le_refl _)

set_option maxHeartbeats 4000000 in
theorem rpack_some (n : Int) (ao : Option Addr) (m cap : Nat) (p : List UInt8) (w : World) (hk : nok n = true) (hm : m ≤ 65536) (hs : El w (.slice ao m cap) p) (ho : p ≠ [] → ∀ k, own (.slice ao m cap) k → k < w.heap.size) :
    Calls Tryd.prog 9 #[.int .i64 n, .slice ao m cap] w (PackAt n p w) := by
  have hml : m = p.length := by obtain ⟨_, _, h, _⟩ := hs; injection h
  have hn := (nok_iff _).1 hk
  have Hk := Lib.hid hk
  have Hml := Lib.hid hml
  have Hs := Lib.hid hs
  have Ho := Lib.hid ho
  have d0 : decide (n < 0) = false := decide_eq_false (by omega)
  have d1 : decide (1099511627775 < n) = false := decide_eq_false (by omega)
  have d2 : decide ((65536 : Int) < (m : Int)) = false := decide_eq_false (by omega)
  obtain ⟨hn0, hn1⟩ := hn
  obtain ⟨b1, hb1⟩ : ∃ x, x = be 209 1 := ⟨_, rfl⟩
  have Hb1 := Lib.hid hb1
  have Hb1l : Hid (1 = b1.length) := by show _ = _; rw [hb1, be_len]
  have HO1 : Hid (Nw w (w.alloc (.cells #[.int .u8 209] 5)) (.slice (some ⟨w.heap.size, 0, none⟩) 1 1) 1 b1) :=
    ⟨by rw [hb1]; exact World.ownsRow_lit w #[.int .u8 209] 1 (Nat.zero_le _) (by unfold maxLen; simp) rfl, Hb1l.out, fun k hk => by simp [own, Value.ownBlock] at hk; omega⟩
  have HU1 : Hid (Upd (fun _ => False) w (w.alloc (.cells #[.int .u8 209] 5))) := (Upd.refl _ w).alloc _
  clear hk hml hs ho hb1
  go_enter Tryd.func9, Tryd.ntmps9
  go_wp2_with fail
  refine (low_any (m : Int) 4 _ (by omega) (by omega) (by decide) (by decide)).mono ?_
  rintro e w2 h2
  obtain ⟨b2, hb2⟩ : ∃ x, x = be (m : Int) 4 := ⟨_, rfl⟩
  rw [← hb2] at h2
  have Hb2 := Lib.hid hb2
  have Hb2l : Hid (4 = b2.length) := by show _ = _; rw [hb2, be_len]
  obtain ⟨l2, c2, rfl, hq2, hu2⟩ := Nw.of 4 Hb2l.out h2
  have HO2 : Hid (Nw w w2 (.slice (some ⟨w.heap.size, 0, none⟩) 1 1) 1 b1) := HO1.out.upd hu2 (fun _ _ => id)
  have HU2 : Hid (Upd (fun _ => False) w w2) := HU1.out.trans (hu2.mono fun _ _ e => e.elim)
  have HE2 : Hid (El w2 (.slice l2 4 c2) b2) := El.of_sl hq2.sl
  have M3 : Hid (b1.length + b2.length ≤ maxLen) := by show _ ≤ _; rw [← Hb1l.out, ← Hb2l.out]; unfold maxLen; omega
  have M3' : Hid (b1.length + b2.length ≤ 140737488355328) := by show _ ≤ _; rw [← Hb1l.out, ← Hb2l.out]; omega
  have M3l : Hid (5 = b1.length + b2.length) := by show _ = _; rw [← Hb1l.out, ← Hb2l.out]
  clear h2 hq2 hu2 hb2
  go_wp2_with ((with_reducible refine wpList_append_el (o := ⟨some 22, _, _, _, _, _⟩) _ ?_ (.tmp 17) (.tmp 21) ?_ (.slice (some ⟨w.heap.size, 0, none⟩) 1 1) 1 b1 b2 ?_ Hb1l.out HO2.out.own (.slice l2 4 c2) ?_ HE2.out M3.out M3'.out 5 M3l.out ?_); rfl; rfl; rfl; rfl; intro l3 c3 w3 Hown3 Hg3 Ha3)
  -- THE STEPS (genrefpack.py)
  obtain ⟨hq3, hv3, hu3, hn3⟩ := HO2.out.app M3l.out Hown3.out Hg3.out Ha3.out HU2.out
  have HO3 := Lib.hid hq3
  have HU3 := Lib.hid hu3
  clear hq3 hv3 hu3 hn3 Hown3 Hg3 Ha3
  obtain ⟨q3, hq3⟩ : ∃ x, x = b1 ++ b2 := ⟨_, rfl⟩
  rw [← hq3] at HO3
  have Hq3 := Lib.hid hq3
  clear hq3
  refine (refcrc_any l3 5 c3 q3 w3 HO3.out.sl (by omega)).mono ?_
  rintro e w4 ⟨rfl, rfl⟩
  obtain ⟨X, hX⟩ : ∃ x, x = U (crc q3) := ⟨_, rfl⟩
  have hX0 : 0 ≤ X := by rw [hX]; exact U_lo _
  have hX1 : X < 4294967296 := by rw [hX]; exact U_hi _
  rw [← hX]
  have HX := Lib.hid hX
  clear hX
  go_wp2_with fail
  refine (low_any X 4 w3 (by omega) (by omega) (by decide) (by decide)).mono ?_
  rintro e w5 h5
  obtain ⟨b5, hb5⟩ : ∃ x, x = be X 4 := ⟨_, rfl⟩
  rw [← hb5] at h5
  have Hb5 := Lib.hid hb5
  have Hb5l : Hid (4 = b5.length) := by show _ = _; rw [hb5, be_len]
  obtain ⟨l5, c5, rfl, hq5, hu5⟩ := Nw.of 4 Hb5l.out h5
  have HQ5 := Lib.hid hq5
  have HX5 := Lib.hid hu5
  have HU5 : Hid (Upd (fun _ => False) w w5) := HU3.out.trans (hu5.mono fun _ _ e => e.elim)
  have HE5 : Hid (El w5 (.slice l5 4 c5) b5) := El.of_sl hq5.sl
  have HO5a := Lib.hid (HO3.out.upd HX5.out (fun _ _ => id))
  clear h5 hq5 hu5 hb5
  obtain ⟨q6, hq6⟩ : ∃ x, x = q3 ++ b5 := ⟨_, rfl⟩
  have Hq6 := Lib.hid hq6
  have Hq6l : Hid (9 = q6.length) := by show _ = _; rw [hq6, List.length_append, ← HO5a.out.len, ← Hb5l.out]
  clear hq6
  obtain ⟨q7, hq7⟩ : ∃ x, x = q6 ++ p := ⟨_, rfl⟩
  have Hq7 := Lib.hid hq7
  clear hq7
  have M6 : Hid (q3.length + b5.length ≤ maxLen) := by show _ ≤ _; rw [← HO5a.out.len, ← Hb5l.out]; unfold maxLen; omega
  have M6' : Hid (q3.length + b5.length ≤ 140737488355328) := by show _ ≤ _; rw [← HO5a.out.len, ← Hb5l.out]; omega
  have M6l : Hid (9 = q3.length + b5.length) := by show _ = _; rw [← HO5a.out.len, ← Hb5l.out]
  have M7 : Hid (q6.length + p.length ≤ maxLen) := by show _ ≤ _; rw [← Hq6l.out, ← Hml.out]; unfold maxLen; omega
  have M7' : Hid (q6.length + p.length ≤ 140737488355328) := by show _ ≤ _; rw [← Hq6l.out, ← Hml.out]; omega
  have M7l : Hid (9 + m = q6.length + p.length) := by show _ = _; rw [← Hq6l.out, ← Hml.out]
  go_wp2_with (first
    | ((with_reducible refine wpList_append_el (o := ⟨some 28, _, _, _, _, _⟩) _ ?_ (.tmp 23) (.tmp 27) ?_ (.slice l3 5 c3) 5 q3 b5 ?_ HO5a.out.len HO5a.out.own (.slice l5 4 c5) ?_ HE5.out M6.out M6'.out 9 M6l.out ?_); rfl; rfl; rfl; rfl; intro l6 c6 w6 Hown6 Hg6 Ha6; have HO6 : Hid (Nw w w6 (.slice l6 9 c6) 9 q6) := (by show Nw _ _ _ _ _; rw [Hq6.out]; exact (HO5a.out.app M6l.out Hown6.out Hg6.out Ha6.out HU5.out).1); have HU6 : Hid (Upd (fun _ => False) w w6) := (HO5a.out.app M6l.out Hown6.out Hg6.out Ha6.out HU5.out).2.2.1; have HE6 : Hid (El w6 (.slice ao m cap) p) := Hs.out.upd HU6.out (fun _ _ _ => id))
    | ((with_reducible refine wpList_append_el (o := ⟨some 31, _, _, _, _, _⟩) _ ?_ (.tmp 29) (.tmp 30) ?_ (.slice l6 9 c6) 9 q6 p ?_ Hq6l.out HO6.out.own (.slice ao m cap) ?_ HE6.out M7.out M7'.out (9 + m) M7l.out ?_); rfl; rfl; rfl; rfl; intro l7 c7 w7 Hown7 Hg7 Ha7))
  obtain ⟨hq7, _, hu7, _⟩ := HO6.out.app M7l.out Hown7.out Hg7.out Ha7.out HU6.out
  rw [← Hq7.out] at hq7
  have HO7 := Lib.hid hq7
  have HU7 := Lib.hid hu7
  clear hq7 hu7 Hown7 Hg7 Ha7 Hown6 Hg6 Ha6
  refine (low_any n 8 w7 (by omega) (by omega) (by decide) (by decide)).mono ?_
  rintro e w8 h8
  obtain ⟨b8, hb8⟩ : ∃ x, x = be n 8 := ⟨_, rfl⟩
  rw [← hb8] at h8
  have Hb8 := Lib.hid hb8
  have Hb8l : Hid (8 = b8.length) := by show _ = _; rw [hb8, be_len]
  obtain ⟨l8, c8, rfl, hq8, hu8⟩ := Nw.of 8 Hb8l.out h8
  have HQ8 := Lib.hid hq8
  have HX8 := Lib.hid hu8
  have HU8 : Hid (Upd (fun _ => False) w w8) := HU7.out.trans (hu8.mono fun _ _ e => e.elim)
  have HE8 : Hid (El w8 (.slice l8 8 c8) b8) := El.of_sl hq8.sl
  have HO8a := Lib.hid (HO7.out.upd HX8.out (fun _ _ => id))
  clear h8 hq8 hu8 hb8
  have HQ8w : Hid (Nw w w8 (.slice l8 8 c8) 8 b8) := HQ8.out.weak HU7.out.size
  have HE8p : Hid (El w8 (.slice ao m cap) p) := Hs.out.upd HU8.out (fun _ _ _ => id)
  have M9 : Hid (b8.length + p.length ≤ maxLen) := by show _ ≤ _; rw [← HQ8w.out.len, ← Hml.out]; unfold maxLen; omega
  have M9' : Hid (b8.length + p.length ≤ 140737488355328) := by show _ ≤ _; rw [← HQ8w.out.len, ← Hml.out]; omega
  have M9l : Hid (8 + m = b8.length + p.length) := by show _ = _; rw [← HQ8w.out.len, ← Hml.out]
  go_wp2_with ((with_reducible refine wpList_append_el (o := ⟨some 36, _, _, _, _, _⟩) _ ?_ (.tmp 34) (.tmp 35) ?_ (.slice l8 8 c8) 8 b8 p ?_ HQ8w.out.len HQ8w.out.own (.slice ao m cap) ?_ HE8p.out M9.out M9'.out (8 + m) M9l.out ?_); rfl; rfl; rfl; rfl; intro l9 c9 w9 Hown9 Hg9 Ha9)
  obtain ⟨hq9, hv9, hu9, hn9⟩ := HQ8w.out.app M9l.out Hown9.out Hg9.out Ha9.out HU8.out
  have HO9 := Lib.hid hq9
  have HV9 := Lib.hid hv9
  have HU9 := Lib.hid hu9
  clear hq9 hv9 hu9 hn9 Hown9 Hg9 Ha9
  have HO9a : Hid (Nw w w9 (.slice l7 (9 + m) c7) (9 + m) q7) := HO8a.out.upd HV9.out (fun k hk e => by have := (HO7.out.own.lt k hk).2; have := HQ8.out.new k e; omega)
  obtain ⟨q9, hq9⟩ : ∃ x, x = b8 ++ p := ⟨_, rfl⟩
  rw [← hq9] at HO9
  have Hq9 := Lib.hid hq9
  clear hq9
  refine (refcrc_any l9 (8 + m) c9 q9 w9 HO9.out.sl (by omega)).mono ?_
  rintro e w10 ⟨rfl, rfl⟩
  obtain ⟨Y, hY⟩ : ∃ x, x = U (crc q9) := ⟨_, rfl⟩
  have hY0 : 0 ≤ Y := by rw [hY]; exact U_lo _
  have hY1 : Y < 4294967296 := by rw [hY]; exact U_hi _
  rw [← hY]
  have HY := Lib.hid hY
  clear hY
  go_wp2_with fail
  refine (low_any Y 4 w9 (by omega) (by omega) (by decide) (by decide)).mono ?_
  rintro e w10 h10
  obtain ⟨b10, hb10⟩ : ∃ x, x = be Y 4 := ⟨_, rfl⟩
  rw [← hb10] at h10
  have Hb10 := Lib.hid hb10
  have Hb10l : Hid (4 = b10.length) := by show _ = _; rw [hb10, be_len]
  obtain ⟨l10, c10, rfl, hq10, hu10⟩ := Nw.of 4 Hb10l.out h10
  have HQ10 := Lib.hid hq10
  have HX10 := Lib.hid hu10
  have HU10 : Hid (Upd (fun _ => False) w w10) := HU9.out.trans (hu10.mono fun _ _ e => e.elim)
  have HE10 : Hid (El w10 (.slice l10 4 c10) b10) := El.of_sl hq10.sl
  have HO10a := Lib.hid (HO9a.out.upd HX10.out (fun _ _ => id))
  clear h10 hq10 hu10 hb10
  have M11 : Hid (q7.length + b10.length ≤ maxLen) := by show _ ≤ _; rw [← HO10a.out.len, ← Hb10l.out]; unfold maxLen; omega
  have M11' : Hid (q7.length + b10.length ≤ 140737488355328) := by show _ ≤ _; rw [← HO10a.out.len, ← Hb10l.out]; omega
  have M11l : Hid (9 + m + 4 = q7.length + b10.length) := by show _ = _; rw [← HO10a.out.len, ← Hb10l.out]
  go_wp2_with ((with_reducible refine wpList_append_el (o := ⟨some 42, _, _, _, _, _⟩) _ ?_ (.tmp 37) (.tmp 41) ?_ (.slice l7 (9 + m) c7) (9 + m) q7 b10 ?_ HO10a.out.len HO10a.out.own (.slice l10 4 c10) ?_ HE10.out M11.out M11'.out (9 + m + 4) M11l.out ?_); rfl; rfl; rfl; rfl; intro l11 c11 w11 Hown11 Hg11 Ha11)
  obtain ⟨hq11, hv11, hu11, hn11⟩ := HO10a.out.app M11l.out Hown11.out Hg11.out Ha11.out HU10.out
  have HO11 := Lib.hid hq11
  have HV11 := Lib.hid hv11
  have HU11 := Lib.hid hu11
  clear hq11 hv11 hu11 hn11 Hown11 Hg11 Ha11
  have ef : q7 ++ b10 = frame n p := by
    rw [Hq7.out, Hq6.out, Hb10.out, HY.out, Hq9.out, Hb5.out, HX.out, Hq3.out, Hb1.out, Hb2.out, Hb8.out, crc_num, Hml.out]
    rfl
  have elen : 9 + m + 4 = (frame n p).length := by rw [frame_len, Hml.out]; omega
  have HP : Hid (PackAt n p w (.returned (.tuple #[.slice l11 (9 + m + 4) c11, .int .i64 0])) w11) := by
    refine .inl ⟨Hk.out, by have := Hml.out; omega, _, rfl, ?_, HU11.out⟩
    have h := HO11.out.base
    rw [ef] at h
    rw [← elen]
    exact h
  go_ret2
  exact HP.out

theorem rpack_el (n : Int) (ao : Option Addr) (m cap : Nat) (p : List UInt8) (w : World) (hs : El w (.slice ao m cap) p) (ho : p ≠ [] → ∀ k, own (.slice ao m cap) k → k < w.heap.size) :
    Calls Tryd.prog 9 #[.int .i64 n, .slice ao m cap] w (PackAt n p w) := by
  have hml : m = p.length := by obtain ⟨_, _, h, _⟩ := hs; injection h
  by_cases hk : nok n = true
  · by_cases hm : m ≤ 65536
    · exact rpack_some n ao m cap p w hk hm hs ho
    · exact rpack_long n ao m cap p w hk hml.symm (by omega)
  · exact rpack_number n ao m cap p w (by simpa using hk)
end Go.Proofs.YtgfdnljblfkhkabDoor.RefPack
