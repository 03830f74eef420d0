/-
  docketlaw2.DigestMacs, walked.
-/
import Derived.Test.YtmjadoicapfoeaaDoorRefMac
import Derived.Test.YtmjadoicapfoeaaDoorTurnX
import Derived.Test.YtmjadoicapfoeaaDoorHeldX
import Derived.Deep.DeepCutAuto
namespace Go.Proofs.YtmjadoicapfoeaaDoor.MacsW
open Go.RowKit Sha TurnW Mem RowW CopyW WriteW EqW SumH NewW BookW HeldW PadW MacW RefMac MixW
set_option linter.unusedVariables false
set_option linter.unusedSimpArgs false

theorem macM_len (k m : List UInt8) : (macM k m).length = 32 := by unfold macM; rfl
theorem macA_len (k m : List UInt8) : (macA k m).length = 32 := by unfold macA; split <;> exact macM_len _ _
def LX (g : Nat) (L : List UInt8) (w0 : World) (i : Value) (wr : World) : Prop :=
  ∃ j : Nat, j ≤ L.length ∧ i = .int .i64 j ∧ Row wr g 5 ((psub L 1 j).map u8) ∧ Upd (fun k => k = g) w0 wr
theorem psub_zero (L : List UInt8) (p : UInt8) : psub L p 0 = L := by simp [psub, xorAll]
theorem psub_len (L : List UInt8) (p : UInt8) (j : Nat) : (psub L p j).length = L.length := by simp [psub, xorAll]; omega
theorem psub_all (L : List UInt8) (p : UInt8) : psub L p L.length = xorAll L p := by simp [psub]
theorem xor_FL (L : List UInt8) : (xorAll (FL L 165) 1).take L.length = xorAll L 1 := by unfold xorAll FL; rw [List.map_append, List.take_left' (by simp)]
def PC (w2 : World) (L0 : List Value) (s7 : Value) (wx : World) : Prop :=
  ∃ DB, s7 = .pointer (some ⟨DB, 0, none⟩) ∧ w2.heap.size ≤ DB ∧ wx.heap[DB]? = some (.cells L0.toArray 23 (0, 0)) ∧ Upd (fun _ => False) w2 wx

set_option maxHeartbeats 16000000 in
set_option maxRecDepth 100000 in
theorem walk (ka : Option Addr) (kn kc : Nat) (ma : Option Addr) (mn mc : Nat) (key msg : List UInt8) (w : World) (hkey : Sl w (.slice ka kn kc) key) (hm : Sl w (.slice ma mn mc) msg)
    (hown : ∀ k, own (.slice ma mn mc) k → k < w.heap.size) (hownk : ∀ k, own (.slice ka kn kc) k → k < w.heap.size) (hlen : mn ≤ 140737488351232) (hklen : kn ≤ 140737488351232)
    (hk : Kw w) (hg : 0 < w.heap.size) :
    Calls Tryd.prog 5 #[.slice ka kn kc, .slice ma mn mc] w fun e w' => e = .returned (.bool true) ∧ Upd (fun _ => False) w w' := by
  obtain ⟨k2, hk2⟩ : ∃ x, x = xorAll key 1 := ⟨_, rfl⟩
  obtain ⟨m2, hm2⟩ : ∃ x, x = (tsub (FL msg 165) mn).take mn := ⟨_, rfl⟩
  obtain ⟨L0, hL0⟩ : ∃ L, L = (macA key msg).map u8 := ⟨_, rfl⟩
  obtain ⟨L1, hL1⟩ : ∃ L, L = (macA k2 msg).map u8 := ⟨_, rfl⟩
  obtain ⟨L2, hL2⟩ : ∃ L, L = (macA k2 m2).map u8 := ⟨_, rfl⟩
  have o0 : Hid (L0.toArray.all (·.oneCell') = true) := by show _ = _; rw [hL0]; exact dig_all _
  have i0 : Hid ((Tryd.prog.info? 23).map (·.size) = some L0.toArray.size) := by show _ = _; rw [hL0]; exact dig_size _ (macA_len _ _)
  have j0 : Hid ((Tryd.prog.info? 23).map (·.size) = some L0.length) := by show _ = _; rw [hL0]; exact dig_size' _ (macA_len _ _)
  have E0 := Lib.hid (fun w => show (Op.equalIn 10000 23 (.agg L0.toArray) (.agg L0.toArray)).run Tryd.prog w = .ok true w by rw [hL0, run_eq_digest _ _ (macA_len _ _) (macA_len _ _)]; simp)
  have HL0 := Lib.hid hL0
  have o1 : Hid (L1.toArray.all (·.oneCell') = true) := by show _ = _; rw [hL1]; exact dig_all _
  have i1 : Hid ((Tryd.prog.info? 23).map (·.size) = some L1.toArray.size) := by show _ = _; rw [hL1]; exact dig_size _ (macA_len _ _)
  have j1 : Hid ((Tryd.prog.info? 23).map (·.size) = some L1.length) := by show _ = _; rw [hL1]; exact dig_size' _ (macA_len _ _)
  have E1 := Lib.hid (fun w => show (Op.equalIn 10000 23 (.agg L1.toArray) (.agg L1.toArray)).run Tryd.prog w = .ok true w by rw [hL1, run_eq_digest _ _ (macA_len _ _) (macA_len _ _)]; simp)
  have HL1 := Lib.hid hL1
  have o2 : Hid (L2.toArray.all (·.oneCell') = true) := by show _ = _; rw [hL2]; exact dig_all _
  have i2 : Hid ((Tryd.prog.info? 23).map (·.size) = some L2.toArray.size) := by show _ = _; rw [hL2]; exact dig_size _ (macA_len _ _)
  have j2 : Hid ((Tryd.prog.info? 23).map (·.size) = some L2.length) := by show _ = _; rw [hL2]; exact dig_size' _ (macA_len _ _)
  have E2 := Lib.hid (fun w => show (Op.equalIn 10000 23 (.agg L2.toArray) (.agg L2.toArray)).run Tryd.prog w = .ok true w by rw [hL2, run_eq_digest _ _ (macA_len _ _) (macA_len _ _)]; simp)
  have HL2 := Lib.hid hL2
  have l0 : Hid (AD.size = L0.toArray.size) := by show _ = _; rw [hL0]; exact dig_old _ (macA_len _ _)
  have hkn : kn = key.length := by obtain ⟨_, _, h, _⟩ := hkey; injection h
  have hmn : mn = msg.length := by obtain ⟨_, _, h, _⟩ := hm; injection h
  have HKn := Lib.hid hkn
  have HMn := Lib.hid hmn
  have Hk2 := Lib.hid hk2
  have Hm2 := Lib.hid hm2
  have Hk2l : Hid (k2.length = kn) := by show _ = _; rw [hk2, hkn]; simp [xorAll]
  have Hm2l : Hid (m2.length = mn) := by show _ = _; rw [hm2, List.length_take, tsub_len, FL_len, hmn]; omega
  have Hkey := Lib.hid hkey
  have Hmsg := Lib.hid hm
  have Hown := Lib.hid hown
  have Hownk := Lib.hid hownk
  have Hk := Lib.hid hk
  have Hg := Lib.hid hg
  have hz := zeroD
  have hnck : (kn : Int) ≤ (kn : Int) + 80 := by omega
  have hncm : (mn : Int) ≤ (mn : Int) + 80 := by omega
  have HR1 := Lib.hid (roomy_any ka kn kc key 165 w hkey (by omega))
  have HR2 := Lib.hid (fun w' (hu : Upd (fun _ => False) w w') => roomy_any ma mn mc msg 165 w' (hm.upd hu (fun _ _ => id)) (by omega))
  -- digest.Mac of what lies at gk and gm
  have HMc := Lib.hid (fun (gk gm : Nat) (k m : List UInt8) (w' : World) (hu : Upd (fun _ => False) w w') (hgk : gk < w'.heap.size) (hgm : gm < w'.heap.size) (hks : Sl w' (.slice (some ⟨gk, 0, none⟩) kn (kn + 80)) k) (hms : Sl w' (.slice (some ⟨gm, 0, none⟩) mn (mn + 80)) m)
    (hkl : k.length = kn) (hml : m.length = mn) =>
    mac_any (some ⟨gk, 0, none⟩) kn (kn + 80) (.slice (some ⟨gm, 0, none⟩) mn (mn + 80)) k m w' hks hms (fun b hb => by have := own_at hb; omega) (fun b hb => by have := own_at hb; omega) (Hk.out.upd hu id) (by have := Hg.out; have := hu.size; omega) (by omega) (by omega))
  clear hk2 hm2 hL0 hL1 hL2 hkn hmn hkey hm hown hownk hk hg
  go_enter Tryd.func5, Tryd.ntmps5
  go_wp2_with fail
  refine HR1.out.mono ?_
  rintro e w1 ⟨gk, rfl, hgk, hr1, hu1⟩
  have HK1 := Lib.hid hr1
  have HU1 := Lib.hid hu1
  have hgl1 : gk < w1.heap.size := hr1.lt
  clear hr1 hu1
  go_wp2_with fail
  refine (HR2.out w1 HU1.out).mono ?_
  rintro e w2 ⟨gm, rfl, hgm, hr2, hu2⟩
  have HM2 := Lib.hid hr2
  have HU2' := Lib.hid hu2
  have hgl2 : gm < w2.heap.size := hr2.lt
  clear hr2 hu2
  have HK2 := Lib.hid (HK1.out.upd HU2'.out id)
  have HU2 : Hid (Upd (fun _ => False) w w2) := HU1.out.trans (HU2'.out.mono (fun _ _ h => h.elim))
  have hs2 : w1.heap.size ≤ w2.heap.size := HU2'.out.size
  have hgkm : gk < gm := by omega
  have HKs := Lib.hid (fun w' (h : Row w' gk 5 ((FL key 165).map u8)) => (show Sl w' (.slice (some ⟨gk, 0, none⟩) kn (kn + 80)) key from by
    have h2 := Sl.of_row (n := kn) (cap := kn + 80) h (by rw [FL_len, ← HKn.out]; omega) (by omega) (by unfold maxLen; omega)
    rw [HKn.out, FL_take] at h2
    rw [HKn.out]
    exact h2))
  have HMs := Lib.hid (fun w' (h : Row w' gm 5 ((FL msg 165).map u8)) => (show Sl w' (.slice (some ⟨gm, 0, none⟩) mn (mn + 80)) msg from by
    have h2 := Sl.of_row (n := mn) (cap := mn + 80) h (by rw [FL_len, ← HMn.out]; omega) (by omega) (by unfold maxLen; omega)
    rw [HMn.out, FL_take] at h2
    rw [HMn.out]
    exact h2))
  have HC3 := Lib.hid (fun w' (h : Upd (fun _ => False) w2 w') => HMc.out gk gm key msg w' (HU2.out.trans (h.mono (fun _ _ e => e.elim))) (by have := h.size; omega) (by have := h.size; omega) (HKs.out w' (HK2.out.upd h id)) (HMs.out w' (HM2.out.upd h id)) HKn.out.symm HMn.out.symm)
  rw [← HL0.out] at HC3
  go_upto_region 3 with (fail)
  go_cut [7] (fun s7 wx => PC w2 L0 s7 wx)
  case first =>
    have HS_w2_0 : Hid (Upd (fun _ => False) w2 w2.drew) := (Upd.refl _ _).drew
    refine wp_region_held_drew (S := Upd (fun _ => False) w2) (by kernel_rfl) HS_w2_0.out (fun _ => ?_)
    refine wpAnyH_take (i := 0) (oi := ⟨some 15, _, _, _, _, _⟩) (v := .slice (some ⟨gk, 0, none⟩) (kn + 80) (kn + 80)) rfl (by kernel_rfl) (by kernel_rfl) (by kernel_rfl) (fun _ _ _ h => h) (Or.inl ⟨by rfl, fun w hS => by go_simp⟩) HS_w2_0.out ?_
    try simp only [Act.put, List.setIfInBounds_toArray, List.set_cons_zero, List.set_cons_succ]
    refine wpAnyH_take (i := 1) (oi := ⟨some 16, _, _, _, _, _⟩) (v := .slice ka kn kc) rfl (by kernel_rfl) (by kernel_rfl) (by kernel_rfl) (fun _ _ _ h => h) (Or.inl ⟨by rfl, fun w hS => by go_simp⟩) HS_w2_0.out ?_
    try simp only [Act.put, List.setIfInBounds_toArray, List.set_cons_zero, List.set_cons_succ]
    refine wpAnyH_take (i := 2) (oi := ⟨some 17, _, _, _, _, _⟩) (v := .int .i64 (kn : Int)) rfl (by kernel_rfl) (by kernel_rfl) (by kernel_rfl) (fun _ _ _ h => h) (Or.inl ⟨by rfl, fun w hS => by go_simp⟩) HS_w2_0.out ?_
    try simp only [Act.put, List.setIfInBounds_toArray, List.set_cons_zero, List.set_cons_succ]
    refine wpAnyH_take (i := 3) (oi := ⟨some 18, _, _, _, _, _⟩) (v := .slice (some ⟨gk, 0, none⟩) kn (kn + 80)) rfl (by kernel_rfl) (by kernel_rfl) (by kernel_rfl) (fun _ _ _ h => h) (Or.inl ⟨by rfl, fun w hS => by go_simp⟩) HS_w2_0.out ?_
    try simp only [Act.put, List.setIfInBounds_toArray, List.set_cons_zero, List.set_cons_succ]
    refine wpAnyH_take (i := 4) (oi := ⟨some 19, _, _, _, _, _⟩) (v := .slice (some ⟨gm, 0, none⟩) (mn + 80) (mn + 80)) rfl (by kernel_rfl) (by kernel_rfl) (by kernel_rfl) (fun _ _ _ h => h) (Or.inl ⟨by rfl, fun w hS => by go_simp⟩) HS_w2_0.out ?_
    try simp only [Act.put, List.setIfInBounds_toArray, List.set_cons_zero, List.set_cons_succ]
    refine wpAnyH_take (i := 5) (oi := ⟨some 20, _, _, _, _, _⟩) (v := .slice ma mn mc) rfl (by kernel_rfl) (by kernel_rfl) (by kernel_rfl) (fun _ _ _ h => h) (Or.inl ⟨by rfl, fun w hS => by go_simp⟩) HS_w2_0.out ?_
    try simp only [Act.put, List.setIfInBounds_toArray, List.set_cons_zero, List.set_cons_succ]
    refine wpAnyH_take (i := 6) (oi := ⟨some 21, _, _, _, _, _⟩) (v := .int .i64 (mn : Int)) rfl (by kernel_rfl) (by kernel_rfl) (by kernel_rfl) (fun _ _ _ h => h) (Or.inl ⟨by rfl, fun w hS => by go_simp⟩) HS_w2_0.out ?_
    try simp only [Act.put, List.setIfInBounds_toArray, List.set_cons_zero, List.set_cons_succ]
    refine wpAnyH_take (i := 7) (oi := ⟨some 22, _, _, _, _, _⟩) (v := .slice (some ⟨gm, 0, none⟩) mn (mn + 80)) rfl (by kernel_rfl) (by kernel_rfl) (by kernel_rfl) (fun _ _ _ h => h) (Or.inl ⟨by rfl, fun w hS => by go_simp⟩) HS_w2_0.out ?_
    try simp only [Act.put, List.setIfInBounds_toArray, List.set_cons_zero, List.set_cons_succ]
    refine wpAnyH_ready (rs := [8, 9]) (by kernel_rfl) (by simp) ?_
    refine AllReadyH.cons rfl (fun K hK => ?_) (AllReadyH.cons rfl (fun K hK => ?_) AllReadyH.nil)
    · go_simp
      refine (HC3.out w2.drew HS_w2_0.out).mono ?_
      rintro e wc ⟨rfl, hu_⟩
      have HSc : Hid (Upd (fun _ => False) w2 wc) := HS_w2_0.out.trans (hu_.mono (fun _ _ h => h.elim))
      clear hu_
      refine hK.out _ _ HSc.out (fun hHeld => ?_)
      clear hK K hHeld
      try simp only [Act.put, List.setIfInBounds_toArray, List.set_cons_zero, List.set_cons_succ]
      refine wpAnyH_ready (rs := [9]) (by kernel_rfl) (by simp) ?_
      refine AllReadyH.cons rfl (fun K hK => ?_) AllReadyH.nil
      go_simp
      obtain ⟨DB, hDB⟩ : ∃ x, x = wc.heap.size := ⟨_, rfl⟩
      obtain ⟨wa, hwa⟩ : ∃ x, x = (wc.alloc (.cells AD 23)) := ⟨_, rfl⟩
      rw [← hwa]
      have HRa : Hid (wa.heap[DB]? = some (.cells AD 23 (0, 0))) := by show _ = _; rw [hwa, hDB]; exact heap_alloc_new _ _
      have HSa : Hid (Upd (fun _ => False) w2 wa) := by show Upd _ _ _; rw [hwa]; exact HSc.out.alloc _
      have hdb : w2.heap.size ≤ DB := by rw [hDB]; exact HSc.out.size
      try rw [← hDB]
      have HDBe := Lib.hid hDB
      clear hwa hDB
      refine hK.out _ _ HSa.out (fun hHeld => ?_)
      clear hK K hHeld
      try simp only [Act.put, List.setIfInBounds_toArray, List.set_cons_zero, List.set_cons_succ]
      refine wpAnyH_ready (rs := [10]) (by kernel_rfl) (by simp) ?_
      refine AllReadyH.cons rfl (fun K hK => ?_) AllReadyH.nil
      rw [if_pos (by rfl)]
      refine wp_store_row 23 (.tmp 7) (.tmp 23) rfl DB L0.toArray (by first | rfl | (rw [HDBe.out]; rfl)) rfl 23 AD HRa.out i0.out l0.out o0.out ?_
      have Hg6 := Lib.hid (setRow_heap _ _ AD L0.toArray _ _ HRa.out)
      have Hu6 : Hid (Upd (fun k => k = DB) wa (wa.setRow DB L0.toArray)) := Upd.setRow (Upd.refl _ _) _ L0.toArray (.inl rfl)
      generalize wa.setRow DB L0.toArray = w6 at Hg6 Hu6 ⊢
      have HSf : Hid (Upd (fun _ => False) w2 w6) := HSa.out.trans (Hu6.out.mono (fun k _ e => .inr (by omega)))
      refine hK.out _ _ HSf.out (fun hHeld => ?_)
      clear hK K hHeld
      try simp only [Act.put, List.setIfInBounds_toArray, List.set_cons_zero, List.set_cons_succ]
      refine wpAnyH_done (by kernel_rfl) ?_ _
      go_wp2_with fail
      go_meet
      exact ⟨DB, by first | rfl | (rw [HDBe.out]; rfl), hdb, Hg6.out, HSf.out⟩
    · go_simp
      obtain ⟨DB, hDB⟩ : ∃ x, x = w2.heap.size := ⟨_, rfl⟩
      obtain ⟨wa, hwa⟩ : ∃ x, x = (w2.alloc (.cells AD 23)).drew := ⟨_, rfl⟩
      rw [← hwa]
      have HRa : Hid (wa.heap[DB]? = some (.cells AD 23 (0, 0))) := by show _ = _; rw [hwa, hDB]; exact heap_alloc_new _ _
      have HSa : Hid (Upd (fun _ => False) w2 wa) := by show Upd _ _ _; rw [hwa]; exact ((Upd.refl _ w2).alloc _).drew
      have hdb : w2.heap.size ≤ DB := by rw [hDB]; exact Nat.le_refl _
      try rw [← hDB]
      have HDBe := Lib.hid hDB
      clear hwa hDB
      refine hK.out _ _ HSa.out (fun hHeld => ?_)
      clear hK K hHeld
      try simp only [Act.put, List.setIfInBounds_toArray, List.set_cons_zero, List.set_cons_succ]
      refine wpAnyH_ready (rs := [8]) (by kernel_rfl) (by simp) ?_
      refine AllReadyH.cons rfl (fun K hK => ?_) AllReadyH.nil
      go_simp
      refine (HC3.out wa HSa.out).mono ?_
      rintro e wc ⟨rfl, hu_⟩
      have HSc : Hid (Upd (fun _ => False) w2 wc) := HSa.out.trans (hu_.mono (fun _ _ h => h.elim))
      have HRa' : Hid (wc.heap[DB]? = some (.cells AD 23 (0, 0))) := (hu_.block _ (lt_of_block HRa.out) id).trans HRa.out
      clear HRa
      have HRa := HRa'
      clear hu_
      refine hK.out _ _ HSc.out (fun hHeld => ?_)
      clear hK K hHeld
      try simp only [Act.put, List.setIfInBounds_toArray, List.set_cons_zero, List.set_cons_succ]
      refine wpAnyH_ready (rs := [10]) (by kernel_rfl) (by simp) ?_
      refine AllReadyH.cons rfl (fun K hK => ?_) AllReadyH.nil
      rw [if_pos (by rfl)]
      refine wp_store_row 23 (.tmp 7) (.tmp 23) rfl DB L0.toArray (by first | rfl | (rw [HDBe.out]; rfl)) rfl 23 AD HRa.out i0.out l0.out o0.out ?_
      have Hg6 := Lib.hid (setRow_heap _ _ AD L0.toArray _ _ HRa.out)
      have Hu6 : Hid (Upd (fun k => k = DB) wc (wc.setRow DB L0.toArray)) := Upd.setRow (Upd.refl _ _) _ L0.toArray (.inl rfl)
      generalize wc.setRow DB L0.toArray = w6 at Hg6 Hu6 ⊢
      have HSf : Hid (Upd (fun _ => False) w2 w6) := HSc.out.trans (Hu6.out.mono (fun k _ e => .inr (by omega)))
      refine hK.out _ _ HSf.out (fun hHeld => ?_)
      clear hK K hHeld
      try simp only [Act.put, List.setIfInBounds_toArray, List.set_cons_zero, List.set_cons_succ]
      refine wpAnyH_done (by kernel_rfl) ?_ _
      go_wp2_with fail
      go_meet
      exact ⟨DB, by first | rfl | (rw [HDBe.out]; rfl), hdb, Hg6.out, HSf.out⟩
  case rest =>
    obtain ⟨DB, rfl, hdb, hgd, hu3⟩ := hcut
    obtain ⟨w3, hw3⟩ : ∃ x, x = wc := ⟨_, rfl⟩
    subst hw3
    have HG3 : Hid (w3.heap[DB]? = some (.cells L0.toArray 23 (0, 0))) := hgd
    have HU3 : Hid (Upd (fun _ => False) w w3) := HU2.out.trans (hu3.mono (fun _ _ h => h.elim))
    have HK3 := Lib.hid (HK2.out.upd hu3 id)
    have HM3 := Lib.hid (HM2.out.upd hu3 id)
    have hs3 : w2.heap.size ≤ w3.heap.size := hu3.size
    clear hgd hu3 HC3
    have HF3 := Lib.hid (fun w' (h : Upd (fun _ => False) w3 w') => refmac_any ka kn kc ma mn mc key msg w' (Hkey.out.upd (HU3.out.trans (h.mono (fun _ _ e => e.elim))) (fun _ _ => id)) (Hmsg.out.upd (HU3.out.trans (h.mono (fun _ _ e => e.elim))) (fun _ _ => id)) (fun k hk => by have := Hown.out k hk; have := HU3.out.size; have := h.size; omega) (fun k hk => by have := Hownk.out k hk; have := HU3.out.size; have := h.size; omega) hlen hklen)
    rw [← HL0.out] at HF3
    have HIk := Lib.hid (fun w' (h : Upd (fun _ => False) w3 w') => intact_any ⟨gk, 0, none⟩ (kn + 80) ka kn kc key 165 w' (by
      have h2 := Sl.row (cap := kn + 80) (HK3.out.upd h id) (by rw [FL_len, ← HKn.out]; omega) (by unfold maxLen; omega)
      rwa [FL_len, ← HKn.out] at h2) (Hkey.out.upd (HU3.out.trans (h.mono (fun _ _ e => e.elim))) (fun _ _ => id)) (by omega))
    have HIm := Lib.hid (fun w' (h : Upd (fun _ => False) w3 w') => intact_any ⟨gm, 0, none⟩ (mn + 80) ma mn mc msg 165 w' (by
      have h2 := Sl.row (cap := mn + 80) (HM3.out.upd h id) (by rw [FL_len, ← HMn.out]; omega) (by unfold maxLen; omega)
      rwa [FL_len, ← HMn.out] at h2) (Hmsg.out.upd (HU3.out.trans (h.mono (fun _ _ e => e.elim))) (fun _ _ => id)) (by omega))
    have q0 := E0.out
    go_wp2_with fail
    have HS_w3_0 : Hid (Upd (fun _ => False) w3 w3.drew) := (Upd.refl _ _).drew
    refine wp_region_held_drew (S := Upd (fun _ => False) w3) (by kernel_rfl) HS_w3_0.out (fun _ => ?_)
    refine wpAnyH_take (i := 0) rfl (by kernel_rfl) (by kernel_rfl) (by kernel_rfl) (fun _ _ _ h => h) (yieldsIf_load_mid (by rfl) _ _ rfl _ _ rfl L0 _ (fun w h => range_upd HG3.out h) Tryd.underlying23 rfl j0.out) HS_w3_0.out ?_
    try simp only [Act.put, List.setIfInBounds_toArray, List.set_cons_zero, List.set_cons_succ]
    refine wpAnyH_take (i := 1) (oi := ⟨some 25, _, _, _, _, _⟩) (v := .slice ka kn kc) rfl (by kernel_rfl) (by kernel_rfl) (by kernel_rfl) (fun _ _ _ h => h) (Or.inl ⟨by rfl, fun w hS => by go_simp⟩) HS_w3_0.out ?_
    try simp only [Act.put, List.setIfInBounds_toArray, List.set_cons_zero, List.set_cons_succ]
    refine wpAnyH_take (i := 2) (oi := ⟨some 26, _, _, _, _, _⟩) (v := .slice ma mn mc) rfl (by kernel_rfl) (by kernel_rfl) (by kernel_rfl) (fun _ _ _ h => h) (Or.inl ⟨by rfl, fun w hS => by go_simp⟩) HS_w3_0.out ?_
    try simp only [Act.put, List.setIfInBounds_toArray, List.set_cons_zero, List.set_cons_succ]
    refine wpAnyH_ready (rs := [3]) (by kernel_rfl) (by simp) ?_
    refine AllReadyH.cons rfl (fun K hK => ?_) AllReadyH.nil
    go_simp
    refine (HF3.out w3.drew HS_w3_0.out).mono ?_
    rintro e w4 ⟨rfl, hu_⟩
    have HS_w3_1 : Hid (Upd (fun _ => False) w3 w4) := HS_w3_0.out.trans (hu_.mono (fun _ _ h => h.elim))
    have HU_w4 := Lib.hid hu_
    clear hu_
    refine hK.out _ _ HS_w3_1.out (fun hHeld => ?_)
    clear hK K hHeld
    try simp only [Act.put, List.setIfInBounds_toArray, List.set_cons_zero, List.set_cons_succ]
    refine wpAnyH_take (i := 4) (oi := ⟨some 28, _, _, _, _, _⟩) (v := .bool false) rfl (by kernel_rfl) (by kernel_rfl) (by kernel_rfl) (fun _ _ _ h => h) (Or.inl ⟨by rfl, fun w hS => by go_simp⟩) HS_w3_1.out ?_
    try simp only [Act.put, List.setIfInBounds_toArray, List.set_cons_zero, List.set_cons_succ]
    refine wpAnyH_take (i := 5) (oi := ⟨some 29, _, _, _, _, _⟩) (v := .bool false) rfl (by kernel_rfl) (by kernel_rfl) (by kernel_rfl) (fun _ _ _ h => h) (Or.inl ⟨by rfl, fun w hS => by go_simp⟩) HS_w3_1.out ?_
    try simp only [Act.put, List.setIfInBounds_toArray, List.set_cons_zero, List.set_cons_succ]
    refine wpAnyH_take (i := 6) (oi := ⟨some 30, _, _, _, _, _⟩) (v := .slice (some ⟨gk, 0, none⟩) (kn + 80) (kn + 80)) rfl (by kernel_rfl) (by kernel_rfl) (by kernel_rfl) (fun _ _ _ h => h) (Or.inl ⟨by rfl, fun w hS => by go_simp⟩) HS_w3_1.out ?_
    try simp only [Act.put, List.setIfInBounds_toArray, List.set_cons_zero, List.set_cons_succ]
    refine wpAnyH_take (i := 7) (oi := ⟨some 31, _, _, _, _, _⟩) (v := .slice ka kn kc) rfl (by kernel_rfl) (by kernel_rfl) (by kernel_rfl) (fun _ _ _ h => h) (Or.inl ⟨by rfl, fun w hS => by go_simp⟩) HS_w3_1.out ?_
    try simp only [Act.put, List.setIfInBounds_toArray, List.set_cons_zero, List.set_cons_succ]
    refine wpAnyH_ready (rs := [8]) (by kernel_rfl) (by simp) ?_
    refine AllReadyH.cons rfl (fun K hK => ?_) AllReadyH.nil
    go_simp
    refine (HIk.out w4 HS_w3_1.out).mono ?_
    rintro e w5 ⟨rfl, hu_⟩
    have HS_w3_2 : Hid (Upd (fun _ => False) w3 w5) := HS_w3_1.out.trans (hu_.mono (fun _ _ h => h.elim))
    have HU_w5 := Lib.hid hu_
    clear hu_
    refine hK.out _ _ HS_w3_2.out (fun hHeld => ?_)
    clear hK K hHeld
    try simp only [Act.put, List.setIfInBounds_toArray, List.set_cons_zero, List.set_cons_succ]
    refine wpAnyH_take (i := 9) (oi := ⟨some 33, _, _, _, _, _⟩) (v := .bool false) rfl (by kernel_rfl) (by kernel_rfl) (by kernel_rfl) (fun _ _ _ h => h) (Or.inl ⟨by rfl, fun w hS => by go_simp⟩) HS_w3_2.out ?_
    try simp only [Act.put, List.setIfInBounds_toArray, List.set_cons_zero, List.set_cons_succ]
    refine wpAnyH_take (i := 10) (oi := ⟨some 34, _, _, _, _, _⟩) (v := .bool false) rfl (by kernel_rfl) (by kernel_rfl) (by kernel_rfl) (fun _ _ _ h => h) (Or.inl ⟨by rfl, fun w hS => by go_simp⟩) HS_w3_2.out ?_
    try simp only [Act.put, List.setIfInBounds_toArray, List.set_cons_zero, List.set_cons_succ]
    refine wpAnyH_take (i := 11) (oi := ⟨some 35, _, _, _, _, _⟩) (v := .bool false) rfl (by kernel_rfl) (by kernel_rfl) (by kernel_rfl) (fun _ _ _ h => h) (Or.inl ⟨by rfl, fun w hS => by go_simp⟩) HS_w3_2.out ?_
    try simp only [Act.put, List.setIfInBounds_toArray, List.set_cons_zero, List.set_cons_succ]
    refine wpAnyH_take (i := 12) (oi := ⟨some 36, _, _, _, _, _⟩) (v := .slice (some ⟨gm, 0, none⟩) (mn + 80) (mn + 80)) rfl (by kernel_rfl) (by kernel_rfl) (by kernel_rfl) (fun _ _ _ h => h) (Or.inl ⟨by rfl, fun w hS => by go_simp⟩) HS_w3_2.out ?_
    try simp only [Act.put, List.setIfInBounds_toArray, List.set_cons_zero, List.set_cons_succ]
    refine wpAnyH_take (i := 13) (oi := ⟨some 37, _, _, _, _, _⟩) (v := .slice ma mn mc) rfl (by kernel_rfl) (by kernel_rfl) (by kernel_rfl) (fun _ _ _ h => h) (Or.inl ⟨by rfl, fun w hS => by go_simp⟩) HS_w3_2.out ?_
    try simp only [Act.put, List.setIfInBounds_toArray, List.set_cons_zero, List.set_cons_succ]
    refine wpAnyH_ready (rs := [14]) (by kernel_rfl) (by simp) ?_
    refine AllReadyH.cons rfl (fun K hK => ?_) AllReadyH.nil
    go_simp
    refine (HIm.out w5 HS_w3_2.out).mono ?_
    rintro e w6 ⟨rfl, hu_⟩
    have HS_w3_3 : Hid (Upd (fun _ => False) w3 w6) := HS_w3_2.out.trans (hu_.mono (fun _ _ h => h.elim))
    have HU_w6 := Lib.hid hu_
    clear hu_
    refine hK.out _ _ HS_w3_3.out (fun hHeld => ?_)
    clear hK K hHeld
    try simp only [Act.put, List.setIfInBounds_toArray, List.set_cons_zero, List.set_cons_succ]
    refine wpAnyH_take (i := 15) (oi := ⟨some 39, _, _, _, _, _⟩) (v := .bool false) rfl (by kernel_rfl) (by kernel_rfl) (by kernel_rfl) (fun _ _ _ h => h) (Or.inl ⟨by rfl, fun w hS => by go_simp⟩) HS_w3_3.out ?_
    try simp only [Act.put, List.setIfInBounds_toArray, List.set_cons_zero, List.set_cons_succ]
    refine wpAnyH_take (i := 16) (oi := ⟨some 40, _, _, _, _, _⟩) (v := .bool false) rfl (by kernel_rfl) (by kernel_rfl) (by kernel_rfl) (fun _ _ _ h => h) (Or.inl ⟨by rfl, fun w hS => by go_simp⟩) HS_w3_3.out ?_
    try simp only [Act.put, List.setIfInBounds_toArray, List.set_cons_zero, List.set_cons_succ]
    refine wpAnyH_done (by kernel_rfl) ?_ _
    clear q0
    have HU6 : Hid (Upd (fun _ => False) w w6) := HU3.out.trans (HS_w3_3.out.mono (fun _ _ h => h.elim))
    have HK6 := Lib.hid (HK3.out.upd HS_w3_3.out id)
    have HM6 := Lib.hid (HM3.out.upd HS_w3_3.out id)
    have hs6 : w3.heap.size ≤ w6.heap.size := HS_w3_3.out.size
    clear HF3 HIk HIm HK3 HM3 HU3 HG3 HS_w3_0 HS_w3_1 HS_w3_2 HS_w3_3 HU_w4 HU_w5 HU_w6
    obtain ⟨FK, hFK⟩ : ∃ x, x = FL key 165 := ⟨_, rfl⟩
    have HFK := Lib.hid hFK
    have HFl : Hid (FK.length = kn + 80) := by show _ = _; rw [hFK, FL_len, ← HKn.out]
    have HL6 : Hid (LX gk FK w6 (.int .i64 0) w6) := ⟨0, Nat.zero_le _, rfl, by rw [psub_zero, hFK]; exact HK6.out, Upd.refl _ _⟩
    clear hFK HK6
    go_wp2
    go_loopw [8] (fun i wr => LX gk FK w6 i wr) (fun i _ => (kn + 80 - (intOf i).toNat))
    case atStart => exact HL6.out
    case round =>
      clear HL6
      obtain ⟨j, hj, rfl, hrow, hu⟩ := hrel
      have HR := Lib.hid hrow
      have HU := Lib.hid hu
      have hj' : j ≤ kn + 80 := by have := HFl.out; omega
      clear hrow hu hj
      by_cases hlt : j < kn + 80
      · have hltI : (j : Int) < (kn : Int) + 80 := by omega
        obtain ⟨c, hc⟩ : ∃ c, c = FK.getD j 0 := ⟨_, rfl⟩
        have c0 : wr.cell? ⟨gk, j, none⟩ = some (.int .u8 (c.toNat : Int)) := by
          rw [HR.out.cell, List.getElem?_map, psub_at FK 1 j (by rw [HFl.out]; exact hlt), ← hc]
          rfl
        have f0 := HR.out.frozen j
        have HC := Lib.hid hc
        have vx : bits .xor .u8 (c.toNat : Int) 1 = ((c ^^^ 1).toNat : Int) := RefMac.v_xor c 1
        clear hc
        go_wp2
        go_roundw
        case rel =>
          refine ⟨j + 1, by rw [HFl.out]; exact hlt, by go_num, ?_, HU.out.put _ _ (.inl rfl) _⟩
          rw [← psub_set FK 1 j (by rw [HFl.out]; exact hlt), List.map_set, ← HC.out]
          exact HR.out.set j _
        case measure => simp [intOf]; omega
      · obtain ⟨w7, hw7⟩ : ∃ x, x = wr := ⟨_, rfl⟩
        subst hw7
        have HK7 : Hid (Row w7 gk 5 ((xorAll FK 1).map Mem.u8)) := by
          have h := HR.out
          rw [show j = FK.length by rw [HFl.out]; omega, psub_all] at h
          exact h
        have HM7 := Lib.hid (HM6.out.upd HU.out (by omega))
        have HU7 : Hid (Upd (fun _ => False) w w7) := HU6.out.trans (HU.out.mono (fun k _ e => .inr (by omega)))
        have hs7 : w6.heap.size ≤ w7.heap.size := HU.out.size
        have HK2s : Hid (∀ w', Row w' gk 5 ((xorAll FK 1).map Mem.u8) → Sl w' (.slice (some ⟨gk, 0, none⟩) kn (kn + 80)) k2) := fun w' h => by
          have h2 := Sl.of_row (n := kn) (cap := kn + 80) h (by simp [xorAll, HFl.out]) (by omega) (by unfold maxLen; omega)
          rw [HFK.out, HKn.out, xor_FL, ← Hk2.out] at h2
          rw [HKn.out]
          exact h2
        have HSk7 := Lib.hid (HK2s.out w7 HK7.out)
        have Hr7 := Lib.hid (show kn ≤ 140737488355328 by omega)
        have hltI : ¬ (j : Int) < (kn : Int) + 80 := by omega
        clear HR HU HM6 HU6 hlt hj'
        go_wp2_with (at_builtin; refine wpList_copy_nil _ rfl _ _ rfl rfl kn k2 Hk2l.out.symm (.slice (some ⟨gk, 0, none⟩) kn (kn + 80)) rfl HSk7.out Hr7.out ?_; intro a9 c9 w8 HO8 HU8h Ho9)
        have HU8 : Hid (Upd (fun _ => False) w w8) := HU7.out.trans (HU8h.out.mono (fun _ _ h => h.elim))
        have HK8 := Lib.hid (HK7.out.upd HU8h.out id)
        have HM8 := Lib.hid (HM7.out.upd HU8h.out id)
        have hs8 : w7.heap.size ≤ w8.heap.size := HU8h.out.size
        have HSo8 : Hid (Sl w8 (.slice a9 kn c9) k2) := by
          have h := HO8.out
          have e := Hk2l.out
          rw [← e] at h ⊢
          exact Sl.of_own h
        have Ho9l : Hid (∀ k, own (.slice a9 kn c9) k → k < w8.heap.size) := own_lt HO8.out
        clear HK7 HM7 HU7 HSk7
        have HC8 := Lib.hid (fun w' (h : Upd (fun _ => False) w8 w') => HMc.out gk gm k2 msg w' (HU8.out.trans (h.mono (fun _ _ e => e.elim))) (by have := h.size; omega) (by have := h.size; omega) (HK2s.out w' (HK8.out.upd h id)) (HMs.out w' (HM8.out.upd h id)) Hk2l.out HMn.out.symm)
        have HF8 := Lib.hid (fun w' (h : Upd (fun _ => False) w8 w') => refmac_any a9 kn c9 ma mn mc k2 msg w' (HSo8.out.upd h (fun _ _ => id)) (Hmsg.out.upd (HU8.out.trans (h.mono (fun _ _ e => e.elim))) (fun _ _ => id)) (fun k hk => by have := Hown.out k hk; have := HU8.out.size; have := h.size; omega) (fun k hk => by have := Ho9l.out k hk; have := h.size; omega) hlen hklen)
        rw [← HL1.out] at HC8 HF8
        have q1 := E1.out
        go_wp2_with fail
        have HS_w8_0 : Hid (Upd (fun _ => False) w8 w8.drew) := (Upd.refl _ _).drew
        refine wp_region_held_drew (S := Upd (fun _ => False) w8) (by kernel_rfl) HS_w8_0.out (fun _ => ?_)
        refine wpAnyH_take (i := 0) (oi := ⟨some 60, _, _, _, _, _⟩) (v := .slice (some ⟨gk, 0, none⟩) (kn + 80) (kn + 80)) rfl (by kernel_rfl) (by kernel_rfl) (by kernel_rfl) (fun _ _ _ h => h) (Or.inl ⟨by rfl, fun w hS => by go_simp⟩) HS_w8_0.out ?_
        try simp only [Act.put, List.setIfInBounds_toArray, List.set_cons_zero, List.set_cons_succ]
        refine wpAnyH_take (i := 1) (oi := ⟨some 61, _, _, _, _, _⟩) (v := .slice ka kn kc) rfl (by kernel_rfl) (by kernel_rfl) (by kernel_rfl) (fun _ _ _ h => h) (Or.inl ⟨by rfl, fun w hS => by go_simp⟩) HS_w8_0.out ?_
        try simp only [Act.put, List.setIfInBounds_toArray, List.set_cons_zero, List.set_cons_succ]
        refine wpAnyH_take (i := 2) (oi := ⟨some 62, _, _, _, _, _⟩) (v := .int .i64 (kn : Int)) rfl (by kernel_rfl) (by kernel_rfl) (by kernel_rfl) (fun _ _ _ h => h) (Or.inl ⟨by rfl, fun w hS => by go_simp⟩) HS_w8_0.out ?_
        try simp only [Act.put, List.setIfInBounds_toArray, List.set_cons_zero, List.set_cons_succ]
        refine wpAnyH_take (i := 3) (oi := ⟨some 63, _, _, _, _, _⟩) (v := .slice (some ⟨gk, 0, none⟩) kn (kn + 80)) rfl (by kernel_rfl) (by kernel_rfl) (by kernel_rfl) (fun _ _ _ h => h) (Or.inl ⟨by rfl, fun w hS => by go_simp⟩) HS_w8_0.out ?_
        try simp only [Act.put, List.setIfInBounds_toArray, List.set_cons_zero, List.set_cons_succ]
        refine wpAnyH_take (i := 4) (oi := ⟨some 64, _, _, _, _, _⟩) (v := .slice (some ⟨gm, 0, none⟩) (mn + 80) (mn + 80)) rfl (by kernel_rfl) (by kernel_rfl) (by kernel_rfl) (fun _ _ _ h => h) (Or.inl ⟨by rfl, fun w hS => by go_simp⟩) HS_w8_0.out ?_
        try simp only [Act.put, List.setIfInBounds_toArray, List.set_cons_zero, List.set_cons_succ]
        refine wpAnyH_take (i := 5) (oi := ⟨some 65, _, _, _, _, _⟩) (v := .slice ma mn mc) rfl (by kernel_rfl) (by kernel_rfl) (by kernel_rfl) (fun _ _ _ h => h) (Or.inl ⟨by rfl, fun w hS => by go_simp⟩) HS_w8_0.out ?_
        try simp only [Act.put, List.setIfInBounds_toArray, List.set_cons_zero, List.set_cons_succ]
        refine wpAnyH_take (i := 6) (oi := ⟨some 66, _, _, _, _, _⟩) (v := .int .i64 (mn : Int)) rfl (by kernel_rfl) (by kernel_rfl) (by kernel_rfl) (fun _ _ _ h => h) (Or.inl ⟨by rfl, fun w hS => by go_simp⟩) HS_w8_0.out ?_
        try simp only [Act.put, List.setIfInBounds_toArray, List.set_cons_zero, List.set_cons_succ]
        refine wpAnyH_take (i := 7) (oi := ⟨some 67, _, _, _, _, _⟩) (v := .slice (some ⟨gm, 0, none⟩) mn (mn + 80)) rfl (by kernel_rfl) (by kernel_rfl) (by kernel_rfl) (fun _ _ _ h => h) (Or.inl ⟨by rfl, fun w hS => by go_simp⟩) HS_w8_0.out ?_
        try simp only [Act.put, List.setIfInBounds_toArray, List.set_cons_zero, List.set_cons_succ]
        refine wpAnyH_take (i := 9) (oi := ⟨some 69, _, _, _, _, _⟩) (v := .slice a9 kn c9) rfl (by kernel_rfl) (by kernel_rfl) (by kernel_rfl) (fun _ _ _ h => h) (Or.inl ⟨by rfl, fun w hS => by go_simp⟩) HS_w8_0.out ?_
        try simp only [Act.put, List.setIfInBounds_toArray, List.set_cons_zero, List.set_cons_succ]
        refine wpAnyH_take (i := 10) (oi := ⟨some 70, _, _, _, _, _⟩) (v := .slice ma mn mc) rfl (by kernel_rfl) (by kernel_rfl) (by kernel_rfl) (fun _ _ _ h => h) (Or.inl ⟨by rfl, fun w hS => by go_simp⟩) HS_w8_0.out ?_
        try simp only [Act.put, List.setIfInBounds_toArray, List.set_cons_zero, List.set_cons_succ]
        refine wpAnyH_ready (rs := [8]) (by kernel_rfl) (by simp) ?_
        refine AllReadyH.cons rfl (fun K hK => ?_) AllReadyH.nil
        go_simp
        refine (HC8.out w8.drew HS_w8_0.out).mono ?_
        rintro e w9 ⟨rfl, hu_⟩
        have HS_w8_1 : Hid (Upd (fun _ => False) w8 w9) := HS_w8_0.out.trans (hu_.mono (fun _ _ h => h.elim))
        have HU_w9 := Lib.hid hu_
        clear hu_
        refine hK.out _ _ HS_w8_1.out (fun hHeld => ?_)
        clear hK K hHeld
        try simp only [Act.put, List.setIfInBounds_toArray, List.set_cons_zero, List.set_cons_succ]
        refine wpAnyH_ready (rs := [11]) (by kernel_rfl) (by simp) ?_
        refine AllReadyH.cons rfl (fun K hK => ?_) AllReadyH.nil
        go_simp
        refine (HF8.out w9 HS_w8_1.out).mono ?_
        rintro e w10 ⟨rfl, hu_⟩
        have HS_w8_2 : Hid (Upd (fun _ => False) w8 w10) := HS_w8_1.out.trans (hu_.mono (fun _ _ h => h.elim))
        have HU_w10 := Lib.hid hu_
        clear hu_
        refine hK.out _ _ HS_w8_2.out (fun hHeld => ?_)
        clear hK K hHeld
        try simp only [Act.put, List.setIfInBounds_toArray, List.set_cons_zero, List.set_cons_succ]
        refine wpAnyH_take (i := 12) (oi := ⟨some 72, _, _, _, _, _⟩) (v := .bool false) rfl (by kernel_rfl) (by kernel_rfl) (by kernel_rfl) (fun _ _ _ h => h) (Or.inl ⟨by rfl, fun w hS => by go_simp⟩) HS_w8_2.out ?_
        try simp only [Act.put, List.setIfInBounds_toArray, List.set_cons_zero, List.set_cons_succ]
        refine wpAnyH_done (by kernel_rfl) ?_ _
        clear q1 HC8 HF8
        have HU10 : Hid (Upd (fun _ => False) w w10) := HU8.out.trans (HS_w8_2.out.mono (fun _ _ h => h.elim))
        have HK10 := Lib.hid (HK8.out.upd HS_w8_2.out id)
        have HM10 := Lib.hid (HM8.out.upd HS_w8_2.out id)
        have HSo10 := Lib.hid (HSo8.out.upd HS_w8_2.out (fun _ _ => id))
        have hs10 : w8.heap.size ≤ w10.heap.size := HS_w8_2.out.size
        have HTn := Lib.hid (TurnX.turned_in gm mn (mn + 80) (FL msg 165) w10 HM10.out (by rw [FL_len, ← HMn.out]; omega) (by omega) (by unfold maxLen; omega) (by omega))
        clear HS_w8_0 HS_w8_1 HS_w8_2 HU_w9 HU_w10 HK8 HM8 HSo8 HU8
        go_wp2_with fail
        refine HTn.out.mono ?_
        rintro e w11 ⟨v, rfl, hsv, _, hov, hr, hu⟩
        rw [← Hm2.out] at hsv
        obtain ⟨av, cv, hv⟩ := form hsv
        rw [Hm2l.out] at hv
        subst hv
        have HSv := Lib.hid hsv
        have Hov : Hid (∀ k, own (.slice av mn cv) k → k < w11.heap.size) := hov
        have HM11 := Lib.hid hr
        have HU11' := Lib.hid hu
        clear hsv hov hr hu
        have HU11 : Hid (Upd (fun _ => False) w w11) := HU10.out.trans (HU11'.out.mono (fun k _ e => .inr (by omega)))
        have HK11 := Lib.hid (HK10.out.upd HU11'.out (by omega))
        have HSo11 := Lib.hid (HSo10.out.upd HU11'.out (fun k hk e => by have := Ho9.out k hk; omega))
        have hs11 : w10.heap.size ≤ w11.heap.size := HU11'.out.size
        have HMs2 : Hid (∀ w', Row w' gm 5 ((tsub (FL msg 165) mn).map Mem.u8) → Sl w' (.slice (some ⟨gm, 0, none⟩) mn (mn + 80)) m2) := fun w' h => by
          have h2 := Sl.of_row (n := mn) (cap := mn + 80) h (by rw [tsub_len, FL_len, ← HMn.out]; omega) (by omega) (by unfold maxLen; omega)
          rw [← Hm2.out] at h2
          exact h2
        have HC11 := Lib.hid (fun w' (h : Upd (fun _ => False) w11 w') => HMc.out gk gm k2 m2 w' (HU11.out.trans (h.mono (fun _ _ e => e.elim))) (by have := h.size; omega) (by have := h.size; omega) (HK2s.out w' (HK11.out.upd h id)) (HMs2.out w' (HM11.out.upd h id)) Hk2l.out Hm2l.out)
        have HF11 := Lib.hid (fun w' (h : Upd (fun _ => False) w11 w') => refmac_any a9 kn c9 av mn cv k2 m2 w' (HSo11.out.upd h (fun _ _ => id)) (HSv.out.upd h (fun _ _ => id)) (fun k hk => by have := Hov.out k hk; have := h.size; omega) (fun k hk => by have := Ho9l.out k hk; have := h.size; omega) hlen hklen)
        rw [← HL2.out] at HC11 HF11
        have q2 := E2.out
        go_wp2_with fail
        have HS_w11_0 : Hid (Upd (fun _ => False) w11 w11.drew) := (Upd.refl _ _).drew
        refine wp_region_held_drew (S := Upd (fun _ => False) w11) (by kernel_rfl) HS_w11_0.out (fun _ => ?_)
        refine wpAnyH_take (i := 0) (oi := ⟨some 78, _, _, _, _, _⟩) (v := .slice (some ⟨gk, 0, none⟩) (kn + 80) (kn + 80)) rfl (by kernel_rfl) (by kernel_rfl) (by kernel_rfl) (fun _ _ _ h => h) (Or.inl ⟨by rfl, fun w hS => by go_simp⟩) HS_w11_0.out ?_
        try simp only [Act.put, List.setIfInBounds_toArray, List.set_cons_zero, List.set_cons_succ]
        refine wpAnyH_take (i := 1) (oi := ⟨some 79, _, _, _, _, _⟩) (v := .slice ka kn kc) rfl (by kernel_rfl) (by kernel_rfl) (by kernel_rfl) (fun _ _ _ h => h) (Or.inl ⟨by rfl, fun w hS => by go_simp⟩) HS_w11_0.out ?_
        try simp only [Act.put, List.setIfInBounds_toArray, List.set_cons_zero, List.set_cons_succ]
        refine wpAnyH_take (i := 2) (oi := ⟨some 80, _, _, _, _, _⟩) (v := .int .i64 (kn : Int)) rfl (by kernel_rfl) (by kernel_rfl) (by kernel_rfl) (fun _ _ _ h => h) (Or.inl ⟨by rfl, fun w hS => by go_simp⟩) HS_w11_0.out ?_
        try simp only [Act.put, List.setIfInBounds_toArray, List.set_cons_zero, List.set_cons_succ]
        refine wpAnyH_take (i := 3) (oi := ⟨some 81, _, _, _, _, _⟩) (v := .slice (some ⟨gk, 0, none⟩) kn (kn + 80)) rfl (by kernel_rfl) (by kernel_rfl) (by kernel_rfl) (fun _ _ _ h => h) (Or.inl ⟨by rfl, fun w hS => by go_simp⟩) HS_w11_0.out ?_
        try simp only [Act.put, List.setIfInBounds_toArray, List.set_cons_zero, List.set_cons_succ]
        refine wpAnyH_take (i := 4) (oi := ⟨some 82, _, _, _, _, _⟩) (v := .slice (some ⟨gm, 0, none⟩) (mn + 80) (mn + 80)) rfl (by kernel_rfl) (by kernel_rfl) (by kernel_rfl) (fun _ _ _ h => h) (Or.inl ⟨by rfl, fun w hS => by go_simp⟩) HS_w11_0.out ?_
        try simp only [Act.put, List.setIfInBounds_toArray, List.set_cons_zero, List.set_cons_succ]
        refine wpAnyH_take (i := 5) (oi := ⟨some 83, _, _, _, _, _⟩) (v := .slice ma mn mc) rfl (by kernel_rfl) (by kernel_rfl) (by kernel_rfl) (fun _ _ _ h => h) (Or.inl ⟨by rfl, fun w hS => by go_simp⟩) HS_w11_0.out ?_
        try simp only [Act.put, List.setIfInBounds_toArray, List.set_cons_zero, List.set_cons_succ]
        refine wpAnyH_take (i := 6) (oi := ⟨some 84, _, _, _, _, _⟩) (v := .int .i64 (mn : Int)) rfl (by kernel_rfl) (by kernel_rfl) (by kernel_rfl) (fun _ _ _ h => h) (Or.inl ⟨by rfl, fun w hS => by go_simp⟩) HS_w11_0.out ?_
        try simp only [Act.put, List.setIfInBounds_toArray, List.set_cons_zero, List.set_cons_succ]
        refine wpAnyH_take (i := 7) (oi := ⟨some 85, _, _, _, _, _⟩) (v := .slice (some ⟨gm, 0, none⟩) mn (mn + 80)) rfl (by kernel_rfl) (by kernel_rfl) (by kernel_rfl) (fun _ _ _ h => h) (Or.inl ⟨by rfl, fun w hS => by go_simp⟩) HS_w11_0.out ?_
        try simp only [Act.put, List.setIfInBounds_toArray, List.set_cons_zero, List.set_cons_succ]
        refine wpAnyH_take (i := 9) (oi := ⟨some 87, _, _, _, _, _⟩) (v := .slice a9 kn c9) rfl (by kernel_rfl) (by kernel_rfl) (by kernel_rfl) (fun _ _ _ h => h) (Or.inl ⟨by rfl, fun w hS => by go_simp⟩) HS_w11_0.out ?_
        try simp only [Act.put, List.setIfInBounds_toArray, List.set_cons_zero, List.set_cons_succ]
        refine wpAnyH_take (i := 10) (oi := ⟨some 88, _, _, _, _, _⟩) (v := .slice av mn cv) rfl (by kernel_rfl) (by kernel_rfl) (by kernel_rfl) (fun _ _ _ h => h) (Or.inl ⟨by rfl, fun w hS => by go_simp⟩) HS_w11_0.out ?_
        try simp only [Act.put, List.setIfInBounds_toArray, List.set_cons_zero, List.set_cons_succ]
        refine wpAnyH_ready (rs := [8]) (by kernel_rfl) (by simp) ?_
        refine AllReadyH.cons rfl (fun K hK => ?_) AllReadyH.nil
        go_simp
        refine (HC11.out w11.drew HS_w11_0.out).mono ?_
        rintro e w12 ⟨rfl, hu_⟩
        have HS_w11_1 : Hid (Upd (fun _ => False) w11 w12) := HS_w11_0.out.trans (hu_.mono (fun _ _ h => h.elim))
        have HU_w12 := Lib.hid hu_
        clear hu_
        refine hK.out _ _ HS_w11_1.out (fun hHeld => ?_)
        clear hK K hHeld
        try simp only [Act.put, List.setIfInBounds_toArray, List.set_cons_zero, List.set_cons_succ]
        refine wpAnyH_ready (rs := [11]) (by kernel_rfl) (by simp) ?_
        refine AllReadyH.cons rfl (fun K hK => ?_) AllReadyH.nil
        go_simp
        refine (HF11.out w12 HS_w11_1.out).mono ?_
        rintro e w13 ⟨rfl, hu_⟩
        have HS_w11_2 : Hid (Upd (fun _ => False) w11 w13) := HS_w11_1.out.trans (hu_.mono (fun _ _ h => h.elim))
        have HU_w13 := Lib.hid hu_
        clear hu_
        refine hK.out _ _ HS_w11_2.out (fun hHeld => ?_)
        clear hK K hHeld
        try simp only [Act.put, List.setIfInBounds_toArray, List.set_cons_zero, List.set_cons_succ]
        refine wpAnyH_take (i := 12) (oi := ⟨some 90, _, _, _, _, _⟩) (v := .bool true) rfl (by kernel_rfl) (by kernel_rfl) (by kernel_rfl) (fun _ _ _ h => h) (Or.inl ⟨by rfl, fun w hS => by go_simp⟩) HS_w11_2.out ?_
        try simp only [Act.put, List.setIfInBounds_toArray, List.set_cons_zero, List.set_cons_succ]
        refine wpAnyH_take (i := 13) (oi := ⟨some 4, _, _, _, _, _⟩) (v := .bool true) rfl (by kernel_rfl) (by kernel_rfl) (by kernel_rfl) (fun _ _ _ h => h) (Or.inl ⟨by rfl, fun w hS => by go_simp⟩) HS_w11_2.out ?_
        try simp only [Act.put, List.setIfInBounds_toArray, List.set_cons_zero, List.set_cons_succ]
        refine wpAnyH_done (by kernel_rfl) ?_ _
        go_wp2
        go_ret
        exact ⟨by first | rfl | (simp; done) | (dsimp only [List.set]; rfl), HU11.out.trans (HS_w11_2.out.mono (fun _ _ e => e.elim))⟩
end Go.Proofs.YtmjadoicapfoeaaDoor.MacsW
