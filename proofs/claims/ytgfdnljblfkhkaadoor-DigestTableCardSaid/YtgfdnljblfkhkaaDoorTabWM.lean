/-
  docketlaw2.DigestTable, walked.
-/
import Derived.Test.YtgfdnljblfkhkaaDoorTabsG
import Derived.Test.YtgfdnljblfkhkaaDoorTextW
import Derived.Test.YtgfdnljblfkhkaaDoorEmptyW
import Derived.Deep.RegionHeld
import Derived.Deep.RegionHeld3
import Derived.Deep.MidRow
namespace Go.Proofs.YtgfdnljblfkhkaaDoor.TabW
open Go.RowKit Sha TurnW Mem RowW SpreadW MixW HashM CopyW SumH NewW EqW CutW BookW SplitL HeldW OpenP OfW LeafW BranchW EmptyW RefOf TabN TabR TabK TabE TabT TabZ TabP TabL TurnO BookE BookM BookK BookA
set_option linter.unusedVariables false
set_option linter.unusedSimpArgs false

theorem turned_FL (l : List UInt8) (n : Nat) (h : n = l.length) : (tsub (FL l 165) n).take n = flipB l ∧ tsub (FL l 165) n = FL (flipB l) 165 := by
  subst h
  unfold tsub FL flipB
  rw [List.take_append_of_le_length (Nat.le_refl _), List.drop_append_of_le_length (Nat.le_refl _), List.take_length, List.drop_length, List.nil_append]
  exact ⟨by rw [List.take_append_of_le_length (by simp), List.take_of_length_le (by simp)], rfl⟩
theorem cl_eq (h : Int) : ((cl h : Nat) : Int) = max 0 (min h 256) := by unfold cl; omega
theorem sl_full {w : World} {g n : Nat} {l : List UInt8} (hr : Row w g 5 ((FL l 165).map u8)) (hn : n = l.length) (hb : n ≤ 140737488351232) : Sl w (.slice (some ⟨g, 0, none⟩) n (n + 80)) l := by
  have h2 := Sl.of_row (n := n) (cap := n + 80) hr (by rw [FL_len]; omega) (by omega) (by unfold maxLen; omega)
  have e : (FL l 165).take n = l := by rw [hn, FL_take]
  rwa [e] at h2

set_option maxHeartbeats 40000000 in
set_option maxRecDepth 100000 in
theorem walk (wd dm ct ht : Int) (A B P : List UInt8) (Q : List (List UInt8)) (pao qao : Option Addr) (pn pcap qn qcap : Nat) (W : World) (hpn : pn = P.length) (hqn : qn = Q.length)
    (hw : -9223372036854775808 ≤ wd ∧ wd ≤ 9223372036854775807) (hA : A.length = 32) (hB : B.length = 32) (hP : Sl W (.slice pao pn pcap) P) (hPo : ∀ k, own (.slice pao pn pcap) k → k < W.heap.size) (hQ : SlE W (.slice qao qn qcap) Q (fun k => k < W.heap.size))
    (hQl : qn ≤ 9223372036854775807) (hQe : ∀ i, (Q.getD i []).length ≤ 9223372036854775807) (hk : Kw W) (hg : 0 < W.heap.size) :
    Calls Tryd.prog 7 #[.agg (pcells wd dm ct ht A B (.slice pao pn pcap) (.slice qao qn qcap)).toArray] W fun e w' => e = .returned (.bool true) ∧ Upd (fun _ => False) W w' := by
  obtain ⟨LA, hLA⟩ : ∃ L, L = A.map u8 := ⟨_, rfl⟩
  obtain ⟨LB, hLB⟩ : ∃ L, L = B.map u8 := ⟨_, rfl⟩
  obtain ⟨X, hX⟩ : ∃ X, X = (pcells wd dm ct ht A B (.slice pao pn pcap) (.slice qao qn qcap)).toArray := ⟨_, rfl⟩
  obtain ⟨w1, hw1⟩ : ∃ x, x = W.alloc (.cells X 39) := ⟨_, rfl⟩
  have HX1 : Hid (PX w1 W.heap.size wd dm ct ht LA LB (.slice pao pn pcap) (.slice qao qn qcap)) := by
    show PX _ _ _ _ _ _ _ _ _ _
    rw [hw1, hX, hLA, hLB]
    exact PX.new W wd dm ct ht A B hA hB _ _
  have HU1 : Hid (Upd (fun _ => False) W w1) := by show Upd _ _ _; rw [hw1]; exact (Upd.refl _ W).alloc _
  have HszA : Hid ((Tryd.prog.info? 23).map (·.size) = some LA.length) := by show _ = _; rw [size32, hLA]; simp [hA]
  have HszB : Hid ((Tryd.prog.info? 23).map (·.size) = some LB.length) := by show _ = _; rw [size32, hLB]; simp [hB]
  have HLBl : Hid (LB.length = 32) := by show _ = _; rw [hLB]; simp [hB]
  have HLB1 : Hid (∀ u ∈ LB, u.oneCell' = true) := by show ∀ _ ∈ _, _; rw [hLB]; exact one_of _
  have hk32 : ∀ w', Upd (fun _ => False) W w' → Kw w' ∧ 0 < w'.heap.size := fun w' h => ⟨hk.upd h id, by have := h.size; omega⟩
  obtain ⟨Y1, hY1⟩ : ∃ Y, Y = ((ofM wd 0 [P]).map u8).toArray := ⟨_, rfl⟩
  have HQ1 : Hid (∀ w, (binOp .neq 23 (.agg Y1) (.agg Y1)).run Tryd.prog w = .ok (.bool false) w) := by
    show ∀ _, _
    intro w
    rw [hY1, neq_digest _ _ (of_len _ _ _) (of_len _ _ _)]
    simp
  obtain ⟨Y2, hY2⟩ : ∃ Y, Y = ((ofM wd 1 [A, B]).map u8).toArray := ⟨_, rfl⟩
  have HQ2 : Hid (∀ w, (binOp .neq 23 (.agg Y2) (.agg Y2)).run Tryd.prog w = .ok (.bool false) w) := by
    show ∀ _, _
    intro w
    rw [hY2, neq_digest _ _ (of_len _ _ _) (of_len _ _ _)]
    simp
  obtain ⟨Y3, hY3⟩ : ∃ Y, Y = ((notM wd).map u8).toArray := ⟨_, rfl⟩
  have HQ3 : Hid (∀ w, (binOp .neq 23 (.agg Y3) (.agg Y3)).run Tryd.prog w = .ok (.bool false) w) := by
    show ∀ _, _
    intro w
    rw [hY3, neq_digest _ _ (not_len _) (not_len _)]
    simp
  obtain ⟨Y4, hY4⟩ : ∃ Y, Y = ((ofM wd 2 [A, B]).map u8).toArray := ⟨_, rfl⟩
  have HQ4 : Hid (∀ w, (binOp .neq 23 (.agg Y4) (.agg Y4)).run Tryd.prog w = .ok (.bool false) w) := by
    show ∀ _, _
    intro w
    rw [hY4, neq_digest _ _ (of_len _ _ _) (of_len _ _ _)]
    simp
  obtain ⟨Y5, hY5⟩ : ∃ Y, Y = ((entM wd ct A B).map u8).toArray := ⟨_, rfl⟩
  have HQ5 : Hid (∀ w, (binOp .neq 23 (.agg Y5) (.agg Y5)).run Tryd.prog w = .ok (.bool false) w) := by
    show ∀ _, _
    intro w
    rw [hY5, neq_digest _ _ (ent_len _ _ _ _) (ent_len _ _ _ _)]
    simp
  obtain ⟨Y6, hY6⟩ : ∃ Y, Y = ((ofM wd 4 [A, B]).map u8).toArray := ⟨_, rfl⟩
  have HQ6 : Hid (∀ w, (binOp .neq 23 (.agg Y6) (.agg Y6)).run Tryd.prog w = .ok (.bool false) w) := by
    show ∀ _, _
    intro w
    rw [hY6, neq_digest _ _ (of_len _ _ _) (of_len _ _ _)]
    simp
  obtain ⟨Y7, hY7⟩ : ∃ Y, Y = ((emp wd (cl ht)).map u8).toArray := ⟨_, rfl⟩
  have HQ7 : Hid (∀ w, (binOp .neq 23 (.agg Y7) (.agg Y7)).run Tryd.prog w = .ok (.bool false) w) := by
    show ∀ _, _
    intro w
    rw [hY7, neq_digest _ _ (emp_len _ _) (emp_len _ _)]
    simp
  obtain ⟨Y8, hY8⟩ : ∃ Y, Y = ((keyM P).map u8).toArray := ⟨_, rfl⟩
  have HQ8 : Hid (∀ w, (binOp .neq 23 (.agg Y8) (.agg Y8)).run Tryd.prog w = .ok (.bool false) w) := by
    show ∀ _, _
    intro w
    rw [hY8, neq_digest _ _ (rfl) (rfl)]
    simp
  obtain ⟨Y9, hY9⟩ : ∃ Y, Y = ((ofM wd dm Q).map u8).toArray := ⟨_, rfl⟩
  have HQ9 : Hid (∀ w, (binOp .neq 23 (.agg Y9) (.agg Y9)).run Tryd.prog w = .ok (.bool false) w) := by
    show ∀ _, _
    intro w
    rw [hY9, neq_digest _ _ (of_len _ _ _) (of_len _ _ _)]
    simp
  obtain ⟨Y10, hY10⟩ : ∃ Y, Y = ((ofM wd dm (Q.map flipB)).map u8).toArray := ⟨_, rfl⟩
  have HQ10 : Hid (∀ w, (binOp .neq 23 (.agg Y10) (.agg Y10)).run Tryd.prog w = .ok (.bool false) w) := by
    show ∀ _, _
    intro w
    rw [hY10, neq_digest _ _ (of_len _ _ _) (of_len _ _ _)]
    simp
  obtain ⟨Y11, hY11⟩ : ∃ Y, Y = ((ofM wd 0 [flipB P]).map u8).toArray := ⟨_, rfl⟩
  have HQ11 : Hid (∀ w, (binOp .eql 23 (.agg Y11) (.agg Y11)).run Tryd.prog w = .ok (.bool true) w) := by
    show ∀ _, _
    intro w
    rw [hY11, eql_digest _ _ (of_len _ _ _) (of_len _ _ _)]
    simp
  have HNode : Hid (∀ w', Upd (fun _ => False) W w' → Calls Tryd.prog 28 #[.int .i64 wd, .agg LA.toArray, .agg LB.toArray] w' fun e w'' => e = .returned (.agg Y2) ∧ Upd (fun _ => False) w' w'') := by
    show ∀ _, _
    intro w' hu
    have h := node_any wd A B hA hB w' (hk32 w' hu).1 (hk32 w' hu).2
    simpa only [← hLA, ← hLB, ← hY2] using h
  have HRNode : Hid (∀ w', Upd (fun _ => False) W w' → Calls Tryd.prog 29 #[.int .i64 wd, .agg LA.toArray, .agg LB.toArray] w' fun e w'' => e = .returned (.agg Y2) ∧ Upd (fun _ => False) w' w'') := by
    show ∀ _, _
    intro w' hu
    have h := rnode_any wd hw A B hA hB w' trivial trivial
    simpa only [← hLA, ← hLB, ← hY2] using h
  have HNot : Hid (∀ w', Upd (fun _ => False) W w' → Calls Tryd.prog 30 #[.int .i64 wd] w' fun e w'' => e = .returned (.agg Y3) ∧ Upd (fun _ => False) w' w'') := by
    show ∀ _, _
    intro w' hu
    have h := nothing_any wd w' (hk32 w' hu).1 (hk32 w' hu).2
    simpa only [← hLA, ← hLB, ← hY3] using h
  have HRNot : Hid (∀ w', Upd (fun _ => False) W w' → Calls Tryd.prog 31 #[.int .i64 wd] w' fun e w'' => e = .returned (.agg Y3) ∧ Upd (fun _ => False) w' w'') := by
    show ∀ _, _
    intro w' hu
    have h := rnothing_any wd hw w'
    simpa only [← hLA, ← hLB, ← hY3] using h
  have HLink : Hid (∀ w', Upd (fun _ => False) W w' → Calls Tryd.prog 32 #[.int .i64 wd, .agg LA.toArray, .agg LB.toArray] w' fun e w'' => e = .returned (.agg Y4) ∧ Upd (fun _ => False) w' w'') := by
    show ∀ _, _
    intro w' hu
    have h := link_any wd A B hA hB w' (hk32 w' hu).1 (hk32 w' hu).2
    simpa only [← hLA, ← hLB, ← hY4] using h
  have HRLink : Hid (∀ w', Upd (fun _ => False) W w' → Calls Tryd.prog 33 #[.int .i64 wd, .agg LA.toArray, .agg LB.toArray] w' fun e w'' => e = .returned (.agg Y4) ∧ Upd (fun _ => False) w' w'') := by
    show ∀ _, _
    intro w' hu
    have h := rlink_any wd hw A B hA hB w' trivial trivial
    simpa only [← hLA, ← hLB, ← hY4] using h
  have HEnt : Hid (∀ w', Upd (fun _ => False) W w' → Calls Tryd.prog 34 #[.int .i64 wd, .agg LA.toArray, .agg (Value.int .i64 ct :: LB).toArray] w' fun e w'' => e = .returned (.agg Y5) ∧ Upd (fun _ => False) w' w'') := by
    show ∀ _, _
    intro w' hu
    have h := entry_any wd ct A B hA hB w' (hk32 w' hu).1 (hk32 w' hu).2
    simpa only [← hLA, ← hLB, ← hY5] using h
  have HREnt : Hid (∀ w', Upd (fun _ => False) W w' → Calls Tryd.prog 35 #[.int .i64 wd, .agg LA.toArray, .agg (Value.int .i64 ct :: LB).toArray] w' fun e w'' => e = .returned (.agg Y5) ∧ Upd (fun _ => False) w' w'') := by
    show ∀ _, _
    intro w' hu
    have h := rentry_any wd ct hw A B hA hB w'
    simpa only [← hLA, ← hLB, ← hY5] using h
  have HBr : Hid (∀ w', Upd (fun _ => False) W w' → Calls Tryd.prog 36 #[.int .i64 wd, .agg LA.toArray, .agg LB.toArray] w' fun e w'' => e = .returned (.agg Y6) ∧ Upd (fun _ => False) w' w'') := by
    show ∀ _, _
    intro w' hu
    have h := branch_any wd A B hA hB w' (hk32 w' hu).1 (hk32 w' hu).2
    simpa only [← hLA, ← hLB, ← hY6] using h
  have HRBr : Hid (∀ w', Upd (fun _ => False) W w' → Calls Tryd.prog 37 #[.int .i64 wd, .agg LA.toArray, .agg LB.toArray] w' fun e w'' => e = .returned (.agg Y6) ∧ Upd (fun _ => False) w' w'') := by
    show ∀ _, _
    intro w' hu
    have h := rbranch_any wd hw A B hA hB w' trivial trivial
    simpa only [← hLA, ← hLB, ← hY6] using h
  have HEmp : Hid (∀ w', Upd (fun _ => False) W w' → Calls Tryd.prog 18 #[.int .i64 wd, .int .i64 ht] w' fun e w'' => e = .returned (.agg Y7) ∧ Upd (fun _ => False) w' w'') := by
    show ∀ _, _
    intro w' hu
    have h := empty_any wd ht (cl ht) (cl_eq ht) w' (hk32 w' hu).1 (hk32 w' hu).2
    simpa only [← hLA, ← hLB, ← hY7] using h
  have HREmp : Hid (∀ w', Upd (fun _ => False) W w' → Calls Tryd.prog 38 #[.int .i64 wd, .int .i64 ht] w' fun e w'' => e = .returned (.agg Y7) ∧ Upd (fun _ => False) w' w'') := by
    show ∀ _, _
    intro w' hu
    have h := rempty_any wd ht hw w'
    simpa only [← hLA, ← hLB, ← hY7] using h
  have HRoomP : Hid (∀ w', Upd (fun _ => False) W w' → Sl w' (.slice pao pn pcap) P ∧ ∀ k, own (.slice pao pn pcap) k → k < w'.heap.size) := fun w' hu => ⟨hP.upd hu (fun _ _ => id), fun k h => by have := hPo k h; have := hu.size; omega⟩
  have HSQ : Hid (∀ w', Upd (fun _ => False) W w' → SlE w' (.slice qao qn qcap) Q (fun k => k < W.heap.size)) := fun w' hu => hQ.upd hu (fun _ _ => id)
  have HLi : Hid (∀ w', Upd (fun _ => False) W w' → Calls Tryd.prog 25 #[.int .i64 (room 2147483647 (pn : Int)), .slice qao qn qcap] w' fun e w'' => ∃ a : Int, e = .returned (.int .i64 a) ∧ (0 ≤ a → pn + tot Q ≤ 2147483647) ∧ Upd (fun _ => False) w' w'') := fun w' hu =>
    lists_room pn qao qn qcap Q _ w' (hQ.upd hu (fun _ _ => id)) hQl hQe
  have hpb : pn ≤ 9223372036854775807 := by obtain ⟨_, _, he, h1, h2, _⟩ := hP; injection he with _ e2 _; unfold maxLen at h2; omega
  have HRm : Hid (∀ w', Calls Tryd.prog 26 #[.int .i64 2147483647, .int .i64 (pn : Int)] w' fun e w'' => e = .returned (.int .i64 (room 2147483647 (pn : Int))) ∧ Upd (fun _ => False) w' w'') := fun w' =>
    (room_any 2147483647 pn w' (by omega) (by omega) (by omega) (by omega)).mono fun e w'' ⟨he, h⟩ => ⟨he, h ▸ Upd.refl _ _⟩
  have Hk32 := Lib.hid hk32
  have Hw := Lib.hid hw
  have Hpn := Lib.hid hpn
  have Hqn := Lib.hid hqn
  have HLAe := Lib.hid hLA
  have HLBe := Lib.hid hLB
  have HwW := Lib.hid hw1
  have HXe := Lib.hid hX
  rw [← hX]
  have HY1 := Lib.hid hY1
  have HY2 := Lib.hid hY2
  have HY3 := Lib.hid hY3
  have HY4 := Lib.hid hY4
  have HY5 := Lib.hid hY5
  have HY6 := Lib.hid hY6
  have HY7 := Lib.hid hY7
  have HY8 := Lib.hid hY8
  have HY9 := Lib.hid hY9
  have HY10 := Lib.hid hY10
  have HY11 := Lib.hid hY11
  clear hLA hLB hX hk32 hw hpn hqn hA hB hP hPo hQ hk hg hQl hQe hY1 hY2 hY3 hY4 hY5 hY6 hY7 hY8 hY9 hY10 hY11
  have hzD := zeroD
  have hzE := zeroE
  go_enter Tryd.func7, Tryd.ntmps7
  go_wp2_with fail
  rw [← hw1]
  clear hw1
  have HS_w1_0 : Hid (Upd (fun _ => False) w1 w1.drew) := (Upd.refl _ _).drew
  refine wp_region_held_drew (S := Upd (fun _ => False) w1) (by kernel_rfl) HS_w1_0.out (fun _ => ?_)
  refine wpAnyH_take (i := 0) (oi := ⟨some 18, _, _, _, _, _⟩) (v := .pointer (some ⟨W.heap.size, 68, none⟩)) rfl (by kernel_rfl) (by kernel_rfl) (by kernel_rfl) (fun _ _ _ h => h) (Or.inl ⟨by rfl, fun w hS => by go_simp⟩) HS_w1_0.out ?_
  try simp only [Act.put, List.setIfInBounds_toArray, List.set_cons_zero, List.set_cons_succ]
  refine wpAnyH_take (i := 1) (oi := ⟨some 19, _, _, _, _, _⟩) (v := .slice pao pn pcap) rfl (by kernel_rfl) (by kernel_rfl) (by kernel_rfl) (fun _ _ _ h => h) (Or.inl ⟨by rfl, fun w hS => by have c0 := (HX1.out.upd hS id).c6; go_simp⟩) HS_w1_0.out ?_
  try simp only [Act.put, List.setIfInBounds_toArray, List.set_cons_zero, List.set_cons_succ]
  refine wpAnyH_take (i := 2) (oi := ⟨some 20, _, _, _, _, _⟩) (v := .int .i64 (pn : Int)) rfl (by kernel_rfl) (by kernel_rfl) (by kernel_rfl) (fun _ _ _ h => h) (Or.inl ⟨by rfl, fun w hS => by go_simp⟩) HS_w1_0.out ?_
  try simp only [Act.put, List.setIfInBounds_toArray, List.set_cons_zero, List.set_cons_succ]
  refine wpAnyH_take (i := 4) (oi := ⟨some 22, _, _, _, _, _⟩) (v := .pointer (some ⟨W.heap.size, 69, none⟩)) rfl (by kernel_rfl) (by kernel_rfl) (by kernel_rfl) (fun _ _ _ h => h) (Or.inl ⟨by rfl, fun w hS => by go_simp⟩) HS_w1_0.out ?_
  try simp only [Act.put, List.setIfInBounds_toArray, List.set_cons_zero, List.set_cons_succ]
  refine wpAnyH_take (i := 5) (oi := ⟨some 23, _, _, _, _, _⟩) (v := .slice qao qn qcap) rfl (by kernel_rfl) (by kernel_rfl) (by kernel_rfl) (fun _ _ _ h => h) (Or.inl ⟨by rfl, fun w hS => by have c0 := (HX1.out.upd hS id).c7; go_simp⟩) HS_w1_0.out ?_
  try simp only [Act.put, List.setIfInBounds_toArray, List.set_cons_zero, List.set_cons_succ]
  refine wpAnyH_ready (rs := [3]) (by kernel_rfl) (by simp) ?_
  refine AllReadyH.cons rfl (fun K hK => ?_) AllReadyH.nil
  go_simp
  refine (HRm.out w1.drew).mono ?_
  rintro e w2 ⟨rfl, hu_⟩
  have HS_w1_1 : Hid (Upd (fun _ => False) w1 w2) := HS_w1_0.out.trans (hu_.mono (fun _ _ h => h.elim))
  have HU_w2 := Lib.hid hu_
  clear hu_
  refine hK.out _ _ HS_w1_1.out (fun hHeld => ?_)
  clear hK K hHeld
  try simp only [Act.put, List.setIfInBounds_toArray, List.set_cons_zero, List.set_cons_succ]
  refine wpAnyH_ready (rs := [6]) (by kernel_rfl) (by simp) ?_
  refine AllReadyH.cons rfl (fun K hK => ?_) AllReadyH.nil
  go_simp
  refine (HLi.out w2 (HU1.out.trans (HS_w1_1.out.mono (fun _ _ e => e.elim)))).mono ?_
  rintro e w3 ⟨a, rfl, hroom, hu_⟩
  have HS_w1_2 : Hid (Upd (fun _ => False) w1 w3) := HS_w1_1.out.trans (hu_.mono (fun _ _ h => h.elim))
  have HU_w3 := Lib.hid hu_
  clear hu_
  have HRoom := Lib.hid hroom
  clear hroom
  refine hK.out _ _ HS_w1_2.out (fun hHeld => ?_)
  clear hK K hHeld
  try simp only [Act.put, List.setIfInBounds_toArray, List.set_cons_zero, List.set_cons_succ]
  refine wpAnyH_take (i := 7) (oi := ⟨some 25, _, _, _, _, _⟩) (v := .bool (decide (a < 0))) rfl (by kernel_rfl) (by kernel_rfl) (by kernel_rfl) (fun _ _ _ h => h) (Or.inl ⟨by rfl, fun w hS => by go_simp⟩) HS_w1_2.out ?_
  try simp only [Act.put, List.setIfInBounds_toArray, List.set_cons_zero, List.set_cons_succ]
  refine wpAnyH_done (by kernel_rfl) ?_ _
  have HU3 : Hid (Upd (fun _ => False) W w3) := HU1.out.trans (HS_w1_2.out.mono (fun _ _ e => e.elim))
  have HX3 : Hid (PX w3 W.heap.size wd dm ct ht LA LB (.slice pao pn pcap) (.slice qao qn qcap)) := HX1.out.upd HS_w1_2.out id
  clear HS_w1_0 HS_w1_1 HS_w1_2 HU_w2 HU_w3 HX1 HU1 HLi HRm
  by_cases ha : a < 0
  · have hda : decide (a < 0) = true := decide_eq_true ha
    go_wp2
    go_ret
    exact ⟨rfl, HU3.out⟩
  have hda : decide (a < 0) = false := decide_eq_false ha
  have Htot := Lib.hid (HRoom.out (by omega))
  have hpn31 : pn ≤ 2147483647 := by have := Htot.out; omega
  have c6 := HX3.out.c6
  clear HRoom hpb
  go_wp2_with fail
  obtain ⟨hslP, hownP⟩ := HRoomP.out w3 HU3.out
  refine (roomy_any pao pn pcap P 165 w3 hslP (by omega)).mono ?_
  rintro e w4 ⟨g, rfl, hg4, hr4, hu4⟩
  have HU4 : Hid (Upd (fun _ => False) W w4) := HU3.out.trans (hu4.mono (fun _ _ e => e.elim))
  have HX4 : Hid (PX w4 W.heap.size wd dm ct ht LA LB (.slice pao pn pcap) (.slice qao qn qcap)) := HX3.out.upd hu4 id
  have HG4 := Lib.hid hr4
  have Hg4 : Hid (w3.heap.size ≤ g) := hg4
  have hgl4 : g < w4.heap.size := hr4.lt
  have HWg : Hid (W.heap.size < g) := by have h1 := HX3.out.lt; show _ < _; omega
  clear hslP hownP hr4 hg4 hu4 c6 HX3
  have c6 := HX4.out.c6
  have c2 := HX4.out.c2
  have c0 := HX4.out.c0
  have hrb := HX4.out.rb
  have HRb := Lib.hid hrb
  have hnc : (pn : Int) ≤ (pn : Int) + 80 := by omega
  have HEb : Hid (Tryd.prog.built 43 [(0, .int .i64 ct), (1, .agg LB.toArray)] = some (Value.int .i64 ct :: LB).toArray) := built_entry ct LB HLBl.out
  obtain ⟨EA, hEA⟩ : ∃ x, x = (Value.int .i64 ct :: LB).toArray := ⟨_, rfl⟩
  rw [← hEA] at HEb
  have HEs : Hid ((Tryd.prog.info? 43).map (·.size) = some EA.size) := by show _ = _; rw [sizeE, hEA]; simp [HLBl.out]
  have HEl : Hid (AE.size = EA.size) := by show _ = _; rw [hEA]; simp [HLBl.out, AE]
  have HE1 : Hid (EA.all (·.oneCell') = true) := by
    show _ = _
    rw [hEA]
    simp only [List.all_toArray, List.all_cons, Bool.and_eq_true]
    exact ⟨rfl, List.all_eq_true.2 HLB1.out⟩
  have HEA := Lib.hid hEA
  clear hEA hrb
  go_wp2_with (first
    | ((with_reducible refine wpList_load_mid (op := ⟨some 37, _, _, _, _, _⟩) ?_ 23 (.tmp 36) ?_ W.heap.size 36 ?_ LB _ HRb.out Tryd.underlying23 ?_ HszB.out ?_); rfl; rfl; rfl; rfl)
    | ((with_reducible refine wpList_build_as (o := ⟨some 38, _, _, _, _, _⟩) ?_ 43 _ rfl EA ?_ ?_); rfl; (refine Eq.trans ?_ HEb.out; kernel_rfl))
    | ((with_reducible refine wpList_store_new (o := ⟨none, .store 43 (.tmp 5) (.tmp 38), _, _, _, _⟩) ?_ _ (.tmp 5) (.tmp 38) ?_ w4.heap.size EA ?_ ?_ 43 AE (heap_alloc_new _ _) HEs.out HEl.out HE1.out ?_); rfl; rfl; rfl; rfl; intro w5 Hg5 Hu5; have c0 : w5.cell? ⟨W.heap.size, 0, none⟩ = some (.int .i64 wd) := (((Upd.refl (fun _ => False) w4).alloc (.cells AE 43)).trans (Hu5.out.mono (fun _ _ e => .inr (Nat.le_of_eq e.symm)))).cell HX4.out.c0 id))
  have hu45 : Upd (fun _ => False) w4 w5 := ((Upd.refl (fun _ => False) w4).alloc (.cells AE 43)).trans (Hu5.out.mono (fun _ _ e => .inr (Nat.le_of_eq e.symm)))
  have HU5 : Hid (Upd (fun _ => False) W w5) := HU4.out.trans (hu45.mono (fun _ _ e => e.elim))
  have HX5 : Hid (PX w5 W.heap.size wd dm ct ht LA LB (.slice pao pn pcap) (.slice qao qn qcap)) := HX4.out.upd hu45 id
  have HG5 : Hid (Row w5 g 5 ((FL P 165).map Mem.u8)) := HG4.out.upd hu45 id
  obtain ⟨E, hE⟩ : ∃ x, x = w4.heap.size := ⟨_, rfl⟩
  rw [← hE] at Hg5 ⊢
  have HE5 : Hid (w5.heap[E]? = some (.cells (Value.int .i64 ct :: LB).toArray 43 (0, 0))) := by have h := Hg5.out; rw [HEA.out] at h; exact h
  have HEz : Hid ((Tryd.prog.info? 43).map (·.size) = some (Value.int .i64 ct :: LB).length) := by show _ = _; rw [sizeE]; simp [HLBl.out]
  have hgE : g < E := by omega
  have HE := Lib.hid hE
  clear hu45 Hg5 Hu5 c0 c2 c6 HX4 HG4 HRb hE HEb HEs HEl HE1
  have HLeaf : Hid (∀ w', Upd (fun _ => False) W w' → Row w' g 5 ((FL P 165).map Mem.u8) → Calls Tryd.prog 17 #[.int .i64 wd, .slice (some ⟨g, 0, none⟩) pn (pn + 80)] w' fun e w'' => e = .returned (.agg Y1) ∧ Upd (fun _ => False) w' w'') := by
    show ∀ _, _
    intro w' hu hr
    have h := leaf_any wd _ pn (pn + 80) P w' (sl_full hr Hpn.out (by omega)) (fun k ho => by have := WriteW.own_at ho; have := hr.lt; omega) (Hk32.out w' hu).1 (Hk32.out w' hu).2 (by have := Hpn.out; omega)
    rwa [← HY1.out] at h
  have HRLeaf : Hid (∀ w', Upd (fun _ => False) W w' → Calls Tryd.prog 27 #[.int .i64 wd, .slice pao pn pcap] w' fun e w'' => e = .returned (.agg Y1) ∧ Upd (fun _ => False) w' w'') := by
    show ∀ _, _
    intro w' hu
    obtain ⟨h1, h2⟩ := HRoomP.out w' hu
    have h := rleaf_any wd Hw.out pao pn pcap P w' h1 h2 trivial trivial (by have := Hpn.out; omega)
    rwa [← HY1.out] at h
  obtain ⟨s, hs⟩ : ∃ s : ByteArray, s = ⟨P.toArray⟩ := ⟨_, rfl⟩
  have HConv : Hid (∀ w', Upd (fun _ => False) W w' → (convert 25 9 (.slice pao pn pcap)).run Tryd.prog w' = .ok (.string s) w') := by
    show ∀ _, _
    intro w' hu
    rw [hs]
    exact conv_sl (HRoomP.out w' hu).1
  have HKey : Hid (∀ w', Upd (fun _ => False) W w' → Calls Tryd.prog 39 #[.string s] w' fun e w'' => e = .returned (.agg Y8) ∧ Upd (fun _ => False) w' w'') := by
    show ∀ _, _
    intro w' hu
    have h := key_any P w' (by have := Hpn.out; omega) (Hk32.out w' hu).1 (Hk32.out w' hu).2
    rwa [← HY8.out, ← hs] at h
  have HRKey : Hid (∀ w', Upd (fun _ => False) W w' → Calls Tryd.prog 40 #[.string s] w' fun e w'' => e = .returned (.agg Y8) ∧ Upd (fun _ => False) w' w'') := by
    show ∀ _, _
    intro w' hu
    have h := rkey_any P w' (by have := Hpn.out; omega)
    rwa [← HY8.out, ← hs] at h
  clear hs
  have HS_w5_0 : Hid (Upd (fun _ => False) w5 w5.drew) := (Upd.refl _ _).drew
  refine wp_region_held_drew (S := Upd (fun _ => False) w5) (by kernel_rfl) HS_w5_0.out (fun _ => ?_)
  refine wpAnyH_take (i := 0) (oi := ⟨some 41, _, _, _, _, _⟩) (v := .int .i64 wd) rfl (by kernel_rfl) (by kernel_rfl) (by kernel_rfl) (fun _ _ _ h => h) (Or.inl ⟨by rfl, fun w hS => by go_simp⟩) HS_w5_0.out ?_
  try simp only [Act.put, List.setIfInBounds_toArray, List.set_cons_zero, List.set_cons_succ]
  refine wpAnyH_take (i := 1) (oi := ⟨some 42, _, _, _, _, _⟩) (v := .slice (some ⟨g, 0, none⟩) pn (pn + 80)) rfl (by kernel_rfl) (by kernel_rfl) (by kernel_rfl) (fun _ _ _ h => h) (Or.inl ⟨by rfl, fun w hS => by go_simp⟩) HS_w5_0.out ?_
  try simp only [Act.put, List.setIfInBounds_toArray, List.set_cons_zero, List.set_cons_succ]
  refine wpAnyH_take (i := 3) (oi := ⟨some 44, _, _, _, _, _⟩) (v := .int .i64 wd) rfl (by kernel_rfl) (by kernel_rfl) (by kernel_rfl) (fun _ _ _ h => h) (Or.inl ⟨by rfl, fun w hS => by go_simp⟩) HS_w5_0.out ?_
  try simp only [Act.put, List.setIfInBounds_toArray, List.set_cons_zero, List.set_cons_succ]
  refine wpAnyH_take (i := 4) (oi := ⟨some 45, _, _, _, _, _⟩) (v := .pointer (some ⟨W.heap.size, 68, none⟩)) rfl (by kernel_rfl) (by kernel_rfl) (by kernel_rfl) (fun _ _ _ h => h) (Or.inl ⟨by rfl, fun w hS => by go_simp⟩) HS_w5_0.out ?_
  try simp only [Act.put, List.setIfInBounds_toArray, List.set_cons_zero, List.set_cons_succ]
  refine wpAnyH_take (i := 5) (oi := ⟨some 46, _, _, _, _, _⟩) (v := .slice pao pn pcap) rfl (by kernel_rfl) (by kernel_rfl) (by kernel_rfl) (fun _ _ _ h => h) (Or.inl ⟨by rfl, fun w hS => by have c0 := (HX5.out.upd hS id).c6; go_simp⟩) HS_w5_0.out ?_
  try simp only [Act.put, List.setIfInBounds_toArray, List.set_cons_zero, List.set_cons_succ]
  refine wpAnyH_ready (rs := [2]) (by kernel_rfl) (by simp) ?_
  refine AllReadyH.cons rfl (fun K hK => ?_) AllReadyH.nil
  go_simp
  refine (HLeaf.out w5.drew (HU5.out.trans (HS_w5_0.out.mono (fun _ _ e => e.elim))) (HG5.out.upd HS_w5_0.out id)).mono ?_
  rintro e w6 ⟨rfl, hu_⟩
  have HS_w5_1 : Hid (Upd (fun _ => False) w5 w6) := HS_w5_0.out.trans (hu_.mono (fun _ _ h => h.elim))
  have HU_w6 := Lib.hid hu_
  clear hu_
  refine hK.out _ _ HS_w5_1.out (fun hHeld => ?_)
  clear hK K hHeld
  try simp only [Act.put, List.setIfInBounds_toArray, List.set_cons_zero, List.set_cons_succ]
  refine wpAnyH_ready (rs := [6]) (by kernel_rfl) (by simp) ?_
  refine AllReadyH.cons rfl (fun K hK => ?_) AllReadyH.nil
  go_simp
  refine (HRLeaf.out w6 (HU5.out.trans (HS_w5_1.out.mono (fun _ _ e => e.elim)))).mono ?_
  rintro e w7 ⟨rfl, hu_⟩
  have HS_w5_2 : Hid (Upd (fun _ => False) w5 w7) := HS_w5_1.out.trans (hu_.mono (fun _ _ h => h.elim))
  have HU_w7 := Lib.hid hu_
  clear hu_
  refine hK.out _ _ HS_w5_2.out (fun hHeld => ?_)
  clear hK K hHeld
  try simp only [Act.put, List.setIfInBounds_toArray, List.set_cons_zero, List.set_cons_succ]
  refine wpAnyH_take (i := 7) (oi := ⟨some 48, _, _, _, _, _⟩) (v := .bool false) rfl (by kernel_rfl) (by kernel_rfl) (by kernel_rfl) (fun _ _ _ h => h) (Or.inl ⟨by rfl, fun w hS => by have q0 := HQ1.out; go_simp⟩) HS_w5_2.out ?_
  try simp only [Act.put, List.setIfInBounds_toArray, List.set_cons_zero, List.set_cons_succ]
  refine wpAnyH_take (i := 8) (oi := ⟨some 49, _, _, _, _, _⟩) (v := .bool false) rfl (by kernel_rfl) (by kernel_rfl) (by kernel_rfl) (fun _ _ _ h => h) (Or.inl ⟨by rfl, fun w hS => by go_simp⟩) HS_w5_2.out ?_
  try simp only [Act.put, List.setIfInBounds_toArray, List.set_cons_zero, List.set_cons_succ]
  refine wpAnyH_take (i := 9) (oi := ⟨some 50, _, _, _, _, _⟩) (v := .int .i64 wd) rfl (by kernel_rfl) (by kernel_rfl) (by kernel_rfl) (fun _ _ _ h => h) (Or.inl ⟨by rfl, fun w hS => by go_simp⟩) HS_w5_2.out ?_
  try simp only [Act.put, List.setIfInBounds_toArray, List.set_cons_zero, List.set_cons_succ]
  refine wpAnyH_take (i := 10) (oi := ⟨some 51, _, _, _, _, _⟩) (v := .pointer (some ⟨W.heap.size, 4, none⟩)) rfl (by kernel_rfl) (by kernel_rfl) (by kernel_rfl) (fun _ _ _ h => h) (Or.inl ⟨by rfl, fun w hS => by go_simp⟩) HS_w5_2.out ?_
  try simp only [Act.put, List.setIfInBounds_toArray, List.set_cons_zero, List.set_cons_succ]
  refine wpAnyH_take (i := 11) (oi := ⟨some 52, _, _, _, _, _⟩) rfl (by kernel_rfl) (by kernel_rfl) (by kernel_rfl) (fun _ _ _ h => h) (yieldsIf_load_mid (by rfl) _ _ rfl W.heap.size 4 rfl LA _ (fun w h => (HX5.out.upd h id).ra) Tryd.underlying23 rfl HszA.out) HS_w5_2.out ?_
  try simp only [Act.put, List.setIfInBounds_toArray, List.set_cons_zero, List.set_cons_succ]
  refine wpAnyH_take (i := 12) (oi := ⟨some 53, _, _, _, _, _⟩) (v := .pointer (some ⟨W.heap.size, 36, none⟩)) rfl (by kernel_rfl) (by kernel_rfl) (by kernel_rfl) (fun _ _ _ h => h) (Or.inl ⟨by rfl, fun w hS => by go_simp⟩) HS_w5_2.out ?_
  try simp only [Act.put, List.setIfInBounds_toArray, List.set_cons_zero, List.set_cons_succ]
  refine wpAnyH_take (i := 13) (oi := ⟨some 54, _, _, _, _, _⟩) rfl (by kernel_rfl) (by kernel_rfl) (by kernel_rfl) (fun _ _ _ h => h) (yieldsIf_load_mid (by rfl) _ _ rfl W.heap.size 36 rfl LB _ (fun w h => (HX5.out.upd h id).rb) Tryd.underlying23 rfl HszB.out) HS_w5_2.out ?_
  try simp only [Act.put, List.setIfInBounds_toArray, List.set_cons_zero, List.set_cons_succ]
  refine wpAnyH_take (i := 15) (oi := ⟨some 56, _, _, _, _, _⟩) (v := .int .i64 wd) rfl (by kernel_rfl) (by kernel_rfl) (by kernel_rfl) (fun _ _ _ h => h) (Or.inl ⟨by rfl, fun w hS => by go_simp⟩) HS_w5_2.out ?_
  try simp only [Act.put, List.setIfInBounds_toArray, List.set_cons_zero, List.set_cons_succ]
  refine wpAnyH_take (i := 16) (oi := ⟨some 57, _, _, _, _, _⟩) (v := .pointer (some ⟨W.heap.size, 4, none⟩)) rfl (by kernel_rfl) (by kernel_rfl) (by kernel_rfl) (fun _ _ _ h => h) (Or.inl ⟨by rfl, fun w hS => by go_simp⟩) HS_w5_2.out ?_
  try simp only [Act.put, List.setIfInBounds_toArray, List.set_cons_zero, List.set_cons_succ]
  refine wpAnyH_take (i := 17) (oi := ⟨some 58, _, _, _, _, _⟩) rfl (by kernel_rfl) (by kernel_rfl) (by kernel_rfl) (fun _ _ _ h => h) (yieldsIf_load_mid (by rfl) _ _ rfl W.heap.size 4 rfl LA _ (fun w h => (HX5.out.upd h id).ra) Tryd.underlying23 rfl HszA.out) HS_w5_2.out ?_
  try simp only [Act.put, List.setIfInBounds_toArray, List.set_cons_zero, List.set_cons_succ]
  refine wpAnyH_take (i := 18) (oi := ⟨some 59, _, _, _, _, _⟩) (v := .pointer (some ⟨W.heap.size, 36, none⟩)) rfl (by kernel_rfl) (by kernel_rfl) (by kernel_rfl) (fun _ _ _ h => h) (Or.inl ⟨by rfl, fun w hS => by go_simp⟩) HS_w5_2.out ?_
  try simp only [Act.put, List.setIfInBounds_toArray, List.set_cons_zero, List.set_cons_succ]
  refine wpAnyH_take (i := 19) (oi := ⟨some 60, _, _, _, _, _⟩) rfl (by kernel_rfl) (by kernel_rfl) (by kernel_rfl) (fun _ _ _ h => h) (yieldsIf_load_mid (by rfl) _ _ rfl W.heap.size 36 rfl LB _ (fun w h => (HX5.out.upd h id).rb) Tryd.underlying23 rfl HszB.out) HS_w5_2.out ?_
  try simp only [Act.put, List.setIfInBounds_toArray, List.set_cons_zero, List.set_cons_succ]
  refine wpAnyH_ready (rs := [14]) (by kernel_rfl) (by simp) ?_
  refine AllReadyH.cons rfl (fun K hK => ?_) AllReadyH.nil
  go_simp
  refine (HNode.out w7 (HU5.out.trans (HS_w5_2.out.mono (fun _ _ e => e.elim)))).mono ?_
  rintro e w8 ⟨rfl, hu_⟩
  have HS_w5_3 : Hid (Upd (fun _ => False) w5 w8) := HS_w5_2.out.trans (hu_.mono (fun _ _ h => h.elim))
  have HU_w8 := Lib.hid hu_
  clear hu_
  refine hK.out _ _ HS_w5_3.out (fun hHeld => ?_)
  clear hK K hHeld
  try simp only [Act.put, List.setIfInBounds_toArray, List.set_cons_zero, List.set_cons_succ]
  refine wpAnyH_ready (rs := [20]) (by kernel_rfl) (by simp) ?_
  refine AllReadyH.cons rfl (fun K hK => ?_) AllReadyH.nil
  go_simp
  refine (HRNode.out w8 (HU5.out.trans (HS_w5_3.out.mono (fun _ _ e => e.elim)))).mono ?_
  rintro e w9 ⟨rfl, hu_⟩
  have HS_w5_4 : Hid (Upd (fun _ => False) w5 w9) := HS_w5_3.out.trans (hu_.mono (fun _ _ h => h.elim))
  have HU_w9 := Lib.hid hu_
  clear hu_
  refine hK.out _ _ HS_w5_4.out (fun hHeld => ?_)
  clear hK K hHeld
  try simp only [Act.put, List.setIfInBounds_toArray, List.set_cons_zero, List.set_cons_succ]
  refine wpAnyH_take (i := 21) (oi := ⟨some 62, _, _, _, _, _⟩) (v := .bool false) rfl (by kernel_rfl) (by kernel_rfl) (by kernel_rfl) (fun _ _ _ h => h) (Or.inl ⟨by rfl, fun w hS => by have q0 := HQ2.out; go_simp⟩) HS_w5_4.out ?_
  try simp only [Act.put, List.setIfInBounds_toArray, List.set_cons_zero, List.set_cons_succ]
  refine wpAnyH_take (i := 22) (oi := ⟨some 63, _, _, _, _, _⟩) (v := .bool false) rfl (by kernel_rfl) (by kernel_rfl) (by kernel_rfl) (fun _ _ _ h => h) (Or.inl ⟨by rfl, fun w hS => by go_simp⟩) HS_w5_4.out ?_
  try simp only [Act.put, List.setIfInBounds_toArray, List.set_cons_zero, List.set_cons_succ]
  refine wpAnyH_take (i := 23) (oi := ⟨some 64, _, _, _, _, _⟩) (v := .bool false) rfl (by kernel_rfl) (by kernel_rfl) (by kernel_rfl) (fun _ _ _ h => h) (Or.inl ⟨by rfl, fun w hS => by go_simp⟩) HS_w5_4.out ?_
  try simp only [Act.put, List.setIfInBounds_toArray, List.set_cons_zero, List.set_cons_succ]
  refine wpAnyH_take (i := 24) (oi := ⟨some 65, _, _, _, _, _⟩) (v := .int .i64 wd) rfl (by kernel_rfl) (by kernel_rfl) (by kernel_rfl) (fun _ _ _ h => h) (Or.inl ⟨by rfl, fun w hS => by go_simp⟩) HS_w5_4.out ?_
  try simp only [Act.put, List.setIfInBounds_toArray, List.set_cons_zero, List.set_cons_succ]
  refine wpAnyH_take (i := 26) (oi := ⟨some 67, _, _, _, _, _⟩) (v := .int .i64 wd) rfl (by kernel_rfl) (by kernel_rfl) (by kernel_rfl) (fun _ _ _ h => h) (Or.inl ⟨by rfl, fun w hS => by go_simp⟩) HS_w5_4.out ?_
  try simp only [Act.put, List.setIfInBounds_toArray, List.set_cons_zero, List.set_cons_succ]
  refine wpAnyH_ready (rs := [25]) (by kernel_rfl) (by simp) ?_
  refine AllReadyH.cons rfl (fun K hK => ?_) AllReadyH.nil
  go_simp
  refine (HNot.out w9 (HU5.out.trans (HS_w5_4.out.mono (fun _ _ e => e.elim)))).mono ?_
  rintro e w10 ⟨rfl, hu_⟩
  have HS_w5_5 : Hid (Upd (fun _ => False) w5 w10) := HS_w5_4.out.trans (hu_.mono (fun _ _ h => h.elim))
  have HU_w10 := Lib.hid hu_
  clear hu_
  refine hK.out _ _ HS_w5_5.out (fun hHeld => ?_)
  clear hK K hHeld
  try simp only [Act.put, List.setIfInBounds_toArray, List.set_cons_zero, List.set_cons_succ]
  refine wpAnyH_ready (rs := [27]) (by kernel_rfl) (by simp) ?_
  refine AllReadyH.cons rfl (fun K hK => ?_) AllReadyH.nil
  go_simp
  refine (HRNot.out w10 (HU5.out.trans (HS_w5_5.out.mono (fun _ _ e => e.elim)))).mono ?_
  rintro e w11 ⟨rfl, hu_⟩
  have HS_w5_6 : Hid (Upd (fun _ => False) w5 w11) := HS_w5_5.out.trans (hu_.mono (fun _ _ h => h.elim))
  have HU_w11 := Lib.hid hu_
  clear hu_
  refine hK.out _ _ HS_w5_6.out (fun hHeld => ?_)
  clear hK K hHeld
  try simp only [Act.put, List.setIfInBounds_toArray, List.set_cons_zero, List.set_cons_succ]
  refine wpAnyH_take (i := 28) (oi := ⟨some 69, _, _, _, _, _⟩) (v := .bool false) rfl (by kernel_rfl) (by kernel_rfl) (by kernel_rfl) (fun _ _ _ h => h) (Or.inl ⟨by rfl, fun w hS => by have q0 := HQ3.out; go_simp⟩) HS_w5_6.out ?_
  try simp only [Act.put, List.setIfInBounds_toArray, List.set_cons_zero, List.set_cons_succ]
  refine wpAnyH_take (i := 29) (oi := ⟨some 70, _, _, _, _, _⟩) (v := .bool false) rfl (by kernel_rfl) (by kernel_rfl) (by kernel_rfl) (fun _ _ _ h => h) (Or.inl ⟨by rfl, fun w hS => by go_simp⟩) HS_w5_6.out ?_
  try simp only [Act.put, List.setIfInBounds_toArray, List.set_cons_zero, List.set_cons_succ]
  refine wpAnyH_done (by kernel_rfl) ?_ _
  have HU11 : Hid (Upd (fun _ => False) W w11) := HU5.out.trans (HS_w5_6.out.mono (fun _ _ e => e.elim))
  have HX11 : Hid (PX w11 W.heap.size wd dm ct ht LA LB (.slice pao pn pcap) (.slice qao qn qcap)) := HX5.out.upd HS_w5_6.out id
  have HG11 : Hid (Row w11 g 5 ((FL P 165).map Mem.u8)) := HG5.out.upd HS_w5_6.out id
  have HE11 : Hid (w11.heap[E]? = some (.cells (Value.int .i64 ct :: LB).toArray 43 (0, 0))) := (HS_w5_6.out.block _ (lt_of_block HE5.out) id).trans HE5.out
  clear HX5 HG5 HE5 HU5 HS_w5_0 HS_w5_1 HS_w5_2 HS_w5_3 HS_w5_4 HS_w5_5 HS_w5_6
  clear HNode HRNode HNot HRNot HU_w6 HU_w7 HU_w8 HU_w9 HU_w10 HU_w11
  go_wp2_with fail
  have HS_w11_0 : Hid (Upd (fun _ => False) w11 w11.drew) := (Upd.refl _ _).drew
  refine wp_region_held_drew (S := Upd (fun _ => False) w11) (by kernel_rfl) HS_w11_0.out (fun _ => ?_)
  refine wpAnyH_take (i := 0) (oi := ⟨some 71, _, _, _, _, _⟩) (v := .int .i64 wd) rfl (by kernel_rfl) (by kernel_rfl) (by kernel_rfl) (fun _ _ _ h => h) (Or.inl ⟨by rfl, fun w hS => by go_simp⟩) HS_w11_0.out ?_
  try simp only [Act.put, List.setIfInBounds_toArray, List.set_cons_zero, List.set_cons_succ]
  refine wpAnyH_take (i := 1) (oi := ⟨some 72, _, _, _, _, _⟩) (v := .pointer (some ⟨W.heap.size, 4, none⟩)) rfl (by kernel_rfl) (by kernel_rfl) (by kernel_rfl) (fun _ _ _ h => h) (Or.inl ⟨by rfl, fun w hS => by go_simp⟩) HS_w11_0.out ?_
  try simp only [Act.put, List.setIfInBounds_toArray, List.set_cons_zero, List.set_cons_succ]
  refine wpAnyH_take (i := 2) (oi := ⟨some 73, _, _, _, _, _⟩) rfl (by kernel_rfl) (by kernel_rfl) (by kernel_rfl) (fun _ _ _ h => h) (yieldsIf_load_mid (by rfl) _ _ rfl W.heap.size 4 rfl LA _ (fun w h => (HX11.out.upd h id).ra) Tryd.underlying23 rfl HszA.out) HS_w11_0.out ?_
  try simp only [Act.put, List.setIfInBounds_toArray, List.set_cons_zero, List.set_cons_succ]
  refine wpAnyH_take (i := 3) (oi := ⟨some 74, _, _, _, _, _⟩) (v := .pointer (some ⟨W.heap.size, 36, none⟩)) rfl (by kernel_rfl) (by kernel_rfl) (by kernel_rfl) (fun _ _ _ h => h) (Or.inl ⟨by rfl, fun w hS => by go_simp⟩) HS_w11_0.out ?_
  try simp only [Act.put, List.setIfInBounds_toArray, List.set_cons_zero, List.set_cons_succ]
  refine wpAnyH_take (i := 4) (oi := ⟨some 75, _, _, _, _, _⟩) rfl (by kernel_rfl) (by kernel_rfl) (by kernel_rfl) (fun _ _ _ h => h) (yieldsIf_load_mid (by rfl) _ _ rfl W.heap.size 36 rfl LB _ (fun w h => (HX11.out.upd h id).rb) Tryd.underlying23 rfl HszB.out) HS_w11_0.out ?_
  try simp only [Act.put, List.setIfInBounds_toArray, List.set_cons_zero, List.set_cons_succ]
  refine wpAnyH_take (i := 6) (oi := ⟨some 77, _, _, _, _, _⟩) (v := .int .i64 wd) rfl (by kernel_rfl) (by kernel_rfl) (by kernel_rfl) (fun _ _ _ h => h) (Or.inl ⟨by rfl, fun w hS => by go_simp⟩) HS_w11_0.out ?_
  try simp only [Act.put, List.setIfInBounds_toArray, List.set_cons_zero, List.set_cons_succ]
  refine wpAnyH_take (i := 7) (oi := ⟨some 78, _, _, _, _, _⟩) (v := .pointer (some ⟨W.heap.size, 4, none⟩)) rfl (by kernel_rfl) (by kernel_rfl) (by kernel_rfl) (fun _ _ _ h => h) (Or.inl ⟨by rfl, fun w hS => by go_simp⟩) HS_w11_0.out ?_
  try simp only [Act.put, List.setIfInBounds_toArray, List.set_cons_zero, List.set_cons_succ]
  refine wpAnyH_take (i := 8) (oi := ⟨some 79, _, _, _, _, _⟩) rfl (by kernel_rfl) (by kernel_rfl) (by kernel_rfl) (fun _ _ _ h => h) (yieldsIf_load_mid (by rfl) _ _ rfl W.heap.size 4 rfl LA _ (fun w h => (HX11.out.upd h id).ra) Tryd.underlying23 rfl HszA.out) HS_w11_0.out ?_
  try simp only [Act.put, List.setIfInBounds_toArray, List.set_cons_zero, List.set_cons_succ]
  refine wpAnyH_take (i := 9) (oi := ⟨some 80, _, _, _, _, _⟩) (v := .pointer (some ⟨W.heap.size, 36, none⟩)) rfl (by kernel_rfl) (by kernel_rfl) (by kernel_rfl) (fun _ _ _ h => h) (Or.inl ⟨by rfl, fun w hS => by go_simp⟩) HS_w11_0.out ?_
  try simp only [Act.put, List.setIfInBounds_toArray, List.set_cons_zero, List.set_cons_succ]
  refine wpAnyH_take (i := 10) (oi := ⟨some 81, _, _, _, _, _⟩) rfl (by kernel_rfl) (by kernel_rfl) (by kernel_rfl) (fun _ _ _ h => h) (yieldsIf_load_mid (by rfl) _ _ rfl W.heap.size 36 rfl LB _ (fun w h => (HX11.out.upd h id).rb) Tryd.underlying23 rfl HszB.out) HS_w11_0.out ?_
  try simp only [Act.put, List.setIfInBounds_toArray, List.set_cons_zero, List.set_cons_succ]
  refine wpAnyH_ready (rs := [5]) (by kernel_rfl) (by simp) ?_
  refine AllReadyH.cons rfl (fun K hK => ?_) AllReadyH.nil
  go_simp
  refine (HLink.out w11.drew (HU11.out.trans (HS_w11_0.out.mono (fun _ _ e => e.elim)))).mono ?_
  rintro e w12 ⟨rfl, hu_⟩
  have HS_w11_1 : Hid (Upd (fun _ => False) w11 w12) := HS_w11_0.out.trans (hu_.mono (fun _ _ h => h.elim))
  have HU_w12 := Lib.hid hu_
  clear hu_
  refine hK.out _ _ HS_w11_1.out (fun hHeld => ?_)
  clear hK K hHeld
  try simp only [Act.put, List.setIfInBounds_toArray, List.set_cons_zero, List.set_cons_succ]
  refine wpAnyH_ready (rs := [11]) (by kernel_rfl) (by simp) ?_
  refine AllReadyH.cons rfl (fun K hK => ?_) AllReadyH.nil
  go_simp
  refine (HRLink.out w12 (HU11.out.trans (HS_w11_1.out.mono (fun _ _ e => e.elim)))).mono ?_
  rintro e w13 ⟨rfl, hu_⟩
  have HS_w11_2 : Hid (Upd (fun _ => False) w11 w13) := HS_w11_1.out.trans (hu_.mono (fun _ _ h => h.elim))
  have HU_w13 := Lib.hid hu_
  clear hu_
  refine hK.out _ _ HS_w11_2.out (fun hHeld => ?_)
  clear hK K hHeld
  try simp only [Act.put, List.setIfInBounds_toArray, List.set_cons_zero, List.set_cons_succ]
  refine wpAnyH_take (i := 12) (oi := ⟨some 83, _, _, _, _, _⟩) (v := .bool false) rfl (by kernel_rfl) (by kernel_rfl) (by kernel_rfl) (fun _ _ _ h => h) (Or.inl ⟨by rfl, fun w hS => by have q0 := HQ4.out; go_simp⟩) HS_w11_2.out ?_
  try simp only [Act.put, List.setIfInBounds_toArray, List.set_cons_zero, List.set_cons_succ]
  refine wpAnyH_take (i := 13) (oi := ⟨some 84, _, _, _, _, _⟩) (v := .bool false) rfl (by kernel_rfl) (by kernel_rfl) (by kernel_rfl) (fun _ _ _ h => h) (Or.inl ⟨by rfl, fun w hS => by go_simp⟩) HS_w11_2.out ?_
  try simp only [Act.put, List.setIfInBounds_toArray, List.set_cons_zero, List.set_cons_succ]
  refine wpAnyH_take (i := 14) (oi := ⟨some 85, _, _, _, _, _⟩) (v := .int .i64 wd) rfl (by kernel_rfl) (by kernel_rfl) (by kernel_rfl) (fun _ _ _ h => h) (Or.inl ⟨by rfl, fun w hS => by go_simp⟩) HS_w11_2.out ?_
  try simp only [Act.put, List.setIfInBounds_toArray, List.set_cons_zero, List.set_cons_succ]
  refine wpAnyH_take (i := 15) (oi := ⟨some 86, _, _, _, _, _⟩) (v := .pointer (some ⟨W.heap.size, 4, none⟩)) rfl (by kernel_rfl) (by kernel_rfl) (by kernel_rfl) (fun _ _ _ h => h) (Or.inl ⟨by rfl, fun w hS => by go_simp⟩) HS_w11_2.out ?_
  try simp only [Act.put, List.setIfInBounds_toArray, List.set_cons_zero, List.set_cons_succ]
  refine wpAnyH_take (i := 16) (oi := ⟨some 87, _, _, _, _, _⟩) rfl (by kernel_rfl) (by kernel_rfl) (by kernel_rfl) (fun _ _ _ h => h) (yieldsIf_load_mid (by rfl) _ _ rfl W.heap.size 4 rfl LA _ (fun w h => (HX11.out.upd h id).ra) Tryd.underlying23 rfl HszA.out) HS_w11_2.out ?_
  try simp only [Act.put, List.setIfInBounds_toArray, List.set_cons_zero, List.set_cons_succ]
  refine wpAnyH_take (i := 17) (oi := ⟨some 88, _, _, _, _, _⟩) rfl (by kernel_rfl) (by kernel_rfl) (by kernel_rfl) (fun _ _ _ h => h) (yieldsIf_load_mid (by rfl) _ _ rfl E 0 rfl (Value.int .i64 ct :: LB) _ (fun w h => range_upd HE11.out h) Tryd.underlying43 rfl HEz.out) HS_w11_2.out ?_
  try simp only [Act.put, List.setIfInBounds_toArray, List.set_cons_zero, List.set_cons_succ]
  refine wpAnyH_take (i := 19) (oi := ⟨some 90, _, _, _, _, _⟩) (v := .int .i64 wd) rfl (by kernel_rfl) (by kernel_rfl) (by kernel_rfl) (fun _ _ _ h => h) (Or.inl ⟨by rfl, fun w hS => by go_simp⟩) HS_w11_2.out ?_
  try simp only [Act.put, List.setIfInBounds_toArray, List.set_cons_zero, List.set_cons_succ]
  refine wpAnyH_take (i := 20) (oi := ⟨some 91, _, _, _, _, _⟩) (v := .pointer (some ⟨W.heap.size, 4, none⟩)) rfl (by kernel_rfl) (by kernel_rfl) (by kernel_rfl) (fun _ _ _ h => h) (Or.inl ⟨by rfl, fun w hS => by go_simp⟩) HS_w11_2.out ?_
  try simp only [Act.put, List.setIfInBounds_toArray, List.set_cons_zero, List.set_cons_succ]
  refine wpAnyH_take (i := 21) (oi := ⟨some 92, _, _, _, _, _⟩) rfl (by kernel_rfl) (by kernel_rfl) (by kernel_rfl) (fun _ _ _ h => h) (yieldsIf_load_mid (by rfl) _ _ rfl W.heap.size 4 rfl LA _ (fun w h => (HX11.out.upd h id).ra) Tryd.underlying23 rfl HszA.out) HS_w11_2.out ?_
  try simp only [Act.put, List.setIfInBounds_toArray, List.set_cons_zero, List.set_cons_succ]
  refine wpAnyH_take (i := 22) (oi := ⟨some 93, _, _, _, _, _⟩) rfl (by kernel_rfl) (by kernel_rfl) (by kernel_rfl) (fun _ _ _ h => h) (yieldsIf_load_mid (by rfl) _ _ rfl E 0 rfl (Value.int .i64 ct :: LB) _ (fun w h => range_upd HE11.out h) Tryd.underlying43 rfl HEz.out) HS_w11_2.out ?_
  try simp only [Act.put, List.setIfInBounds_toArray, List.set_cons_zero, List.set_cons_succ]
  refine wpAnyH_ready (rs := [18]) (by kernel_rfl) (by simp) ?_
  refine AllReadyH.cons rfl (fun K hK => ?_) AllReadyH.nil
  go_simp
  refine (HEnt.out w13 (HU11.out.trans (HS_w11_2.out.mono (fun _ _ e => e.elim)))).mono ?_
  rintro e w14 ⟨rfl, hu_⟩
  have HS_w11_3 : Hid (Upd (fun _ => False) w11 w14) := HS_w11_2.out.trans (hu_.mono (fun _ _ h => h.elim))
  have HU_w14 := Lib.hid hu_
  clear hu_
  refine hK.out _ _ HS_w11_3.out (fun hHeld => ?_)
  clear hK K hHeld
  try simp only [Act.put, List.setIfInBounds_toArray, List.set_cons_zero, List.set_cons_succ]
  refine wpAnyH_ready (rs := [23]) (by kernel_rfl) (by simp) ?_
  refine AllReadyH.cons rfl (fun K hK => ?_) AllReadyH.nil
  go_simp
  refine (HREnt.out w14 (HU11.out.trans (HS_w11_3.out.mono (fun _ _ e => e.elim)))).mono ?_
  rintro e w15 ⟨rfl, hu_⟩
  have HS_w11_4 : Hid (Upd (fun _ => False) w11 w15) := HS_w11_3.out.trans (hu_.mono (fun _ _ h => h.elim))
  have HU_w15 := Lib.hid hu_
  clear hu_
  refine hK.out _ _ HS_w11_4.out (fun hHeld => ?_)
  clear hK K hHeld
  try simp only [Act.put, List.setIfInBounds_toArray, List.set_cons_zero, List.set_cons_succ]
  refine wpAnyH_take (i := 24) (oi := ⟨some 95, _, _, _, _, _⟩) (v := .bool false) rfl (by kernel_rfl) (by kernel_rfl) (by kernel_rfl) (fun _ _ _ h => h) (Or.inl ⟨by rfl, fun w hS => by have q0 := HQ5.out; go_simp⟩) HS_w11_4.out ?_
  try simp only [Act.put, List.setIfInBounds_toArray, List.set_cons_zero, List.set_cons_succ]
  refine wpAnyH_take (i := 25) (oi := ⟨some 96, _, _, _, _, _⟩) (v := .bool false) rfl (by kernel_rfl) (by kernel_rfl) (by kernel_rfl) (fun _ _ _ h => h) (Or.inl ⟨by rfl, fun w hS => by go_simp⟩) HS_w11_4.out ?_
  try simp only [Act.put, List.setIfInBounds_toArray, List.set_cons_zero, List.set_cons_succ]
  refine wpAnyH_done (by kernel_rfl) ?_ _
  have HU15 : Hid (Upd (fun _ => False) W w15) := HU11.out.trans (HS_w11_4.out.mono (fun _ _ e => e.elim))
  have HX15 : Hid (PX w15 W.heap.size wd dm ct ht LA LB (.slice pao pn pcap) (.slice qao qn qcap)) := HX11.out.upd HS_w11_4.out id
  have HG15 : Hid (Row w15 g 5 ((FL P 165).map Mem.u8)) := HG11.out.upd HS_w11_4.out id
  have HE15 : Hid (w15.heap[E]? = some (.cells (Value.int .i64 ct :: LB).toArray 43 (0, 0))) := (HS_w11_4.out.block _ (lt_of_block HE11.out) id).trans HE11.out
  clear HX11 HG11 HE11 HU11 HS_w11_0 HS_w11_1 HS_w11_2 HS_w11_3 HS_w11_4
  clear HLink HRLink HEnt HREnt HU_w12 HU_w13 HU_w14 HU_w15
  go_wp2_with fail
  have HS_w15_0 : Hid (Upd (fun _ => False) w15 w15.drew) := (Upd.refl _ _).drew
  refine wp_region_held_drew (S := Upd (fun _ => False) w15) (by kernel_rfl) HS_w15_0.out (fun _ => ?_)
  refine wpAnyH_take (i := 0) (oi := ⟨some 97, _, _, _, _, _⟩) (v := .int .i64 wd) rfl (by kernel_rfl) (by kernel_rfl) (by kernel_rfl) (fun _ _ _ h => h) (Or.inl ⟨by rfl, fun w hS => by go_simp⟩) HS_w15_0.out ?_
  try simp only [Act.put, List.setIfInBounds_toArray, List.set_cons_zero, List.set_cons_succ]
  refine wpAnyH_take (i := 1) (oi := ⟨some 98, _, _, _, _, _⟩) (v := .pointer (some ⟨W.heap.size, 4, none⟩)) rfl (by kernel_rfl) (by kernel_rfl) (by kernel_rfl) (fun _ _ _ h => h) (Or.inl ⟨by rfl, fun w hS => by go_simp⟩) HS_w15_0.out ?_
  try simp only [Act.put, List.setIfInBounds_toArray, List.set_cons_zero, List.set_cons_succ]
  refine wpAnyH_take (i := 2) (oi := ⟨some 99, _, _, _, _, _⟩) rfl (by kernel_rfl) (by kernel_rfl) (by kernel_rfl) (fun _ _ _ h => h) (yieldsIf_load_mid (by rfl) _ _ rfl W.heap.size 4 rfl LA _ (fun w h => (HX15.out.upd h id).ra) Tryd.underlying23 rfl HszA.out) HS_w15_0.out ?_
  try simp only [Act.put, List.setIfInBounds_toArray, List.set_cons_zero, List.set_cons_succ]
  refine wpAnyH_take (i := 3) (oi := ⟨some 100, _, _, _, _, _⟩) (v := .pointer (some ⟨W.heap.size, 36, none⟩)) rfl (by kernel_rfl) (by kernel_rfl) (by kernel_rfl) (fun _ _ _ h => h) (Or.inl ⟨by rfl, fun w hS => by go_simp⟩) HS_w15_0.out ?_
  try simp only [Act.put, List.setIfInBounds_toArray, List.set_cons_zero, List.set_cons_succ]
  refine wpAnyH_take (i := 4) (oi := ⟨some 101, _, _, _, _, _⟩) rfl (by kernel_rfl) (by kernel_rfl) (by kernel_rfl) (fun _ _ _ h => h) (yieldsIf_load_mid (by rfl) _ _ rfl W.heap.size 36 rfl LB _ (fun w h => (HX15.out.upd h id).rb) Tryd.underlying23 rfl HszB.out) HS_w15_0.out ?_
  try simp only [Act.put, List.setIfInBounds_toArray, List.set_cons_zero, List.set_cons_succ]
  refine wpAnyH_take (i := 6) (oi := ⟨some 103, _, _, _, _, _⟩) (v := .int .i64 wd) rfl (by kernel_rfl) (by kernel_rfl) (by kernel_rfl) (fun _ _ _ h => h) (Or.inl ⟨by rfl, fun w hS => by go_simp⟩) HS_w15_0.out ?_
  try simp only [Act.put, List.setIfInBounds_toArray, List.set_cons_zero, List.set_cons_succ]
  refine wpAnyH_take (i := 7) (oi := ⟨some 104, _, _, _, _, _⟩) (v := .pointer (some ⟨W.heap.size, 4, none⟩)) rfl (by kernel_rfl) (by kernel_rfl) (by kernel_rfl) (fun _ _ _ h => h) (Or.inl ⟨by rfl, fun w hS => by go_simp⟩) HS_w15_0.out ?_
  try simp only [Act.put, List.setIfInBounds_toArray, List.set_cons_zero, List.set_cons_succ]
  refine wpAnyH_take (i := 8) (oi := ⟨some 105, _, _, _, _, _⟩) rfl (by kernel_rfl) (by kernel_rfl) (by kernel_rfl) (fun _ _ _ h => h) (yieldsIf_load_mid (by rfl) _ _ rfl W.heap.size 4 rfl LA _ (fun w h => (HX15.out.upd h id).ra) Tryd.underlying23 rfl HszA.out) HS_w15_0.out ?_
  try simp only [Act.put, List.setIfInBounds_toArray, List.set_cons_zero, List.set_cons_succ]
  refine wpAnyH_take (i := 9) (oi := ⟨some 106, _, _, _, _, _⟩) (v := .pointer (some ⟨W.heap.size, 36, none⟩)) rfl (by kernel_rfl) (by kernel_rfl) (by kernel_rfl) (fun _ _ _ h => h) (Or.inl ⟨by rfl, fun w hS => by go_simp⟩) HS_w15_0.out ?_
  try simp only [Act.put, List.setIfInBounds_toArray, List.set_cons_zero, List.set_cons_succ]
  refine wpAnyH_take (i := 10) (oi := ⟨some 107, _, _, _, _, _⟩) rfl (by kernel_rfl) (by kernel_rfl) (by kernel_rfl) (fun _ _ _ h => h) (yieldsIf_load_mid (by rfl) _ _ rfl W.heap.size 36 rfl LB _ (fun w h => (HX15.out.upd h id).rb) Tryd.underlying23 rfl HszB.out) HS_w15_0.out ?_
  try simp only [Act.put, List.setIfInBounds_toArray, List.set_cons_zero, List.set_cons_succ]
  refine wpAnyH_ready (rs := [5]) (by kernel_rfl) (by simp) ?_
  refine AllReadyH.cons rfl (fun K hK => ?_) AllReadyH.nil
  go_simp
  refine (HBr.out w15.drew (HU15.out.trans (HS_w15_0.out.mono (fun _ _ e => e.elim)))).mono ?_
  rintro e w16 ⟨rfl, hu_⟩
  have HS_w15_1 : Hid (Upd (fun _ => False) w15 w16) := HS_w15_0.out.trans (hu_.mono (fun _ _ h => h.elim))
  have HU_w16 := Lib.hid hu_
  clear hu_
  refine hK.out _ _ HS_w15_1.out (fun hHeld => ?_)
  clear hK K hHeld
  try simp only [Act.put, List.setIfInBounds_toArray, List.set_cons_zero, List.set_cons_succ]
  refine wpAnyH_ready (rs := [11]) (by kernel_rfl) (by simp) ?_
  refine AllReadyH.cons rfl (fun K hK => ?_) AllReadyH.nil
  go_simp
  refine (HRBr.out w16 (HU15.out.trans (HS_w15_1.out.mono (fun _ _ e => e.elim)))).mono ?_
  rintro e w17 ⟨rfl, hu_⟩
  have HS_w15_2 : Hid (Upd (fun _ => False) w15 w17) := HS_w15_1.out.trans (hu_.mono (fun _ _ h => h.elim))
  have HU_w17 := Lib.hid hu_
  clear hu_
  refine hK.out _ _ HS_w15_2.out (fun hHeld => ?_)
  clear hK K hHeld
  try simp only [Act.put, List.setIfInBounds_toArray, List.set_cons_zero, List.set_cons_succ]
  refine wpAnyH_take (i := 12) (oi := ⟨some 109, _, _, _, _, _⟩) (v := .bool false) rfl (by kernel_rfl) (by kernel_rfl) (by kernel_rfl) (fun _ _ _ h => h) (Or.inl ⟨by rfl, fun w hS => by have q0 := HQ6.out; go_simp⟩) HS_w15_2.out ?_
  try simp only [Act.put, List.setIfInBounds_toArray, List.set_cons_zero, List.set_cons_succ]
  refine wpAnyH_take (i := 13) (oi := ⟨some 110, _, _, _, _, _⟩) (v := .bool false) rfl (by kernel_rfl) (by kernel_rfl) (by kernel_rfl) (fun _ _ _ h => h) (Or.inl ⟨by rfl, fun w hS => by go_simp⟩) HS_w15_2.out ?_
  try simp only [Act.put, List.setIfInBounds_toArray, List.set_cons_zero, List.set_cons_succ]
  refine wpAnyH_take (i := 14) (oi := ⟨some 111, _, _, _, _, _⟩) (v := .int .i64 wd) rfl (by kernel_rfl) (by kernel_rfl) (by kernel_rfl) (fun _ _ _ h => h) (Or.inl ⟨by rfl, fun w hS => by go_simp⟩) HS_w15_2.out ?_
  try simp only [Act.put, List.setIfInBounds_toArray, List.set_cons_zero, List.set_cons_succ]
  refine wpAnyH_take (i := 15) (oi := ⟨some 112, _, _, _, _, _⟩) (v := .pointer (some ⟨W.heap.size, 3, none⟩)) rfl (by kernel_rfl) (by kernel_rfl) (by kernel_rfl) (fun _ _ _ h => h) (Or.inl ⟨by rfl, fun w hS => by go_simp⟩) HS_w15_2.out ?_
  try simp only [Act.put, List.setIfInBounds_toArray, List.set_cons_zero, List.set_cons_succ]
  refine wpAnyH_take (i := 16) (oi := ⟨some 113, _, _, _, _, _⟩) (v := .int .i64 ht) rfl (by kernel_rfl) (by kernel_rfl) (by kernel_rfl) (fun _ _ _ h => h) (Or.inl ⟨by rfl, fun w hS => by have c0 := (HX15.out.upd hS id).c3; go_simp⟩) HS_w15_2.out ?_
  try simp only [Act.put, List.setIfInBounds_toArray, List.set_cons_zero, List.set_cons_succ]
  refine wpAnyH_take (i := 18) (oi := ⟨some 115, _, _, _, _, _⟩) (v := .int .i64 wd) rfl (by kernel_rfl) (by kernel_rfl) (by kernel_rfl) (fun _ _ _ h => h) (Or.inl ⟨by rfl, fun w hS => by go_simp⟩) HS_w15_2.out ?_
  try simp only [Act.put, List.setIfInBounds_toArray, List.set_cons_zero, List.set_cons_succ]
  refine wpAnyH_take (i := 19) (oi := ⟨some 116, _, _, _, _, _⟩) (v := .pointer (some ⟨W.heap.size, 3, none⟩)) rfl (by kernel_rfl) (by kernel_rfl) (by kernel_rfl) (fun _ _ _ h => h) (Or.inl ⟨by rfl, fun w hS => by go_simp⟩) HS_w15_2.out ?_
  try simp only [Act.put, List.setIfInBounds_toArray, List.set_cons_zero, List.set_cons_succ]
  refine wpAnyH_take (i := 20) (oi := ⟨some 117, _, _, _, _, _⟩) (v := .int .i64 ht) rfl (by kernel_rfl) (by kernel_rfl) (by kernel_rfl) (fun _ _ _ h => h) (Or.inl ⟨by rfl, fun w hS => by have c0 := (HX15.out.upd hS id).c3; go_simp⟩) HS_w15_2.out ?_
  try simp only [Act.put, List.setIfInBounds_toArray, List.set_cons_zero, List.set_cons_succ]
  refine wpAnyH_ready (rs := [17]) (by kernel_rfl) (by simp) ?_
  refine AllReadyH.cons rfl (fun K hK => ?_) AllReadyH.nil
  go_simp
  refine (HEmp.out w17 (HU15.out.trans (HS_w15_2.out.mono (fun _ _ e => e.elim)))).mono ?_
  rintro e w18 ⟨rfl, hu_⟩
  have HS_w15_3 : Hid (Upd (fun _ => False) w15 w18) := HS_w15_2.out.trans (hu_.mono (fun _ _ h => h.elim))
  have HU_w18 := Lib.hid hu_
  clear hu_
  refine hK.out _ _ HS_w15_3.out (fun hHeld => ?_)
  clear hK K hHeld
  try simp only [Act.put, List.setIfInBounds_toArray, List.set_cons_zero, List.set_cons_succ]
  refine wpAnyH_ready (rs := [21]) (by kernel_rfl) (by simp) ?_
  refine AllReadyH.cons rfl (fun K hK => ?_) AllReadyH.nil
  go_simp
  refine (HREmp.out w18 (HU15.out.trans (HS_w15_3.out.mono (fun _ _ e => e.elim)))).mono ?_
  rintro e w19 ⟨rfl, hu_⟩
  have HS_w15_4 : Hid (Upd (fun _ => False) w15 w19) := HS_w15_3.out.trans (hu_.mono (fun _ _ h => h.elim))
  have HU_w19 := Lib.hid hu_
  clear hu_
  refine hK.out _ _ HS_w15_4.out (fun hHeld => ?_)
  clear hK K hHeld
  try simp only [Act.put, List.setIfInBounds_toArray, List.set_cons_zero, List.set_cons_succ]
  refine wpAnyH_take (i := 22) (oi := ⟨some 119, _, _, _, _, _⟩) (v := .bool false) rfl (by kernel_rfl) (by kernel_rfl) (by kernel_rfl) (fun _ _ _ h => h) (Or.inl ⟨by rfl, fun w hS => by have q0 := HQ7.out; go_simp⟩) HS_w15_4.out ?_
  try simp only [Act.put, List.setIfInBounds_toArray, List.set_cons_zero, List.set_cons_succ]
  refine wpAnyH_take (i := 23) (oi := ⟨some 120, _, _, _, _, _⟩) (v := .bool false) rfl (by kernel_rfl) (by kernel_rfl) (by kernel_rfl) (fun _ _ _ h => h) (Or.inl ⟨by rfl, fun w hS => by go_simp⟩) HS_w15_4.out ?_
  try simp only [Act.put, List.setIfInBounds_toArray, List.set_cons_zero, List.set_cons_succ]
  refine wpAnyH_take (i := 24) (oi := ⟨some 121, _, _, _, _, _⟩) (v := .bool false) rfl (by kernel_rfl) (by kernel_rfl) (by kernel_rfl) (fun _ _ _ h => h) (Or.inl ⟨by rfl, fun w hS => by go_simp⟩) HS_w15_4.out ?_
  try simp only [Act.put, List.setIfInBounds_toArray, List.set_cons_zero, List.set_cons_succ]
  refine wpAnyH_take (i := 25) (oi := ⟨some 122, _, _, _, _, _⟩) (v := .pointer (some ⟨W.heap.size, 68, none⟩)) rfl (by kernel_rfl) (by kernel_rfl) (by kernel_rfl) (fun _ _ _ h => h) (Or.inl ⟨by rfl, fun w hS => by go_simp⟩) HS_w15_4.out ?_
  try simp only [Act.put, List.setIfInBounds_toArray, List.set_cons_zero, List.set_cons_succ]
  refine wpAnyH_take (i := 26) (oi := ⟨some 123, _, _, _, _, _⟩) (v := .slice pao pn pcap) rfl (by kernel_rfl) (by kernel_rfl) (by kernel_rfl) (fun _ _ _ h => h) (Or.inl ⟨by rfl, fun w hS => by have c0 := (HX15.out.upd hS id).c6; go_simp⟩) HS_w15_4.out ?_
  try simp only [Act.put, List.setIfInBounds_toArray, List.set_cons_zero, List.set_cons_succ]
  refine wpAnyH_take (i := 27) (oi := ⟨some 124, _, _, _, _, _⟩) (v := .string s) rfl (by kernel_rfl) (by kernel_rfl) (by kernel_rfl) (fun _ _ _ h => h) (Or.inl ⟨by rfl, fun w hS => by have hc := HConv.out w (HU15.out.trans (hS.mono (fun _ _ e => e.elim))); go_simp⟩) HS_w15_4.out ?_
  try simp only [Act.put, List.setIfInBounds_toArray, List.set_cons_zero, List.set_cons_succ]
  refine wpAnyH_take (i := 29) (oi := ⟨some 126, _, _, _, _, _⟩) (v := .pointer (some ⟨W.heap.size, 68, none⟩)) rfl (by kernel_rfl) (by kernel_rfl) (by kernel_rfl) (fun _ _ _ h => h) (Or.inl ⟨by rfl, fun w hS => by go_simp⟩) HS_w15_4.out ?_
  try simp only [Act.put, List.setIfInBounds_toArray, List.set_cons_zero, List.set_cons_succ]
  refine wpAnyH_take (i := 30) (oi := ⟨some 127, _, _, _, _, _⟩) (v := .slice pao pn pcap) rfl (by kernel_rfl) (by kernel_rfl) (by kernel_rfl) (fun _ _ _ h => h) (Or.inl ⟨by rfl, fun w hS => by have c0 := (HX15.out.upd hS id).c6; go_simp⟩) HS_w15_4.out ?_
  try simp only [Act.put, List.setIfInBounds_toArray, List.set_cons_zero, List.set_cons_succ]
  refine wpAnyH_take (i := 31) (oi := ⟨some 128, _, _, _, _, _⟩) (v := .string s) rfl (by kernel_rfl) (by kernel_rfl) (by kernel_rfl) (fun _ _ _ h => h) (Or.inl ⟨by rfl, fun w hS => by have hc := HConv.out w (HU15.out.trans (hS.mono (fun _ _ e => e.elim))); go_simp⟩) HS_w15_4.out ?_
  try simp only [Act.put, List.setIfInBounds_toArray, List.set_cons_zero, List.set_cons_succ]
  refine wpAnyH_ready (rs := [28]) (by kernel_rfl) (by simp) ?_
  refine AllReadyH.cons rfl (fun K hK => ?_) AllReadyH.nil
  go_simp
  refine (HKey.out w19 (HU15.out.trans (HS_w15_4.out.mono (fun _ _ e => e.elim)))).mono ?_
  rintro e w20 ⟨rfl, hu_⟩
  have HS_w15_5 : Hid (Upd (fun _ => False) w15 w20) := HS_w15_4.out.trans (hu_.mono (fun _ _ h => h.elim))
  have HU_w20 := Lib.hid hu_
  clear hu_
  refine hK.out _ _ HS_w15_5.out (fun hHeld => ?_)
  clear hK K hHeld
  try simp only [Act.put, List.setIfInBounds_toArray, List.set_cons_zero, List.set_cons_succ]
  refine wpAnyH_ready (rs := [32]) (by kernel_rfl) (by simp) ?_
  refine AllReadyH.cons rfl (fun K hK => ?_) AllReadyH.nil
  go_simp
  refine (HRKey.out w20 (HU15.out.trans (HS_w15_5.out.mono (fun _ _ e => e.elim)))).mono ?_
  rintro e w21 ⟨rfl, hu_⟩
  have HS_w15_6 : Hid (Upd (fun _ => False) w15 w21) := HS_w15_5.out.trans (hu_.mono (fun _ _ h => h.elim))
  have HU_w21 := Lib.hid hu_
  clear hu_
  refine hK.out _ _ HS_w15_6.out (fun hHeld => ?_)
  clear hK K hHeld
  try simp only [Act.put, List.setIfInBounds_toArray, List.set_cons_zero, List.set_cons_succ]
  refine wpAnyH_take (i := 33) (oi := ⟨some 130, _, _, _, _, _⟩) (v := .bool false) rfl (by kernel_rfl) (by kernel_rfl) (by kernel_rfl) (fun _ _ _ h => h) (Or.inl ⟨by rfl, fun w hS => by have q0 := HQ8.out; go_simp⟩) HS_w15_6.out ?_
  try simp only [Act.put, List.setIfInBounds_toArray, List.set_cons_zero, List.set_cons_succ]
  refine wpAnyH_take (i := 34) (oi := ⟨some 131, _, _, _, _, _⟩) (v := .bool false) rfl (by kernel_rfl) (by kernel_rfl) (by kernel_rfl) (fun _ _ _ h => h) (Or.inl ⟨by rfl, fun w hS => by go_simp⟩) HS_w15_6.out ?_
  try simp only [Act.put, List.setIfInBounds_toArray, List.set_cons_zero, List.set_cons_succ]
  refine wpAnyH_done (by kernel_rfl) ?_ _
  have HU21 : Hid (Upd (fun _ => False) W w21) := HU15.out.trans (HS_w15_6.out.mono (fun _ _ e => e.elim))
  have HX21 : Hid (PX w21 W.heap.size wd dm ct ht LA LB (.slice pao pn pcap) (.slice qao qn qcap)) := HX15.out.upd HS_w15_6.out id
  have HG21 : Hid (Row w21 g 5 ((FL P 165).map Mem.u8)) := HG15.out.upd HS_w15_6.out id
  have HE21 : Hid (w21.heap[E]? = some (.cells (Value.int .i64 ct :: LB).toArray 43 (0, 0))) := (HS_w15_6.out.block _ (lt_of_block HE15.out) id).trans HE15.out
  clear HX15 HG15 HE15 HU15 HS_w15_0 HS_w15_1 HS_w15_2 HS_w15_3 HS_w15_4 HS_w15_5 HS_w15_6
  clear HBr HRBr HEmp HREmp HKey HRKey HConv HU_w16 HU_w17 HU_w18 HU_w19 HU_w20 HU_w21 HE21 HEA HEz
  go_wp2_with fail
  have hqnl := Hqn.out
  have hqb : qn ≤ 2147483647 := by have h1 := tot_len Q; have h2 := Htot.out; omega
  have HQb : Hid (∀ i, (Q.getD i []).length ≤ 2147483647) := fun i => by have h1 := tot_getD Q i; have h2 := Htot.out; omega
  have HQc : Hid ((cat Q).length ≤ 2147483647) := by show _ ≤ _; have h1 := cat_tot Q; have h2 := Htot.out; omega
  have hLT0 := LT1.start w21 Q
  have HLT0 := Lib.hid hLT0
  clear hqnl hLT0
  go_loopw [7, 8, 9] (fun v7 v8 i wr => LT1 w21 Q v7 v8 i wr) (fun _ _ i _ => (qn - (intOf i).toNat))
  case atStart => exact HLT0.out
  case round =>
    clear HLT0
    obtain ⟨j, gs, hj, rfl, hlst, hu⟩ := hrel
    have HL := Lib.hid hlst
    have HUl := Lib.hid hu
    have HUw : Hid (Upd (fun _ => False) W wr) := HU21.out.trans (hu.mono (fun _ _ e => e.elim))
    have HXr : Hid (PX wr W.heap.size wd dm ct ht LA LB (.slice pao pn pcap) (.slice qao qn qcap)) := HX21.out.upd hu id
    have hjq : j ≤ qn := by rw [Hqn.out]; exact hj
    clear hlst hu hj
    have c7 := HXr.out.c7
    by_cases hlt : j < qn
    · have hltI : (j : Int) < (qn : Int) := by omega
      have hjt : j < Q.length := by rw [← Hqn.out]; exact hlt
      obtain ⟨ao', cap', pv, he, h3, h4⟩ := HSQ.out W (Upd.refl _ _)
      injection he with e1 e2 e3
      subst e1 e3
      clear e2
      obtain ⟨⟨pa, oa, sa⟩, rfl⟩ : ∃ ad, qao = some ad := by
        cases qao with
        | some ad => exact ⟨ad, rfl⟩
        | none => have := h3 rfl; omega
      obtain ⟨hsa, hpa, h5⟩ := h4 _ rfl
      obtain rfl : sa = none := hsa
      obtain ⟨hc, hel, hpo⟩ := h5 j hjt
      rw [add_none] at hc
      obtain ⟨q, hq⟩ : ∃ q, q = Q.getD j [] := ⟨_, rfl⟩
      obtain ⟨pj, hpj⟩ : ∃ x, x = pv j := ⟨_, rfl⟩
      rw [← hq, ← hpj] at hel
      rw [← hpj] at hc
      have hel := hel.upd HUw.out (fun _ _ _ => id)
      obtain ⟨bo, bc, hpf, _⟩ := id hel
      obtain ⟨m, hm⟩ : ∃ m, m = q.length := ⟨_, rfl⟩
      have hmb : m ≤ 2147483647 := by have := HQb.out j; rw [← hq] at this; omega
      rw [← hm] at hpf
      subst hpf
      have HcW := Lib.hid hc
      have hc := HUw.out.cell HcW.out id
      have HRj := Lib.hid (roomy_el bo m bc q 165 wr hel (by omega))
      have Hq := Lib.hid hq
      have Hm := Lib.hid hm
      clear h3 h4 h5 hpo hel hq hm hpj hpa hjt
      go_wp2_with fail
      refine HRj.out.mono ?_
      rintro e w2 ⟨g2, rfl, hg2, hr2, hu2⟩
      have HR2 := Lib.hid hr2
      have HU2 := Lib.hid hu2
      have hg2l : g2 < w2.heap.size := hr2.lt
      have HG2 : Hid (wr.heap.size ≤ g2) := hg2
      have HL2 : Hid (Lst w2 w21.heap.size (Q.take j) gs j u7 u8) := HL.out.kept hu2
      have HF1 : Hid ((w2.alloc (.cells #[.slice (some ⟨g2, 0, none⟩) (m + 80) (m + 80)] 25)).ownsRow 0 25 1 u7 j (fvs (Q.take j) gs)) := IntsW.own_upd HL2.out.o7 ((Upd.refl (fun _ => False) w2).alloc _) (fun _ _ => id)
      clear hr2 hu2 hg2 hc HRj
      go_upto_region 19 with ((at_builtin; (refine wpList_append_q _ (o := ⟨some 148, _, _, _, _, _⟩) ?_ (.tmp 145) (.tmp 147) ?_ u7 j (fvs (Q.take j) gs) ?_ HF1.out w2.heap.size 1 (.slice (some ⟨g2, 0, none⟩) (m + 80) (m + 80)) ?_ (heap_alloc_new _ _) rfl (by omega) ?_); rfl; rfl; rfl; rfl; intro a3 c3 w3 HO3 HGr3 HA3))
      have HU3' : Hid (Upd (fun k => own u7 k) w2 w3) := ((Upd.refl (fun k => own u7 k) w2).alloc _).trans ((Upd.grown HGr3.out (fun k hk => hk) : Upd (fun k => own u7 k) _ w3).mono (fun k _ hk => .inl hk))
      have HR3 : Hid (Row w3 g2 5 ((FL q 165).map Mem.u8)) := HR2.out.upd HU3'.out (row_off HR2.out HL2.out.o7)
      have HF3 : Hid (Fls w3 w21.heap.size (Q.take j) gs) := HL2.out.fl.upd HU3'.out (fun x hx => by
        obtain ⟨i, hi, rfl⟩ := List.getElem_of_mem hx
        have h := HL2.out.fl.row i (by rw [← HL2.out.fl.len]; exact hi)
        rw [List.getD_eq_getElem?_getD, List.getElem?_eq_getElem hi] at h
        exact row_off h HL2.out.o7)
      have HP3 : Hid (w3.ownsRow 0 25 1 u8 j (pvs (Q.take j) gs)) := IntsW.own_upd HL2.out.o8 HU3'.out (fun k hk h => HL2.out.ap k h hk)
      have HN3 : Hid (∀ k, own (.slice a3 (j + 1) c3) k → own u7 k ∨ k = w2.heap.size + 1) := fun k hk => by
        rcases HA3.out with h | h
        · left; unfold own at hk ⊢; rw [← h]; exact hk
        · right; unfold own at hk; rw [h] at hk; injection hk with hk; rw [← hk]; simp
      have hs3 : w2.heap.size + 1 ≤ w3.heap.size := by have := HGr3.out.size; simpa using this
      have HUr3 : Hid (Upd (fun _ => False) w21 w3) := (HUl.out.trans (HU2.out.mono (fun _ _ e => e.elim))).trans (HU3'.out.mono (fun k _ hk => .inr (HL2.out.n7 k hk)))
      have HUw3 : Hid (Upd (fun _ => False) W w3) := HU21.out.trans (HUr3.out.mono (fun _ _ e => e.elim))
      have c7 : w3.cell? ⟨W.heap.size, 69, none⟩ = some (.slice (some ⟨pa, oa, none⟩) qn qcap) := (HX21.out.upd HUr3.out id).c7
      have hc : w3.cell? ⟨pa, oa + j, none⟩ = some (.slice bo m bc) := HUw3.out.cell HcW.out id
      have HP1 : Hid ((w3.alloc (.cells #[.slice (some ⟨g2, 0, none⟩) m (m + 80)] 25)).ownsRow 0 25 1 u8 j (pvs (Q.take j) gs)) := IntsW.own_upd HP3.out ((Upd.refl (fun _ => False) w3).alloc _) (fun _ _ => id)
      have hmc : (m : Int) ≤ (m : Int) + 80 := by omega
      go_wp2_with ((at_builtin; (refine wpList_append_q _ (o := ⟨some 159, _, _, _, _, _⟩) ?_ (.tmp 149) (.tmp 158) ?_ u8 j (pvs (Q.take j) gs) ?_ HP1.out w3.heap.size 1 (.slice (some ⟨g2, 0, none⟩) m (m + 80)) ?_ (heap_alloc_new _ _) rfl (by omega) ?_); rfl; rfl; rfl; rfl; intro a4 c4 w4' HO4 HGr4 HA4))
      have hstep := HL2.out.step g2 m q Hm.out HR2.out (by have h1 := HG2.out; have h2 := HUl.out.size; omega) (fun hx => by have h1 := HL.out.fl.lt g2 hx; have h2 := HG2.out; omega) HO3.out HGr3.out HA3.out HO4.out HGr4.out HA4.out
      have HREL : Hid (LT1 w21 Q (.slice a3 (j + 1) c3) (.slice a4 (j + 1) c4) (.int .i64 ((j + 1 : Nat) : Int)) w4') := by
        obtain ⟨hs1, hs2⟩ := hstep
        refine ⟨j + 1, gs ++ [g2], by rw [← Hqn.out]; omega, rfl, ?_, (HUl.out.trans (HU2.out.mono (fun _ _ e => e.elim))).trans (hs2.mono (fun k _ e => .inr (by
          rcases e with e | e
          · exact HL2.out.n7 k e
          · exact HL2.out.n8 k e)))⟩
        rw [take_snoc Q j (by rw [← Hqn.out]; exact hlt), ← Hq.out]
        exact hs1
      clear hstep HO3 HGr3 HA3 HO4 HGr4 HA4 HR2 HU2 HL2 HF1 HR3 HF3 HP3 HN3 HUr3 HUw3 HP1 HU3' c7 hc
      go_wp2
      go_roundw
      case rel =>
        rw [show ((j : Int) + 1) = ((j + 1 : Nat) : Int) by omega]
        exact HREL.out
      case measure => simp [intOf]; omega
    · obtain rfl : qn = j := by omega
      have htk : Q.take qn = Q := List.take_of_length_le (by rw [← Hqn.out]; exact Nat.le_refl _)
      rw [htk] at HL
      obtain ⟨a8, c8, rfl⟩ := IntsW.slice_form HL.out.o8
      obtain ⟨a7, c7s, rfl⟩ := IntsW.slice_form HL.out.o7
      have hnlt : decide ((qn : Int) < (qn : Int)) = false := by simp
      clear htk hlt hjq
      go_wp2_with fail
      have HUa : Hid (Upd (fun _ => False) W wr) := HU21.out.trans (HUl.out.mono (fun _ _ e => e.elim))
      have HGa : Hid (Row wr g 5 ((FL P 165).map Mem.u8)) := HG21.out.upd HUl.out id
      have HgB : Hid (g < w21.heap.size) := HG21.out.lt
      have HWB : Hid (W.heap.size < w21.heap.size) := HX21.out.lt
      have HGB : Hid (∀ x ∈ gs, w21.heap.size ≤ x) := HL.out.fl.low
      have HOf : Hid (∀ w', Upd (fun _ => False) W w' → SlL w' (.slice a8 qn c8) Q (fun k => k < w'.heap.size) → Calls Tryd.prog 43 #[.int .i64 wd, .int .i64 dm, .slice a8 qn c8] w' fun e w'' => e = .returned (.agg Y9) ∧ Upd (fun _ => False) w' w'') := by
        show ∀ _, _
        intro w' hu hs
        rw [Hqn.out] at hs ⊢
        have h := of_any wd dm a8 c8 Q _ w' hs (fun k h => h) (Hk32.out w' hu).1 (Hk32.out w' hu).2 (by have := Hqn.out; omega) (by have := HQc.out; omega)
        rwa [← HY9.out] at h
      have HROf : Hid (∀ w', Upd (fun _ => False) W w' → Calls Tryd.prog 44 #[.int .i64 wd, .int .i64 dm, .slice qao qn qcap] w' fun e w'' => e = .returned (.agg Y9) ∧ Upd (fun _ => False) w' w'') := by
        show ∀ _, _
        intro w' hu
        have h := rof_el wd Hw.out dm qao qn qcap Q _ w' (HSQ.out w' hu) (fun k h => by have := hu.size; omega) (by omega) (by have := HQc.out; omega)
        rwa [← HY9.out] at h
      have HTx : Hid (∀ w', SlL w' (.slice a8 qn c8) Q (fun k => k < w'.heap.size) → Calls Tryd.prog 41 #[.int .i64 dm, .slice a8 qn c8] w' (RTextAt dm Q w')) := by
        show ∀ _, _
        intro w' hs
        rw [Hqn.out] at hs ⊢
        exact text_any dm a8 c8 Q _ w' hs (fun k h => h) (by have := Hqn.out; omega) (by have := HQc.out; omega)
      have HRTx : Hid (∀ w', Upd (fun _ => False) W w' → Calls Tryd.prog 42 #[.int .i64 dm, .slice qao qn qcap] w' (RTextAt dm Q w')) := fun w' hu =>
        rtext_el dm qao qn qcap Q _ w' (HSQ.out w' hu) (fun k h => by have := hu.size; omega) (by omega) (by have := HQc.out; omega)
      have HQs : Hid (∀ i, (Q.getD i []).length ≤ 140737488351232) := fun i => by have := HQb.out i; omega
      obtain ⟨st, hst⟩ : ∃ st : ByteArray, st = ⟨(OfW.byteOf dm :: cat Q).toArray⟩ := ⟨_, rfl⟩
      have Hst := Lib.hid hst
      clear hst
      obtain ⟨w4b, hw4b⟩ : ∃ x, x = wr.alloc (.cells #[.slice none 0 0, .slice none 0 0, .int .i64 0, .bool false] 49) := ⟨_, rfl⟩
      obtain ⟨bb, hbb⟩ : ∃ x, x = wr.heap.size := ⟨_, rfl⟩
      rw [← hw4b, ← hbb]
      have hbk0 : BkW w4b bb 49 [.slice none 0 0, .slice none 0 0, .int .i64 0, .bool false] 0 [] (fun k => w4b.heap.size ≤ k ∧ k < w4b.heap.size) (fun k => w4b.heap.size ≤ k ∧ k < w4b.heap.size) := by
        have h := BkW.empty (o := 0) (show Row w4b bb 49 [.slice none 0 0, .slice none 0 0, .int .i64 0, .bool false] by rw [hw4b, hbb]; exact Row.new _ _ _) rfl rfl rfl rfl
        exact h.mono (fun _ h _ => h.elim) (fun _ h _ => h.elim)
      have hu4b : Upd (fun _ => False) wr w4b := by rw [hw4b]; exact (Upd.refl _ _).alloc _
      have hbs : w4b.heap.size = bb + 1 := by rw [hw4b, hbb]; simp
      have HLB0 : Hid (LBk w4b bb w4b) := ⟨[], _, by simp, hbk0, Upd.refl _ _⟩
      have HUb : Hid (Upd (fun _ => False) W w4b) := HUa.out.trans (hu4b.mono (fun _ _ e => e.elim))
      have HXb : Hid (PX w4b W.heap.size wd dm ct ht LA LB (.slice pao pn pcap) (.slice qao qn qcap)) := (HX21.out.upd HUl.out id).upd hu4b id
      have HGb : Hid (Row w4b g 5 ((FL P 165).map Mem.u8)) := HGa.out.upd hu4b id
      have HLb : Hid (Lst w4b w21.heap.size Q gs qn (.slice a7 qn c7s) (.slice a8 qn c8)) := HL.out.kept hu4b
      have HBB : Hid (w21.heap.size ≤ bb) := by show _ ≤ _; rw [hbb]; exact HUl.out.size
      have Hgsb : Hid (∀ x ∈ gs, x < bb) := by show ∀ _ ∈ _, _; rw [hbb]; exact HL.out.fl.lt
      have Hv7b : Hid (∀ k, own (.slice a7 qn c7s) k → k < bb) := by show ∀ _, _; rw [hbb]; exact own_size HL.out.o7
      have Hv8b : Hid (∀ k, own (.slice a8 qn c8) k → k < bb) := by show ∀ _, _; rw [hbb]; exact own_size HL.out.o8
      have Hbs := Lib.hid hbs
      clear hbk0 hu4b hbs hw4b hbb HL HUl HX21 HG21 HU21 HUa HGa
      go_loopw [12] (fun i wr => ∃ k : Nat, k ≤ 3 ∧ i = .int .i64 k ∧ LBk w4b bb wr) (fun i _ => (3 - (intOf i).toNat))
      case atStart => exact ⟨0, by omega, rfl, HLB0.out⟩
      case round =>
        clear HLB0
        obtain ⟨k, hk3, rfl, K, cs, hK, hbk, hub⟩ := hrel
        have hbs := Hbs.out
        have hbB := HBB.out
        have hwB := HWB.out
        have HUr : Hid (Upd (fun _ => False) W wr) := HUb.out.trans (hub.mono (fun j _ e => .inr (by omega)))
        have HXr : Hid (PX wr W.heap.size wd dm ct ht LA LB (.slice pao pn pcap) (.slice qao qn qcap)) := HXb.out.upd hub (by omega)
        have HLr : Hid (Lst wr w21.heap.size Q gs qn (.slice a7 qn c7s) (.slice a8 qn c8)) := HLb.out.upd hub (fun x hx e => by have := Hgsb.out x hx; omega) (fun j hj e => by have := Hv7b.out j hj; omega) (fun j hj e => by have := Hv8b.out j hj; omega)
        have HBk := Lib.hid hbk
        have HK := Lib.hid hK
        have HUbr := Lib.hid hub
        clear hbk hK hub
        by_cases hlt : k < 3
        · have hltI : (k : Int) < 3 := by omega
          have c1 := HXr.out.c1
          go_wp2_with fail
          refine (HTx.out wr (HLr.out.slL HQs.out)).mono ?_
          rintro e w5 ⟨at5, mt, ct5, rfl, hmt, hown5, hno5, hu5⟩
          have HU5 : Hid (Upd (fun _ => False) W w5) := HUr.out.trans (hu5.mono (fun _ _ e => e.elim))
          have HX5 : Hid (PX w5 W.heap.size wd dm ct ht LA LB (.slice pao pn pcap) (.slice qao qn qcap)) := HXr.out.upd hu5 id
          have HL5 : Hid (Lst w5 w21.heap.size Q gs qn (.slice a7 qn c7s) (.slice a8 qn c8)) := HLr.out.kept hu5
          have HUr5 := Lib.hid hu5
          have HO5 := Lib.hid hown5
          have HN5 := Lib.hid hno5
          have HS5 : Hid (Sl w5 (.slice at5 mt ct5) (OfW.byteOf dm :: cat Q)) := by
            have h := hown5
            have e : mt = (OfW.byteOf dm :: cat Q).length := by rw [hmt, List.length_cons]
            rw [e] at h ⊢
            exact Sl.of_own h
          have HCt : Hid (∀ w', Upd (fun _ => False) w5 w' → (convert 25 9 (.slice at5 mt ct5)).run Tryd.prog w' = .ok (.string st) w') := by
            show ∀ _, _
            intro w' hu
            rw [Hst.out]
            exact conv_sl (HS5.out.upd hu (fun _ _ => id))
          have Hmt := Lib.hid hmt
          clear hmt hown5 hno5 hu5 c1
          go_wp2_with fail
          have HS_w5_0 : Hid (Upd (fun _ => False) w5 w5.drew) := (Upd.refl _ _).drew
          refine wp_region_held_drew (S := Upd (fun _ => False) w5) (by kernel_rfl) HS_w5_0.out (fun _ => ?_)
          refine wpAnyH_take (i := 0) (oi := ⟨some 170, _, _, _, _, _⟩) (v := .slice at5 mt ct5) rfl (by kernel_rfl) (by kernel_rfl) (by kernel_rfl) (fun _ _ _ h => h) (Or.inl ⟨by rfl, fun w hS => by go_simp⟩) HS_w5_0.out ?_
          try simp only [Act.put, List.setIfInBounds_toArray, List.set_cons_zero, List.set_cons_succ]
          refine wpAnyH_take (i := 1) (oi := ⟨some 171, _, _, _, _, _⟩) (v := .string st) rfl (by kernel_rfl) (by kernel_rfl) (by kernel_rfl) (fun _ _ _ h => h) (Or.inl ⟨by rfl, fun w hS => by have hc := HCt.out w hS; go_simp⟩) HS_w5_0.out ?_
          try simp only [Act.put, List.setIfInBounds_toArray, List.set_cons_zero, List.set_cons_succ]
          refine wpAnyH_take (i := 2) (oi := ⟨some 172, _, _, _, _, _⟩) (v := .pointer (some ⟨W.heap.size, 1, none⟩)) rfl (by kernel_rfl) (by kernel_rfl) (by kernel_rfl) (fun _ _ _ h => h) (Or.inl ⟨by rfl, fun w hS => by go_simp⟩) HS_w5_0.out ?_
          try simp only [Act.put, List.setIfInBounds_toArray, List.set_cons_zero, List.set_cons_succ]
          refine wpAnyH_take (i := 3) (oi := ⟨some 173, _, _, _, _, _⟩) (v := .int .i64 dm) rfl (by kernel_rfl) (by kernel_rfl) (by kernel_rfl) (fun _ _ _ h => h) (Or.inl ⟨by rfl, fun w hS => by have c0 := (HX5.out.upd hS id).c1; go_simp⟩) HS_w5_0.out ?_
          try simp only [Act.put, List.setIfInBounds_toArray, List.set_cons_zero, List.set_cons_succ]
          refine wpAnyH_take (i := 4) (oi := ⟨some 174, _, _, _, _, _⟩) (v := .pointer (some ⟨W.heap.size, 69, none⟩)) rfl (by kernel_rfl) (by kernel_rfl) (by kernel_rfl) (fun _ _ _ h => h) (Or.inl ⟨by rfl, fun w hS => by go_simp⟩) HS_w5_0.out ?_
          try simp only [Act.put, List.setIfInBounds_toArray, List.set_cons_zero, List.set_cons_succ]
          refine wpAnyH_take (i := 5) (oi := ⟨some 175, _, _, _, _, _⟩) (v := .slice qao qn qcap) rfl (by kernel_rfl) (by kernel_rfl) (by kernel_rfl) (fun _ _ _ h => h) (Or.inl ⟨by rfl, fun w hS => by have c0 := (HX5.out.upd hS id).c7; go_simp⟩) HS_w5_0.out ?_
          try simp only [Act.put, List.setIfInBounds_toArray, List.set_cons_zero, List.set_cons_succ]
          refine wpAnyH_ready (rs := [6]) (by kernel_rfl) (by simp) ?_
          refine AllReadyH.cons rfl (fun K hK => ?_) AllReadyH.nil
          go_simp
          refine (HRTx.out w5.drew (HU5.out.trans (HS_w5_0.out.mono (fun _ _ e => e.elim)))).mono ?_
          rintro e w6 ⟨a6, m6, c6, rfl, hm6, hown6, hno6, hu_⟩
          have HS_w5_1 : Hid (Upd (fun _ => False) w5 w6) := HS_w5_0.out.trans (hu_.mono (fun _ _ h => h.elim))
          have HU_w6 := Lib.hid hu_
          clear hu_
          have hc7 : (convert 25 9 (.slice a6 m6 c6)).run Tryd.prog w6 = .ok (.string st) w6 := by
            have e : m6 = (OfW.byteOf dm :: cat Q).length := by rw [hm6, List.length_cons]
            rw [Hst.out]
            rw [e] at hown6 ⊢
            exact conv_sl (Sl.of_own hown6)
          have HC7 := Lib.hid hc7
          clear hm6 hown6 hno6 hc7
          refine hK.out _ _ HS_w5_1.out (fun hHeld => ?_)
          clear hK K hHeld
          try simp only [Act.put, List.setIfInBounds_toArray, List.set_cons_zero, List.set_cons_succ]
          refine wpAnyH_ready (rs := [7]) (by kernel_rfl) (by simp) ?_
          refine AllReadyH.cons rfl (fun K hK => ?_) AllReadyH.nil
          have hc7 := HC7.out
          go_simp
          clear hc7
          refine hK.out _ _ HS_w5_1.out (fun hHeld => ?_)
          clear hK K hHeld
          try simp only [Act.put, List.setIfInBounds_toArray, List.set_cons_zero, List.set_cons_succ]
          refine wpAnyH_take (i := 8) (oi := ⟨some 178, _, _, _, _, _⟩) (v := .bool false) rfl (by kernel_rfl) (by kernel_rfl) (by kernel_rfl) (fun _ _ _ h => h) (Or.inl ⟨by rfl, fun w hS => by go_simp⟩) HS_w5_1.out ?_
          try simp only [Act.put, List.setIfInBounds_toArray, List.set_cons_zero, List.set_cons_succ]
          refine wpAnyH_take (i := 9) (oi := ⟨some 179, _, _, _, _, _⟩) (v := .bool false) rfl (by kernel_rfl) (by kernel_rfl) (by kernel_rfl) (fun _ _ _ h => h) (Or.inl ⟨by rfl, fun w hS => by go_simp⟩) HS_w5_1.out ?_
          try simp only [Act.put, List.setIfInBounds_toArray, List.set_cons_zero, List.set_cons_succ]
          refine wpAnyH_take (i := 10) (oi := ⟨some 180, _, _, _, _, _⟩) (v := .int .i64 wd) rfl (by kernel_rfl) (by kernel_rfl) (by kernel_rfl) (fun _ _ _ h => h) (Or.inl ⟨by rfl, fun w hS => by go_simp⟩) HS_w5_1.out ?_
          try simp only [Act.put, List.setIfInBounds_toArray, List.set_cons_zero, List.set_cons_succ]
          refine wpAnyH_take (i := 11) (oi := ⟨some 181, _, _, _, _, _⟩) (v := .pointer (some ⟨W.heap.size, 1, none⟩)) rfl (by kernel_rfl) (by kernel_rfl) (by kernel_rfl) (fun _ _ _ h => h) (Or.inl ⟨by rfl, fun w hS => by go_simp⟩) HS_w5_1.out ?_
          try simp only [Act.put, List.setIfInBounds_toArray, List.set_cons_zero, List.set_cons_succ]
          refine wpAnyH_take (i := 12) (oi := ⟨some 182, _, _, _, _, _⟩) (v := .int .i64 dm) rfl (by kernel_rfl) (by kernel_rfl) (by kernel_rfl) (fun _ _ _ h => h) (Or.inl ⟨by rfl, fun w hS => by have c0 := (HX5.out.upd hS id).c1; go_simp⟩) HS_w5_1.out ?_
          try simp only [Act.put, List.setIfInBounds_toArray, List.set_cons_zero, List.set_cons_succ]
          refine wpAnyH_take (i := 13) (oi := ⟨some 183, _, _, _, _, _⟩) (v := .slice a8 qn c8) rfl (by kernel_rfl) (by kernel_rfl) (by kernel_rfl) (fun _ _ _ h => h) (Or.inl ⟨by rfl, fun w hS => by go_simp⟩) HS_w5_1.out ?_
          try simp only [Act.put, List.setIfInBounds_toArray, List.set_cons_zero, List.set_cons_succ]
          refine wpAnyH_take (i := 15) (oi := ⟨some 185, _, _, _, _, _⟩) (v := .int .i64 wd) rfl (by kernel_rfl) (by kernel_rfl) (by kernel_rfl) (fun _ _ _ h => h) (Or.inl ⟨by rfl, fun w hS => by go_simp⟩) HS_w5_1.out ?_
          try simp only [Act.put, List.setIfInBounds_toArray, List.set_cons_zero, List.set_cons_succ]
          refine wpAnyH_take (i := 16) (oi := ⟨some 186, _, _, _, _, _⟩) (v := .pointer (some ⟨W.heap.size, 1, none⟩)) rfl (by kernel_rfl) (by kernel_rfl) (by kernel_rfl) (fun _ _ _ h => h) (Or.inl ⟨by rfl, fun w hS => by go_simp⟩) HS_w5_1.out ?_
          try simp only [Act.put, List.setIfInBounds_toArray, List.set_cons_zero, List.set_cons_succ]
          refine wpAnyH_take (i := 17) (oi := ⟨some 187, _, _, _, _, _⟩) (v := .int .i64 dm) rfl (by kernel_rfl) (by kernel_rfl) (by kernel_rfl) (fun _ _ _ h => h) (Or.inl ⟨by rfl, fun w hS => by have c0 := (HX5.out.upd hS id).c1; go_simp⟩) HS_w5_1.out ?_
          try simp only [Act.put, List.setIfInBounds_toArray, List.set_cons_zero, List.set_cons_succ]
          refine wpAnyH_take (i := 18) (oi := ⟨some 188, _, _, _, _, _⟩) (v := .pointer (some ⟨W.heap.size, 69, none⟩)) rfl (by kernel_rfl) (by kernel_rfl) (by kernel_rfl) (fun _ _ _ h => h) (Or.inl ⟨by rfl, fun w hS => by go_simp⟩) HS_w5_1.out ?_
          try simp only [Act.put, List.setIfInBounds_toArray, List.set_cons_zero, List.set_cons_succ]
          refine wpAnyH_take (i := 19) (oi := ⟨some 189, _, _, _, _, _⟩) (v := .slice qao qn qcap) rfl (by kernel_rfl) (by kernel_rfl) (by kernel_rfl) (fun _ _ _ h => h) (Or.inl ⟨by rfl, fun w hS => by have c0 := (HX5.out.upd hS id).c7; go_simp⟩) HS_w5_1.out ?_
          try simp only [Act.put, List.setIfInBounds_toArray, List.set_cons_zero, List.set_cons_succ]
          refine wpAnyH_ready (rs := [14]) (by kernel_rfl) (by simp) ?_
          refine AllReadyH.cons rfl (fun K hK => ?_) AllReadyH.nil
          go_simp
          refine (HOf.out w6 (HU5.out.trans (HS_w5_1.out.mono (fun _ _ e => e.elim))) ((HL5.out.kept HS_w5_1.out).slL HQs.out)).mono ?_
          rintro e w7 ⟨rfl, hu_⟩
          have HS_w5_2 : Hid (Upd (fun _ => False) w5 w7) := HS_w5_1.out.trans (hu_.mono (fun _ _ h => h.elim))
          have HU_w7 := Lib.hid hu_
          clear hu_
          refine hK.out _ _ HS_w5_2.out (fun hHeld => ?_)
          clear hK K hHeld
          try simp only [Act.put, List.setIfInBounds_toArray, List.set_cons_zero, List.set_cons_succ]
          refine wpAnyH_ready (rs := [20]) (by kernel_rfl) (by simp) ?_
          refine AllReadyH.cons rfl (fun K hK => ?_) AllReadyH.nil
          go_simp
          refine (HROf.out w7 (HU5.out.trans (HS_w5_2.out.mono (fun _ _ e => e.elim)))).mono ?_
          rintro e w8 ⟨rfl, hu_⟩
          have HS_w5_3 : Hid (Upd (fun _ => False) w5 w8) := HS_w5_2.out.trans (hu_.mono (fun _ _ h => h.elim))
          have HU_w8 := Lib.hid hu_
          clear hu_
          refine hK.out _ _ HS_w5_3.out (fun hHeld => ?_)
          clear hK K hHeld
          try simp only [Act.put, List.setIfInBounds_toArray, List.set_cons_zero, List.set_cons_succ]
          refine wpAnyH_take (i := 21) (oi := ⟨some 191, _, _, _, _, _⟩) (v := .bool false) rfl (by kernel_rfl) (by kernel_rfl) (by kernel_rfl) (fun _ _ _ h => h) (Or.inl ⟨by rfl, fun w hS => by have q0 := HQ9.out; go_simp⟩) HS_w5_3.out ?_
          try simp only [Act.put, List.setIfInBounds_toArray, List.set_cons_zero, List.set_cons_succ]
          refine wpAnyH_take (i := 22) (oi := ⟨some 192, _, _, _, _, _⟩) (v := .bool false) rfl (by kernel_rfl) (by kernel_rfl) (by kernel_rfl) (fun _ _ _ h => h) (Or.inl ⟨by rfl, fun w hS => by go_simp⟩) HS_w5_3.out ?_
          try simp only [Act.put, List.setIfInBounds_toArray, List.set_cons_zero, List.set_cons_succ]
          refine wpAnyH_done (by kernel_rfl) ?_ _
          have HUw8 : Hid (Upd (fun _ => False) W w8) := (HU5.out.trans (HS_w5_3.out.mono (fun _ _ e => e.elim)))
          have HUr8 : Hid (Upd (fun _ => False) wr w8) := HUr5.out.trans (HS_w5_3.out.mono (fun _ _ e => e.elim))
          have HO8 := Lib.hid (IntsW.own_upd HO5.out HS_w5_3.out (fun _ _ => id))
          have hKp := keep_any bb 0 49 cs K _ _ at5 mt ct5 (OfW.byteOf dm :: cat Q) w8 (HBk.out.kept HUr8.out) (by decide) (by decide) HO8.out (fun j hj e => by have := HN5.out j hj; omega) HK.out (by have := Hmt.out; have := HQc.out; omega)
          have HKp := Lib.hid hKp
          clear hKp
          go_wp2_with fail
          refine HKp.out.mono ?_
          rintro e w9 ⟨rfl, u, K', cs', hsf, hne, hlen', hb', hbut, hu'⟩
          have HL9 : Hid (LBk w4b bb w9) := by
            have h1 := HUr8.out.size
            have h4 := HUbr.out.size
            refine ⟨K', cs', hlen', hb'.mono (fun j h3 h5 => ⟨?_, h5⟩) (fun j h3 h5 => ⟨?_, h5⟩), ?_⟩
            · rcases h3 with h3 | h3
              · exact h3.1
              · omega
            · rcases h3 with h3 | h3
              · exact h3.1
              · have := HN5.out j h3; omega
            · refine (HUbr.out.trans (HUr8.out.mono fun _ _ e => e.elim)).trans (hu'.mono fun j _ e => ?_)
              rcases e with e | e
              · exact .inl e
              · exact .inr e.1
          clear hsf hne hlen' hb' hbut hu' HKp HO8 HUr8 HUw8 HBk HK
          go_wp2
          go_roundw
          case rel => exact ⟨k + 1, by omega, by go_num, HL9.out⟩
          case measure => simp [intOf]; omega
        · obtain rfl : k = 3 := by omega
          go_wp2_with fail
          obtain ⟨wD, rfl⟩ : ∃ x : World, x = wr := ⟨_, rfl⟩
          have HGr : Hid (Row wD g 5 ((FL P 165).map Mem.u8)) := HGb.out.upd HUbr.out (by have := HgB.out; omega)
          have HDs : Hid (bb + 1 ≤ wD.heap.size) := by show _ ≤ _; have := HUbr.out.size; omega
          have HgsD : Hid (∀ x ∈ gs, x < wD.heap.size) := fun x hx => by have h1 := Hgsb.out x hx; have h2 := HDs.out; omega
          have HLT3 := Lib.hid (LT3.start wD w21.heap.size Q gs HLr.out.fl)
          go_loopw [14, 15] (fun v14 i wr => LT3 wD w21.heap.size Q gs v14 i wr) (fun _ i _ => (qn - (intOf i).toNat))
          case atStart => exact HLT3.out
          case round =>
            clear HLT3
            obtain ⟨j, vs, hj, rfl, hf, ho, hn, hv, hu⟩ := hrel
            have HF := Lib.hid hf
            have HO := Lib.hid ho
            have HN := Lib.hid hn
            have HV := Lib.hid hv
            have HU3 := Lib.hid hu
            have HUw : Hid (Upd (fun _ => False) W wr) := HUr.out.trans (hu.mono (fun k _ e => .inr (by have := HGB.out k e; omega)))
            have HXw : Hid (PX wr W.heap.size wd dm ct ht LA LB (.slice pao pn pcap) (.slice qao qn qcap)) := HXr.out.upd hu (fun e => by have := HGB.out _ e; omega)
            have H7 : Hid (wr.ownsRow 0 25 1 (.slice a7 qn c7s) qn (fvs Q gs)) := IntsW.own_upd HLr.out.o7 hu (fun k hk h => (HLr.out.far k h).1 hk)
            have H8 : Hid (wr.ownsRow 0 25 1 (.slice a8 qn c8) qn (pvs Q gs)) := IntsW.own_upd HLr.out.o8 hu (fun k hk h => (HLr.out.far k h).2 hk)
            have hjq : j ≤ qn := by rw [Hqn.out]; exact hj
            clear hf ho hn hv hu hj
            by_cases hlt : j < qn
            · have hltI : (j : Int) < (qn : Int) := by omega
              have hjt : j < Q.length := by rw [← Hqn.out]; exact hlt
              obtain ⟨ao', cap', pv, he, h3, h4⟩ := HSQ.out W (Upd.refl _ _)
              injection he with e1 e2 e3
              subst e1 e3
              clear e2
              obtain ⟨⟨pa, oa, sa⟩, rfl⟩ : ∃ ad, qao = some ad := by
                cases qao with
                | some ad => exact ⟨ad, rfl⟩
                | none => have := h3 rfl; omega
              obtain ⟨hsa, hpa, h5⟩ := h4 _ rfl
              obtain rfl : sa = none := hsa
              obtain ⟨hc, hel, hpo⟩ := h5 j hjt
              rw [add_none] at hc
              obtain ⟨q, hq⟩ : ∃ q, q = Q.getD j [] := ⟨_, rfl⟩
              obtain ⟨pj, hpj⟩ : ∃ x, x = pv j := ⟨_, rfl⟩
              rw [← hq, ← hpj] at hel
              rw [← hpj] at hc
              obtain ⟨bo, bc, hpf, _⟩ := id hel
              obtain ⟨m, hm⟩ : ∃ m, m = q.length := ⟨_, rfl⟩
              have hmb : m ≤ 2147483647 := by have := HQb.out j; rw [← hq] at this; omega
              rw [← hm] at hpf
              subst hpf
              have HcW := Lib.hid hc
              have HEl := Lib.hid hel
              obtain ⟨gj, hgj⟩ : ∃ x, x = gs.getD j 0 := ⟨_, rfl⟩
              have h7 := own_cell H7.out j _ (fvs_at Q gs HLr.out.fl.len j hjt)
              have h8 := own_cell H8.out j _ (pvs_at Q gs HLr.out.fl.len j hjt)
              rw [← hq, ← hm, ← hgj] at h7 h8
              obtain ⟨b7, cp7, he7, _, hc7, _⟩ := h7
              obtain ⟨b8, cp8, he8, _, hc8, _⟩ := h8
              injection he7 with e1 e2 e3
              subst e1 e3
              clear e2
              injection he8 with e1 e2 e3
              subst e1 e3
              clear e2
              have HC7 : Hid (wr.cell? ⟨b7, j, none⟩ = some (.slice (some ⟨gj, 0, none⟩) (m + 80) (m + 80))) := hc7
              have HC8 : Hid (wr.cell? ⟨b8, j, none⟩ = some (.slice (some ⟨gj, 0, none⟩) m (m + 80))) := hc8
              have hrj := HF.out.row j (by rw [mix_len]; exact hjt)
              rw [mix_at Q j hjt, ← hq, ← hgj] at hrj
              have HRj := Lib.hid hrj
              have HIn : Hid (∀ w', Upd (fun _ => False) wr w' → Calls Tryd.prog 21 #[.slice (some ⟨gj, 0, none⟩) (m + 80) (m + 80), .slice bo m bc, .int .u8 165] w' fun e w'' => e = .returned (.bool true) ∧ Upd (fun _ => False) w' w'') := by
                show ∀ _, _
                intro w' hu'
                have h2 := Sl.row (cap := m + 80) (HRj.out.upd hu' id) (by rw [FL_len]; omega) (by unfold maxLen; omega)
                rw [FL_len, ← hm] at h2
                exact intact_el ⟨gj, 0, none⟩ (m + 80) bo m bc q 165 w' h2 ((HEl.out.upd HUw.out (fun _ _ _ => id)).upd hu' (fun _ _ _ => id)) (by omega)
              have Hq := Lib.hid hq
              have Hm := Lib.hid hm
              have Hgj := Lib.hid hgj
              have Hjt := Lib.hid hjt
              have HDj : Hid (gj < wD.heap.size) := by show _ < _; rw [hgj]; exact HgsD.out _ (getD_mem gs j (by rw [HLr.out.fl.len]; exact hjt))
              clear h3 h4 h5 hpo hel hq hm hpj hpa hjt hc hc7 hc8 hgj hrj
              have c7 := HXw.out.c7
              go_wp2_with fail
              have HS_wr_0 : Hid (Upd (fun _ => False) wr wr.drew) := (Upd.refl _ _).drew
              refine wp_region_held_drew (S := Upd (fun _ => False) wr) (by kernel_rfl) HS_wr_0.out (fun _ => ?_)
              refine wpAnyH_take (i := 0) (oi := ⟨some 202, _, _, _, _, _⟩) (v := .slice (some ⟨b7, 0, none⟩) qn c7s) rfl (by kernel_rfl) (by kernel_rfl) (by kernel_rfl) (fun _ _ _ h => h) (Or.inl ⟨by rfl, fun w hS => by go_simp⟩) HS_wr_0.out ?_
              try simp only [Act.put, List.setIfInBounds_toArray, List.set_cons_zero, List.set_cons_succ]
              refine wpAnyH_take (i := 1) (oi := ⟨some 203, _, _, _, _, _⟩) (v := .int .i64 (j : Int)) rfl (by kernel_rfl) (by kernel_rfl) (by kernel_rfl) (fun _ _ _ h => h) (Or.inl ⟨by rfl, fun w hS => by go_simp⟩) HS_wr_0.out ?_
              try simp only [Act.put, List.setIfInBounds_toArray, List.set_cons_zero, List.set_cons_succ]
              refine wpAnyH_take (i := 2) (oi := ⟨some 204, _, _, _, _, _⟩) (v := .pointer (some ⟨b7, j, none⟩)) rfl (by kernel_rfl) (by kernel_rfl) (by kernel_rfl) (fun _ _ _ h => h) (Or.inl ⟨by rfl, fun w hS => by go_simp⟩) HS_wr_0.out ?_
              try simp only [Act.put, List.setIfInBounds_toArray, List.set_cons_zero, List.set_cons_succ]
              refine wpAnyH_take (i := 3) (oi := ⟨some 205, _, _, _, _, _⟩) (v := .slice (some ⟨gj, 0, none⟩) (m + 80) (m + 80)) rfl (by kernel_rfl) (by kernel_rfl) (by kernel_rfl) (fun _ _ _ h => h) (Or.inl ⟨by rfl, fun w hS => by have c0 := hS.cell HC7.out id; go_simp⟩) HS_wr_0.out ?_
              try simp only [Act.put, List.setIfInBounds_toArray, List.set_cons_zero, List.set_cons_succ]
              refine wpAnyH_take (i := 4) (oi := ⟨some 206, _, _, _, _, _⟩) (v := .pointer (some ⟨W.heap.size, 69, none⟩)) rfl (by kernel_rfl) (by kernel_rfl) (by kernel_rfl) (fun _ _ _ h => h) (Or.inl ⟨by rfl, fun w hS => by go_simp⟩) HS_wr_0.out ?_
              try simp only [Act.put, List.setIfInBounds_toArray, List.set_cons_zero, List.set_cons_succ]
              refine wpAnyH_take (i := 5) (oi := ⟨some 207, _, _, _, _, _⟩) (v := .slice (some ⟨pa, oa, none⟩) qn qcap) rfl (by kernel_rfl) (by kernel_rfl) (by kernel_rfl) (fun _ _ _ h => h) (Or.inl ⟨by rfl, fun w hS => by have c0 := (HXw.out.upd hS id).c7; go_simp⟩) HS_wr_0.out ?_
              try simp only [Act.put, List.setIfInBounds_toArray, List.set_cons_zero, List.set_cons_succ]
              refine wpAnyH_take (i := 6) (oi := ⟨some 208, _, _, _, _, _⟩) (v := .int .i64 (j : Int)) rfl (by kernel_rfl) (by kernel_rfl) (by kernel_rfl) (fun _ _ _ h => h) (Or.inl ⟨by rfl, fun w hS => by go_simp⟩) HS_wr_0.out ?_
              try simp only [Act.put, List.setIfInBounds_toArray, List.set_cons_zero, List.set_cons_succ]
              refine wpAnyH_take (i := 7) (oi := ⟨some 209, _, _, _, _, _⟩) (v := .pointer (some ⟨pa, oa + j, none⟩)) rfl (by kernel_rfl) (by kernel_rfl) (by kernel_rfl) (fun _ _ _ h => h) (Or.inl ⟨by rfl, fun w hS => by go_simp⟩) HS_wr_0.out ?_
              try simp only [Act.put, List.setIfInBounds_toArray, List.set_cons_zero, List.set_cons_succ]
              refine wpAnyH_take (i := 8) (oi := ⟨some 210, _, _, _, _, _⟩) (v := .slice bo m bc) rfl (by kernel_rfl) (by kernel_rfl) (by kernel_rfl) (fun _ _ _ h => h) (Or.inl ⟨by rfl, fun w hS => by have c0 := (HUw.out.trans (hS.mono (fun _ _ e => e.elim))).cell HcW.out id; go_simp⟩) HS_wr_0.out ?_
              try simp only [Act.put, List.setIfInBounds_toArray, List.set_cons_zero, List.set_cons_succ]
              refine wpAnyH_ready (rs := [9]) (by kernel_rfl) (by simp) ?_
              refine AllReadyH.cons rfl (fun K hK => ?_) AllReadyH.nil
              go_simp
              refine (HIn.out wr.drew HS_wr_0.out).mono ?_
              rintro e w6 ⟨rfl, hu_⟩
              have HS_wr_1 : Hid (Upd (fun _ => False) wr w6) := HS_wr_0.out.trans (hu_.mono (fun _ _ h => h.elim))
              have HU_w6 := Lib.hid hu_
              clear hu_
              refine hK.out _ _ HS_wr_1.out (fun hHeld => ?_)
              clear hK K hHeld
              try simp only [Act.put, List.setIfInBounds_toArray, List.set_cons_zero, List.set_cons_succ]
              refine wpAnyH_take (i := 10) (oi := ⟨some 212, _, _, _, _, _⟩) (v := .bool false) rfl (by kernel_rfl) (by kernel_rfl) (by kernel_rfl) (fun _ _ _ h => h) (Or.inl ⟨by rfl, fun w hS => by go_simp⟩) HS_wr_1.out ?_
              try simp only [Act.put, List.setIfInBounds_toArray, List.set_cons_zero, List.set_cons_succ]
              refine wpAnyH_take (i := 11) (oi := ⟨some 213, _, _, _, _, _⟩) (v := .bool false) rfl (by kernel_rfl) (by kernel_rfl) (by kernel_rfl) (fun _ _ _ h => h) (Or.inl ⟨by rfl, fun w hS => by go_simp⟩) HS_wr_1.out ?_
              try simp only [Act.put, List.setIfInBounds_toArray, List.set_cons_zero, List.set_cons_succ]
              refine wpAnyH_take (i := 12) (oi := ⟨some 214, _, _, _, _, _⟩) (v := .slice (some ⟨b8, 0, none⟩) qn c8) rfl (by kernel_rfl) (by kernel_rfl) (by kernel_rfl) (fun _ _ _ h => h) (Or.inl ⟨by rfl, fun w hS => by go_simp⟩) HS_wr_1.out ?_
              try simp only [Act.put, List.setIfInBounds_toArray, List.set_cons_zero, List.set_cons_succ]
              refine wpAnyH_take (i := 13) (oi := ⟨some 215, _, _, _, _, _⟩) (v := .int .i64 (j : Int)) rfl (by kernel_rfl) (by kernel_rfl) (by kernel_rfl) (fun _ _ _ h => h) (Or.inl ⟨by rfl, fun w hS => by go_simp⟩) HS_wr_1.out ?_
              try simp only [Act.put, List.setIfInBounds_toArray, List.set_cons_zero, List.set_cons_succ]
              refine wpAnyH_take (i := 14) (oi := ⟨some 216, _, _, _, _, _⟩) (v := .pointer (some ⟨b8, j, none⟩)) rfl (by kernel_rfl) (by kernel_rfl) (by kernel_rfl) (fun _ _ _ h => h) (Or.inl ⟨by rfl, fun w hS => by go_simp⟩) HS_wr_1.out ?_
              try simp only [Act.put, List.setIfInBounds_toArray, List.set_cons_zero, List.set_cons_succ]
              refine wpAnyH_take (i := 15) (oi := ⟨some 217, _, _, _, _, _⟩) (v := .slice (some ⟨gj, 0, none⟩) m (m + 80)) rfl (by kernel_rfl) (by kernel_rfl) (by kernel_rfl) (fun _ _ _ h => h) (Or.inl ⟨by rfl, fun w hS => by have c0 := hS.cell HC8.out id; go_simp⟩) HS_wr_1.out ?_
              try simp only [Act.put, List.setIfInBounds_toArray, List.set_cons_zero, List.set_cons_succ]
              refine wpAnyH_take (i := 16) (oi := ⟨some 218, _, _, _, _, _⟩) (v := .int .i64 (m : Int)) rfl (by kernel_rfl) (by kernel_rfl) (by kernel_rfl) (fun _ _ _ h => h) (Or.inl ⟨by rfl, fun w hS => by go_simp⟩) HS_wr_1.out ?_
              try simp only [Act.put, List.setIfInBounds_toArray, List.set_cons_zero, List.set_cons_succ]
              refine wpAnyH_take (i := 17) (oi := ⟨some 219, _, _, _, _, _⟩) (v := .pointer (some ⟨W.heap.size, 69, none⟩)) rfl (by kernel_rfl) (by kernel_rfl) (by kernel_rfl) (fun _ _ _ h => h) (Or.inl ⟨by rfl, fun w hS => by go_simp⟩) HS_wr_1.out ?_
              try simp only [Act.put, List.setIfInBounds_toArray, List.set_cons_zero, List.set_cons_succ]
              refine wpAnyH_take (i := 18) (oi := ⟨some 220, _, _, _, _, _⟩) (v := .slice (some ⟨pa, oa, none⟩) qn qcap) rfl (by kernel_rfl) (by kernel_rfl) (by kernel_rfl) (fun _ _ _ h => h) (Or.inl ⟨by rfl, fun w hS => by have c0 := (HXw.out.upd hS id).c7; go_simp⟩) HS_wr_1.out ?_
              try simp only [Act.put, List.setIfInBounds_toArray, List.set_cons_zero, List.set_cons_succ]
              refine wpAnyH_take (i := 19) (oi := ⟨some 221, _, _, _, _, _⟩) (v := .int .i64 (j : Int)) rfl (by kernel_rfl) (by kernel_rfl) (by kernel_rfl) (fun _ _ _ h => h) (Or.inl ⟨by rfl, fun w hS => by go_simp⟩) HS_wr_1.out ?_
              try simp only [Act.put, List.setIfInBounds_toArray, List.set_cons_zero, List.set_cons_succ]
              refine wpAnyH_take (i := 20) (oi := ⟨some 222, _, _, _, _, _⟩) (v := .pointer (some ⟨pa, oa + j, none⟩)) rfl (by kernel_rfl) (by kernel_rfl) (by kernel_rfl) (fun _ _ _ h => h) (Or.inl ⟨by rfl, fun w hS => by go_simp⟩) HS_wr_1.out ?_
              try simp only [Act.put, List.setIfInBounds_toArray, List.set_cons_zero, List.set_cons_succ]
              refine wpAnyH_take (i := 21) (oi := ⟨some 223, _, _, _, _, _⟩) (v := .slice bo m bc) rfl (by kernel_rfl) (by kernel_rfl) (by kernel_rfl) (fun _ _ _ h => h) (Or.inl ⟨by rfl, fun w hS => by have c0 := (HUw.out.trans (hS.mono (fun _ _ e => e.elim))).cell HcW.out id; go_simp⟩) HS_wr_1.out ?_
              try simp only [Act.put, List.setIfInBounds_toArray, List.set_cons_zero, List.set_cons_succ]
              refine wpAnyH_take (i := 22) (oi := ⟨some 224, _, _, _, _, _⟩) (v := .int .i64 (m : Int)) rfl (by kernel_rfl) (by kernel_rfl) (by kernel_rfl) (fun _ _ _ h => h) (Or.inl ⟨by rfl, fun w hS => by go_simp⟩) HS_wr_1.out ?_
              try simp only [Act.put, List.setIfInBounds_toArray, List.set_cons_zero, List.set_cons_succ]
              refine wpAnyH_take (i := 23) (oi := ⟨some 225, _, _, _, _, _⟩) (v := .bool false) rfl (by kernel_rfl) (by kernel_rfl) (by kernel_rfl) (fun _ _ _ h => h) (Or.inl ⟨by rfl, fun w hS => by go_simp⟩) HS_wr_1.out ?_
              try simp only [Act.put, List.setIfInBounds_toArray, List.set_cons_zero, List.set_cons_succ]
              refine wpAnyH_take (i := 24) (oi := ⟨some 226, _, _, _, _, _⟩) (v := .bool false) rfl (by kernel_rfl) (by kernel_rfl) (by kernel_rfl) (fun _ _ _ h => h) (Or.inl ⟨by rfl, fun w hS => by go_simp⟩) HS_wr_1.out ?_
              try simp only [Act.put, List.setIfInBounds_toArray, List.set_cons_zero, List.set_cons_succ]
              refine wpAnyH_done (by kernel_rfl) ?_ _
              have HU6 : Hid (Upd (fun _ => False) wr w6) := HS_wr_1.out
              have cp : w6.cell? ⟨b8, j, none⟩ = some (.slice (some ⟨gj, 0, none⟩) m (m + 80)) := HU6.out.cell HC8.out id
              have HTu := Lib.hid (turned_own gj m (m + 80) (FL q 165) w6 (HRj.out.upd HU6.out id) (by rw [FL_len]; have := Hm.out; omega) (by omega) (by unfold maxLen; omega) (by omega))
              clear HIn HEl HcW HRj c7
              go_wp2_with fail
              refine HTu.out.mono ?_
              rintro e w7 ⟨lv, rfl, hown7, hnew7, hrow7, hu7⟩
              rw [(turned_FL q m Hm.out).1] at hown7
              rw [(turned_FL q m Hm.out).2] at hrow7
              obtain ⟨lo, lc, rfl⟩ := SumsW.own_form hown7
              have hfl : (flipB q).length = m := by rw [flipB_len]; exact Hm.out.symm
              have HS7 : Hid (Sl w7 (.slice lo (flipB q).length lc) (flipB q)) := Sl.of_own hown7
              rw [hfl] at hown7 hnew7 HS7 ⊢
              have HOw7 := Lib.hid hown7
              have HN7 := Lib.hid hnew7
              have HR7 := Lib.hid hrow7
              have HU7 := Lib.hid hu7
              have HO7 : Hid ((w7.alloc (.cells #[.slice lo m lc] 25)).ownsRow 0 25 1 u14 j vs) :=
                IntsW.own_upd (IntsW.own_upd (IntsW.own_upd HO.out HU6.out (fun _ _ => id)) hu7 (fun k hk e => by have h1 := HN.out k hk; have h2 := HDj.out; omega)) ((Upd.refl (fun _ => False) w7).alloc _) (fun _ _ => id)
              clear hown7 hnew7 hrow7 hu7 hfl HTu cp
              go_wp2_with ((at_builtin; (refine wpList_append_q _ (o := ⟨some 234, _, _, _, _, _⟩) ?_ (.tmp 227) (.tmp 233) ?_ u14 j vs ?_ HO7.out w7.heap.size 1 (.slice lo m lc) ?_ (heap_alloc_new _ _) rfl (by omega) ?_); rfl; rfl; rfl; rfl; intro a4 c4 w8 HO8 HGr8 HA8))
              have HREL : Hid (LT3 wD w21.heap.size Q gs (.slice a4 (j + 1) c4) (.int .i64 ((j + 1 : Nat) : Int)) w8) :=
                LT3.step HgsD.out Hjt.out HF.out HO.out HN.out HV.out HU3.out HU6.out (by rw [← Hgj.out]; exact HU7.out) (by rw [← Hgj.out, ← Hq.out]; exact HR7.out) (by rw [← Hq.out]; exact HS7.out) HN7.out (own_size HOw7.out) HO8.out HGr8.out HA8.out
              clear HO8 HGr8 HA8 HO7 HOw7 HN7 HR7 HU7 HS7 HU6
              go_wp2
              go_roundw
              case rel =>
                rw [show ((j : Int) + 1) = ((j + 1 : Nat) : Int) by omega]
                exact HREL.out
              case measure => simp [intOf]; omega
            · obtain rfl : qn = j := by omega
              have hmx := mix_all Q qn Hqn.out
              rw [hmx] at HF
              have HCn : Hid ((Q.map flipB).length = qn) := by show _ = _; rw [List.length_map]; exact Hqn.out.symm
              have HCc : Hid ((cat (Q.map flipB)).length ≤ 2147483647) := by
                show _ ≤ _
                have e : ∀ l : List (List UInt8), (cat (l.map flipB)).length = (cat l).length := by
                  intro l
                  induction l with
                  | nil => rfl
                  | cons x l ih =>
                    have h1 : cat (List.map flipB (x :: l)) = flipB x ++ cat (l.map flipB) := by simp [cat]
                    have h2 : cat (x :: l) = x ++ cat l := by simp [cat]
                    rw [h1, h2, List.length_append, List.length_append, ih, flipB_len]
                rw [e]
                exact HQc.out
              have HCb : Hid (∀ i, ((Q.map flipB).getD i []).length ≤ 140737488351232) := fun i => by
                rcases Nat.lt_or_ge i Q.length with h | h
                · rw [List.getD_eq_getElem?_getD, List.getElem?_map, List.getElem?_eq_getElem h]
                  have h2 := HQb.out i
                  rw [List.getD_eq_getElem?_getD, List.getElem?_eq_getElem h] at h2
                  simp only [Option.map_some, Option.getD_some] at h2 ⊢
                  rw [flipB_len]
                  omega
                · rw [List.getD_eq_getElem?_getD, List.getElem?_eq_none (by rw [List.length_map]; exact h)]
                  exact Nat.zero_le _
              have HLf : Hid (Lst wr w21.heap.size (Q.map flipB) gs qn (.slice a7 qn c7s) (.slice a8 qn c8)) :=
                ⟨HF.out, HCn.out.symm, by rw [fvs_flipB]; exact H7.out, by rw [pvs_flipB]; exact H8.out, HLr.out.n7, HLr.out.n8, HLr.out.ap⟩
              obtain ⟨a14, c14, rfl⟩ := IntsW.slice_form HO.out
              have HS14 : Hid (SlL wr (.slice a14 qn c14) (Q.map flipB) (fun k => k < wr.heap.size)) := LT3.done Hqn.out HO.out HV.out
              have HBw : Hid (BkW wr bb 49 cs 0 K (fun k => w4b.heap.size ≤ k ∧ k < wD.heap.size) (fun k => w4b.heap.size ≤ k ∧ k < wD.heap.size)) :=
                HBk.out.upd HU3.out (fun h => by have := Hgsb.out bb h; omega) (fun k h1 _ h2 => by have := Hgsb.out k h2; omega) (fun k h1 _ h2 => by have := Hgsb.out k h2; omega)
              have HGw : Hid (Row wr g 5 ((FL P 165).map Mem.u8)) := HGr.out.upd HU3.out (fun h => by have := HGB.out g h; have := HgB.out; omega)
              have HwD : Hid (wD.heap.size ≤ wr.heap.size) := HU3.out.size
              have HTx2 : Hid (∀ w', SlL w' (.slice a8 qn c8) (Q.map flipB) (fun k => k < w'.heap.size) → Calls Tryd.prog 41 #[.int .i64 dm, .slice a8 qn c8] w' (RTextAt dm (Q.map flipB) w')) := by
                show ∀ _, _
                intro w' hs
                have e := HCn.out
                rw [← e] at hs ⊢
                exact text_any dm a8 c8 (Q.map flipB) _ w' hs (fun k h => h) (by omega) (by have := HCc.out; omega)
              have HOf2 : Hid (∀ w', Upd (fun _ => False) W w' → SlL w' (.slice a8 qn c8) (Q.map flipB) (fun k => k < w'.heap.size) → Calls Tryd.prog 43 #[.int .i64 wd, .int .i64 dm, .slice a8 qn c8] w' fun e w'' => e = .returned (.agg Y10) ∧ Upd (fun _ => False) w' w'') := by
                show ∀ _, _
                intro w' hu hs
                have e := HCn.out
                rw [← e] at hs ⊢
                have h := of_any wd dm a8 c8 (Q.map flipB) _ w' hs (fun k h => h) (Hk32.out w' hu).1 (Hk32.out w' hu).2 (by omega) (by have := HCc.out; omega)
                rwa [← HY10.out] at h
              have HRTx2 : Hid (∀ w', Upd (fun _ => False) wr w' → Calls Tryd.prog 42 #[.int .i64 dm, .slice a14 qn c14] w' (RTextAt dm (Q.map flipB) w')) := fun w' hu =>
                rtext_el dm a14 qn c14 (Q.map flipB) _ w' (SlL.toE (HS14.out.upd hu (fun _ _ => id))) (fun k h => by have := hu.size; omega) (by omega) (by have := HCc.out; omega)
              have HROf2 : Hid (∀ w', Upd (fun _ => False) wr w' → Calls Tryd.prog 44 #[.int .i64 wd, .int .i64 dm, .slice a14 qn c14] w' fun e w'' => e = .returned (.agg Y10) ∧ Upd (fun _ => False) w' w'') := by
                show ∀ _, _
                intro w' hu
                have h := rof_el wd Hw.out dm a14 qn c14 (Q.map flipB) _ w' (SlL.toE (HS14.out.upd hu (fun _ _ => id))) (fun k h => by have := hu.size; omega) (by omega) (by have := HCc.out; omega)
                rwa [← HY10.out] at h
              obtain ⟨st2, hst2⟩ : ∃ st : ByteArray, st = ⟨(OfW.byteOf dm :: cat (Q.map flipB)).toArray⟩ := ⟨_, rfl⟩
              have Hst2 := Lib.hid hst2
              have hnlt3 : decide ((qn : Int) < (qn : Int)) = false := by simp
              clear hst2 hmx hlt hjq HF H7 H8 HO HN HV HTx HOf HRTx HROf HBk
              go_wp2_with fail
              have HS_wr_0 : Hid (Upd (fun _ => False) wr wr.drew) := (Upd.refl _ _).drew
              refine wp_region_held_drew (S := Upd (fun _ => False) wr) (by kernel_rfl) HS_wr_0.out (fun _ => ?_)
              refine wpAnyH_take (i := 0) (oi := ⟨some 235, _, _, _, _, _⟩) (v := .pointer (some ⟨W.heap.size, 1, none⟩)) rfl (by kernel_rfl) (by kernel_rfl) (by kernel_rfl) (fun _ _ _ h => h) (Or.inl ⟨by rfl, fun w hS => by go_simp⟩) HS_wr_0.out ?_
              try simp only [Act.put, List.setIfInBounds_toArray, List.set_cons_zero, List.set_cons_succ]
              refine wpAnyH_take (i := 1) (oi := ⟨some 236, _, _, _, _, _⟩) (v := .int .i64 dm) rfl (by kernel_rfl) (by kernel_rfl) (by kernel_rfl) (fun _ _ _ h => h) (Or.inl ⟨by rfl, fun w hS => by have c0 := (HXw.out.upd hS id).c1; go_simp⟩) HS_wr_0.out ?_
              try simp only [Act.put, List.setIfInBounds_toArray, List.set_cons_zero, List.set_cons_succ]
              refine wpAnyH_take (i := 2) (oi := ⟨some 237, _, _, _, _, _⟩) (v := .slice a8 qn c8) rfl (by kernel_rfl) (by kernel_rfl) (by kernel_rfl) (fun _ _ _ h => h) (Or.inl ⟨by rfl, fun w hS => by go_simp⟩) HS_wr_0.out ?_
              try simp only [Act.put, List.setIfInBounds_toArray, List.set_cons_zero, List.set_cons_succ]
              refine wpAnyH_take (i := 5) (oi := ⟨some 240, _, _, _, _, _⟩) (v := .pointer (some ⟨W.heap.size, 1, none⟩)) rfl (by kernel_rfl) (by kernel_rfl) (by kernel_rfl) (fun _ _ _ h => h) (Or.inl ⟨by rfl, fun w hS => by go_simp⟩) HS_wr_0.out ?_
              try simp only [Act.put, List.setIfInBounds_toArray, List.set_cons_zero, List.set_cons_succ]
              refine wpAnyH_take (i := 6) (oi := ⟨some 241, _, _, _, _, _⟩) (v := .int .i64 dm) rfl (by kernel_rfl) (by kernel_rfl) (by kernel_rfl) (fun _ _ _ h => h) (Or.inl ⟨by rfl, fun w hS => by have c0 := (HXw.out.upd hS id).c1; go_simp⟩) HS_wr_0.out ?_
              try simp only [Act.put, List.setIfInBounds_toArray, List.set_cons_zero, List.set_cons_succ]
              refine wpAnyH_take (i := 7) (oi := ⟨some 242, _, _, _, _, _⟩) (v := .slice a14 qn c14) rfl (by kernel_rfl) (by kernel_rfl) (by kernel_rfl) (fun _ _ _ h => h) (Or.inl ⟨by rfl, fun w hS => by go_simp⟩) HS_wr_0.out ?_
              try simp only [Act.put, List.setIfInBounds_toArray, List.set_cons_zero, List.set_cons_succ]
              refine wpAnyH_ready (rs := [3]) (by kernel_rfl) (by simp) ?_
              refine AllReadyH.cons rfl (fun K hK => ?_) AllReadyH.nil
              go_simp
              refine (HTx2.out wr.drew ((HLf.out.kept HS_wr_0.out).slL HCb.out)).mono ?_
              rintro e w6 ⟨a6, m6, c6, rfl, hm6, hown6, hno6, hu_⟩
              have HS_wr_1 : Hid (Upd (fun _ => False) wr w6) := HS_wr_0.out.trans (hu_.mono (fun _ _ h => h.elim))
              have HU_w6 := Lib.hid hu_
              clear hu_
              have HC6 : Hid (∀ w', Upd (fun _ => False) w6 w' → (convert 25 9 (.slice a6 m6 c6)).run Tryd.prog w' = .ok (.string st2) w') := by
                show ∀ _, _
                intro w' hu'
                have e : m6 = (OfW.byteOf dm :: cat (Q.map flipB)).length := by rw [hm6, List.length_cons]
                rw [Hst2.out]
                rw [e] at hown6 ⊢
                exact conv_sl ((Sl.of_own hown6).upd hu' (fun _ _ => id))
              clear hm6 hown6 hno6
              refine hK.out _ _ HS_wr_1.out (fun hHeld => ?_)
              clear hK K hHeld
              try simp only [Act.put, List.setIfInBounds_toArray, List.set_cons_zero, List.set_cons_succ]
              have HX6 : Hid (PX w6 W.heap.size wd dm ct ht LA LB (.slice pao pn pcap) (.slice qao qn qcap)) := HXw.out.upd HS_wr_1.out id
              have HU6 : Hid (Upd (fun _ => False) W w6) := HUw.out.trans (HS_wr_1.out.mono (fun _ _ e => e.elim))
              have HSw6_0 : Hid (Upd (fun _ => False) w6 w6) := Upd.refl _ _
              refine wpAnyH_narrow (S' := Upd (fun _ => False) w6) (fun w h => HS_wr_1.out.trans (h.mono (fun _ _ e => e.elim))) _ _ _ _ ?_
              refine wpAnyH_take (i := 4) (oi := ⟨some 239, _, _, _, _, _⟩) (v := .string st2) rfl (by kernel_rfl) (by kernel_rfl) (by kernel_rfl) (fun _ _ _ h => h) (Or.inl ⟨by rfl, fun w hS => by have hc := HC6.out w hS; go_simp⟩) HSw6_0.out ?_
              try simp only [Act.put, List.setIfInBounds_toArray, List.set_cons_zero, List.set_cons_succ]
              refine wpAnyH_ready (rs := [8]) (by kernel_rfl) (by simp) ?_
              refine AllReadyH.cons rfl (fun K hK => ?_) AllReadyH.nil
              go_simp
              refine (HRTx2.out w6 (HS_wr_1.out.trans (HSw6_0.out.mono (fun _ _ e => e.elim)))).mono ?_
              rintro e w7 ⟨a7r, m7, c7, rfl, hm7, hown7, hno7, hu_⟩
              have HS_w6_1 : Hid (Upd (fun _ => False) w6 w7) := HSw6_0.out.trans (hu_.mono (fun _ _ h => h.elim))
              have HU_w7 := Lib.hid hu_
              clear hu_
              have hc7 : (convert 25 9 (.slice a7r m7 c7)).run Tryd.prog w7 = .ok (.string st2) w7 := by
                have e : m7 = (OfW.byteOf dm :: cat (Q.map flipB)).length := by rw [hm7, List.length_cons]
                rw [Hst2.out]
                rw [e] at hown7 ⊢
                exact conv_sl (Sl.of_own hown7)
              have HC7 := Lib.hid hc7
              clear hm7 hown7 hno7 hc7
              refine hK.out _ _ HS_w6_1.out (fun hHeld => ?_)
              clear hK K hHeld
              try simp only [Act.put, List.setIfInBounds_toArray, List.set_cons_zero, List.set_cons_succ]
              refine wpAnyH_ready (rs := [9]) (by kernel_rfl) (by simp) ?_
              refine AllReadyH.cons rfl (fun K hK => ?_) AllReadyH.nil
              have hc7 := HC7.out
              go_simp
              clear hc7
              refine hK.out _ _ HS_w6_1.out (fun hHeld => ?_)
              clear hK K hHeld
              try simp only [Act.put, List.setIfInBounds_toArray, List.set_cons_zero, List.set_cons_succ]
              refine wpAnyH_take (i := 10) (oi := ⟨some 245, _, _, _, _, _⟩) (v := .bool false) rfl (by kernel_rfl) (by kernel_rfl) (by kernel_rfl) (fun _ _ _ h => h) (Or.inl ⟨by rfl, fun w hS => by go_simp⟩) HS_w6_1.out ?_
              try simp only [Act.put, List.setIfInBounds_toArray, List.set_cons_zero, List.set_cons_succ]
              refine wpAnyH_take (i := 11) (oi := ⟨some 246, _, _, _, _, _⟩) (v := .bool false) rfl (by kernel_rfl) (by kernel_rfl) (by kernel_rfl) (fun _ _ _ h => h) (Or.inl ⟨by rfl, fun w hS => by go_simp⟩) HS_w6_1.out ?_
              try simp only [Act.put, List.setIfInBounds_toArray, List.set_cons_zero, List.set_cons_succ]
              refine wpAnyH_take (i := 12) (oi := ⟨some 247, _, _, _, _, _⟩) (v := .int .i64 wd) rfl (by kernel_rfl) (by kernel_rfl) (by kernel_rfl) (fun _ _ _ h => h) (Or.inl ⟨by rfl, fun w hS => by go_simp⟩) HS_w6_1.out ?_
              try simp only [Act.put, List.setIfInBounds_toArray, List.set_cons_zero, List.set_cons_succ]
              refine wpAnyH_take (i := 13) (oi := ⟨some 248, _, _, _, _, _⟩) (v := .pointer (some ⟨W.heap.size, 1, none⟩)) rfl (by kernel_rfl) (by kernel_rfl) (by kernel_rfl) (fun _ _ _ h => h) (Or.inl ⟨by rfl, fun w hS => by go_simp⟩) HS_w6_1.out ?_
              try simp only [Act.put, List.setIfInBounds_toArray, List.set_cons_zero, List.set_cons_succ]
              refine wpAnyH_take (i := 14) (oi := ⟨some 249, _, _, _, _, _⟩) (v := .int .i64 dm) rfl (by kernel_rfl) (by kernel_rfl) (by kernel_rfl) (fun _ _ _ h => h) (Or.inl ⟨by rfl, fun w hS => by have c0 := (HX6.out.upd hS id).c1; go_simp⟩) HS_w6_1.out ?_
              try simp only [Act.put, List.setIfInBounds_toArray, List.set_cons_zero, List.set_cons_succ]
              refine wpAnyH_take (i := 15) (oi := ⟨some 250, _, _, _, _, _⟩) (v := .slice a8 qn c8) rfl (by kernel_rfl) (by kernel_rfl) (by kernel_rfl) (fun _ _ _ h => h) (Or.inl ⟨by rfl, fun w hS => by go_simp⟩) HS_w6_1.out ?_
              try simp only [Act.put, List.setIfInBounds_toArray, List.set_cons_zero, List.set_cons_succ]
              refine wpAnyH_take (i := 17) (oi := ⟨some 252, _, _, _, _, _⟩) (v := .int .i64 wd) rfl (by kernel_rfl) (by kernel_rfl) (by kernel_rfl) (fun _ _ _ h => h) (Or.inl ⟨by rfl, fun w hS => by go_simp⟩) HS_w6_1.out ?_
              try simp only [Act.put, List.setIfInBounds_toArray, List.set_cons_zero, List.set_cons_succ]
              refine wpAnyH_take (i := 18) (oi := ⟨some 253, _, _, _, _, _⟩) (v := .pointer (some ⟨W.heap.size, 1, none⟩)) rfl (by kernel_rfl) (by kernel_rfl) (by kernel_rfl) (fun _ _ _ h => h) (Or.inl ⟨by rfl, fun w hS => by go_simp⟩) HS_w6_1.out ?_
              try simp only [Act.put, List.setIfInBounds_toArray, List.set_cons_zero, List.set_cons_succ]
              refine wpAnyH_take (i := 19) (oi := ⟨some 254, _, _, _, _, _⟩) (v := .int .i64 dm) rfl (by kernel_rfl) (by kernel_rfl) (by kernel_rfl) (fun _ _ _ h => h) (Or.inl ⟨by rfl, fun w hS => by have c0 := (HX6.out.upd hS id).c1; go_simp⟩) HS_w6_1.out ?_
              try simp only [Act.put, List.setIfInBounds_toArray, List.set_cons_zero, List.set_cons_succ]
              refine wpAnyH_take (i := 20) (oi := ⟨some 255, _, _, _, _, _⟩) (v := .slice a14 qn c14) rfl (by kernel_rfl) (by kernel_rfl) (by kernel_rfl) (fun _ _ _ h => h) (Or.inl ⟨by rfl, fun w hS => by go_simp⟩) HS_w6_1.out ?_
              try simp only [Act.put, List.setIfInBounds_toArray, List.set_cons_zero, List.set_cons_succ]
              refine wpAnyH_ready (rs := [16]) (by kernel_rfl) (by simp) ?_
              refine AllReadyH.cons rfl (fun K hK => ?_) AllReadyH.nil
              go_simp
              refine (HOf2.out w7 (HU6.out.trans (HS_w6_1.out.mono (fun _ _ e => e.elim))) ((HLf.out.kept (HS_wr_1.out.trans (HS_w6_1.out.mono (fun _ _ e => e.elim)))).slL HCb.out)).mono ?_
              rintro e w8 ⟨rfl, hu_⟩
              have HS_w6_2 : Hid (Upd (fun _ => False) w6 w8) := HS_w6_1.out.trans (hu_.mono (fun _ _ h => h.elim))
              have HU_w8 := Lib.hid hu_
              clear hu_
              refine hK.out _ _ HS_w6_2.out (fun hHeld => ?_)
              clear hK K hHeld
              try simp only [Act.put, List.setIfInBounds_toArray, List.set_cons_zero, List.set_cons_succ]
              refine wpAnyH_ready (rs := [21]) (by kernel_rfl) (by simp) ?_
              refine AllReadyH.cons rfl (fun K hK => ?_) AllReadyH.nil
              go_simp
              refine (HROf2.out w8 (HS_wr_1.out.trans (HS_w6_2.out.mono (fun _ _ e => e.elim)))).mono ?_
              rintro e w9 ⟨rfl, hu_⟩
              have HS_w6_3 : Hid (Upd (fun _ => False) w6 w9) := HS_w6_2.out.trans (hu_.mono (fun _ _ h => h.elim))
              have HU_w9 := Lib.hid hu_
              clear hu_
              refine hK.out _ _ HS_w6_3.out (fun hHeld => ?_)
              clear hK K hHeld
              try simp only [Act.put, List.setIfInBounds_toArray, List.set_cons_zero, List.set_cons_succ]
              refine wpAnyH_take (i := 22) (oi := ⟨some 257, _, _, _, _, _⟩) (v := .bool false) rfl (by kernel_rfl) (by kernel_rfl) (by kernel_rfl) (fun _ _ _ h => h) (Or.inl ⟨by rfl, fun w hS => by have q0 := HQ10.out; go_simp⟩) HS_w6_3.out ?_
              try simp only [Act.put, List.setIfInBounds_toArray, List.set_cons_zero, List.set_cons_succ]
              refine wpAnyH_take (i := 23) (oi := ⟨some 258, _, _, _, _, _⟩) (v := .bool false) rfl (by kernel_rfl) (by kernel_rfl) (by kernel_rfl) (fun _ _ _ h => h) (Or.inl ⟨by rfl, fun w hS => by go_simp⟩) HS_w6_3.out ?_
              try simp only [Act.put, List.setIfInBounds_toArray, List.set_cons_zero, List.set_cons_succ]
              refine wpAnyH_done (by kernel_rfl) ?_ _
              obtain ⟨wE, hwE⟩ : ∃ x : World, x = w9 := ⟨_, rfl⟩
              have HUwE : Hid (Upd (fun _ => False) wr w9) := (HS_wr_1.out.trans (HS_w6_3.out.mono (fun _ _ e => e.elim)))
              have HUWe : Hid (Upd (fun _ => False) W w9) := HUw.out.trans (HUwE.out.mono (fun _ _ e => e.elim))
              have HXe : Hid (PX w9 W.heap.size wd dm ct ht LA LB (.slice pao pn pcap) (.slice qao qn qcap)) := HXw.out.upd HUwE.out id
              have HLe : Hid (Lst w9 w21.heap.size (Q.map flipB) gs qn (.slice a7 qn c7s) (.slice a8 qn c8)) := HLf.out.kept HUwE.out
              have HGe : Hid (Row w9 g 5 ((FL P 165).map Mem.u8)) := HGw.out.upd HUwE.out id
              have HW4E : Hid (w4b.heap.size ≤ w9.heap.size) := by show _ ≤ _; have h1 := HUwE.out.size; have h2 := HwD.out; have h3 := HDs.out; have h4 := Hbs.out; omega
              have HB4 : Hid (LB4 w4b w9 bb qn gs (.int .i64 0) w9) := by
                have h1 := HUwE.out.size
                have h2 := HwD.out
                exact ⟨0, K, cs, Nat.zero_le _, rfl, HK.out, (HBw.out.kept HUwE.out).mono (fun k h3 _ => ⟨h3.1, by have := h3.2; omega⟩) (fun k h3 _ => .inl ⟨h3.1, by have := h3.2; omega⟩), Upd.refl _ _⟩
              clear hwE HTx2 HOf2 HRTx2 HROf2 HS14 HBw HGw HLf HXw HK
              go_wp2_with fail
              go_loopw [16] (fun i wr => LB4 w4b w9 bb qn gs i wr) (fun i _ => (qn - (intOf i).toNat))
              case atStart => exact HB4.out
              case round =>
                clear HB4
                obtain ⟨j, K4, cs4, hj4, rfl, hK4, hb4, hu4⟩ := hrel
                have HK4 := Lib.hid hK4
                have HBk4 := Lib.hid hb4
                have HU4 := Lib.hid hu4
                have hbs := Hbs.out
                have hsz4 := hu4.size
                have HUn : Hid (Upd (fun _ => False) W wr) := HUWe.out.trans (hu4.mono (fun k _ e => .inr (by omega)))
                have HXn : Hid (PX wr W.heap.size wd dm ct ht LA LB (.slice pao pn pcap) (.slice qao qn qcap)) := HXe.out.upd hu4 (by omega)
                have HGn : Hid (Row wr g 5 ((FL P 165).map Mem.u8)) := HGe.out.upd hu4 (by have := HgB.out; omega)
                have HLn : Hid (Lst wr w21.heap.size (Q.map flipB) gs qn (.slice a7 qn c7s) (.slice a8 qn c8)) :=
                  HLe.out.upd hu4 (fun x hx e => by have := Hgsb.out x hx; omega) (fun k hk e => by have := Hv7b.out k hk; omega) (fun k hk e => by have := Hv8b.out k hk; omega)
                clear hK4 hb4 hu4
                by_cases hlt : j < qn
                · have hltI : (j : Int) < (qn : Int) := by omega
                  have hjt : j < (Q.map flipB).length := by rw [HCn.out]; exact hlt
                  have hgl : j < gs.length := by rw [HLn.out.fl.len]; exact hjt
                  obtain ⟨gj, hgj⟩ : ∃ x, x = gs.getD j 0 := ⟨_, rfl⟩
                  obtain ⟨q, hq⟩ : ∃ q, q = (Q.map flipB).getD j [] := ⟨_, rfl⟩
                  obtain ⟨m, hm⟩ : ∃ m, m = q.length := ⟨_, rfl⟩
                  have hmb : m ≤ 140737488351232 := by have := HCb.out j; rw [← hq] at this; omega
                  have h7 := own_cell HLn.out.o7 j _ (fvs_at (Q.map flipB) gs HLn.out.fl.len j hjt)
                  rw [← hq, ← hm, ← hgj] at h7
                  obtain ⟨b7, cp7, he7, _, hc7, _⟩ := h7
                  injection he7 with e1 e2 e3
                  subst e1 e3
                  clear e2
                  have hc7 : wr.cell? ⟨b7, j, none⟩ = some (.slice (some ⟨gj, 0, none⟩) (m + 80) (m + 80)) := hc7
                  have hrj := HLn.out.fl.row j hjt
                  rw [← hq, ← hgj] at hrj
                  have hgm : gj ∈ gs := by rw [hgj]; exact getD_mem gs j hgl
                  have hgb := Hgsb.out gj hgm
                  have hnt : gj ∉ gs.take j := by rw [hgj]; exact not_taken gs HLn.out.fl.nd j hgl
                  have HKp := Lib.hid (keep_any bb 0 49 cs4 K4 _ _ (some ⟨gj, 0, none⟩) (m + 80) (m + 80) (FL q 165) wr HBk4.out (by decide) (by decide) (own_full hrj (by rw [FL_len, hm]) (by omega)) (fun k hk e => by
                    have h1 := WriteW.own_at hk
                    subst h1
                    rcases e with e | e
                    · omega
                    · exact hnt e) HK4.out (by omega))
                  have Hgj := Lib.hid hgj
                  have Hgl := Lib.hid hgl
                  clear hrj hnt hgj hq hm hjt hgl
                  go_wp2_with fail
                  refine HKp.out.mono ?_
                  rintro e w5 ⟨rfl, u, K', cs', hsf, hne, hlen', hb', hbut, hu'⟩
                  have HREL : Hid (LB4 w4b w9 bb qn gs (.int .i64 ((j + 1 : Nat) : Int)) w5) := by
                    refine ⟨j + 1, K', cs', by omega, rfl, hlen', hb'.mono (fun k h3 h5 => ⟨?_, h5⟩) (fun k h3 h5 => ?_), HU4.out.trans (hu'.mono fun k _ e => ?_)⟩
                    · rcases h3 with h3 | h3
                      · exact h3.1
                      · have := HU4.out.size; have := HW4E.out; omega
                    · rcases h3 with (h3 | h3) | h3
                      · exact .inl ⟨h3.1, h5⟩
                      · right; rw [take_snocN gs j Hgl.out]; exact List.mem_append.2 (.inl h3)
                      · right; rw [take_snocN gs j Hgl.out, ← Hgj.out, WriteW.own_at h3]; exact List.mem_append.2 (.inr (List.mem_singleton.2 rfl))
                    · rcases e with e | e
                      · exact .inl (.inl e)
                      · exact .inl (.inr e.1)
                  clear hsf hne hlen' hb' hbut hu' HKp hc7 hgm
                  go_wp2
                  go_roundw
                  case rel =>
                    rw [show ((j : Int) + 1) = ((j + 1 : Nat) : Int) by omega]
                    exact HREL.out
                  case measure => simp [intOf]; omega
                · obtain rfl : qn = j := by omega
                  have hnlt4 : decide ((qn : Int) < (qn : Int)) = false := by simp
                  have HInP : Hid (∀ w', Upd (fun _ => False) wr w' → Calls Tryd.prog 21 #[.slice (some ⟨g, 0, none⟩) (pn + 80) (pn + 80), .slice pao pn pcap, .int .u8 165] w' fun e w'' => e = .returned (.bool true) ∧ Upd (fun _ => False) w' w'') := by
                    show ∀ _, _
                    intro w' hu'
                    have h2 := Sl.row (cap := pn + 80) (HGn.out.upd hu' id) (by rw [FL_len]; have := Hpn.out; omega) (by unfold maxLen; omega)
                    rw [FL_len, ← Hpn.out] at h2
                    exact intact_any ⟨g, 0, none⟩ (pn + 80) pao pn pcap P 165 w' h2 (HRoomP.out w' (HUn.out.trans (hu'.mono (fun _ _ e => e.elim)))).1 (by omega)
                  have c6 := HXn.out.c6
                  clear hlt
                  go_wp2_with fail
                  have HS_wr_0 : Hid (Upd (fun _ => False) wr wr.drew) := (Upd.refl _ _).drew
                  refine wp_region_held_drew (S := Upd (fun _ => False) wr) (by kernel_rfl) HS_wr_0.out (fun _ => ?_)
                  refine wpAnyH_take (i := 0) (oi := ⟨some 271, _, _, _, _, _⟩) (v := .slice (some ⟨g, 0, none⟩) (pn + 80) (pn + 80)) rfl (by kernel_rfl) (by kernel_rfl) (by kernel_rfl) (fun _ _ _ h => h) (Or.inl ⟨by rfl, fun w hS => by go_simp⟩) HS_wr_0.out ?_
                  try simp only [Act.put, List.setIfInBounds_toArray, List.set_cons_zero, List.set_cons_succ]
                  refine wpAnyH_take (i := 1) (oi := ⟨some 272, _, _, _, _, _⟩) (v := .pointer (some ⟨W.heap.size, 68, none⟩)) rfl (by kernel_rfl) (by kernel_rfl) (by kernel_rfl) (fun _ _ _ h => h) (Or.inl ⟨by rfl, fun w hS => by go_simp⟩) HS_wr_0.out ?_
                  try simp only [Act.put, List.setIfInBounds_toArray, List.set_cons_zero, List.set_cons_succ]
                  refine wpAnyH_take (i := 2) (oi := ⟨some 273, _, _, _, _, _⟩) (v := .slice pao pn pcap) rfl (by kernel_rfl) (by kernel_rfl) (by kernel_rfl) (fun _ _ _ h => h) (Or.inl ⟨by rfl, fun w hS => by have c0 := (HXn.out.upd hS id).c6; go_simp⟩) HS_wr_0.out ?_
                  try simp only [Act.put, List.setIfInBounds_toArray, List.set_cons_zero, List.set_cons_succ]
                  refine wpAnyH_ready (rs := [3]) (by kernel_rfl) (by simp) ?_
                  refine AllReadyH.cons rfl (fun K hK => ?_) AllReadyH.nil
                  go_simp
                  refine (HInP.out wr.drew HS_wr_0.out).mono ?_
                  rintro e w5 ⟨rfl, hu_⟩
                  have HS_wr_1 : Hid (Upd (fun _ => False) wr w5) := HS_wr_0.out.trans (hu_.mono (fun _ _ h => h.elim))
                  have HU_w5 := Lib.hid hu_
                  clear hu_
                  refine hK.out _ _ HS_wr_1.out (fun hHeld => ?_)
                  clear hK K hHeld
                  try simp only [Act.put, List.setIfInBounds_toArray, List.set_cons_zero, List.set_cons_succ]
                  refine wpAnyH_take (i := 4) (oi := ⟨some 275, _, _, _, _, _⟩) (v := .bool false) rfl (by kernel_rfl) (by kernel_rfl) (by kernel_rfl) (fun _ _ _ h => h) (Or.inl ⟨by rfl, fun w hS => by go_simp⟩) HS_wr_1.out ?_
                  try simp only [Act.put, List.setIfInBounds_toArray, List.set_cons_zero, List.set_cons_succ]
                  refine wpAnyH_take (i := 5) (oi := ⟨some 276, _, _, _, _, _⟩) (v := .bool false) rfl (by kernel_rfl) (by kernel_rfl) (by kernel_rfl) (fun _ _ _ h => h) (Or.inl ⟨by rfl, fun w hS => by go_simp⟩) HS_wr_1.out ?_
                  try simp only [Act.put, List.setIfInBounds_toArray, List.set_cons_zero, List.set_cons_succ]
                  refine wpAnyH_take (i := 6) (oi := ⟨some 277, _, _, _, _, _⟩) (v := .int .i64 wd) rfl (by kernel_rfl) (by kernel_rfl) (by kernel_rfl) (fun _ _ _ h => h) (Or.inl ⟨by rfl, fun w hS => by go_simp⟩) HS_wr_1.out ?_
                  try simp only [Act.put, List.setIfInBounds_toArray, List.set_cons_zero, List.set_cons_succ]
                  refine wpAnyH_take (i := 7) (oi := ⟨some 278, _, _, _, _, _⟩) (v := .slice (some ⟨g, 0, none⟩) pn (pn + 80)) rfl (by kernel_rfl) (by kernel_rfl) (by kernel_rfl) (fun _ _ _ h => h) (Or.inl ⟨by rfl, fun w hS => by go_simp⟩) HS_wr_1.out ?_
                  try simp only [Act.put, List.setIfInBounds_toArray, List.set_cons_zero, List.set_cons_succ]
                  refine wpAnyH_take (i := 9) (oi := ⟨some 280, _, _, _, _, _⟩) (v := .int .i64 wd) rfl (by kernel_rfl) (by kernel_rfl) (by kernel_rfl) (fun _ _ _ h => h) (Or.inl ⟨by rfl, fun w hS => by go_simp⟩) HS_wr_1.out ?_
                  try simp only [Act.put, List.setIfInBounds_toArray, List.set_cons_zero, List.set_cons_succ]
                  refine wpAnyH_take (i := 10) (oi := ⟨some 281, _, _, _, _, _⟩) (v := .pointer (some ⟨W.heap.size, 68, none⟩)) rfl (by kernel_rfl) (by kernel_rfl) (by kernel_rfl) (fun _ _ _ h => h) (Or.inl ⟨by rfl, fun w hS => by go_simp⟩) HS_wr_1.out ?_
                  try simp only [Act.put, List.setIfInBounds_toArray, List.set_cons_zero, List.set_cons_succ]
                  refine wpAnyH_take (i := 11) (oi := ⟨some 282, _, _, _, _, _⟩) (v := .slice pao pn pcap) rfl (by kernel_rfl) (by kernel_rfl) (by kernel_rfl) (fun _ _ _ h => h) (Or.inl ⟨by rfl, fun w hS => by have c0 := (HXn.out.upd hS id).c6; go_simp⟩) HS_wr_1.out ?_
                  try simp only [Act.put, List.setIfInBounds_toArray, List.set_cons_zero, List.set_cons_succ]
                  refine wpAnyH_ready (rs := [8]) (by kernel_rfl) (by simp) ?_
                  refine AllReadyH.cons rfl (fun K hK => ?_) AllReadyH.nil
                  go_simp
                  refine (HLeaf.out w5 (HUn.out.trans (HS_wr_1.out.mono (fun _ _ e => e.elim))) (HGn.out.upd HS_wr_1.out id)).mono ?_
                  rintro e w6 ⟨rfl, hu_⟩
                  have HS_wr_2 : Hid (Upd (fun _ => False) wr w6) := HS_wr_1.out.trans (hu_.mono (fun _ _ h => h.elim))
                  have HU_w6 := Lib.hid hu_
                  clear hu_
                  refine hK.out _ _ HS_wr_2.out (fun hHeld => ?_)
                  clear hK K hHeld
                  try simp only [Act.put, List.setIfInBounds_toArray, List.set_cons_zero, List.set_cons_succ]
                  refine wpAnyH_ready (rs := [12]) (by kernel_rfl) (by simp) ?_
                  refine AllReadyH.cons rfl (fun K hK => ?_) AllReadyH.nil
                  go_simp
                  refine (HRLeaf.out w6 (HUn.out.trans (HS_wr_2.out.mono (fun _ _ e => e.elim)))).mono ?_
                  rintro e w7 ⟨rfl, hu_⟩
                  have HS_wr_3 : Hid (Upd (fun _ => False) wr w7) := HS_wr_2.out.trans (hu_.mono (fun _ _ h => h.elim))
                  have HU_w7 := Lib.hid hu_
                  clear hu_
                  refine hK.out _ _ HS_wr_3.out (fun hHeld => ?_)
                  clear hK K hHeld
                  try simp only [Act.put, List.setIfInBounds_toArray, List.set_cons_zero, List.set_cons_succ]
                  refine wpAnyH_take (i := 13) (oi := ⟨some 284, _, _, _, _, _⟩) (v := .bool false) rfl (by kernel_rfl) (by kernel_rfl) (by kernel_rfl) (fun _ _ _ h => h) (Or.inl ⟨by rfl, fun w hS => by have q0 := HQ1.out; go_simp⟩) HS_wr_3.out ?_
                  try simp only [Act.put, List.setIfInBounds_toArray, List.set_cons_zero, List.set_cons_succ]
                  refine wpAnyH_take (i := 14) (oi := ⟨some 285, _, _, _, _, _⟩) (v := .bool false) rfl (by kernel_rfl) (by kernel_rfl) (by kernel_rfl) (fun _ _ _ h => h) (Or.inl ⟨by rfl, fun w hS => by go_simp⟩) HS_wr_3.out ?_
                  try simp only [Act.put, List.setIfInBounds_toArray, List.set_cons_zero, List.set_cons_succ]
                  refine wpAnyH_done (by kernel_rfl) ?_ _
                  have HU7 : Hid (Upd (fun _ => False) wr w7) := HS_wr_3.out
                  have HUw7 : Hid (Upd (fun _ => False) W w7) := HUn.out.trans (HU7.out.mono (fun _ _ e => e.elim))
                  have HTu := Lib.hid (turned_own g pn (pn + 80) (FL P 165) w7 (HGn.out.upd HU7.out id) (by rw [FL_len]; have := Hpn.out; omega) (by omega) (by unfold maxLen; omega) (by omega))
                  clear c6 HInP
                  go_wp2_with fail
                  refine HTu.out.mono ?_
                  rintro e w8 ⟨lv, rfl, hown8, hnew8, hrow8, hu8⟩
                  rw [(turned_FL P pn Hpn.out).1] at hown8
                  rw [(turned_FL P pn Hpn.out).2] at hrow8
                  obtain ⟨lo, lc, rfl⟩ := SumsW.own_form hown8
                  have hfl : (flipB P).length = pn := by rw [flipB_len]; exact Hpn.out.symm
                  have HS8 : Hid (Sl w8 (.slice lo (flipB P).length lc) (flipB P)) := Sl.of_own hown8
                  have hlo8 := own_size hown8
                  rw [hfl] at hown8 hnew8 hlo8 HS8 ⊢
                  have HUw8 : Hid (Upd (fun _ => False) W w8) := HUw7.out.trans (hu8.mono (fun k _ e => .inr (by have := HWg.out; omega)))
                  have HUr8 : Hid (Upd (fun k => k = g) wr w8) := (HU7.out.mono (fun _ _ e => e.elim)).trans (hu8.mono (fun k _ e => .inl e))
                  have HLeaf2 := Lib.hid (leaf_any wd (some ⟨g, 0, none⟩) pn (pn + 80) (flipB P) w8 (sl_full hrow8 hfl.symm (by omega)) (fun k ho => by have := WriteW.own_at ho; have := hrow8.lt; omega) (Hk32.out w8 HUw8.out).1 (Hk32.out w8 HUw8.out).2 (by omega))
                  rw [← HY11.out] at HLeaf2
                  have HRLeaf2 : Hid (∀ w', Upd (fun _ => False) w8 w' → Calls Tryd.prog 27 #[.int .i64 wd, .slice lo pn lc] w' fun e w'' => e = .returned (.agg Y11) ∧ Upd (fun _ => False) w' w'') := by
                    show ∀ _, _
                    intro w' hu'
                    have h := rleaf_any wd Hw.out lo pn lc (flipB P) w' (HS8.out.upd hu' (fun _ _ => id)) (fun k hk => by have := hlo8 k hk; have := hu'.size; omega) trivial trivial (by omega)
                    rwa [← HY11.out] at h
                  have HB8 : Hid (∀ w', Upd (fun _ => False) w8 w' → BkW w' bb 49 cs4 0 K4 (fun k => w4b.heap.size ≤ k ∧ k < wr.heap.size) (fun k => (w4b.heap.size ≤ k ∧ k < wr.heap.size) ∨ k ∈ gs.take qn)) := fun w' hu' =>
                    (HBk4.out.upd HUr8.out (by have := HgB.out; have := HBB.out; omega) (fun k h1 _ e => by have := HgB.out; have := HBB.out; omega) (fun k h1 _ e => by
                      have h2 := HgB.out
                      have h3 := HBB.out
                      rcases h1 with h1 | h1
                      · omega
                      · have := HGB.out k (List.mem_of_mem_take h1); omega)).kept hu'
                  clear hown8 hnew8 hrow8 hu8 hfl hlo8 HTu
                  have q11 := HQ11.out
                  go_wp2_with fail
                  refine HLeaf2.out.mono ?_
                  rintro e w10 ⟨rfl, hu10⟩
                  have HU10 := Lib.hid hu10
                  clear hu10
                  go_wp2_with fail
                  refine (HRLeaf2.out w10 HU10.out).mono ?_
                  rintro e w11' ⟨rfl, hu11⟩
                  have HU11' : Hid (Upd (fun _ => False) w8 w11') := HU10.out.trans (hu11.mono (fun _ _ e => e.elim))
                  clear hu11
                  have HAp := Lib.hid (apart_any bb 0 49 cs4 K4 _ _ w11' (HB8.out w11' HU11'.out) (by decide) (by decide) HK4.out)
                  go_wp2_with fail
                  refine HAp.out.mono ?_
                  rintro e w12 ⟨rfl, _, hu12⟩
                  have HU12 : Hid (Upd (fun _ => False) W w12) := (HUw8.out.trans (HU11'.out.mono (fun _ _ e => e.elim))).trans (hu12.mono (fun k _ e => .inr (by
                    have h2 := HBB.out
                    have h3 := HWB.out
                    rcases e with e | (e | e)
                    · omega
                    · omega
                    · have := HGB.out k (List.mem_of_mem_take e); omega)))
                  clear hu12
                  go_wp2_with fail
                  go_ret
                  exact ⟨rfl, HU12.out⟩
end Go.Proofs.YtgfdnljblfkhkaaDoor.TabW
