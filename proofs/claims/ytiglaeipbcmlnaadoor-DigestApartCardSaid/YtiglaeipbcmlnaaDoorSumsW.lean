/-
  docketlaw2.DigestSums, walked.
-/
import Derived.Test.YtiglaeipbcmlnaaDoorRefW3
import Derived.Test.YtiglaeipbcmlnaaDoorTextW
import Derived.Test.YtiglaeipbcmlnaaDoorHeldX
import Derived.Laws.OwnMore
namespace Go.Proofs.YtiglaeipbcmlnaaDoor.SumsW
open Go.RowKit Sha TurnW Mem RowW CopyW WriteW EqW SumH NewW BookW HeldW TextW NamesV NamesD WrittenW RefW3 MixW
set_option linter.unusedVariables false
set_option linter.unusedSimpArgs false

theorem FL_tsub (l : List UInt8) (j : Nat) (h : j ≤ l.length) : tsub (FL l 165) j = FL (tsub l j) 165 := by
  unfold tsub FL
  rw [List.take_append_of_le_length h, List.drop_append_of_le_length h, List.append_assoc]
theorem splice_back (l t : List UInt8) (h : t.length = l.length) : splice ((FL t 165).map u8) 0 (l.map u8) = (FL l 165).map u8 := by
  unfold splice FL
  rw [List.take_zero, List.nil_append, Nat.zero_add, List.length_map, List.map_append, List.map_append, ← h, List.drop_append_of_le_length (by simp), List.drop_of_length_le (by simp)]
  simp
theorem own_form {w : World} {base n : Nat} {T : TypeId} {v : Value} {xs : List Value} (h : w.ownsRow base T 1 v n xs) : ∃ ao cap, v = .slice ao n cap := by
  rcases h.2 with ⟨rfl, rfl⟩ | ⟨g, cap, cur, rfl, _⟩
  · exact ⟨_, _, rfl⟩
  · exact ⟨_, _, rfl⟩
theorem own_at_pos {w : World} {base n cap : Nat} {T : TypeId} {ao : Option Addr} {xs : List Value} (h : w.ownsRow base T 1 (.slice ao n cap) n xs) (hn : 0 < n) : ∃ g, ao = some ⟨g, 0, none⟩ := by
  rcases h.2 with ⟨_, h0⟩ | ⟨g, cap', cur, h', _⟩
  · omega
  · injection h' with e
    exact ⟨g, e⟩
def LD (g n : Nat) (l : List UInt8) (v : Value) (w0 : World) (i : Value) (wr : World) : Prop :=
  ∃ j : Nat, j ≤ n ∧ i = .int .i64 j ∧ wr.ownsRow 0 5 1 v n ((tsub l j).map u8) ∧ Row wr g 5 ((FL (tsub l j) 165).map u8) ∧ Upd (fun k => k = g ∨ own v k) w0 wr

set_option maxHeartbeats 16000000 in
set_option maxRecDepth 100000 in
theorem walk (ao : Option Addr) (n cap : Nat) (l : List UInt8) (w : World) (hs : Sl w (.slice ao n cap) l) (hown : ∀ k, own (.slice ao n cap) k → k < w.heap.size) (hr : n ≤ 140737488351232)
    (hk : Kw w) (hg : 0 < w.heap.size) :
    Calls Tryd.prog 4 #[.slice ao n cap] w fun e w' => e = .returned (.bool true) ∧ Upd (fun _ => False) w w' := by
  obtain ⟨L0, hL0⟩ : ∃ L, L = (sha l).map u8 := ⟨_, rfl⟩
  obtain ⟨lt, hlt⟩ : ∃ x, x = tsub l n := ⟨_, rfl⟩
  obtain ⟨L1, hL1⟩ : ∃ L, L = (sha lt).map u8 := ⟨_, rfl⟩
  obtain ⟨LT, hLT⟩ : ∃ L, L = (hexs s1.data.toList).map u8 := ⟨_, rfl⟩
  obtain ⟨TA, hTA⟩ : ∃ A : Array Value, A = #[.int .u8 116, .int .u8 104, .int .u8 101, .int .u8 32, .int .u8 116, .int .u8 104, .int .u8 105, .int .u8 114, .int .u8 100, .int .u8 32, .int .u8 99, .int .u8 97, .int .u8 115, .int .u8 101, .int .u8 32, .int .u8 111, .int .u8 102, .int .u8 32, .int .u8 116, .int .u8 104, .int .u8 101, .int .u8 32, .int .u8 100, .int .u8 111, .int .u8 99, .int .u8 107, .int .u8 101, .int .u8 116] := ⟨_, rfl⟩
  have hTA' : TA = (t1.map u8).toArray := by rw [hTA]; rfl
  have hnl : n = l.length := by obtain ⟨_, _, h, _⟩ := hs; injection h
  have s0 : (sha l).length = 32 := rfl
  have s1' : (sha lt).length = 32 := rfl
  have sT : (hexs s1.data.toList).length = 32 := hexs_len _
  have o0 : Hid (L0.toArray.all (·.oneCell') = true) := by show _ = _; rw [hL0]; exact dig_all _
  have i0 : Hid ((Tryd.prog.info? 23).map (·.size) = some L0.toArray.size) := by show _ = _; rw [hL0]; exact dig_size _ s0
  have j0 : Hid ((Tryd.prog.info? 23).map (·.size) = some L0.length) := by show _ = _; rw [hL0]; exact dig_size' _ s0
  have l0 : Hid (AD.size = L0.toArray.size) := by show _ = _; rw [hL0]; exact dig_old _ s0
  have E0 := Lib.hid (fun w => show (Op.equalIn 10000 23 (.agg L0.toArray) (.agg L0.toArray)).run Tryd.prog w = .ok true w by rw [hL0, run_eq_digest _ _ s0 s0]; simp)
  have ET := Lib.hid (fun w => show (Op.equalIn 10000 23 (.agg LT.toArray) (.agg LT.toArray)).run Tryd.prog w = .ok true w by rw [hLT, run_eq_digest _ _ sT sT]; simp)
  have Q1 := Lib.hid (fun w => show (binOp .neq 23 (.agg L1.toArray) (.agg L1.toArray)).run Tryd.prog w = .ok (.bool false) w by rw [hL1, neq_digest _ _ s1' s1']; simp)
  have Hs := Lib.hid hs
  have Hown := Lib.hid hown
  have Hk := Lib.hid hk
  have Hg := Lib.hid hg
  have Hn := Lib.hid hnl
  have Hlt := Lib.hid hlt
  have HL0 := Lib.hid hL0
  have HL1 := Lib.hid hL1
  have HLT := Lib.hid hLT
  have HTA := Lib.hid hTA'
  have Hltl : Hid (lt.length = n) := by show _ = _; rw [hlt, tsub_len, hnl]
  have hz := zeroD
  have hTAh := Lib.hid hTA
  clear hs hown hk hg hnl hlt hL0 hL1 hLT hTA' hTA s0 s1' sT
  have hnc : (n : Int) ≤ (n : Int) + 80 := by omega
  have HRm := Lib.hid (roomy_any ao n cap l 165 w Hs.out (by omega))
  -- what the calls want of a world behind w
  have HSn := Lib.hid (fun (g : Nat) (l' : List UInt8) (w' : World) (hu : Upd (fun _ => False) w w') (hgw : g < w'.heap.size) (hll : l'.length = n) (hrow : Row w' g 5 ((FL l' 165).map u8)) =>
    sum_text (.slice (some ⟨g, 0, none⟩) n (n + 80)) l' w' (by
        have h2 := Sl.of_row (n := n) (cap := n + 80) hrow (by rw [FL_len]; omega) (by omega) (by unfold maxLen; omega)
        rw [← hll, FL_take] at h2
        rw [← hll]
        exact h2) (Hk.out.upd hu id) (by have := Hg.out; have := hu.size; omega) (fun k ho => by have := own_at ho; omega) (by omega))
  have HRf := Lib.hid (fun (w' : World) (hu : Upd (fun _ => False) w w') => refsum_any ao n cap l w' (Hs.out.upd hu (fun _ _ => id)) (fun k ho => by have := Hown.out k ho; have := hu.size; omega) (by omega))
  have HIn := Lib.hid (fun (g : Nat) (aw : Option Addr) (cw : Nat) (l' : List UInt8) (w' : World) (hll : l'.length = n) (hrow : Row w' g 5 ((FL l' 165).map u8)) (hsl : Sl w' (.slice aw n cw) l') => intact_any ⟨g, 0, none⟩ (n + 80) aw n cw l' 165 w'
    (by have h2 := Sl.row (cap := n + 80) hrow (by rw [FL_len]; omega) (by unfold maxLen; omega)
        rwa [FL_len, hll] at h2) hsl (by omega))
  go_enter Tryd.func4, Tryd.ntmps4
  go_wp2_with fail
  refine HRm.out.mono ?_
  rintro e w1 ⟨g, rfl, hg1, hr1, hu1⟩
  have HR1 := Lib.hid hr1
  have HU1 := Lib.hid hu1
  have hgl1 : g < w1.heap.size := hr1.lt
  clear hr1 hu1
  go_wp2_with fail
  refine (HSn.out g l w1 HU1.out hgl1 Hn.out.symm HR1.out).mono ?_
  rintro e w2 ⟨he, hu2'⟩
  rw [← HL0.out] at he
  subst he
  have HU2' := Lib.hid hu2'
  clear hu2'
  have HU2 : Hid (Upd (fun _ => False) w w2) := HU1.out.trans (HU2'.out.mono (fun _ _ h => h.elim))
  have HR2 := Lib.hid (HR1.out.upd HU2'.out id)
  have hs2 : w1.heap.size ≤ w2.heap.size := HU2'.out.size
  go_wp2_with ((with_reducible refine wpList_store_new (o := ⟨none, .store 23 (.tmp 5) (.tmp 15), _, _, _, _⟩) ?_ _ (.tmp 5) (.tmp 15) ?_ w2.heap.size L0.toArray ?_ ?_ 23 AD (heap_alloc_new _ _) i0.out l0.out o0.out ?_); rfl; rfl; rfl; rfl; intro w3 Hg3 Hu3)
  obtain ⟨DB, hDB⟩ : ∃ DB, DB = w2.heap.size := ⟨_, rfl⟩
  rw [← hDB] at Hg3 Hu3 ⊢
  have hgd : g < DB := by omega
  have HR3 : Hid (Row w3 g 5 ((FL l 165).map u8)) := (HR2.out.alloc (.cells AD 23)).upd Hu3.out (by omega)
  have HU3 : Hid (Upd (fun _ => False) w w3) := (HU2.out.alloc _).trans (Hu3.out.mono (fun k _ e => .inr (by have := HU2.out.size; omega)))
  have hs3 : DB < w3.heap.size := lt_of_block Hg3.out
  have HG3 : Hid (w3.heap[DB]? = some (.cells L0.toArray 23 (0, 0))) := Hg3.out
  have hs0 : w.heap.size ≤ DB := by have := HU2.out.size; omega
  clear Hg3 Hu3 hDB HR1 HR2 HU1 HU2 HU2'
  have HF3 := Lib.hid (fun (w' : World) (h : Upd (fun _ => False) w3 w') => HRf.out w' (HU3.out.trans (h.mono (fun _ _ e => e.elim))))
  have HA3 := Lib.hid (fun (w' : World) (h : Upd (fun _ => False) w3 w') => HSn.out g l w' (HU3.out.trans (h.mono (fun _ _ e => e.elim))) (by have := h.size; omega) Hn.out.symm (HR3.out.upd h id))
  have HI3 := Lib.hid (fun (w' : World) (h : Upd (fun _ => False) w3 w') => HIn.out g ao cap l w' Hn.out.symm (HR3.out.upd h id) (Hs.out.upd (HU3.out.trans (h.mono (fun _ _ e => e.elim))) (fun _ _ => id)))
  rw [← HL0.out] at HF3 HA3
  have q0 := E0.out
  have HS_w3_0 : Hid (Upd (fun _ => False) w3 w3.drew) := (Upd.refl _ _).drew
  refine wp_region_held_drew (S := Upd (fun _ => False) w3) (by kernel_rfl) HS_w3_0.out (fun _ => ?_)
  refine wpAnyH_take (i := 0) rfl (by kernel_rfl) (by kernel_rfl) (by kernel_rfl) (fun _ _ _ h => h) (yieldsIf_load_mid (by rfl) _ _ rfl _ _ rfl L0 _ (fun w h => range_upd HG3.out h) Tryd.underlying23 rfl j0.out) HS_w3_0.out ?_
  try simp only [Act.put, List.setIfInBounds_toArray, List.set_cons_zero, List.set_cons_succ]
  refine wpAnyH_take (i := 1) (oi := ⟨some 17, _, _, _, _, _⟩) (v := .slice ao n cap) rfl (by kernel_rfl) (by kernel_rfl) (by kernel_rfl) (fun _ _ _ h => h) (Or.inl ⟨by rfl, fun w hS => by go_simp⟩) HS_w3_0.out ?_
  try simp only [Act.put, List.setIfInBounds_toArray, List.set_cons_zero, List.set_cons_succ]
  refine wpAnyH_ready (rs := [2]) (by kernel_rfl) (by simp) ?_
  refine AllReadyH.cons rfl (fun K hK => ?_) AllReadyH.nil
  go_simp
  refine (HF3.out w3.drew HS_w3_0.out).mono ?_
  rintro e w4 ⟨rfl, hu_⟩
  have HS_w3_1 : Hid (Upd (fun _ => False) w3 w4) := HS_w3_0.out.trans (hu_.mono (fun _ _ h => h.elim))
  have HU_w4 := Lib.hid hu_
  clear hu_
  refine hK.out _ _ HS_w3_1.out (fun hHeld => ?_)
  clear hK K hHeld
  try simp only [Act.put, List.setIfInBounds_toArray, List.set_cons_zero, List.set_cons_succ]
  refine wpAnyH_take (i := 3) (oi := ⟨some 19, _, _, _, _, _⟩) (v := .bool false) rfl (by kernel_rfl) (by kernel_rfl) (by kernel_rfl) (fun _ _ _ h => h) (Or.inl ⟨by rfl, fun w hS => by go_simp⟩) HS_w3_1.out ?_
  try simp only [Act.put, List.setIfInBounds_toArray, List.set_cons_zero, List.set_cons_succ]
  refine wpAnyH_take (i := 4) (oi := ⟨some 20, _, _, _, _, _⟩) (v := .bool false) rfl (by kernel_rfl) (by kernel_rfl) (by kernel_rfl) (fun _ _ _ h => h) (Or.inl ⟨by rfl, fun w hS => by go_simp⟩) HS_w3_1.out ?_
  try simp only [Act.put, List.setIfInBounds_toArray, List.set_cons_zero, List.set_cons_succ]
  refine wpAnyH_take (i := 5) (oi := ⟨some 21, _, _, _, _, _⟩) (v := .slice (some ⟨g, 0, none⟩) n (n + 80)) rfl (by kernel_rfl) (by kernel_rfl) (by kernel_rfl) (fun _ _ _ h => h) (Or.inl ⟨by rfl, fun w hS => by go_simp⟩) HS_w3_1.out ?_
  try simp only [Act.put, List.setIfInBounds_toArray, List.set_cons_zero, List.set_cons_succ]
  refine wpAnyH_take (i := 7) rfl (by kernel_rfl) (by kernel_rfl) (by kernel_rfl) (fun _ _ _ h => h) (yieldsIf_load_mid (by rfl) _ _ rfl _ _ rfl L0 _ (fun w h => range_upd HG3.out h) Tryd.underlying23 rfl j0.out) HS_w3_1.out ?_
  try simp only [Act.put, List.setIfInBounds_toArray, List.set_cons_zero, List.set_cons_succ]
  refine wpAnyH_ready (rs := [6]) (by kernel_rfl) (by simp) ?_
  refine AllReadyH.cons rfl (fun K hK => ?_) AllReadyH.nil
  go_simp
  refine (HA3.out w4 HS_w3_1.out).mono ?_
  rintro e w5 ⟨rfl, hu_⟩
  have HS_w3_2 : Hid (Upd (fun _ => False) w3 w5) := HS_w3_1.out.trans (hu_.mono (fun _ _ h => h.elim))
  have HU_w5 := Lib.hid hu_
  clear hu_
  refine hK.out _ _ HS_w3_2.out (fun hHeld => ?_)
  clear hK K hHeld
  try simp only [Act.put, List.setIfInBounds_toArray, List.set_cons_zero, List.set_cons_succ]
  refine wpAnyH_take (i := 8) (oi := ⟨some 24, _, _, _, _, _⟩) (v := .bool false) rfl (by kernel_rfl) (by kernel_rfl) (by kernel_rfl) (fun _ _ _ h => h) (Or.inl ⟨by rfl, fun w hS => by go_simp⟩) HS_w3_2.out ?_
  try simp only [Act.put, List.setIfInBounds_toArray, List.set_cons_zero, List.set_cons_succ]
  refine wpAnyH_take (i := 9) (oi := ⟨some 25, _, _, _, _, _⟩) (v := .bool false) rfl (by kernel_rfl) (by kernel_rfl) (by kernel_rfl) (fun _ _ _ h => h) (Or.inl ⟨by rfl, fun w hS => by go_simp⟩) HS_w3_2.out ?_
  try simp only [Act.put, List.setIfInBounds_toArray, List.set_cons_zero, List.set_cons_succ]
  refine wpAnyH_take (i := 10) (oi := ⟨some 26, _, _, _, _, _⟩) (v := .bool false) rfl (by kernel_rfl) (by kernel_rfl) (by kernel_rfl) (fun _ _ _ h => h) (Or.inl ⟨by rfl, fun w hS => by go_simp⟩) HS_w3_2.out ?_
  try simp only [Act.put, List.setIfInBounds_toArray, List.set_cons_zero, List.set_cons_succ]
  refine wpAnyH_take (i := 11) (oi := ⟨some 27, _, _, _, _, _⟩) (v := .slice (some ⟨g, 0, none⟩) (n + 80) (n + 80)) rfl (by kernel_rfl) (by kernel_rfl) (by kernel_rfl) (fun _ _ _ h => h) (Or.inl ⟨by rfl, fun w hS => by go_simp⟩) HS_w3_2.out ?_
  try simp only [Act.put, List.setIfInBounds_toArray, List.set_cons_zero, List.set_cons_succ]
  refine wpAnyH_take (i := 12) (oi := ⟨some 28, _, _, _, _, _⟩) (v := .slice ao n cap) rfl (by kernel_rfl) (by kernel_rfl) (by kernel_rfl) (fun _ _ _ h => h) (Or.inl ⟨by rfl, fun w hS => by go_simp⟩) HS_w3_2.out ?_
  try simp only [Act.put, List.setIfInBounds_toArray, List.set_cons_zero, List.set_cons_succ]
  refine wpAnyH_ready (rs := [13]) (by kernel_rfl) (by simp) ?_
  refine AllReadyH.cons rfl (fun K hK => ?_) AllReadyH.nil
  go_simp
  refine (HI3.out w5 HS_w3_2.out).mono ?_
  rintro e w6 ⟨rfl, hu_⟩
  have HS_w3_3 : Hid (Upd (fun _ => False) w3 w6) := HS_w3_2.out.trans (hu_.mono (fun _ _ h => h.elim))
  have HU_w6 := Lib.hid hu_
  clear hu_
  refine hK.out _ _ HS_w3_3.out (fun hHeld => ?_)
  clear hK K hHeld
  try simp only [Act.put, List.setIfInBounds_toArray, List.set_cons_zero, List.set_cons_succ]
  refine wpAnyH_take (i := 14) (oi := ⟨some 30, _, _, _, _, _⟩) (v := .bool false) rfl (by kernel_rfl) (by kernel_rfl) (by kernel_rfl) (fun _ _ _ h => h) (Or.inl ⟨by rfl, fun w hS => by go_simp⟩) HS_w3_3.out ?_
  try simp only [Act.put, List.setIfInBounds_toArray, List.set_cons_zero, List.set_cons_succ]
  refine wpAnyH_take (i := 15) (oi := ⟨some 31, _, _, _, _, _⟩) (v := .bool false) rfl (by kernel_rfl) (by kernel_rfl) (by kernel_rfl) (fun _ _ _ h => h) (Or.inl ⟨by rfl, fun w hS => by go_simp⟩) HS_w3_3.out ?_
  try simp only [Act.put, List.setIfInBounds_toArray, List.set_cons_zero, List.set_cons_succ]
  refine wpAnyH_done (by kernel_rfl) ?_ _
  clear q0
  have HU6 : Hid (Upd (fun _ => False) w w6) := HU3.out.trans (HS_w3_3.out.mono (fun _ _ h => h.elim))
  have HR6 := Lib.hid (HR3.out.upd HS_w3_3.out id)
  have HG6 : Hid (w6.heap[DB]? = some (.cells L0.toArray 23 (0, 0))) := (HS_w3_3.out.block _ (lt_of_block HG3.out) id).trans HG3.out
  have hs6 : DB < w6.heap.size := lt_of_block HG6.out
  have HSl6 := Lib.hid (Hs.out.upd HU6.out (fun _ _ => id))
  have Hr6 := Lib.hid (show n ≤ 140737488355328 by omega)
  clear HF3 HA3 HI3 HR3 HU3 HG3 HS_w3_0 HS_w3_1 HS_w3_2 HS_w3_3 HU_w4 HU_w5 HU_w6
  go_wp2_with (at_builtin; refine wpList_copy_nil _ rfl _ _ rfl rfl n l Hn.out (.slice ao n cap) rfl HSl6.out Hr6.out ?_; intro a6 c6 w7 Hown7 HU7h Ho6)
  have HU7' := HU7h.out
  have HU7 : Hid (Upd (fun _ => False) w w7) := HU6.out.trans (HU7'.mono (fun _ _ h => h.elim))
  have HR7 := Lib.hid (HR6.out.upd HU7' id)
  have HG7 : Hid (w7.heap[DB]? = some (.cells L0.toArray 23 (0, 0))) := (HU7'.block _ (lt_of_block HG6.out) id).trans HG6.out
  have HL7 : Hid (LD g n l (.slice a6 n c6) w7 (.int .i64 0) w7) := ⟨0, Nat.zero_le _, rfl, by rw [tsub_zero]; exact Hown7.out, by rw [tsub_zero]; exact HR7.out, Upd.refl _ _⟩
  have hs7 : w6.heap.size ≤ w7.heap.size := HU7'.size
  clear Hown7 HU7h HU7' HR7 HSl6 HR6 HG6 Hr6
  go_loopw [7] (fun i wr => LD g n l (.slice a6 n c6) w7 i wr) (fun i _ => (n - (intOf i).toNat))
  case atStart => exact HL7.out
  case round =>
    clear HL7
    obtain ⟨j, hj, rfl, hown, hrow, hu⟩ := hrel
    have HO := Lib.hid hown
    have HR := Lib.hid hrow
    have HU := Lib.hid hu
    clear hown hrow hu
    by_cases hlt : j < n
    · have hltI : (j : Int) < (n : Int) := by omega
      have hjl : j < l.length := by have := Hn.out; omega
      obtain ⟨g6, rfl⟩ := own_at_pos HO.out (by omega)
      have hge : w6.heap.size ≤ g6 := Ho6.out g6 (by simp [own, Value.ownBlock])
      have hne : g6 ≠ g := by omega
      have hne' : g ≠ g6 := fun e => hne e.symm
      obtain ⟨c, hc'⟩ : ∃ c, c = l.getD j 0 := ⟨_, rfl⟩
      have c0 : wr.cell? ⟨g6, j, none⟩ = some (.int .u8 (c.toNat : Int)) := by
        rw [HO.out.cellAt j (by omega), List.getElem?_map, tsub_at l j hjl, ← hc']
        rfl
      have f0 := HO.out.frozenAt j
      have c1 : wr.cell? ⟨g, j, none⟩ = some (.int .u8 (c.toNat : Int)) := by
        rw [HR.out.cell, List.getElem?_map, ← FL_tsub l j (by omega), tsub_at (FL l 165) j (by rw [FL_len]; omega)]
        have e : (FL l 165).getD j 0 = c := by unfold FL; rw [hc', List.getD_eq_getElem?_getD, List.getElem?_append_left hjl, List.getD_eq_getElem?_getD]
        rw [e]
        rfl
      have f1 := HR.out.frozen j
      have HC := Lib.hid hc'
      have vx := v_xor255 c
      clear hc' hjl
      go_wp2
      go_roundw
      case rel =>
        have h1 := (HO.out.stored j (Mem.u8 (c ^^^ 255))).1
        have h2 := ownsRow_setCell_other h1 (a := ⟨g, j, none⟩) (by simp [Value.ownBlock]; omega) (Mem.u8 (c ^^^ 255))
        have e1 : ((tsub l j).map Mem.u8).set j (Mem.u8 (c ^^^ 255)) = (tsub l (j + 1)).map Mem.u8 := by
          rw [← tsub_set l j (by have := Hn.out; omega), List.map_set, ← HC.out]
        rw [e1] at h2
        have h3 := (HR.out.far (p := ⟨g6, j, none⟩) hne' (Mem.u8 (c ^^^ 255))).set j (Mem.u8 (c ^^^ 255))
        have e2 : ((FL (tsub l j) 165).map Mem.u8).set j (Mem.u8 (c ^^^ 255)) = (FL (tsub l (j + 1)) 165).map Mem.u8 := by
          unfold FL
          rw [List.map_append, List.set_append_left _ _ (by rw [List.length_map, tsub_len]; have := Hn.out; omega), e1, List.map_append]
        rw [e2] at h3
        exact ⟨j + 1, by omega, by go_num, h2, h3, (HU.out.put _ _ (.inl (.inr (by simp [own, Value.ownBlock]))) _).put _ _ (.inl (.inl rfl)) _⟩
      case measure => simp [intOf]; omega
    · obtain rfl : j = n := by omega
      obtain ⟨w8, hw8⟩ : ∃ w8, w8 = wr := ⟨_, rfl⟩
      subst hw8
      have HO8 : Hid (w8.ownsRow 0 5 1 (.slice a6 j c6) j (lt.map Mem.u8)) := by show World.ownsRow _ _ _ _ _ _ _; rw [Hlt.out]; exact HO.out
      have HR8 : Hid (Row w8 g 5 ((FL lt 165).map Mem.u8)) := by show Row _ _ _ _; rw [Hlt.out]; exact HR.out
      have HU8 : Hid (Upd (fun _ => False) w w8) := HU7.out.trans (HU.out.mono (fun k _ e => .inr (by
        rcases e with e | e
        · have := HU6.out.size; omega
        · have := Ho6.out k e; have := HU6.out.size; omega)))
      have hgw : w.heap.size ≤ g := by omega
      have HG8 : Hid (w8.heap[DB]? = some (.cells L0.toArray 23 (0, 0))) := (HU.out.block _ (lt_of_block HG7.out) (by
        rintro (e | e)
        · omega
        · have := Ho6.out _ e; omega)).trans HG7.out
      have hs8 : w7.heap.size ≤ w8.heap.size := HU.out.size
      have HSo8 : Hid (Sl w8 (.slice a6 j c6) lt) := by
        have h := HO8.out
        have e := Hltl.out
        rw [← e] at h ⊢
        exact Sl.of_own (base := 0) h
      clear HO HR HU hlt hj HG7 HU7
      have q1 := Q1.out
      have Ho6l : Hid (∀ k, own (.slice a6 j c6) k → k < w8.heap.size) := fun k hk => by
        rcases HO8.out.2 with ⟨h, _⟩ | ⟨g', cap', cur, h, _, hh, _⟩
        · rw [h] at hk; simp [own, Value.ownBlock] at hk
        · rw [h] at hk; simp [own, Value.ownBlock] at hk; rw [← hk]; exact lt_of_block hh
      go_wp2_with fail
      refine (HSn.out g lt w8 HU8.out (by omega) Hltl.out HR8.out).mono ?_
      rintro e w9 ⟨he, hu9⟩
      rw [← HL1.out] at he
      subst he
      have HU9 := Lib.hid hu9
      clear hu9
      go_wp2_with fail
      refine (refsum_any a6 j c6 lt w9 (HSo8.out.upd HU9.out (fun _ _ => id)) (fun k hk => by have := Ho6l.out k hk; have := HU9.out.size; omega) (by omega)).mono ?_
      rintro e w10 ⟨he, hu10⟩
      rw [← HL1.out] at he
      subst he
      have HU10 : Hid (Upd (fun _ => False) w8 w10) := HU9.out.trans (hu10.mono (fun _ _ h => h.elim))
      clear hu10
      go_wp2_with fail
      refine (HIn.out g a6 c6 lt w10 Hltl.out (HR8.out.upd HU10.out id) (HSo8.out.upd HU10.out (fun _ _ => id))).mono ?_
      rintro e w11 ⟨rfl, hu11⟩
      have HU11 : Hid (Upd (fun _ => False) w8 w11) := HU10.out.trans (hu11.mono (fun _ _ h => h.elim))
      clear hu11
      have HU11w : Hid (Upd (fun _ => False) w w11) := HU8.out.trans (HU11.out.mono (fun _ _ h => h.elim))
      have HR11 := Lib.hid (HR8.out.upd HU11.out id)
      have HG11 : Hid (w11.heap[DB]? = some (.cells L0.toArray 23 (0, 0))) := (HU11.out.block _ (lt_of_block HG8.out) id).trans HG8.out
      have Hsrc := Lib.hid (src_of (Hs.out.upd HU11w.out (fun _ _ => id)) (Nat.le_refl l.length))
      rw [List.take_length] at Hsrc
      have Hmin : Hid (l.length = Nat.min j j) := by show _ = _; rw [← Hn.out]; simp
      clear HU9 HU10 HU8 HR8 HG8 HO8 HSo8 q1
      go_wp2_with ((with_reducible refine wpList_copy_new (o := ⟨some 68, _, _, _, _, _⟩) ?_ (.tmp 66) (.tmp 67) 25 25 ?_ 5 Tryd.underlying25 i8s (some ⟨g, 0, none⟩) ao j (j + 80) j cap ?_ ?_ g 0 _ _ HR11.out (l.map Mem.u8) ?_ ?_ ?_ (one_of _) ?_); rfl; rfl; rfl; rfl; (rw [Hsrc.out.1, Hmin.out]); (exact fun hp => ⟨rfl, Hsrc.out.2 hp⟩); (rw [Hsrc.out.1, List.length_map, FL_len, Hltl.out, ← Hn.out]; omega); intro w12 HR12' HU12')
      have HR12 : Hid (Row w12 g 5 ((FL l 165).map Mem.u8)) := by
        have h := HR12'.out
        rw [splice_back l lt (by rw [Hltl.out]; exact Hn.out)] at h
        exact h
      have HG12 : Hid (w12.heap[DB]? = some (.cells L0.toArray 23 (0, 0))) := (HU12'.out.block _ (lt_of_block HG11.out) (by omega)).trans HG11.out
      have HU12 : Hid (Upd (fun _ => False) w w12) := HU11w.out.trans (HU12'.out.mono (fun k _ e => .inr (by omega)))
      have hs12 : w11.heap.size ≤ w12.heap.size := HU12'.out.size
      have hs11 : w8.heap.size ≤ w11.heap.size := HU11.out.size
      clear HR12' HU12' HR11 HG11 HU11 HU11w
      have HA12 := Lib.hid (fun (w' : World) (h : Upd (fun _ => False) w12 w') => HSn.out g l w' (HU12.out.trans (h.mono (fun _ _ e => e.elim))) (by have := h.size; omega) Hn.out.symm (HR12.out.upd h id))
      rw [← HL0.out] at HA12
      have q0 := E0.out
      have qT := ET.out
      have hTA := hTAh.out
      have HS_w12_0 : Hid (Upd (fun _ => False) w12 w12.drew) := (Upd.refl _ _).drew
      refine wp_region_held_drew (S := Upd (fun _ => False) w12) (by kernel_rfl) HS_w12_0.out (fun _ => ?_)
      refine wpAnyH_take (i := 0) (oi := ⟨some 69, _, _, _, _, _⟩) (v := .slice (some ⟨g, 0, none⟩) j (j + 80)) rfl (by kernel_rfl) (by kernel_rfl) (by kernel_rfl) (fun _ _ _ h => h) (Or.inl ⟨by rfl, fun w hS => by go_simp⟩) HS_w12_0.out ?_
      try simp only [Act.put, List.setIfInBounds_toArray, List.set_cons_zero, List.set_cons_succ]
      refine wpAnyH_take (i := 2) rfl (by kernel_rfl) (by kernel_rfl) (by kernel_rfl) (fun _ _ _ h => h) (yieldsIf_load_mid (by rfl) _ _ rfl _ _ rfl L0 _ (fun w h => range_upd HG12.out h) Tryd.underlying23 rfl j0.out) HS_w12_0.out ?_
      try simp only [Act.put, List.setIfInBounds_toArray, List.set_cons_zero, List.set_cons_succ]
      refine wpAnyH_ready (rs := [1]) (by kernel_rfl) (by simp) ?_
      refine AllReadyH.cons rfl (fun K hK => ?_) AllReadyH.nil
      go_simp
      refine (HA12.out w12.drew HS_w12_0.out).mono ?_
      rintro e w13 ⟨rfl, hu_⟩
      have HS_w12_1 : Hid (Upd (fun _ => False) w12 w13) := HS_w12_0.out.trans (hu_.mono (fun _ _ h => h.elim))
      have HU_w13 := Lib.hid hu_
      clear hu_
      refine hK.out _ _ HS_w12_1.out (fun hHeld => ?_)
      clear hK K hHeld
      try simp only [Act.put, List.setIfInBounds_toArray, List.set_cons_zero, List.set_cons_succ]
      refine wpAnyH_take (i := 3) (oi := ⟨some 72, _, _, _, _, _⟩) (v := .bool true) rfl (by kernel_rfl) (by kernel_rfl) (by kernel_rfl) (fun _ _ _ h => h) (Or.inl ⟨by rfl, fun w hS => by go_simp⟩) HS_w12_1.out ?_
      try simp only [Act.put, List.setIfInBounds_toArray, List.set_cons_zero, List.set_cons_succ]
      refine wpAnyH_take (i := 4) (oi := ⟨some 73, _, _, _, _, _⟩) (v := .bool true) rfl (by kernel_rfl) (by kernel_rfl) (by kernel_rfl) (fun _ _ _ h => h) (Or.inl ⟨by rfl, fun w hS => by go_simp⟩) HS_w12_1.out ?_
      try simp only [Act.put, List.setIfInBounds_toArray, List.set_cons_zero, List.set_cons_succ]
      refine wpAnyH_ready (rs := [5]) (by kernel_rfl) (by simp) ?_
      refine AllReadyH.cons rfl (fun K hK => ?_) AllReadyH.nil
      go_simp
      rw [← hTA]
      obtain ⟨w14, hw14⟩ : ∃ x, x = w13.alloc (.cells TA 5) := ⟨_, rfl⟩
      rw [← hw14]
      obtain ⟨bt, hbt⟩ : ∃ x, x = w13.heap.size := ⟨_, rfl⟩
      rw [← hbt]
      have HS_w12_2 : Hid (Upd (fun _ => False) w12 w14) := by show Upd _ _ _; rw [hw14]; exact HS_w12_1.out.alloc _
      have hcb0_w14 : w14.heap[bt]? = some (.cells TA 5 (0, 0)) := by rw [hw14, hbt]; exact heap_alloc_new _ _
      have hlo_bt : w12.heap.size ≤ bt := by rw [hbt]; exact HS_w12_1.out.size
      refine hK.out _ _ HS_w12_2.out (fun hHeld => ?_)
      clear hK K hHeld hw14 hbt
      try simp only [Act.put, List.setIfInBounds_toArray, List.set_cons_zero, List.set_cons_succ]
      obtain ⟨w15, hcv, hcb, hcu⟩ := conv_mark w14 bt 28 28 TA hcb0_w14
      refine wpAnyH_ready (rs := [6]) (by kernel_rfl) (by simp) ?_
      refine AllReadyH.cons rfl (fun K hK => ?_) AllReadyH.nil
      go_simp
      have HS_w12_3 : Hid (Upd (fun _ => False) w12 w15) := HS_w12_2.out.trans (hcu.mono (fun k _ e => .inr (by omega)))
      have HCB_w15 := Lib.hid hcb
      clear hcv hcb hcu hcb0_w14
      refine hK.out _ _ HS_w12_3.out (fun hHeld => ?_)
      clear hK K hHeld
      try simp only [Act.put, List.setIfInBounds_toArray, List.set_cons_zero, List.set_cons_succ]
      have HTx := Lib.hid (sum_text (.slice (some ⟨bt, 0, none⟩) 28 28) t1 w15 (BranchW.sl_row w15 bt 5 t1 _ 28 rfl (by unfold maxLen; decide) (by have h := HCB_w15.out; rw [HTA.out] at h; exact h)) (Hk.out.upd (HU12.out.trans (HS_w12_3.out.mono (fun _ _ e => e.elim))) id) (by have := Hg.out; have := HU12.out.size; have := HS_w12_3.out.size; omega) (fun k ho => by have := own_at ho; have := lt_of_block HCB_w15.out; omega) (by decide))
      rw [v1, ← HLT.out] at HTx
      refine wpAnyH_ready (rs := [7]) (by kernel_rfl) (by simp) ?_
      refine AllReadyH.cons rfl (fun K hK => ?_) AllReadyH.nil
      go_simp
      refine (HTx.out).mono ?_
      rintro e w16 ⟨rfl, hu_⟩
      have HS_w12_4 : Hid (Upd (fun _ => False) w12 w16) := HS_w12_3.out.trans (hu_.mono (fun _ _ h => h.elim))
      have HU_w16 := Lib.hid hu_
      clear hu_
      refine hK.out _ _ HS_w12_4.out (fun hHeld => ?_)
      clear hK K hHeld
      try simp only [Act.put, List.setIfInBounds_toArray, List.set_cons_zero, List.set_cons_succ]
      have HWr := Lib.hid (written_any s1 rfl w16)
      rw [← HLT.out] at HWr
      refine wpAnyH_ready (rs := [8]) (by kernel_rfl) (by simp) ?_
      refine AllReadyH.cons rfl (fun K hK => ?_) AllReadyH.nil
      go_simp
      refine (HWr.out).mono ?_
      rintro e w17 ⟨rfl, hu_⟩
      have HS_w12_5 : Hid (Upd (fun _ => False) w12 w17) := HS_w12_4.out.trans (hu_.mono (fun _ _ h => h.elim))
      have HU_w17 := Lib.hid hu_
      clear hu_
      refine hK.out _ _ HS_w12_5.out (fun hHeld => ?_)
      clear hK K hHeld
      try simp only [Act.put, List.setIfInBounds_toArray, List.set_cons_zero, List.set_cons_succ]
      refine wpAnyH_take (i := 9) (oi := ⟨some 78, _, _, _, _, _⟩) (v := .bool true) rfl (by kernel_rfl) (by kernel_rfl) (by kernel_rfl) (fun _ _ _ h => h) (Or.inl ⟨by rfl, fun w hS => by go_simp⟩) HS_w12_5.out ?_
      try simp only [Act.put, List.setIfInBounds_toArray, List.set_cons_zero, List.set_cons_succ]
      refine wpAnyH_take (i := 10) (oi := ⟨some 79, _, _, _, _, _⟩) (v := .bool true) rfl (by kernel_rfl) (by kernel_rfl) (by kernel_rfl) (fun _ _ _ h => h) (Or.inl ⟨by rfl, fun w hS => by go_simp⟩) HS_w12_5.out ?_
      try simp only [Act.put, List.setIfInBounds_toArray, List.set_cons_zero, List.set_cons_succ]
      refine wpAnyH_take (i := 11) (oi := ⟨some 2, _, _, _, _, _⟩) (v := .bool true) rfl (by kernel_rfl) (by kernel_rfl) (by kernel_rfl) (fun _ _ _ h => h) (Or.inl ⟨by rfl, fun w hS => by go_simp⟩) HS_w12_5.out ?_
      try simp only [Act.put, List.setIfInBounds_toArray, List.set_cons_zero, List.set_cons_succ]
      refine wpAnyH_done (by kernel_rfl) ?_ _
      go_wp2
      go_ret
      exact ⟨by first | rfl | (simp; done) | (dsimp only [List.set]; rfl), HU12.out.trans (HS_w12_5.out.mono (fun _ _ e => e.elim))⟩
end Go.Proofs.YtiglaeipbcmlnaaDoor.SumsW
