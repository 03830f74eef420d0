/-
  digest.Mac of a key of more than 64 bytes; of every key.
-/
import Derived.Test.YtiglaeipbcmlnaaDoorMacW
import Derived.Test.YtiglaeipbcmlnaaDoorBookW
import Derived.Deep.Cut
namespace Go.Proofs.YtiglaeipbcmlnaaDoor.MacW
open Go.RowKit Sha TurnW Mem RowW SpreadW MixW HashM CopyW WriteW WriteN EndW SumH NewW EqW PadW BookW
set_option linter.unusedVariables false

set_option maxHeartbeats 8000000 in
set_option maxRecDepth 100000 in
theorem mac_long (ka : Option Addr) (kn kc : Nat) (m : Value) (key msg : List UInt8) (w : World) (hkey : Sl w (.slice ka kn kc) key) (hm : Sl w m msg) (hkl : 64 < key.length) (hown : ∀ k, own m k → k < w.heap.size)
    (hownk : ∀ k, own (.slice ka kn kc) k → k < w.heap.size) (hk : Kw w) (hg : 0 < w.heap.size) (hlen : msg.length < 288230376151711744) (hklen : key.length < 288230376151711744) (sk : List UInt8) (hsk : sk = sha key) (hs3 : sk.length = 32) :
    Calls Tryd.prog 14 #[.slice ka kn kc, m] w fun e w' => e = .returned (.agg ((macM sk msg).map u8).toArray) ∧ Upd (fun _ => False) w w' := by
  have hs32 : sk.length ≤ 64 := by omega
  have Hownk := Lib.hid hownk
  have Hklen : Hid (key.length < 576460752303423488) := by show _ < _; omega
  obtain ⟨Y, hY⟩ : ∃ Y, Y = ((macM sk msg).map u8).toArray := ⟨_, rfl⟩
  obtain ⟨Z, hZ⟩ : ∃ Z, Z = ((sha (xorAll (block sk) 54 ++ msg)).map u8).toArray := ⟨_, rfl⟩
  obtain ⟨X, hX⟩ : ∃ X, X = ((block sk).map u8).toArray := ⟨_, rfl⟩
  have HY1 : Hid (Y.all (·.oneCell') = true) := by show _ = _; rw [hY]; simpa using one_of (macM sk msg)
  have HYs : Hid ((Tryd.prog.info? 23).map (·.size) = some Y.size) := by show _ = _; rw [size32, hY]; rfl
  have HYl : Hid (AD.size = Y.size) := by show _ = _; rw [hY]; rfl
  have HZ1 : Hid (Z.all (·.oneCell') = true) := by show _ = _; rw [hZ]; simpa using one_of (sha (xorAll (block sk) 54 ++ msg))
  have HZs : Hid ((Tryd.prog.info? 23).map (·.size) = some Z.size) := by show _ = _; rw [size32, hZ]; rfl
  have HZl : Hid (AD.size = Z.size) := by show _ = _; rw [hZ]; rfl
  have HXs : Hid ((Tryd.prog.info? 81).map (·.size) = some X.size) := by show _ = _; rw [size64b, hX]; simp [block_len sk hs32]
  have HX := Lib.hid hX
  have HY := Lib.hid hY
  have HZ := Lib.hid hZ
  have Hkey := Lib.hid hkey
  obtain ⟨hkn, hkc, _⟩ := cap_of hkey
  have Hm := Lib.hid hm
  have Hown := Lib.hid hown
  have Hk := Lib.hid hk
  have Hg := Lib.hid hg
  have Hlen := Lib.hid hlen
  have hz := zeroD
  have hz' := zero64
  have hknI : ¬ (kn : Int) ≤ 64 := by omega
  have hknJ : (64 : Int) < (kn : Int) := by omega
  have Hkn := Lib.hid hkn
  have Hkl : Hid (sk.length ≤ 64) := hs32
  have HA0 : Hid (Upd (fun _ => False) w (w.alloc (.cells AD 23))) := (Upd.refl _ w).alloc _
  have HSk := Lib.hid (sum_text (.slice ka kn kc) key (w.alloc (.cells AD 23)) (Hkey.out.upd HA0.out (fun _ _ => id)) (Hk.out.upd HA0.out id) (by first | (simp; done) | (have := Hg.out; simp; omega)) (fun k ho => by have := Hownk.out k ho; simp; omega) Hklen.out)
  obtain ⟨D, hD⟩ : ∃ D, D = (sk.map u8).toArray := ⟨_, rfl⟩
  have HD1 : Hid (D.all (·.oneCell') = true) := by show _ = _; rw [hD]; simpa using one_of sk
  have HDs : Hid ((Tryd.prog.info? 23).map (·.size) = some D.size) := by show _ = _; rw [size32, hD]; simp [hs3]
  have HDl : Hid (AD.size = D.size) := by show _ = _; rw [hD]; simp [AD, hs3]
  have HD := Lib.hid hD
  rw [← hsk, ← hD] at HSk
  have Hs3 := Lib.hid hs3
  have Hsk := Lib.hid hsk
  clear hX hY hZ hD hkey hm hown hk hg hlen hkn hkc hkl hownk hklen hs32 hs3 hsk
  go_enter Tryd.func14, Tryd.ntmps14
  go_wp2_with fail
  refine HSk.out.mono ?_
  rintro e v1 ⟨rfl, hv1⟩
  have HV1 : Hid (Upd (fun _ => False) w v1) := HA0.out.trans (hv1.mono (fun _ _ h => h.elim))
  have HR0 : Hid (v1.heap[w.heap.size]? = some (.cells AD 23 (0, 0))) := (hv1.block _ (by simp) id).trans (heap_alloc_new _ _)
  clear hv1
  go_upto_region 4 with ((with_reducible refine wpList_store_new (o := ⟨none, .store 23 (.tmp 5) (.tmp 12), _, _, _, _⟩) ?_ _ (.tmp 5) (.tmp 12) ?_ v1.heap.size D ?_ ?_ 23 AD (heap_alloc_new _ _) HDs.out HDl.out HD1.out ?_); rfl; rfl; rfl; rfl; intro v2 Hv2 HuV2)
  have hlt1 : w.heap.size < v1.heap.size := lt_of_block HR0.out
  obtain ⟨KB, hKB⟩ : ∃ KB, KB = v1.heap.size := ⟨_, rfl⟩
  rw [← hKB] at Hv2 HuV2 ⊢
  have hlt2 : KB < v2.heap.size := lt_of_block Hv2.out
  have HV2 : Hid (Upd (fun _ => False) w v2) := (HV1.out.alloc _).trans (HuV2.out.mono (fun k _ e => .inr (by omega)))
  have HR2' : Hid (v2.heap[w.heap.size]? = some (.cells AD 23 (0, 0))) := by
    show _ = _
    rw [HuV2.out.block _ (by simp; omega) (by omega), Below.heap_alloc _ _ _ (by omega)]; exact HR0.out
  obtain ⟨XB, hXB⟩ : ∃ XB, XB = v2.heap.size := ⟨_, rfl⟩
  have HW0 : Hid (Row (v2.alloc (.cells A64 81)) XB 81 ((List.replicate 64 (0 : UInt8)).map u8)) := by show Row _ _ _ _; rw [hXB]; exact Row.new _ _ _
  have HW1 : Hid (Row (v2.alloc (.cells A64 81)) w.heap.size 23 ((List.replicate 32 (0 : UInt8)).map u8)) := Row.alloc (T := 23) (cs := (List.replicate 32 (0 : UInt8)).map u8) HR2'.out _
  have HU0 : Hid (Upd (fun _ => False) w (v2.alloc (.cells A64 81))) := HV2.out.alloc _
  have hrowK : Row (v2.alloc (.cells A64 81)) KB 23 (sk.map u8) := by
    have h := Hv2.out
    rw [HD.out] at h
    exact Row.alloc (T := 23) (cs := sk.map u8) h _
  have Hsrc := Lib.hid (src_of (Sl.row (cap := 32) hrowK (by rw [Hs3.out]; exact Nat.le_refl _) (by unfold maxLen; omega)) (Nat.le_refl sk.length))
  rw [List.take_length] at Hsrc
  have Hcl : Hid ((sk.map u8).length = Nat.min 32 64) := by show _ = _; rw [List.length_map, Hs3.out]; rfl
  have Hft : Hid (0 + (sk.map u8).length ≤ ((List.replicate 64 (0 : UInt8)).map u8).length) := by show _ ≤ _; rw [List.length_map, Hs3.out]; simp
  have hXBw : w.heap.size < XB := by omega
  have HXB := Lib.hid hXB
  clear hrowK hXB hKB
  go_wp2_with (first
    | ((with_reducible refine wpList_copy_new (o := ⟨some 16, _, _, _, _, _⟩) ?_ (.tmp 14) (.tmp 15) 25 25 ?_ 5 Tryd.underlying25 info8s (some ⟨XB, 0, none⟩) (some ⟨KB, 0, none⟩) 64 64 32 32 ?_ ?_ XB 0 _ _ HW0.out (sk.map u8) ?_ ?_ ?_ (one_of _) ?_); rfl; rfl; (rw [HXB.out]; rfl); rfl; (exact Hcl.out); (exact fun hp => ⟨rfl, Hsrc.out.2 hp⟩); (exact Hft.out); intro w1 HR1 HU1; have HG1 : Hid (w1.heap[XB]? = some (.cells X 81 (0, 0))) := (by show _ = _; rw [HX.out, ← block_splice sk Hkl.out]; exact HR1.out))
    | ((with_reducible refine wpList_load_row (o := ⟨some 17, _, _, _, _, _⟩) ?_ _ (.tmp 6) ?_ XB ?_ 81 X (0, 0) _ HG1.out Tryd.underlying81 ?_ HXs.out ?_); rfl; rfl; (rw [HXB.out]; rfl); rfl))
  have hu1 : Upd (fun _ => False) w w1 := HU0.out.trans (HU1.out.mono (fun k _ e => .inr (by omega)))
  have hr1 : Row w1 w.heap.size 23 ((List.replicate 32 (0 : UInt8)).map u8) := HW1.out.upd HU1.out (by omega)
  have hs1 : XB < w1.heap.size := lt_of_block HG1.out
  have HP1 := Lib.hid (padded_any (block sk) (block_len sk Hkl.out) 54 m msg w1 (Hm.out.upd hu1 (fun _ _ => id)) (fun k ho => by have := Hown.out k ho; omega) (Hk.out.upd hu1 id) (by have := Hg.out; omega) Hlen.out)
  rw [← HX.out] at HP1
  have HU1' := Lib.hid hu1
  have HR1' := Lib.hid hr1
  clear hu1 hr1
  refine HP1.out.mono ?_
  rintro e w2 ⟨rfl, hu⟩
  have hu2 : Upd (fun _ => False) w w2 := HU1'.out.trans (hu.mono (fun _ _ h => h.elim))
  have HG2 := Lib.hid ((hu.block _ hs1 id).trans HG1.out)
  have HR2 := Lib.hid (HR1'.out.upd hu id)
  have hs2 : w1.heap.size ≤ w2.heap.size := hu.size
  have HU2 := Lib.hid hu2
  clear hu hu2
  rw [← HZ.out]
  go_wp2_with ((with_reducible refine wpList_store_new (o := ⟨none, .store 23 (.tmp 7) (.tmp 19), _, _, _, _⟩) ?_ _ (.tmp 7) (.tmp 19) ?_ w2.heap.size Z ?_ ?_ 23 AD (heap_alloc_new _ _) HZs.out HZl.out HZ1.out ?_); rfl; rfl; rfl; rfl; intro w3 Hg3 Hu3)
  have HG3 : Hid (w3.heap[XB]? = some (.cells X 81 (0, 0))) := by
    show _ = _
    rw [Hu3.out.block _ (by simp; omega) (by omega), Below.heap_alloc _ _ _ (by omega)]; exact HG2.out
  have HR3 := Lib.hid ((HR2.out.alloc (.cells AD 23)).upd Hu3.out (by omega))
  have HU3 : Hid (Upd (fun _ => False) w w3) := (HU2.out.alloc _).trans (Hu3.out.mono (fun k _ e => .inr (by omega)))
  have hs3 : w2.heap.size < w3.heap.size := lt_of_block Hg3.out
  have hsl : Sl w3.drew (.slice (some ⟨w2.heap.size, 0, none⟩) 32 32) (sha (xorAll (block sk) 54 ++ msg)) := by
    refine ⟨_, 32, rfl, (show (32 : Nat) ≤ 32 from Nat.le_refl _), by unfold maxLen; omega, by simp, fun a ha => ?_⟩
    injection ha with ha
    subst ha
    refine ⟨rfl, fun i hi => ?_⟩
    have hg := Hg3.out
    rw [HZ.out] at hg
    rw [add_none, Nat.zero_add, show w3.drew.cell? ⟨w2.heap.size, i, none⟩ = w3.cell? ⟨w2.heap.size, i, none⟩ from rfl, cell_of_row _ _ _ _ _ _ hg, List.getElem?_toArray, List.getElem?_map, List.getD_eq_getElem?_getD, List.getElem?_eq_getElem hi]
    rfl
  have HP2 := Lib.hid (padded_any (block sk) (block_len sk Hkl.out) 92 _ _ w3.drew hsl (fun k ho => by rw [own_at ho]; exact hs3) (Hk.out.upd HU3.out.drew id) (by have := Hg.out; show _ < w3.heap.size; omega) (by show (32 : Nat) < _; omega))
  rw [← HX.out] at HP2
  clear hsl
  refine wp_region_still_tail 2 (by kernel_rfl) (by kernel_rfl) ?_
  simp only [List.take_succ_cons, List.take_zero, List.drop_succ_cons, List.drop_zero]
  refine wpStill_load_row rfl _ (.tmp 6) rfl XB (by rw [HXB.out]; rfl) 81 X (0, 0) _ HG3.out Tryd.underlying81 rfl HXs.out ?_
  still_step
  refine wpStill_nil ?_
  change wpList _ _ _ _ _ w3.drew
  go_wp2_with (first
    | (go_at_call 60; refine HP2.out.mono ?_; rintro e w4 ⟨rfl, hu4⟩; have HR4 : Hid (w4.heap[w.heap.size]? = some (.cells AD 23 (0, 0))) := HR3.out.drew.upd hu4 id; have HU4 := Lib.hid hu4; clear hu4)
    | ((with_reducible refine wpList_store_new (o := ⟨none, .store 23 (.tmp 4) (.tmp 22), _, _, _, _⟩) ?_ _ (.tmp 4) (.tmp 22) ?_ w.heap.size Y ?_ ?_ 23 AD HR4.out HYs.out HYl.out HY1.out ?_); rfl; rfl; rfl; (rw [HY.out]; rfl); intro w5 Hg5 Hu5))
  refine bodyPost_ret (results_cell_row rfl _ _ w.heap.size 23 Y (0, 0) _ rfl Hg5.out Tryd.underlying23 rfl HYs.out) rfl ?_
  exact ⟨by rw [← HY.out], (HU3.out.drew.trans (HU4.out.mono (fun _ _ h => h.elim))).trans (Hu5.out.mono (fun k hk e => .inr (by omega)))⟩

/-- what Mac tells of any key -/
def macA (key msg : List UInt8) : List UInt8 := if key.length ≤ 64 then macM key msg else macM (sha key) msg
theorem mac_any (ka : Option Addr) (kn kc : Nat) (m : Value) (key msg : List UInt8) (w : World) (hkey : Sl w (.slice ka kn kc) key) (hm : Sl w m msg) (hown : ∀ k, own m k → k < w.heap.size)
    (hownk : ∀ k, own (.slice ka kn kc) k → k < w.heap.size) (hk : Kw w) (hg : 0 < w.heap.size) (hlen : msg.length < 288230376151711744) (hklen : key.length < 288230376151711744) :
    Calls Tryd.prog 14 #[.slice ka kn kc, m] w fun e w' => e = .returned (.agg ((macA key msg).map u8).toArray) ∧ Upd (fun _ => False) w w' := by
  unfold macA
  by_cases h : key.length ≤ 64
  · rw [if_pos h]
    exact mac_short ka kn kc m key msg w hkey hm h hown hk hg hlen
  · rw [if_neg h]
    exact mac_long ka kn kc m key msg w hkey hm (by omega) hown hownk hk hg hlen hklen _ rfl rfl
end Go.Proofs.YtiglaeipbcmlnaaDoor.MacW
