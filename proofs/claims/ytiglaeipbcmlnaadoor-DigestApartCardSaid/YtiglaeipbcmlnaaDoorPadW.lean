/-
  digest.padded, digest.Mac.
-/
import Derived.Test.YtiglaeipbcmlnaaDoorOfW
namespace Go.Proofs.YtiglaeipbcmlnaaDoor.PadW
open Go.RowKit Sha TurnW Mem RowW SpreadW MixW HashM CopyW WriteW WriteN EndW SumH NewW EqW
set_option linter.unusedVariables false

def xorAll (key : List UInt8) (p : UInt8) : List UInt8 := key.map (· ^^^ p)
def psub (key : List UInt8) (p : UInt8) (j : Nat) : List UInt8 := xorAll (key.take j) p ++ key.drop j
theorem psub_set (key : List UInt8) (p : UInt8) (j : Nat) (hj : j < key.length) : (psub key p j).set j (key.getD j 0 ^^^ p) = psub key p (j + 1) := by
  unfold psub xorAll
  have hl : ((key.take j).map (· ^^^ p)).length = j := by simp; omega
  rw [List.set_append_right _ _ (by omega), hl, Nat.sub_self, List.drop_eq_getElem_cons hj, List.set_cons_zero, List.take_succ_eq_append_getElem hj, List.map_append, List.append_assoc]
  simp [List.getD_eq_getElem?_getD, hj]
theorem psub_at (key : List UInt8) (p : UInt8) (j : Nat) (hj : j < key.length) : (psub key p j)[j]? = some (key.getD j 0) := by
  have hl : (xorAll (key.take j) p).length = j := by simp [xorAll]; omega
  unfold psub
  rw [List.getElem?_append_right (by omega), hl, Nat.sub_self, List.getElem?_drop, Nat.add_zero, List.getD_eq_getElem?_getD, List.getElem?_eq_getElem hj]
  rfl
theorem v_xor (a b : UInt8) : bits .xor .u8 (a.toNat : Int) (b.toNat : Int) = ((a ^^^ b).toNat : Int) := by
  rw [u8_xor_nat _ _ a.toNat_lt b.toNat_lt, UInt8.toNat_xor]
def LP (F R : Nat) (key : List UInt8) (p : UInt8) (w0 : World) (i : Value) (wr : World) : Prop :=
  ∃ j : Nat, j ≤ 64 ∧ i = .int .i64 j ∧ Row wr F 81 ((psub key p j).map u8) ∧ Row wr R 23 ((List.replicate 32 (0 : UInt8)).map u8) ∧ Upd (fun _ => False) w0 wr

set_option maxHeartbeats 4000000 in
set_option maxRecDepth 100000 in
theorem padded_any (key : List UInt8) (hkey : key.length = 64) (p : UInt8) (v : Value) (l : List UInt8) (w : World) (hv : Sl w v l) (hown : ∀ k, own v k → k < w.heap.size)
    (hk : Kw w) (hg : 0 < w.heap.size) (hlen : l.length < 288230376151711744) :
    Calls Tryd.prog 60 #[.agg (key.map u8).toArray, .int .u8 (p.toNat : Int), v] w fun e w' => e = .returned (.agg ((sha (xorAll key p ++ l)).map u8).toArray) ∧ Upd (fun _ => False) w w' := by
  obtain ⟨X, hX⟩ : ∃ X, X = (key.map u8).toArray := ⟨_, rfl⟩
  obtain ⟨Y, hY⟩ : ∃ Y, Y = ((sha (xorAll key p ++ l)).map u8).toArray := ⟨_, rfl⟩
  have HY1 : Hid (Y.all (·.oneCell') = true) := by show _ = _; rw [hY]; simpa using one_of (sha (xorAll key p ++ l))
  have HYs : Hid ((Tryd.prog.info? 23).map (·.size) = some Y.size) := by show _ = _; rw [size32, hY]; rfl
  have HYl : Hid (AD.size = Y.size) := by show _ = _; rw [hY]; rfl
  have HX := Lib.hid hX
  have HY := Lib.hid hY
  have Hkey := Lib.hid hkey
  have Hv := Lib.hid hv
  have Hown := Lib.hid hown
  have Hk := Lib.hid hk
  have Hg := Lib.hid hg
  have Hlen := Lib.hid hlen
  have hz := zeroD
  rw [← hX]
  have HS : Hid (LP w.heap.size (w.heap.size + 1) key p w (.int .i64 0) ((w.alloc (.cells X 81)).alloc (.cells AD 23))) := by
    refine ⟨0, by omega, rfl, ?_, heap_alloc2_new w _ _, ((Upd.refl _ w).alloc _).alloc _⟩
    rw [hX]
    exact heap_alloc2_old w _ _
  clear hX hY hkey hv hown hk hg hlen
  go_enter Tryd.func60, Tryd.ntmps60
  go_wp2
  go_loopw [9] (fun i wr => LP w.heap.size (w.heap.size + 1) key p w i wr) (fun i _ => (64 - intOf i).toNat)
  case atStart => exact HS.out
  case round =>
    clear HS hz
    obtain ⟨j, hj, rfl, hr, hr0, hu⟩ := hrel
    have HR := Lib.hid hr
    have HR0 := Lib.hid hr0
    have HU := Lib.hid hu
    clear hr hr0 hu
    by_cases hlt : j < 64
    · have hltI : (j : Int) < 64 := by omega
      obtain ⟨c, hc⟩ : ∃ c, c = key.getD j 0 := ⟨_, rfl⟩
      have c0 : wr.cell? ⟨w.heap.size, j, none⟩ = some (.int .u8 (c.toNat : Int)) := by
        rw [HR.out.cell, List.getElem?_map, psub_at key p j (by rw [Hkey.out]; exact hlt), ← hc]
        rfl
      have f0 := HR.out.frozen j
      have HC := Lib.hid hc
      have vx := v_xor c p
      clear hc
      go_wp2
      go_roundw
      case rel =>
        refine ⟨j + 1, by omega, by go_num, ?_, HR0.out.far (by simp) _, HU.out.put _ _ (.inr (Nat.le_refl _)) _⟩
        rw [← psub_set key p j (by rw [Hkey.out]; exact hlt), List.map_set, ← HC.out]
        exact HR.out.set j _
      case measure => simp [intOf]; omega
    · obtain rfl : j = 64 := by omega
      rw [show ((64 : Nat) : Int) = 64 from rfl]
      clear hj hlt
      have hxl : (xorAll key p).length = 64 := by simp [xorAll, Hkey.out]
      have HP : Hid (psub key p 64 = xorAll key p) := by
        show _ = _
        unfold psub
        rw [List.take_of_length_le (by rw [Hkey.out]; omega), List.drop_eq_nil_of_le (by rw [Hkey.out]; omega), List.append_nil]
      have Hxl := Lib.hid hxl
      clear hxl
      go_wp2_with fail
      refine (new_at _).mono ?_
      rintro e w1 ⟨b, rfl, hb, hs, hu⟩
      have hfs : w.heap.size < wr.heap.size := HR.out.lt
      have hu1 : Upd (fun _ => False) w w1 := HU.out.trans (hu.mono (fun _ _ h => h.elim))
      have hr1 := HR.out.upd hu id
      rw [HP.out] at hr1
      have hsl : Sl w1 (.slice (some ⟨w.heap.size, 0, none⟩) 64 64) (xorAll key p) := by
        refine ⟨_, 64, by rw [Hxl.out], by rw [Hxl.out]; omega, by unfold maxLen; omega, by simp, fun a ha => ?_⟩
        injection ha with ha
        subst ha
        refine ⟨rfl, fun i hi => ?_⟩
        rw [add_none, Nat.zero_add, hr1.cell, List.getElem?_map, List.getD_eq_getElem?_getD, List.getElem?_eq_getElem hi]
        rfl
      have HW1 := Lib.hid (write_any b _ [] _ w1 hs hsl (by simp [own, Value.ownBlock]; omega) (by have := Hg.out; omega) (Hk.out.upd hu1 id) (by rw [Hxl.out]; simp))
      have HU1 := Lib.hid hu1
      have HR1 := Lib.hid (HR0.out.upd hu id)
      clear hs hu hu1 hr1 hsl
      go_wp2_with fail
      refine HW1.out.mono ?_
      rintro e w2 ⟨rfl, hs, hu⟩
      rw [List.nil_append] at hs
      have hne : w.heap.size + 1 < wr.heap.size := HR0.out.lt
      have HU2 : Hid (Upd (fun _ => False) w w2) := HU1.out.trans (hu.mono (fun k _ e => .inr (by omega)))
      have HR2 := Lib.hid (HR1.out.upd hu (by omega))
      have HW2 := Lib.hid (write_any b v _ l w2 hs (Hv.out.upd HU2.out (fun _ _ => id)) (fun ho => by have := Hown.out b ho; omega) (by have := Hg.out; omega) (Hk.out.upd HU2.out id) (by have := Hlen.out; rw [Hxl.out]; omega))
      clear hs hu
      go_wp2_with fail
      refine HW2.out.mono ?_
      rintro e w3 ⟨rfl, hs, hu⟩
      have HU3 : Hid (Upd (fun _ => False) w w3) := HU2.out.trans (hu.mono (fun k _ e => .inr (by omega)))
      have HR3 := Lib.hid (HR2.out.upd hu (by omega))
      have HSm := Lib.hid (sum_any b _ w3 hs (Hk.out.upd HU3.out id) (by have := Hg.out; have := HU3.out.size; omega) (by have := Hlen.out; rw [List.length_append, Hxl.out]; omega))
      clear hs hu
      go_wp2_with fail
      refine HSm.out.mono ?_
      rintro e w4 ⟨rfl, hu⟩
      have HR4 : Hid (w4.heap[w.heap.size + 1]? = some (.cells AD 23 (0, 0))) := HR3.out.upd hu id
      have HU4 : Hid (Upd (fun _ => False) w w4) := HU3.out.trans (hu.mono (fun _ _ h => h.elim))
      clear hu
      rw [← HY.out]
      go_wp2_with ((with_reducible refine wpList_store_new (o := ⟨none, .store 23 (.tmp 6) (.tmp 27), _, _, _, _⟩) ?_ _ (.tmp 6) (.tmp 27) ?_ (w.heap.size + 1) Y ?_ ?_ 23 AD HR4.out HYs.out HYl.out HY1.out ?_); rfl; rfl; rfl; rfl; intro w5 Hg5 Hu5)
      refine bodyPost_ret (results_cell_row rfl _ _ (w.heap.size + 1) 23 Y (0, 0) _ rfl Hg5.out Tryd.underlying23 rfl HYs.out) rfl ?_
      exact ⟨by rw [← HY.out], HU4.out.trans (Hu5.out.mono (fun k hk e => .inr (by omega)))⟩
end Go.Proofs.YtiglaeipbcmlnaaDoor.PadW
