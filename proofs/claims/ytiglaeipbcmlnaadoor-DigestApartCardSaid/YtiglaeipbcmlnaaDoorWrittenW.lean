/-
  docketlaw2.hex, docketlaw2.written.
-/
import Derived.Test.YtiglaeipbcmlnaaDoorOfW
namespace Go.Proofs.YtiglaeipbcmlnaaDoor.WrittenW
open Go.RowKit Sha TurnW Mem RowW SpreadW MixW HashM CopyW WriteW EndW SumH NewW
set_option linter.unusedVariables false

def hx (c : UInt8) : UInt8 := if 97 ≤ c.toNat then UInt8.ofNat (c.toNat - 87) else UInt8.ofNat (c.toNat + 208)
theorem hex_any (c : UInt8) (w : World) :
    Calls Tryd.prog 59 #[.int .u8 (c.toNat : Int)] w fun e w' => e = .returned (.int .u8 ((hx c).toNat : Int)) ∧ w' = w := by
  have hb := c.toNat_lt
  by_cases h : 97 ≤ c.toNat
  · have hI : (97 : Int) ≤ (c.toNat : Int) := by omega
    have e : ((hx c).toNat : Int) = (c.toNat : Int) - 97 + 10 := by
      unfold hx
      rw [if_pos h, UInt8.toNat_ofNat']
      omega
    have E := Lib.hid e
    clear e
    go_enter Tryd.func59, Tryd.ntmps59
    go_wp2
    go_ret
    exact ⟨congrArg (fun v => Ending.returned (.int .u8 v)) (by rw [E.out]), rfl⟩
  · have hI : (c.toNat : Int) < 97 := by omega
    have e : ((hx c).toNat : Int) = ((c.toNat : Int) - 48) % 256 := by
      unfold hx
      rw [if_neg h, UInt8.toNat_ofNat']
      omega
    have E := Lib.hid e
    clear e
    go_enter Tryd.func59, Tryd.ntmps59
    go_wp2
    go_ret
    exact ⟨congrArg (fun v => Ending.returned (.int .u8 v)) (by rw [E.out]), rfl⟩

def hexAt (l : List UInt8) (i : Nat) : UInt8 := UInt8.ofNat (16 * (hx (l.getD (2 * i) 0)).toNat + (hx (l.getD (2 * i + 1) 0)).toNat)
def hexs (l : List UInt8) : List UInt8 := (List.range 32).map (hexAt l)
def wsub (l : List UInt8) (j : Nat) : List UInt8 := (List.range j).map (hexAt l) ++ List.replicate (32 - j) 0
theorem wsub_set (l : List UInt8) (j : Nat) (hj : j < 32) : (wsub l j).set j (hexAt l j) = wsub l (j + 1) := by
  unfold wsub
  rw [List.set_append_right _ _ (by simp), List.length_map, List.length_range, Nat.sub_self, show 32 - j = (32 - (j + 1)) + 1 by omega, List.replicate_succ, List.set_cons_zero, List.range_succ, List.map_append, List.append_assoc]
  rfl
def LWr (D R : Nat) (l : List UInt8) (w0 : World) (i : Value) (wr : World) : Prop :=
  ∃ j : Nat, j ≤ 32 ∧ i = .int .i64 j ∧ Row wr D 23 ((wsub l j).map u8) ∧ Row wr R 23 ((List.replicate 32 (0 : UInt8)).map u8) ∧ Upd (fun _ => False) w0 wr

set_option maxHeartbeats 4000000 in
set_option maxRecDepth 100000 in
theorem written_any (s : ByteArray) (hs : s.size = 64) (w : World) :
    Calls Tryd.prog 13 #[.string s] w fun e w' => e = .returned (.agg ((hexs s.data.toList).map u8).toArray) ∧ Upd (fun _ => False) w w' := by
  obtain ⟨Y, hY⟩ : ∃ Y, Y = ((hexs s.data.toList).map u8).toArray := ⟨_, rfl⟩
  have HY1 : Hid (Y.all (·.oneCell') = true) := by show _ = _; rw [hY]; simpa using one_of (hexs s.data.toList)
  have HYs : Hid ((Tryd.prog.info? 23).map (·.size) = some Y.size) := by show _ = _; rw [size32, hY]; simp [hexs]
  have HYl : Hid (AD.size = Y.size) := by show _ = _; rw [hY]; simp [hexs, AD]
  have HY := Lib.hid hY
  have Hss := Lib.hid hs
  have hz := zeroD
  clear hY
  have HS : Hid (LWr (w.heap.size + 1) w.heap.size s.data.toList w (.int .i64 0) ((w.alloc (.cells AD 23)).alloc (.cells AD 23))) :=
    ⟨0, by omega, rfl, heap_alloc2_new w _ _, heap_alloc2_old w _ _, ((Upd.refl _ w).alloc _).alloc _⟩
  go_enter Tryd.func13, Tryd.ntmps13
  go_wp2
  go_loopw [4] (fun i wr => LWr (w.heap.size + 1) w.heap.size s.data.toList w i wr) (fun i _ => (32 - intOf i).toNat)
  case atStart => exact HS.out
  case round =>
    clear HS hz
    obtain ⟨j, hj, rfl, hr, hr0, hu⟩ := hrel
    by_cases hlt : j < 32
    · have hltI : (j : Int) < 32 := by omega
      have hsI : 2 * (j : Int) + 1 < (s.size : Int) := by omega
      have i0 : 0 ≤ 2 * (j : Int) := by omega
      have i1 : 2 * (j : Int) < 64 := by omega
      have i5 : 2 * (j : Int) + 1 < 64 := by omega
      have e0 : IntKind.i64.wrap (2 * (j : Int)) = 2 * (j : Int) := IntWalk.i64_in _ (by omega)
      have e1 : IntKind.i64.wrap (2 * (j : Int) + 1) = 2 * (j : Int) + 1 := IntWalk.i64_in _ (by omega)
      have i2 : (2 * (j : Int)).toNat = 2 * j := by omega
      have i3 : 0 ≤ 2 * (j : Int) + 1 := by omega
      have i4 : (2 * (j : Int) + 1).toNat = 2 * j + 1 := by omega
      go_wp2
      go_still_tail 15, (by kernel_rfl)
      repeat (first | still_step | still_call (hex_any _ _))
      refine wpStill_nil ?_
      change wpList _ _ _ _ _ wr.drew
      have c0 : wr.cell? ⟨w.heap.size + 1, j, none⟩ = some (Mem.u8 ((wsub s.data.toList j).getD j 0)) := by
        have hl : j < (wsub s.data.toList j).length := by simp [wsub]; omega
        rw [hr.cell, List.getElem?_map, List.getD_eq_getElem?_getD, List.getElem?_eq_getElem hl]
        rfl
      have f0 := hr.frozen j
      have HR := Lib.hid hr
      have HR0 := Lib.hid hr0
      have HU := Lib.hid hu
      clear hr hr0 hu
      go_wp2
      go_roundw
      case rel =>
        have hsz : s.data.toList.length = 64 := by rw [Array.length_toList]; exact hs
        have g0 : s[2 * j] = s.data.toList.getD (2 * j) 0 := by
          rw [List.getD_eq_getElem?_getD, List.getElem?_eq_getElem (by omega)]; rfl
        have g1 : s[2 * j + 1] = s.data.toList.getD (2 * j + 1) 0 := by
          rw [List.getD_eq_getElem?_getD, List.getElem?_eq_getElem (by omega)]; rfl
        have ev : Value.int .u8 ((16 * ((hx s[2 * j]).toNat : Int) + ((hx s[2 * j + 1]).toNat : Int)) % 256) = Mem.u8 (hexAt s.data.toList j) := by
          unfold hexAt
          rw [u8_ofNat, g0, g1]
          congr 1
        rw [ev]
        refine ⟨j + 1, by omega, by go_num, ?_, ?_, ?_⟩
        · rw [← wsub_set _ _ hlt, List.map_set]
          exact (HR.out.set j _).drew
        · exact (HR0.out.far (by simp) _).drew
        · exact (HU.out.put _ _ (.inr (by omega)) _).drew
      case measure => simp [intOf]; omega
    · obtain rfl : j = 32 := by omega
      rw [show ((32 : Nat) : Int) = 32 from rfl]
      have HG : Hid (wr.heap[w.heap.size + 1]? = some (.cells Y 23 (0, 0))) := by
        show _ = _
        rw [HY.out]
        have h := hr
        unfold wsub at h
        rw [Nat.sub_self, List.replicate_zero, List.append_nil] at h
        exact h
      have HG0 : Hid (wr.heap[w.heap.size]? = some (.cells AD 23 (0, 0))) := hr0
      have HU := Lib.hid hu
      clear hr hr0 hu hlt hj
      go_wp2_with (first
        | ((with_reducible refine wpList_load_row (o := ⟨some 32, _, _, _, _, _⟩) ?_ _ (.tmp 3) ?_ (w.heap.size + 1) ?_ 23 Y (0, 0) _ HG.out Tryd.underlying23 ?_ HYs.out ?_); rfl; rfl; rfl; rfl)
        | ((with_reducible refine wpList_store_new (o := ⟨none, .store 23 (.tmp 2) (.tmp 32), _, _, _, _⟩) ?_ _ (.tmp 2) (.tmp 32) ?_ w.heap.size Y ?_ ?_ 23 AD HG0.out HYs.out HYl.out HY1.out ?_); rfl; rfl; rfl; rfl; intro w5 Hg5 Hu5))
      refine bodyPost_ret (results_cell_row rfl _ _ w.heap.size 23 Y (0, 0) _ rfl Hg5.out Tryd.underlying23 rfl HYs.out) rfl ?_
      exact ⟨by rw [← HY.out], HU.out.trans (Hu5.out.mono (fun k hk e => .inr (by omega)))⟩
end Go.Proofs.YtiglaeipbcmlnaaDoor.WrittenW
