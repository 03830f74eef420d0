/-
  digest.spread: a block's words.
-/
import Derived.Test.YtgcionimhmbgeaaDoorRRowW
import Derived.Test.YtgcionimhmbgeaaDoorRTurnW
import Derived.StillTailTactics
import Derived.Deep.Cut
import Derived.RegionTactic
import Derived.BigQuiet
import Derived.Deep.QuietTactic
namespace Go.Proofs.YtgcionimhmbgeaaDoorR.SpreadW
open Go.RowKit Sha TurnW Mem RowW
set_option linter.unusedVariables false

theorem size64 : (Tryd.prog.info? 141).map (·.size) = some 64 := by kernel_rfl
def Z64 : List Value := (List.replicate 64 (0 : UInt32)).map W
structure Spr (B : Nat) (w0 : World) (l : List UInt32) (cs : List UInt32) (wr : World) : Prop where
  len : cs.length = 64
  has : cs.take l.length = l
  row : Row wr (B + 1) 141 (cs.map W)
  out : Row wr B 141 Z64
  upd : Upd (fun _ => False) w0 wr

theorem take_set (cs l : List UInt32) (x : UInt32) (h : cs.take l.length = l) (hl : l.length < cs.length) : (cs.set l.length x).take (l ++ [x]).length = l ++ [x] := by
  rw [List.length_append, List.length_singleton, List.take_succ_eq_append_getElem (by simpa using hl)]
  rw [List.take_set_of_le (Nat.le_refl _), h]
  simp
theorem Spr.step {w0 wr : World} {l cs : List UInt32} (h : Spr w0.heap.size w0 l cs wr) (hl : l.length < 64) (x : UInt32) (t : Nat) (ht : l.length = t) :
    Spr w0.heap.size w0 (l ++ [x]) (cs.set t x) (wr.drew.setCell ⟨w0.heap.size + 1, t, none⟩ (.int .u32 (U x))) := by
  subst ht
  refine ⟨by simp [h.len], take_set cs l x h.has (by rw [h.len]; exact hl), ?_, ?_, ?_⟩
  · rw [List.map_set]
    exact h.row.drew.set _ _
  · exact h.out.drew.far (by simp) _
  · exact h.upd.drew.put _ _ (.inr (by omega)) _

theorem Spr.drewN {B : Nat} {w0 wr : World} {l cs : List UInt32} (h : Spr B w0 l cs wr) (n : Nat) : Spr B w0 l cs (wr.drewN n) := ⟨h.len, h.has, h.row, h.out, Upd.drewN h.upd n⟩
theorem Spr.at_ {B : Nat} {w0 wr : World} {l cs : List UInt32} (h : Spr B w0 l cs wr) (j : Nat) (hj : j < l.length) : wr.cell? ⟨B + 1, j, none⟩ = some (.int .u32 (U (l.getD j 0))) := by
  have hlen : l.length ≤ cs.length := by have := congrArg List.length h.has; simp at this; omega
  have e : cs[j]? = l[j]? := by
    rw [← List.getElem?_take_of_lt (l := cs) (show j < l.length from hj), h.has]
  rw [h.row.cell, List.getElem?_map, e, List.getElem?_eq_getElem hj, List.getD_eq_getElem?_getD, List.getElem?_eq_getElem hj]
  rfl
theorem sched_len (m : List UInt8) (k : Nat) : (sched m k).length = k + 16 := by
  induction k with
  | zero => rfl
  | succ k ih => simp [sched, grow, ih]

set_option maxHeartbeats 4000000 in
set_option maxRecDepth 100000 in
theorem spread_any (b o cap : Nat) (m : List UInt8) (w : World) (hl : m.length = 64) (hm : Sl w (.slice (some ⟨b, o, none⟩) 64 cap) m) :
    Calls Tryd.prog 104 #[.slice (some ⟨b, o, none⟩) 64 cap] w fun e w' => e = .returned (.agg ((sched m 48).map W).toArray) ∧ Upd (fun _ => False) w w' := by
  have Hm := Lib.hid hm
  obtain ⟨ao, cap', h1, h2, h3, _, _⟩ := hm
  injection h1 with h1 h1' h1''
  subst h1 h1''
  have hcap : 64 ≤ cap := by omega
  have hcap' : cap ≤ 9223372036854775807 := h3
  clear h1' h2 h3
  have Hl := Lib.hid hl
  clear hl
  go_enter Tryd.func104, Tryd.ntmps104
  go_wp2
  go_loopw [9] (fun i wr => ∃ (t : Nat) (cs : List UInt32), t ≤ 16 ∧ i = .int .i64 t ∧ Spr w.heap.size w ((List.range t).map (word m)) cs wr) (fun i _ => (16 - intOf i).toNat)
  case atStart => exact ⟨0, List.replicate 64 0, by omega, rfl, rfl, rfl,
    (show Row (((w.alloc (.cells Z64.toArray 141)).alloc (.cells Z64.toArray 141))) (w.heap.size + 1) 141 Z64 by
      have h := Row.new (w.alloc (.cells Z64.toArray 141)) 141 Z64
      rw [show (w.alloc (.cells Z64.toArray 141)).heap.size = w.heap.size + 1 by simp] at h
      exact h), (Row.new _ _ _).alloc _, ((Upd.refl _ _).alloc _).alloc _⟩
  case round =>
    obtain ⟨t, cs, ht, rfl, hs⟩ := hrel
    by_cases hlt : t < 16
    · have ht64 : (t : Int) < 64 := by omega
      have e4 : 4 * t + 4 - 4 * t = 4 := by omega
      have hsl := Hm.out.upd hs.upd (fun _ _ => id)
      obtain ⟨ao, cap', h1, h2, h3, _, h4⟩ := hsl
      injection h1 with h1 h1' h1''
      have h5 := (h4 _ h1.symm).2
      have c0 : wr.cell? ⟨b, o + 4 * t, none⟩ = some (.int .u8 ((m.getD (4 * t + 0) 0).toNat : Int)) := by have := h5 (4 * t + 0) (by have := Hl.out; omega); rwa [add_none, ← Nat.add_assoc] at this
      obtain ⟨x0, hx0⟩ : ∃ x, x = m.getD (4 * t + 0) 0 := ⟨_, rfl⟩
      rw [← hx0] at c0
      have X0 := Lib.hid hx0
      clear hx0
      have c1 : wr.cell? ⟨b, o + 4 * t + 1, none⟩ = some (.int .u8 ((m.getD (4 * t + 1) 0).toNat : Int)) := by have := h5 (4 * t + 1) (by have := Hl.out; omega); rwa [add_none, ← Nat.add_assoc] at this
      obtain ⟨x1, hx1⟩ : ∃ x, x = m.getD (4 * t + 1) 0 := ⟨_, rfl⟩
      rw [← hx1] at c1
      have X1 := Lib.hid hx1
      clear hx1
      have c2 : wr.cell? ⟨b, o + 4 * t + 2, none⟩ = some (.int .u8 ((m.getD (4 * t + 2) 0).toNat : Int)) := by have := h5 (4 * t + 2) (by have := Hl.out; omega); rwa [add_none, ← Nat.add_assoc] at this
      obtain ⟨x2, hx2⟩ : ∃ x, x = m.getD (4 * t + 2) 0 := ⟨_, rfl⟩
      rw [← hx2] at c2
      have X2 := Lib.hid hx2
      clear hx2
      have c3 : wr.cell? ⟨b, o + 4 * t + 3, none⟩ = some (.int .u8 ((m.getD (4 * t + 3) 0).toNat : Int)) := by have := h5 (4 * t + 3) (by have := Hl.out; omega); rwa [add_none, ← Nat.add_assoc] at this
      obtain ⟨x3, hx3⟩ : ∃ x, x = m.getD (4 * t + 3) 0 := ⟨_, rfl⟩
      rw [← hx3] at c3
      have X3 := Lib.hid hx3
      clear hx3
      clear h1 h1' h1'' h2 h3 h4 h5
      have Hs := Lib.hid hs
      clear hs
      have hw0 := Hs.out.row.cell t
      have hw1 := Hs.out.row.frozen t
      rw [List.getElem?_map, List.getElem?_eq_getElem (by have := Hs.out.len; omega)] at hw0
      go_wp2
      go_still_tail 24, (by kernel_rfl)
      change wpList _ _ _ _ _ wr.drew
      have HS := Lib.hid (Hs.out.step (by simp; omega) (word m t) t (by simp))
      have HW := Lib.hid (show word m t = sl x0.toUInt32 24 ||| sl x1.toUInt32 16 ||| sl x2.toUInt32 8 ||| x3.toUInt32 by rw [X0.out, X1.out, X2.out, X3.out]; rfl)
      go_wp2
      go_roundw
      case rel => exact ⟨t + 1, _, by omega, by go_num, by rw [List.range_succ, List.map_append, List.map_singleton, ← HW.out]; exact HS.out⟩
      case measure => simp [intOf]; omega
    · obtain rfl : t = 16 := by omega
      clear ht
      have Hs := Lib.hid hs
      clear hs
      rw [show ((16 : Nat) : Int) = 16 from rfl]
      go_wp2
      go_loopw [6] (fun i wr => ∃ (k : Nat) (cs : List UInt32), k ≤ 48 ∧ i = .int .i64 (k + 16) ∧ Spr w.heap.size w (sched m k) cs wr) (fun i _ => (64 - intOf i).toNat)
      case atStart => exact ⟨0, cs, by omega, rfl, Hs.out⟩
      case round =>
        obtain ⟨k, cs, hk, rfl, hs⟩ := hrel
        have Hs := Lib.hid hs
        clear hs
        by_cases hlt : k < 48
        · have hlt' : (k : Int) + 16 < 64 := by omega
          have c16 := Hs.out.at_ k (by rw [sched_len]; omega)
          obtain ⟨y16, hy16⟩ : ∃ y, y = (sched m k).getD k 0 := ⟨_, rfl⟩
          rw [← hy16] at c16
          have Y16 := Lib.hid hy16
          clear hy16
          have c15 := Hs.out.at_ (k + 1) (by rw [sched_len]; omega)
          obtain ⟨y15, hy15⟩ : ∃ y, y = (sched m k).getD (k + 1) 0 := ⟨_, rfl⟩
          rw [← hy15] at c15
          have Y15 := Lib.hid hy15
          clear hy15
          have c7 := Hs.out.at_ (k + 9) (by rw [sched_len]; omega)
          obtain ⟨y7, hy7⟩ : ∃ y, y = (sched m k).getD (k + 9) 0 := ⟨_, rfl⟩
          rw [← hy7] at c7
          have Y7 := Lib.hid hy7
          clear hy7
          have c2 := Hs.out.at_ (k + 14) (by rw [sched_len]; omega)
          obtain ⟨y2, hy2⟩ : ∃ y, y = (sched m k).getD (k + 14) 0 := ⟨_, rfl⟩
          rw [← hy2] at c2
          have Y2 := Lib.hid hy2
          clear hy2
          go_wp2
          go_quiet (fail)
          go_wp2
          have l0 : (k : Int) < 64 := by omega
          have l9 : (k : Int) + 9 < 64 := by omega
          have z9 : 0 ≤ (k : Int) + 9 := by omega
          have n9 : ((k : Int) + 9).toNat = k + 9 := by omega
          have n16 : ((k : Int) + 16).toNat = k + 16 := by omega
          have z16 : 0 ≤ (k : Int) + 16 := by omega
          have e0 : IntKind.i64.wrap (k : Int) = k := IntWalk.i64_in _ (by omega)
          have e9 : IntKind.i64.wrap ((k : Int) + 16 - 7) = (k : Int) + 9 := by rw [IntWalk.i64_in _ (by omega)]; omega
          have d16 : (wr.drewN nq).cell? _ = _ := c16
          have d7 : (wr.drewN nq).cell? _ = _ := c7
          clear c16 c15 c7 c2
          have HQ : Hid (∃ n, wr.drewN nq = wr.drewN n) := ⟨nq, rfl⟩
          generalize wr.drewN nq = wq at *
          go_still_tail 29, (by kernel_rfl)
          repeat (first | still_step | still_call (turn_any _ _ (by simp [Turns]) _))
          refine wpStill_nil ?_
          change wpList _ _ _ _ _ wq.drew
          have hsq : Spr w.heap.size w (sched m k) cs wq := by
            obtain ⟨n, hn⟩ := HQ
            rw [hn]
            exact Hs.out.drewN n
          have HS := Lib.hid (hsq.step (by rw [sched_len]; omega) (y16 + s0 y15 + y7 + s1 y2) (k + 16) (sched_len m k))
          have HW := Lib.hid (show sched m (k + 1) = sched m k ++ [y16 + s0 y15 + y7 + s1 y2] by
            show grow (sched m k) = _
            unfold grow
            rw [sched_len, Y16.out, Y15.out, Y7.out, Y2.out]
            rfl)
          have hw0 := hsq.row.cell (k + 16)
          have hw1 := hsq.row.frozen (k + 16)
          rw [List.getElem?_map, List.getElem?_eq_getElem (by have := Hs.out.len; omega)] at hw0
          clear hsq
          go_wp2
          go_roundw
          case rel => exact ⟨k + 1, _, by omega, by go_num, by rw [HW.out]; exact HS.out⟩
          case measure => simp [intOf]; omega
        · obtain rfl : k = 48 := by omega
          rw [show ((48 : Nat) : Int) = 48 from rfl]
          clear hk hlt
          have hrow := Lib.hid (show Row wr (w.heap.size + 1) 141 ((sched m 48).map W) by
            have h := Hs.out.row
            have e : cs = sched m 48 := by
              have h1 := Hs.out.has
              rwa [List.take_of_length_le (by rw [Hs.out.len, sched_len]; omega)] at h1
            rwa [e] at h)
          have hout := Lib.hid Hs.out.out
          have hupd := Lib.hid Hs.out.upd
          have hlen := Lib.hid (sched_len m 48)
          clear Hs
          obtain ⟨X, hX⟩ : ∃ X, X = ((sched m 48).map W).toArray := ⟨_, rfl⟩
          have hs : Hid ((Tryd.prog.info? 141).map (·.size) = some X.size) := by
            show _ = _
            rw [size64, hX]; simp [hlen.out]
          have h1 : Hid (X.all (·.oneCell') = true) := by
            show _ = _
            rw [hX]; simp [W, Value.oneCell']
          have hrow' : Hid (wr.heap[w.heap.size + 1]? = some (.cells X 141 (0, 0))) := by show _ = _; rw [hX]; exact hrow.out
          have HX := Lib.hid hX
          clear hX hrow
          go_upto_region 13 with (fail)
          refine wp_region_lit ?_
          refine wpList_load_row rfl _ (.tmp 3) rfl (w.heap.size + 1) rfl 141 X (0, 0) _ hrow'.out Tryd.underlying141 rfl hs.out ?_
          refine wpList_store_row rfl _ (.tmp 2) (.tmp 85) rfl w.heap.size X rfl rfl 141 Z64.toArray hout.out hs.out ?_ h1.out ?_
          · rw [HX.out]
            simp [Z64, hlen.out]
          · have hg := Lib.hid (setRow_heap wr w.heap.size _ X 141 _ hout.out)
            go_wp2
            refine bodyPost_ret (results_cell_row rfl _ _ w.heap.size 141 X (0, 0) _ rfl hg.out Tryd.underlying141 rfl hs.out) rfl ?_
            exact ⟨by rw [← HX.out], Upd.setRow hupd.out _ _ (.inr (Nat.le_refl _))⟩
end Go.Proofs.YtgcionimhmbgeaaDoorR.SpreadW
