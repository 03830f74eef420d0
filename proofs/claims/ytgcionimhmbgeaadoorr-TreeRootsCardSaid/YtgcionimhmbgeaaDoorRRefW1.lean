/-
  docketref2.numbers, byteAt, right.
-/
import Derived.Test.YtgcionimhmbgeaaDoorRHeldW
import Derived.Test.YtgcionimhmbgeaaDoorRNewW
import Derived.Test.YtgcionimhmbgeaaDoorRRefM
namespace Go.Proofs.YtgcionimhmbgeaaDoorR.RefW1
open Go.RowKit Sha Mem RowW CopyW BookW EqW SumH NewW RefM
set_option linter.unusedVariables false
set_option linter.unusedSimpArgs false

def KN : List UInt32 := K ++ ws init
def AK : Array Value := (KN.map W).toArray
def A72 : Array Value := (List.replicate 72 (W 0)).toArray
theorem zero72 (w : World) : (zeroValue 110).run Tryd.prog w = .ok (.agg A72) w := by kernel_rfl
theorem size72 : (Tryd.prog.info? 110).map (·.size) = some 72 := by kernel_rfl
theorem one72 : AK.all (·.oneCell') = true := by kernel_rfl

set_option maxHeartbeats 1000000 in
set_option maxRecDepth 100000 in
theorem numbers_any (w : World) :
    Calls Tryd.prog 79 #[] w fun e w' => e = .returned (.agg AK) ∧ Upd (fun _ => False) w w' := by
  obtain ⟨Y, hY⟩ : ∃ Y, Y = AK := ⟨_, rfl⟩
  have HY1 : Hid (Y.all (·.oneCell') = true) := by show _ = _; rw [hY]; exact one72
  have HYs : Hid ((Tryd.prog.info? 110).map (·.size) = some Y.size) := by show _ = _; rw [size72, hY]; rfl
  have HYl : Hid (A72.size = Y.size) := by show _ = _; rw [hY]; rfl
  have HY := Lib.hid hY
  have HR0 : Hid ((w.alloc (.cells A72 110)).heap[w.heap.size]? = some (.cells A72 110 (0, 0))) := heap_alloc_new _ _
  have HU0 : Hid (Upd (fun _ => False) w (w.alloc (.cells A72 110))) := (Upd.refl _ w).alloc _
  have hz := zero72
  rw [← hY]
  clear hY
  go_enter Tryd.func79, Tryd.ntmps79
  go_wp2_with (first
    | ((with_reducible refine wpList_build_as (o := ⟨some 1, _, _, _, _, _⟩) ?_ _ _ rfl Y ?_ ?_); rfl; (rw [HY.out]; kernel_rfl))
    | ((with_reducible refine wpList_store_new (o := ⟨none, .store 110 (.tmp 0) (.tmp 1), _, _, _, _⟩) ?_ _ (.tmp 0) (.tmp 1) ?_ w.heap.size Y ?_ ?_ 110 A72 HR0.out HYs.out HYl.out HY1.out ?_); rfl; rfl; rfl; rfl; intro w5 Hg5 Hu5))
  refine bodyPost_ret (results_cell_row rfl _ _ w.heap.size 110 Y (0, 0) _ rfl Hg5.out Tryd.underlying110 rfl HYs.out) rfl ?_
  exact ⟨rfl, HU0.out.trans (Hu5.out.mono (fun k hk e => .inr (by omega)))⟩

set_option maxHeartbeats 1000000 in
theorem byteAt_any (ao : Option Addr) (n cap : Nat) (l : List UInt8) (p : Nat) (w : World) (hs : Sl w (.slice ao n cap) l) (hr : n ≤ 140737488355328) (hp : p < (n + 72) / 64 * 64) :
    Calls Tryd.prog 80 #[.slice ao n cap, .int .i64 (p : Int), .int .i64 (((n + 72) / 64 * 64 : Nat) : Int)] w fun e w' => e = .returned (u8 ((pad l).getD p 0)) ∧ w' = w := by
  have hn : n = l.length := by obtain ⟨_, _, h, _⟩ := hs; injection h
  rcases Nat.lt_trichotomy p n with h | h | h
  · have e := pad_lt (l := l) (i := p) (by omega)
    obtain ⟨_, _, he, _, _, h3, h4⟩ := hs
    cases he
    obtain ⟨⟨pa, oa, sa⟩, rfl⟩ : ∃ ad, ao = some ad := by
      cases ao with
      | some ad => exact ⟨ad, rfl⟩
      | none => have := h3 rfl; omega
    obtain ⟨hsa, hca⟩ := h4 _ rfl
    obtain rfl : sa = none := hsa
    have c0 := hca p (by omega)
    rw [add_none, ← e] at c0
    obtain ⟨x, hx⟩ : ∃ x, x = (pad l).getD p 0 := ⟨_, rfl⟩
    rw [← hx] at c0 ⊢
    generalize hN : (((l.length + 72) / 64 * 64 : Nat) : Int) = N
    have hI : (p : Int) < (l.length : Int) := by omega
    unfold u8 at c0 ⊢
    clear e hx hca h3 h4 hN
    go_enter Tryd.func80, Tryd.ntmps80
    go_wp2
    go_ret
    exact ⟨rfl, rfl⟩
  · subst h
    have e : (pad l).getD p 0 = 128 := by rw [hn]; exact pad_eq l
    rw [e]
    generalize hN : (((p + 72) / 64 * 64 : Nat) : Int) = N
    clear hs hn e hN hp
    go_enter Tryd.func80, Tryd.ntmps80
    go_wp2
    go_ret
    exact ⟨rfl, rfl⟩
  · have hI : ¬ (p : Int) < (n : Int) := by omega
    have hE : ((p : Int) == (n : Int)) = false := by simp; omega
    have hpb : (p : Int) ≤ 140737488355400 := by omega
    rcases Nat.lt_or_ge p ((n + 72) / 64 * 64 - 8) with h8 | h8
    · have e : (pad l).getD p 0 = 0 := pad_mid (by omega) (by rw [← hn]; exact h8)
      rw [e]
      obtain ⟨N, hN⟩ : ∃ N : Int, N = (((n + 72) / 64 * 64 : Nat) : Int) := ⟨_, rfl⟩
      have hl8 : (p : Int) < N - 8 := by omega
      have hNb : N ≤ 140737488355500 := by omega
      rw [← hN]
      clear hs hn e hN hp h8
      go_enter Tryd.func80, Tryd.ntmps80
      go_wp2
      go_ret
      exact ⟨rfl, rfl⟩
    · have e := pad_end (l := l) (i := p) (by omega) (by rw [← hn]; exact h8) (by rw [← hn]; exact hp)
      rw [e, EndW.u8_ofNat, ← hn]
      obtain ⟨k, hk⟩ : ∃ k, k = (n + 72) / 64 * 64 - 1 - p := ⟨_, rfl⟩
      rw [← hk]
      obtain ⟨N, hN⟩ : ∃ N : Int, N = (((n + 72) / 64 * 64 : Nat) : Int) := ⟨_, rfl⟩
      have hl8 : N - 8 ≤ (p : Int) := by omega
      have hNb : N ≤ 140737488355500 := by omega
      have hNp : (p : Int) < N := by omega
      have hk7 : (k : Int) ≤ 7 := by omega
      have hk' : N - 1 - (p : Int) = (k : Int) := by omega
      rw [← hN]
      clear hs hn e hN hp h8 hk
      go_enter Tryd.func80, Tryd.ntmps80
      go_wp2
      go_ret
      refine ⟨congrArg (fun v => Ending.returned (.int .u8 v)) ?_, rfl⟩
      first | rfl | (simp; done) | trace_state
theorem byteAt_at (ao : Option Addr) (n cap : Nat) (l : List UInt8) (N p : Nat) (hN : N = (n + 72) / 64 * 64) (x : UInt8) (hx : x = (pad l).getD p 0) (w : World) (hs : Sl w (.slice ao n cap) l) (hr : n ≤ 140737488355328) (hp : p < N) :
    Calls Tryd.prog 80 #[.slice ao n cap, .int .i64 (p : Int), .int .i64 (N : Int)] w fun e w' => e = .returned (.int .u8 (x.toNat : Int)) ∧ w' = w := by
  subst hN hx
  exact byteAt_any ao n cap l p w hs hr hp
theorem right_any (x : UInt32) (n : Nat) (h0 : 0 < n) (h1 : n < 32) (w : World) :
    Calls Tryd.prog 81 #[.int .u32 (U x), .int .i64 (n : Int)] w fun e w' => e = .returned (.int .u32 (U (rotr x n))) ∧ w' = w := by
  go_enter Tryd.func81, Tryd.ntmps81
  go_wp2
  go_ret
  exact ⟨congrArg (fun v => Ending.returned (.int .u32 v)) (or_rot x n), rfl⟩
theorem right_int (x : UInt32) (n : Int) (h0 : 0 < n) (h1 : n < 32) (w : World) :
    Calls Tryd.prog 81 #[.int .u32 (U x), .int .i64 n] w fun e w' => e = .returned (.int .u32 (U (rotr x n.toNat))) ∧ w' = w := by
  obtain ⟨m, rfl⟩ : ∃ m : Nat, n = m := ⟨n.toNat, by omega⟩
  rw [Int.toNat_natCast]
  exact right_any x m (by omega) (by omega) w
theorem right_w (x : UInt32) (n : Int) (h0 : 0 < n) (h1 : n < 32) (w : World) :
    Calls Tryd.prog 81 #[.int .u32 (U x), .int .i64 n] w fun e w' => e = .returned (.int .u32 (U (rotr x n.toNat))) ∧ w = w' :=
  (right_int x n h0 h1 w).mono fun _ _ ⟨a, b⟩ => ⟨a, b.symm⟩
end Go.Proofs.YtgcionimhmbgeaaDoorR.RefW1
