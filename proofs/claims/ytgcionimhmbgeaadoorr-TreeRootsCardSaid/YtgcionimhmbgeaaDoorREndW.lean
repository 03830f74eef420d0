/-
  (*digest.Hasher).end.
-/
import Derived.Test.YtgcionimhmbgeaaDoorRWriteN
namespace Go.Proofs.YtgcionimhmbgeaaDoorR.EndW
open Go.RowKit Sha TurnW Mem RowW SpreadW MixW HashM CopyW WriteW WriteN
set_option linter.unusedVariables false

theorem len8_len (N : Nat) : (len8 N).length = 8 := by simp [len8]
def fill (n N j : Nat) : List UInt8 := (128 :: List.replicate (n - 1) 0) ++ ((len8 N).take j ++ List.replicate (72 - n - j) 0)
theorem fill_len (n N j : Nat) (h1 : 1 ≤ n) (h2 : n ≤ 64) (hj : j ≤ 8) : (fill n N j).length = 72 := by simp [fill, len8_len]; omega
theorem fill_set (n N j : Nat) (h1 : 1 ≤ n) (h2 : n ≤ 64) (hj : j < 8) : (fill n N j).set (n + j) ((len8 N).getD j 0) = fill n N (j + 1) := by
  have hl : (128 :: List.replicate (n - 1) (0 : UInt8)).length = n := by simp; omega
  have ht : ((len8 N).take j).length = j := by rw [List.length_take, len8_len]; omega
  have hr : List.replicate (72 - n - j) (0 : UInt8) = 0 :: List.replicate (72 - n - (j + 1)) 0 := by
    rw [← List.replicate_succ]; congr 1; omega
  unfold fill
  rw [List.set_append_right _ _ (by omega), hl, Nat.add_sub_cancel_left, List.set_append_right _ _ (by omega), ht, Nat.sub_self, hr, List.set_cons_zero,
    List.take_succ_eq_append_getElem (by rw [len8_len]; omega), List.append_assoc (List.take j (len8 N))]
  congr 3
  rw [List.getD_eq_getElem?_getD, List.getElem?_eq_getElem (by rw [len8_len]; omega)]
  rfl
theorem fill_take (n N : Nat) (h1 : 1 ≤ n) : (fill n N 8).take (n + 8) = 128 :: List.replicate (n - 1) 0 ++ len8 N := by
  have hl : (128 :: List.replicate (n - 1) (0 : UInt8)).length = n := by simp; omega
  unfold fill
  rw [List.take_append, hl, Nat.add_sub_cancel_left, List.take_of_length_le (by omega), List.take_append_of_le_length (by rw [List.length_take, len8_len]; omega), List.take_take]
  rw [Nat.min_self, List.take_of_length_le (by rw [len8_len]; omega)]
theorem u8_ofNat (y : Nat) : u8 (UInt8.ofNat y) = .int .u8 ((y : Int) % 256) := by
  unfold u8
  rw [UInt8.toNat_ofNat']
  rfl

theorem len8_0 (N : Nat) : Value.int .u8 (8 * (N : Int) / 72057594037927936 % 256) = u8 ((len8 N).getD 0 0) := by
  have e : (len8 N).getD 0 0 = UInt8.ofNat (8 * N / 72057594037927936) := rfl
  rw [e, u8_ofNat]
  congr 1 <;> omega
theorem len8_1 (N : Nat) : Value.int .u8 (8 * (N : Int) / 281474976710656 % 256) = u8 ((len8 N).getD 1 0) := by
  have e : (len8 N).getD 1 0 = UInt8.ofNat (8 * N / 281474976710656) := rfl
  rw [e, u8_ofNat]
  congr 1 <;> omega
theorem len8_2 (N : Nat) : Value.int .u8 (8 * (N : Int) / 1099511627776 % 256) = u8 ((len8 N).getD 2 0) := by
  have e : (len8 N).getD 2 0 = UInt8.ofNat (8 * N / 1099511627776) := rfl
  rw [e, u8_ofNat]
  congr 1 <;> omega
theorem len8_3 (N : Nat) : Value.int .u8 (8 * (N : Int) / 4294967296 % 256) = u8 ((len8 N).getD 3 0) := by
  have e : (len8 N).getD 3 0 = UInt8.ofNat (8 * N / 4294967296) := rfl
  rw [e, u8_ofNat]
  congr 1 <;> omega
theorem len8_4 (N : Nat) : Value.int .u8 (8 * (N : Int) / 16777216 % 256) = u8 ((len8 N).getD 4 0) := by
  have e : (len8 N).getD 4 0 = UInt8.ofNat (8 * N / 16777216) := rfl
  rw [e, u8_ofNat]
  congr 1 <;> omega
theorem len8_5 (N : Nat) : Value.int .u8 (8 * (N : Int) / 65536 % 256) = u8 ((len8 N).getD 5 0) := by
  have e : (len8 N).getD 5 0 = UInt8.ofNat (8 * N / 65536) := rfl
  rw [e, u8_ofNat]
  congr 1 <;> omega
theorem len8_6 (N : Nat) : Value.int .u8 (8 * (N : Int) / 256 % 256) = u8 ((len8 N).getD 6 0) := by
  have e : (len8 N).getD 6 0 = UInt8.ofNat (8 * N / 256) := rfl
  rw [e, u8_ofNat]
  congr 1 <;> omega
theorem len8_7 (N : Nat) : Value.int .u8 (8 * (N : Int) % 256) = u8 ((len8 N).getD 7 0) := by
  have e : (len8 N).getD 7 0 = UInt8.ofNat (8 * N / 1) := rfl
  rw [e, u8_ofNat]
  congr 1 <;> omega
def LE (F n N : Nat) (w0 : World) (i : Value) (wr : World) : Prop :=
  ∃ j : Nat, j ≤ 8 ∧ i = .int .i64 j ∧ Row wr F 143 ((fill n N j).map u8) ∧ Upd (fun _ => False) w0 wr
def Z72 : List UInt8 := List.replicate 72 0
def A72 : Array Value := (Z72.map u8).toArray
theorem zero72 (w : World) : (zeroValue 143).run Tryd.prog w = .ok (.agg A72) w := by kernel_rfl

set_option maxHeartbeats 4000000 in
set_option maxRecDepth 100000 in
theorem end_any (b : Nat) (l : List UInt8) (w : World) (hh : Hs w b l) (hb : b ≠ 2) (hk : Kw w) (hlen : l.length < 576460752303423488) :
    Calls Tryd.prog 102 #[.pointer (some ⟨b, 0, none⟩)] w fun e w' => e = .returned (.tuple #[]) ∧ Hs w' b (pad l) ∧ Upd (fun k => k = b) w w' := by
  have Hh := Lib.hid hh
  have hbs := hh.lt
  obtain ⟨q, t, blk, hl, hq, ht, hbt, hQ⟩ := hh
  obtain ⟨N, hN⟩ : ∃ N, N = l.length := ⟨_, rfl⟩
  rw [← hN] at hQ hlen
  have c72 : w.cell? ⟨b, 72, none⟩ = some (.int .u64 (N : Int)) := by rw [hQ.2.cell, hcells_72 _ _ _ hQ.1]
  obtain ⟨m, hm⟩ : ∃ m, m = N % 64 := ⟨_, rfl⟩
  obtain ⟨k, hk0⟩ : ∃ k, k = (119 - m) % 64 := ⟨_, rfl⟩
  have hm64 : m < 64 := by omega
  have hk64 : k < 64 := by omega
  have e1 : IntKind.u64.wrap (8 * (N : Int)) = ((8 * N : Nat) : Int) := by rw [IntKind.wrap_u64]; omega
  have e3 : (N : Int) % 64 = (m : Int) := by omega
  have e4 : (N : Int).tmod 64 = (m : Int) := by rw [Int.tmod_eq_emod_of_nonneg (by omega)]; exact e3
  have e5 : IntKind.i64.wrap (m : Int) = m := IntWalk.i64_in _ (by omega)
  have e7 : (119 - (m : Int)) % 64 = (k : Int) := by omega
  have e8 : (119 - (m : Int)).tmod 64 = (k : Int) := by rw [Int.tmod_eq_emod_of_nonneg (by omega)]; exact e7
  obtain ⟨n, hn⟩ : ∃ n, n = k + 1 := ⟨_, rfl⟩
  have e9 : 1 + (k : Int) = (n : Int) := by omega
  have hn1 : 1 ≤ n := by omega
  have hn64 : n ≤ 64 := by omega
  have Hnk := Lib.hid hn
  have Hn := Lib.hid hN
  have Hk := Lib.hid hk
  have Hm := Lib.hid hm
  have Hk0 := Lib.hid hk0
  have Hb := Lib.hid hb
  have Hlen := Lib.hid hlen
  clear hn hN hk hm hk0 hb hlen hl hq hbt hQ
  have hz := zero72
  go_enter Tryd.func102, Tryd.ntmps102
  go_wp2
  have HS : Hid (LE w.heap.size n N w (.int .i64 0) (w.alloc (.cells (A72.setIfInBounds 0 (.int .u8 128)) 143))) := by
    refine ⟨0, by omega, rfl, ?_, (Upd.refl _ _).alloc _⟩
    have e : fill n N 0 = (List.replicate 72 (0 : UInt8)).set 0 128 := by
      unfold fill
      rw [List.take_zero, List.nil_append, List.cons_append, List.replicate_append_replicate, show n - 1 + (72 - n - 0) = 71 by omega]
      rfl
    rw [e]
    exact Row.new w 143 _
  clear c72 e1 e3 e4 e5 e7 e8 e9 hz
  go_loopw [21] (fun i wr => LE w.heap.size n N w i wr) (fun i _ => (8 - intOf i).toNat)
  case atStart => exact HS.out
  case round =>
    clear HS
    obtain ⟨j, hj, rfl, hr, hu⟩ := hrel
    by_cases hlt : j < 8
    · have hjs : j = 0 ∨ j = 1 ∨ j = 2 ∨ j = 3 ∨ j = 4 ∨ j = 5 ∨ j = 6 ∨ j = 7 := by omega
      clear hlt hj
      rcases hjs with rfl | rfl | rfl | rfl | rfl | rfl | rfl | rfl
      · have HN : Hid (Row (wr.setCell ⟨w.heap.size, n, none⟩ (u8 ((len8 N).getD 0 0))) w.heap.size 143 ((fill n N (0 + 1)).map u8)) := by
          show Row _ _ _ _
          rw [← fill_set n N 0 hn1 hn64 (by omega), List.map_set]
          exact hr.set _ _
        have HU : Hid (Upd (fun _ => False) w (wr.setCell ⟨w.heap.size, n, none⟩ (u8 ((len8 N).getD 0 0)))) := hu.put _ _ (.inr (Nat.le_refl _)) _
        have c0 : (wr.cell? ⟨w.heap.size, n, none⟩) = some (u8 ((fill n N 0).getD (n + 0) 0)) := by
          rw [hr.cell, List.getElem?_map, List.getElem?_eq_getElem (by rw [fill_len n N 0 hn1 hn64 (by omega)]; omega), List.getD_eq_getElem?_getD, List.getElem?_eq_getElem (by rw [fill_len n N 0 hn1 hn64 (by omega)]; omega)]
          rfl
        have f0 := hr.frozen n
        clear hr hu
        have i0 : 0 ≤ (n : Int) := by omega
        have i1 : (n : Int) < 72 := by omega
        have i2 : ((n : Int)).toNat = n := by omega
        rw [show ((0 : Nat) : Int) = 0 from rfl]
        go_wp2
        go_roundw
        case rel => exact ⟨0 + 1, by omega, rfl, by rw [len8_0]; exact HN.out, by rw [len8_0]; exact HU.out⟩
        case measure => simp [intOf]
      · have HN : Hid (Row (wr.setCell ⟨w.heap.size, n + 1, none⟩ (u8 ((len8 N).getD 1 0))) w.heap.size 143 ((fill n N (1 + 1)).map u8)) := by
          show Row _ _ _ _
          rw [← fill_set n N 1 hn1 hn64 (by omega), List.map_set]
          exact hr.set _ _
        have HU : Hid (Upd (fun _ => False) w (wr.setCell ⟨w.heap.size, n + 1, none⟩ (u8 ((len8 N).getD 1 0)))) := hu.put _ _ (.inr (Nat.le_refl _)) _
        have c0 : (wr.cell? ⟨w.heap.size, n + 1, none⟩) = some (u8 ((fill n N 1).getD (n + 1) 0)) := by
          rw [hr.cell, List.getElem?_map, List.getElem?_eq_getElem (by rw [fill_len n N 1 hn1 hn64 (by omega)]; omega), List.getD_eq_getElem?_getD, List.getElem?_eq_getElem (by rw [fill_len n N 1 hn1 hn64 (by omega)]; omega)]
          rfl
        have f0 := hr.frozen (n + 1)
        clear hr hu
        have i0 : 0 ≤ (n : Int) + 1 := by omega
        have i1 : (n : Int) + 1 < 72 := by omega
        have i2 : ((n : Int) + 1).toNat = n + 1 := by omega
        rw [show ((1 : Nat) : Int) = 1 from rfl]
        go_wp2
        go_roundw
        case rel => exact ⟨1 + 1, by omega, rfl, by rw [len8_1]; exact HN.out, by rw [len8_1]; exact HU.out⟩
        case measure => simp [intOf]
      · have HN : Hid (Row (wr.setCell ⟨w.heap.size, n + 2, none⟩ (u8 ((len8 N).getD 2 0))) w.heap.size 143 ((fill n N (2 + 1)).map u8)) := by
          show Row _ _ _ _
          rw [← fill_set n N 2 hn1 hn64 (by omega), List.map_set]
          exact hr.set _ _
        have HU : Hid (Upd (fun _ => False) w (wr.setCell ⟨w.heap.size, n + 2, none⟩ (u8 ((len8 N).getD 2 0)))) := hu.put _ _ (.inr (Nat.le_refl _)) _
        have c0 : (wr.cell? ⟨w.heap.size, n + 2, none⟩) = some (u8 ((fill n N 2).getD (n + 2) 0)) := by
          rw [hr.cell, List.getElem?_map, List.getElem?_eq_getElem (by rw [fill_len n N 2 hn1 hn64 (by omega)]; omega), List.getD_eq_getElem?_getD, List.getElem?_eq_getElem (by rw [fill_len n N 2 hn1 hn64 (by omega)]; omega)]
          rfl
        have f0 := hr.frozen (n + 2)
        clear hr hu
        have i0 : 0 ≤ (n : Int) + 2 := by omega
        have i1 : (n : Int) + 2 < 72 := by omega
        have i2 : ((n : Int) + 2).toNat = n + 2 := by omega
        rw [show ((2 : Nat) : Int) = 2 from rfl]
        go_wp2
        go_roundw
        case rel => exact ⟨2 + 1, by omega, rfl, by rw [len8_2]; exact HN.out, by rw [len8_2]; exact HU.out⟩
        case measure => simp [intOf]
      · have HN : Hid (Row (wr.setCell ⟨w.heap.size, n + 3, none⟩ (u8 ((len8 N).getD 3 0))) w.heap.size 143 ((fill n N (3 + 1)).map u8)) := by
          show Row _ _ _ _
          rw [← fill_set n N 3 hn1 hn64 (by omega), List.map_set]
          exact hr.set _ _
        have HU : Hid (Upd (fun _ => False) w (wr.setCell ⟨w.heap.size, n + 3, none⟩ (u8 ((len8 N).getD 3 0)))) := hu.put _ _ (.inr (Nat.le_refl _)) _
        have c0 : (wr.cell? ⟨w.heap.size, n + 3, none⟩) = some (u8 ((fill n N 3).getD (n + 3) 0)) := by
          rw [hr.cell, List.getElem?_map, List.getElem?_eq_getElem (by rw [fill_len n N 3 hn1 hn64 (by omega)]; omega), List.getD_eq_getElem?_getD, List.getElem?_eq_getElem (by rw [fill_len n N 3 hn1 hn64 (by omega)]; omega)]
          rfl
        have f0 := hr.frozen (n + 3)
        clear hr hu
        have i0 : 0 ≤ (n : Int) + 3 := by omega
        have i1 : (n : Int) + 3 < 72 := by omega
        have i2 : ((n : Int) + 3).toNat = n + 3 := by omega
        rw [show ((3 : Nat) : Int) = 3 from rfl]
        go_wp2
        go_roundw
        case rel => exact ⟨3 + 1, by omega, rfl, by rw [len8_3]; exact HN.out, by rw [len8_3]; exact HU.out⟩
        case measure => simp [intOf]
      · have HN : Hid (Row (wr.setCell ⟨w.heap.size, n + 4, none⟩ (u8 ((len8 N).getD 4 0))) w.heap.size 143 ((fill n N (4 + 1)).map u8)) := by
          show Row _ _ _ _
          rw [← fill_set n N 4 hn1 hn64 (by omega), List.map_set]
          exact hr.set _ _
        have HU : Hid (Upd (fun _ => False) w (wr.setCell ⟨w.heap.size, n + 4, none⟩ (u8 ((len8 N).getD 4 0)))) := hu.put _ _ (.inr (Nat.le_refl _)) _
        have c0 : (wr.cell? ⟨w.heap.size, n + 4, none⟩) = some (u8 ((fill n N 4).getD (n + 4) 0)) := by
          rw [hr.cell, List.getElem?_map, List.getElem?_eq_getElem (by rw [fill_len n N 4 hn1 hn64 (by omega)]; omega), List.getD_eq_getElem?_getD, List.getElem?_eq_getElem (by rw [fill_len n N 4 hn1 hn64 (by omega)]; omega)]
          rfl
        have f0 := hr.frozen (n + 4)
        clear hr hu
        have i0 : 0 ≤ (n : Int) + 4 := by omega
        have i1 : (n : Int) + 4 < 72 := by omega
        have i2 : ((n : Int) + 4).toNat = n + 4 := by omega
        rw [show ((4 : Nat) : Int) = 4 from rfl]
        go_wp2
        go_roundw
        case rel => exact ⟨4 + 1, by omega, rfl, by rw [len8_4]; exact HN.out, by rw [len8_4]; exact HU.out⟩
        case measure => simp [intOf]
      · have HN : Hid (Row (wr.setCell ⟨w.heap.size, n + 5, none⟩ (u8 ((len8 N).getD 5 0))) w.heap.size 143 ((fill n N (5 + 1)).map u8)) := by
          show Row _ _ _ _
          rw [← fill_set n N 5 hn1 hn64 (by omega), List.map_set]
          exact hr.set _ _
        have HU : Hid (Upd (fun _ => False) w (wr.setCell ⟨w.heap.size, n + 5, none⟩ (u8 ((len8 N).getD 5 0)))) := hu.put _ _ (.inr (Nat.le_refl _)) _
        have c0 : (wr.cell? ⟨w.heap.size, n + 5, none⟩) = some (u8 ((fill n N 5).getD (n + 5) 0)) := by
          rw [hr.cell, List.getElem?_map, List.getElem?_eq_getElem (by rw [fill_len n N 5 hn1 hn64 (by omega)]; omega), List.getD_eq_getElem?_getD, List.getElem?_eq_getElem (by rw [fill_len n N 5 hn1 hn64 (by omega)]; omega)]
          rfl
        have f0 := hr.frozen (n + 5)
        clear hr hu
        have i0 : 0 ≤ (n : Int) + 5 := by omega
        have i1 : (n : Int) + 5 < 72 := by omega
        have i2 : ((n : Int) + 5).toNat = n + 5 := by omega
        rw [show ((5 : Nat) : Int) = 5 from rfl]
        go_wp2
        go_roundw
        case rel => exact ⟨5 + 1, by omega, rfl, by rw [len8_5]; exact HN.out, by rw [len8_5]; exact HU.out⟩
        case measure => simp [intOf]
      · have HN : Hid (Row (wr.setCell ⟨w.heap.size, n + 6, none⟩ (u8 ((len8 N).getD 6 0))) w.heap.size 143 ((fill n N (6 + 1)).map u8)) := by
          show Row _ _ _ _
          rw [← fill_set n N 6 hn1 hn64 (by omega), List.map_set]
          exact hr.set _ _
        have HU : Hid (Upd (fun _ => False) w (wr.setCell ⟨w.heap.size, n + 6, none⟩ (u8 ((len8 N).getD 6 0)))) := hu.put _ _ (.inr (Nat.le_refl _)) _
        have c0 : (wr.cell? ⟨w.heap.size, n + 6, none⟩) = some (u8 ((fill n N 6).getD (n + 6) 0)) := by
          rw [hr.cell, List.getElem?_map, List.getElem?_eq_getElem (by rw [fill_len n N 6 hn1 hn64 (by omega)]; omega), List.getD_eq_getElem?_getD, List.getElem?_eq_getElem (by rw [fill_len n N 6 hn1 hn64 (by omega)]; omega)]
          rfl
        have f0 := hr.frozen (n + 6)
        clear hr hu
        have i0 : 0 ≤ (n : Int) + 6 := by omega
        have i1 : (n : Int) + 6 < 72 := by omega
        have i2 : ((n : Int) + 6).toNat = n + 6 := by omega
        rw [show ((6 : Nat) : Int) = 6 from rfl]
        go_wp2
        go_roundw
        case rel => exact ⟨6 + 1, by omega, rfl, by rw [len8_6]; exact HN.out, by rw [len8_6]; exact HU.out⟩
        case measure => simp [intOf]
      · have HN : Hid (Row (wr.setCell ⟨w.heap.size, n + 7, none⟩ (u8 ((len8 N).getD 7 0))) w.heap.size 143 ((fill n N (7 + 1)).map u8)) := by
          show Row _ _ _ _
          rw [← fill_set n N 7 hn1 hn64 (by omega), List.map_set]
          exact hr.set _ _
        have HU : Hid (Upd (fun _ => False) w (wr.setCell ⟨w.heap.size, n + 7, none⟩ (u8 ((len8 N).getD 7 0)))) := hu.put _ _ (.inr (Nat.le_refl _)) _
        have c0 : (wr.cell? ⟨w.heap.size, n + 7, none⟩) = some (u8 ((fill n N 7).getD (n + 7) 0)) := by
          rw [hr.cell, List.getElem?_map, List.getElem?_eq_getElem (by rw [fill_len n N 7 hn1 hn64 (by omega)]; omega), List.getD_eq_getElem?_getD, List.getElem?_eq_getElem (by rw [fill_len n N 7 hn1 hn64 (by omega)]; omega)]
          rfl
        have f0 := hr.frozen (n + 7)
        clear hr hu
        have i0 : 0 ≤ (n : Int) + 7 := by omega
        have i1 : (n : Int) + 7 < 72 := by omega
        have i2 : ((n : Int) + 7).toNat = n + 7 := by omega
        rw [show ((7 : Nat) : Int) = 7 from rfl]
        go_wp2
        go_roundw
        case rel => exact ⟨7 + 1, by omega, rfl, by rw [len8_7]; exact HN.out, by rw [len8_7]; exact HU.out⟩
        case measure => simp [intOf]
    · obtain rfl : j = 8 := by omega
      rw [show ((8 : Nat) : Int) = 8 from rfl]
      have HR := Lib.hid hr
      have HU := Lib.hid hu
      clear hr hu hlt hj
      have HT : Hid (Sl wr (.slice (some ⟨w.heap.size, 0, none⟩) (n + 8) 72) ((fill n N 8).take (n + 8))) := by
        have hl : ((fill n N 8).take (n + 8)).length = n + 8 := by rw [List.length_take, fill_len n N 8 hn1 hn64 (by omega)]; omega
        refine ⟨_, 72, by rw [hl], by omega, by unfold maxLen; omega, by simp, fun a ha => ?_⟩
        injection ha with ha
        subst ha
        refine ⟨rfl, fun i hi => ?_⟩
        rw [hl] at hi
        rw [add_none, Nat.zero_add, HR.out.cell, List.getElem?_map, List.getD_eq_getElem?_getD, List.getElem?_take_of_lt (by omega), List.getElem?_eq_getElem (by rw [fill_len n N 8 hn1 hn64 (by omega)]; omega)]
        rfl
      have HP : Hid (l ++ (fill n N 8).take (n + 8) = pad l) := by
        show _ = _
        rw [fill_take n N hn1]
        unfold pad
        rw [← Hn.out, Hnk.out, Nat.add_sub_cancel, Hk0.out, Hm.out, List.append_assoc]
      have hpl : ((fill n N 8).take (n + 8)).length ≤ 72 := by rw [List.length_take, fill_len n N 8 hn1 hn64 (by omega)]; omega
      have HW := Lib.hid (write_any b _ l _ wr (Hh.out.upd HU.out id) HT.out (by simp [own, Value.ownBlock]; omega) Hb.out (Hk.out.upd HU.out id) (by have := Hlen.out; have := Hn.out; omega))
      clear hpl
      have i0 : (n : Int) + 8 ≤ 72 := by omega
      have i1 : 0 ≤ (n : Int) + 8 := by omega
      have i2 : ((n : Int) + 8).toNat = n + 8 := by omega
      go_wp2_with (go_at_call 89; refine HW.out.mono ?_; rintro e w2 ⟨rfl, hw2, hu2⟩; have HH2 := Lib.hid hw2; have HU2 := Lib.hid hu2; clear hw2 hu2)
      go_end0
      exact ⟨rfl, by rw [← HP.out]; exact HH2.out, (HU.out.mono (fun _ _ h => h.elim)).trans (HU2.out.mono (fun _ _ h => .inl h))⟩
end Go.Proofs.YtgcionimhmbgeaaDoorR.EndW
