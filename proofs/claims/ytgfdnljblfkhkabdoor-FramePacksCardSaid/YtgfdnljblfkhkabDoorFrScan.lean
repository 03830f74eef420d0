/-
  frame: numbers, numbered, highFirst, begin, opens, fits, size, record: one frame's scan.
-/
import Derived.Test.YtgfdnljblfkhkabDoorFrTurn
import Derived.Test.YtgfdnljblfkhkabDoorPut64W
import Derived.Test.YtgfdnljblfkhkabDoorWriterW
import Derived.RegionTactic
import Derived.StillTailTactics
namespace Go.Proofs.YtgfdnljblfkhkabDoor.FrScan
open Go.RowKit Sha Mem Width PutW WriterW RowW Crc FrTurn
set_option linter.unusedVariables false

theorem numbers_yes (n : Int) (w : World) (h0 : 0 ≤ n) (h1 : n < 1099511627776) :
    Calls Tryd.prog 28 #[.int .i64 n] w fun e w' => e = .returned (.bool true) ∧ w = w' := by
  go_enter Tryd.func28, Tryd.ntmps28
  go_wp2
  go_ret
  exact ⟨rfl, rfl⟩
theorem numbers_neg (n : Int) (w : World) (h0 : n < 0) :
    Calls Tryd.prog 28 #[.int .i64 n] w fun e w' => e = .returned (.bool false) ∧ w = w' := by
  have hd : decide (0 ≤ n) = false := by simpa using h0
  go_enter Tryd.func28, Tryd.ntmps28
  go_wp2
  go_ret
  exact ⟨rfl, rfl⟩
theorem numbers_big (n : Int) (w : World) (h0 : 0 ≤ n) (h1 : 1099511627776 ≤ n) :
    Calls Tryd.prog 28 #[.int .i64 n] w fun e w' => e = .returned (.bool false) ∧ w = w' := by
  have hd : decide (n < 1099511627776) = false := by simpa using h1
  go_enter Tryd.func28, Tryd.ntmps28
  go_wp2
  go_ret
  exact ⟨rfl, rfl⟩
/-- may a record have this number? -/
def nok (n : Int) : Bool := decide (0 ≤ n ∧ n < 1099511627776)
theorem numbers_any (n : Int) (w : World) : Calls Tryd.prog 28 #[.int .i64 n] w fun e w' => e = .returned (.bool (nok n)) ∧ w = w' := by
  by_cases h0 : 0 ≤ n
  · by_cases h1 : n < 1099511627776
    · rw [show nok n = true from decide_eq_true ⟨h0, h1⟩]; exact numbers_yes n w h0 h1
    · rw [show nok n = false from decide_eq_false (fun h => h1 h.2)]; exact numbers_big n w h0 (by omega)
  · rw [show nok n = false from decide_eq_false (fun h => h0 h.1)]; exact numbers_neg n w (by omega)

/-- the i-th byte of a number of four bytes -/
def hf (x : UInt32) (i : Nat) : UInt8 := UInt8.ofNat (x.toNat / 2 ^ (24 - 8 * i))
theorem hf_toNat (x : UInt32) (i : Nat) : (hf x i).toNat = x.toNat / 2 ^ (24 - 8 * i) % 256 := by unfold hf; rw [UInt8.toNat_ofNat']
theorem hf_wrap (x : UInt32) (k : Nat) : IntKind.u8.wrap (U (sr x k)) = ((x.toNat / 2 ^ k % 256 : Nat) : Int) := by
  rw [IntKind.wrap_u8, ← U_shr]
  unfold U
  rw [Int.natCast_emod, Int.natCast_ediv, Int.natCast_pow]
  rfl
theorem hf_wrap0 (x : UInt32) : U x % 256 = ((x.toNat / 2 ^ 0 % 256 : Nat) : Int) := by unfold U; omega
theorem high_any (x : UInt32) (i : Nat) (hi : i < 4) (w : World) :
    Calls Tryd.prog 57 #[.int .u32 (U x), .int .i64 i] w fun e w' => e = .returned (.int .u8 ((hf x i).toNat : Int)) ∧ w = w' := by
  have hs : i = 0 ∨ i = 1 ∨ i = 2 ∨ i = 3 := by omega
  have b0 := U_lo x
  have b1 := U_hi x
  rw [hf_toNat]
  rcases hs with rfl | rfl | rfl | rfl
  · have H := Lib.hid (hf_wrap x 24)
    go_enter Tryd.func57, Tryd.ntmps57
    go_wp2
    go_ret
    exact ⟨by rw [← H.out]; first | rfl | (simp; done), rfl⟩
  · have H := Lib.hid (hf_wrap x 16)
    go_enter Tryd.func57, Tryd.ntmps57
    go_wp2
    go_ret
    exact ⟨by rw [← H.out]; first | rfl | (simp; done), rfl⟩
  · have H := Lib.hid (hf_wrap x 8)
    go_enter Tryd.func57, Tryd.ntmps57
    go_wp2
    go_ret
    exact ⟨by rw [← H.out]; first | rfl | (simp; done), rfl⟩
  · have H := Lib.hid (hf_wrap0 x)
    go_enter Tryd.func57, Tryd.ntmps57
    go_wp2
    go_ret
    exact ⟨by rw [← H.out]; first | rfl | (simp; done), rfl⟩

theorem be_len (n : Int) (k : Nat) : (be n k).length = k := by
  induction k with
  | zero => rfl
  | succ k ih => simp [be, ih]
/-- the register that has taken a number -/
def nreg (n : Int) : UInt32 := overc 4294967295 (be n 8)
theorem Tw.size {w : World} (h : Tw w) : 0 < w.heap.size := World.block_lt_of_cell? w _ (h 0 (by decide))
def NumAt (n : Int) (w : World) (e : Ending) (w' : World) : Prop := e = .returned (.int .u32 (U (nreg n))) ∧ Upd (fun _ => False) w w'
set_option maxHeartbeats 1000000 in
theorem numbered_any (n : Int) (w : World) (h0 : 0 ≤ n) (h1 : n < 1099511627776) (ht : Tw w) :
    Calls Tryd.prog 36 #[.int .i64 n] w (NumAt n w) := by
  have Ht := Lib.hid ht
  have e0 : IntKind.u64.wrap n = n := by rw [IntKind.wrap_u64]; omega
  have hwf : Hid ((Lit.int .u64 n).wf = true) := by
    have hmin : IntKind.u64.min = 0 := rfl
    have hmax : IntKind.u64.max = 18446744073709551615 := rfl
    show _ = _
    simp only [Lit.wf, Bool.and_eq_true, decide_eq_true_eq]
    omega
  clear ht
  go_enter Tryd.func36, Tryd.ntmps36
  go_wp2_with fail
  refine (new_any _).mono ?_
  rintro e w1 ⟨rfl, hw1, hu1⟩
  have HW1 := Lib.hid hw1
  have HU1 := Lib.hid hu1
  clear hw1 hu1
  go_wp2_with fail
  refine (put64 w.heap.size _ _ n w1 h0 hwf.out HW1.out (by simp)).mono ?_
  rintro e w2 ⟨rfl, v2, hw2, hu2, ho2⟩
  rw [List.nil_append] at hw2
  have HW2 := Lib.hid hw2
  have HU2 : Hid (Upd (fun _ => False) w w2) := HU1.out.trans (hu2.mono (fun k _ h => by
    rcases h with h | h
    · exact .inr (by omega)
    · simp [own, Value.ownBlock] at h))
  clear hw2 hu2 ho2
  go_wp2_with fail
  refine (all_any w.heap.size v2 _ w2 HW2.out (by rw [be_len]; omega)).mono ?_
  rintro e w3 ⟨v3, rfl, hown3, hu3⟩
  have HU3 : Hid (Upd (fun _ => False) w w3) := HU2.out.trans (hu3.mono (fun _ _ h => h.elim))
  have hsl := Sl.of_row hown3
  obtain ⟨ao, cap, rfl, hrest⟩ := hsl
  have HS3 : Hid (Sl w3 (.slice ao (be n 8).length cap) (be n 8)) := ⟨ao, cap, rfl, hrest⟩
  have HO := Lib.hid (over_any 4294967295 ao _ cap (be n 8) w3 HS3.out (Ht.out.upd HU3.out id) (by rw [be_len]; omega))
  have eU : U 4294967295 = 4294967295 := rfl
  rw [eU] at HO
  clear eU hown3 hu3 hrest
  go_wp2_with fail
  refine HO.out.mono ?_
  rintro e w4 ⟨rfl, rfl⟩
  go_wp2
  go_ret
  exact ⟨rfl, HU3.out⟩
end Go.Proofs.YtgfdnljblfkhkabDoor.FrScan
