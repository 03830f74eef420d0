/-
  bits.Len64, Len, TrailingZeros64, TrailingZeros.
-/
import Derived.Test.YtgcionimhmbgeaaDoorRRows
import Derived.Test.YtgcionimhmbgeaaDoorRMem
import Derived.Test.YtgcionimhmbgeaaDoorRSpL
import Derived.WalkKit
import Derived.ProofKit
import Derived.Lib.Strings
import Derived.Lib.Slices
import Derived.Lib.Small
import Derived.Lib.BitFns
import Derived.Lib.Walk
import Derived.Lib.Tables
import Derived.Lib.TrailingZeros
import Derived.Laws.Bits64b
namespace Go.Proofs.YtgcionimhmbgeaaDoorR.BitsW
open Go.RowKit Mem
set_option linter.unusedVariables false
set_option linter.unusedSimpArgs false

theorem len_at (x y : Int) (k : Nat) (h0 : 0 ≤ x) (h1 : x < 18446744073709551616) (hy : y = x / (2 : Int) ^ k % 256) (hk : x.toNat / 2 ^ k < 256) (hb : k = 0 ∨ 2 ^ k ≤ x.toNat) :
    Go.Lib.len8 y + (k : Int) = (Go.Lib.bitLen x.toNat : Int) ∧ 0 ≤ Go.Lib.len8 y ∧ Go.Lib.len8 y ≤ 8 := by
  obtain ⟨n, rfl⟩ : ∃ n : Nat, x = n := ⟨x.toNat, by omega⟩
  rw [Int.toNat_natCast] at hk hb ⊢
  have hy2 : y = ((n / 2 ^ k : Nat) : Int) := by
    rw [hy]
    have e : (n : Int) / (2 : Int) ^ k = ((n / 2 ^ k : Nat) : Int) := by rw [Int.natCast_ediv, Int.natCast_pow]; rfl
    rw [e]
    obtain ⟨m, hm⟩ : ∃ m, m = n / 2 ^ k := ⟨_, rfl⟩
    rw [← hm] at hk ⊢
    clear e hm hy
    omega
  have h8 := Go.Lib.bitLen_le8' y (by omega) (by omega)
  rw [Go.Lib.len8_of y (by omega) (by omega), hy2, Int.toNat_natCast]
  rw [hy2, Int.toNat_natCast] at h8
  rcases hb with rfl | hb
  · simp at h8 ⊢
    omega
  · have hs := Go.Lib.bitLen_shift k n hb (by omega)
    omega
set_option maxHeartbeats 4000000 in
set_option maxRecDepth 100000 in
theorem len64_any (x : Int) (w : World) (h0 : 0 ≤ x) (h1 : x ≤ 18446744073709551615) :
    Calls Tryd.prog 95 #[.int .u64 x] w fun e w' => e = .returned (.int .i64 (Go.Lib.bitLen x.toNat)) ∧ w = w' := by
  by_cases c0 : 4294967296 ≤ x
  · by_cases c1 : 65536 ≤ x / 4294967296
    · by_cases c2 : 256 ≤ x / 4294967296 / 65536
      · have a0 : 0 ≤ x / 4294967296 / 65536 / 256 := by omega
        have a1 : x / 4294967296 / 65536 / 256 ≤ 255 := by omega
        have h := len_at x (x / 4294967296 / 65536 / 256) 56 h0 (by omega) (by omega) (by omega) (by omega)
        go_enter Tryd.func95, Tryd.ntmps95
        go_wp2
        go_ret
        exact ⟨congrArg (fun n => Ending.returned (Value.int IntKind.i64 n)) (by omega), rfl⟩
      · have a0 : 0 ≤ x / 4294967296 / 65536 := by omega
        have a1 : x / 4294967296 / 65536 ≤ 255 := by omega
        have h := len_at x (x / 4294967296 / 65536) 48 h0 (by omega) (by omega) (by omega) (by omega)
        go_enter Tryd.func95, Tryd.ntmps95
        go_wp2
        go_ret
        exact ⟨congrArg (fun n => Ending.returned (Value.int IntKind.i64 n)) (by omega), rfl⟩
    · by_cases c2 : 256 ≤ x / 4294967296
      · have a0 : 0 ≤ x / 4294967296 / 256 := by omega
        have a1 : x / 4294967296 / 256 ≤ 255 := by omega
        have h := len_at x (x / 4294967296 / 256) 40 h0 (by omega) (by omega) (by omega) (by omega)
        go_enter Tryd.func95, Tryd.ntmps95
        go_wp2
        go_ret
        exact ⟨congrArg (fun n => Ending.returned (Value.int IntKind.i64 n)) (by omega), rfl⟩
      · have a0 : 0 ≤ x / 4294967296 := by omega
        have a1 : x / 4294967296 ≤ 255 := by omega
        have h := len_at x (x / 4294967296) 32 h0 (by omega) (by omega) (by omega) (by omega)
        go_enter Tryd.func95, Tryd.ntmps95
        go_wp2
        go_ret
        exact ⟨congrArg (fun n => Ending.returned (Value.int IntKind.i64 n)) (by omega), rfl⟩
  · by_cases c1 : 65536 ≤ x
    · by_cases c2 : 256 ≤ x / 65536
      · have a0 : 0 ≤ x / 65536 / 256 := by omega
        have a1 : x / 65536 / 256 ≤ 255 := by omega
        have h := len_at x (x / 65536 / 256) 24 h0 (by omega) (by omega) (by omega) (by omega)
        go_enter Tryd.func95, Tryd.ntmps95
        go_wp2
        go_ret
        exact ⟨congrArg (fun n => Ending.returned (Value.int IntKind.i64 n)) (by omega), rfl⟩
      · have a0 : 0 ≤ x / 65536 := by omega
        have a1 : x / 65536 ≤ 255 := by omega
        have h := len_at x (x / 65536) 16 h0 (by omega) (by omega) (by omega) (by omega)
        go_enter Tryd.func95, Tryd.ntmps95
        go_wp2
        go_ret
        exact ⟨congrArg (fun n => Ending.returned (Value.int IntKind.i64 n)) (by omega), rfl⟩
    · by_cases c2 : 256 ≤ x
      · have a0 : 0 ≤ x / 256 := by omega
        have a1 : x / 256 ≤ 255 := by omega
        have h := len_at x (x / 256) 8 h0 (by omega) (by omega) (by omega) (by omega)
        go_enter Tryd.func95, Tryd.ntmps95
        go_wp2
        go_ret
        exact ⟨congrArg (fun n => Ending.returned (Value.int IntKind.i64 n)) (by omega), rfl⟩
      · have a0 : 0 ≤ x := by omega
        have a1 : x ≤ 255 := by omega
        have h := len_at x (x) 0 h0 (by omega) (by omega) (by omega) (by omega)
        go_enter Tryd.func95, Tryd.ntmps95
        go_wp2
        go_ret
        exact ⟨congrArg (fun n => Ending.returned (Value.int IntKind.i64 n)) (by omega), rfl⟩

theorem len_any (x : Int) (w : World) (h0 : 0 ≤ x) (h1 : x ≤ 18446744073709551615) :
    Calls Tryd.prog 77 #[.int .u64 x] w fun e w' => e = .returned (.int .i64 (Go.Lib.bitLen x.toNat)) ∧ w = w' := by
  go_enter Tryd.func77, Tryd.ntmps77
  go_wp2_with (go_at_call 95; refine (len64_any x _ h0 h1).mono ?_; rintro e w' ⟨rfl, rfl⟩)
  go_ret
  exact ⟨rfl, rfl⟩

/-- deBruijn64tab reads as the table -/
def Zw (w : World) : Prop := ∀ j, j < 64 → w.cell? ⟨1, j, none⟩ = some (.int .u8 (Go.Lib.deBruijn64tab.getD j 0))
theorem Zw.upd {S : Nat → Prop} {w w' : World} (h : Zw w) (hu : Upd S w w') (hs : ¬ S 1) : Zw w' := fun t ht => hu.cell (h t ht) hs

theorem tz64_key (x a : Nat) (hx : x < 18446744073709551616) (hx0 : x ≠ 0) (hlow : x &&& (18446744073709551616 - x) = a) :
    IntKind.u64.wrap (bits BinOp.and IntKind.u64 (x : Int) (IntKind.u64.wrap (-(x : Int))) * 285870213051353865) / 288230376151711744 = ((a * 285870213051353865 % 18446744073709551616 / 288230376151711744 : Nat) : Int) := by
  have e1 : IntKind.u64.wrap (-(x : Int)) = ((18446744073709551616 - x : Nat) : Int) := by rw [IntKind.wrap_u64]; omega
  rw [e1, bits_and_u64_nat x _ hx (by omega), hlow, IntKind.wrap_u64]
  omega
theorem tz64_core (x k idx : Nat) (w : World) (hx0 : ((x : Int) == 0) = false)
    (key : IntKind.u64.wrap (bits BinOp.and IntKind.u64 (x : Int) (IntKind.u64.wrap (-(x : Int))) * 285870213051353865) / 288230376151711744 = (idx : Int))
    (hi : idx < 64) (hk : k < 64) (hcell : w.cell? ⟨1, idx, none⟩ = some (.int .u8 k)) :
    Calls Tryd.prog 76 #[.int .u64 x] w fun e w' => e = .returned (.int .i64 k) ∧ w = w' := by
  go_enter Tryd.func76, Tryd.ntmps76
  go_wp2_with (simp only [key])
  go_ret
  exact ⟨rfl, rfl⟩
theorem tz64_zero (w : World) : Calls Tryd.prog 76 #[.int .u64 0] w fun e w' => e = .returned (.int .i64 64) ∧ w = w' := by
  go_enter Tryd.func76, Tryd.ntmps76
  go_wp2
  go_ret
  exact ⟨rfl, rfl⟩
theorem tz64_any (x : Nat) (hx : x < 18446744073709551616) (w : World) (hT : Zw w) :
    Calls Tryd.prog 76 #[.int .u64 x] w fun e w' => e = .returned (.int .i64 (Go.Lib.ctz 64 x)) ∧ w = w' := by
  by_cases hx0 : x = 0
  · subst hx0
    exact tz64_zero w
  · obtain ⟨hlow, hk⟩ := Go.Lib.lowest_bit 64 x hx0 hx
    obtain ⟨hi, htab⟩ := Go.Lib.deBruijn64_at _ hk
    have hcell := hT _ hi
    rw [htab] at hcell
    exact tz64_core x _ _ w (by simp; omega) (tz64_key x _ hx hx0 hlow) hi hk hcell
theorem tz_any (x : Nat) (hx : x < 18446744073709551616) (w : World) (hT : Zw w) :
    Calls Tryd.prog 41 #[.int .u64 x] w fun e w' => e = .returned (.int .i64 (Go.Lib.ctz 64 x)) ∧ w = w' := by
  have c64 := Lib.hid (tz64_any x hx w hT)
  have hw : IntKind.u64.wrap (x : Int) = (x : Int) := by rw [IntKind.wrap_u64]; omega
  clear hT
  go_enter Tryd.func41, Tryd.ntmps41
  go_wp2_with (go_at_call 76; refine c64.out.mono ?_; rintro e w' ⟨rfl, rfl⟩)
  go_ret
  exact ⟨rfl, rfl⟩
/-- tree.floorLog -/
theorem flog_any (n : Nat) (h0 : 0 < n) (hn : n < 9223372036854775808) (w : World) :
    Calls Tryd.prog 42 #[.int .i64 n] w fun e w' => e = .returned (.int .i64 (SpL.flog n)) ∧ w = w' := by
  have c := Lib.hid (len_any (n : Int) w (by omega) (by omega))
  have hl : 1 ≤ Go.Lib.bitLen n := SpL.bitLen_ge n 0 h0 (by omega)
  have hl2 : Go.Lib.bitLen n ≤ 64 := Go.Lib.bitLen_le n 64 (Nat.le_refl _) (by omega)
  have he : Hid ((SpL.flog n : Int) = (Go.Lib.bitLen n : Int) - 1) := by show _ = _; unfold SpL.flog; omega
  rw [he.out]
  rw [Int.toNat_natCast] at c
  obtain ⟨m, hm⟩ : ∃ m, m = Go.Lib.bitLen n := ⟨_, rfl⟩
  rw [← hm] at c hl hl2 ⊢
  clear he hm
  go_enter Tryd.func42, Tryd.ntmps42
  go_wp2_with (go_at_call 77; refine c.out.mono ?_; rintro e w' ⟨rfl, rfl⟩)
  go_ret
  exact ⟨rfl, rfl⟩
end Go.Proofs.YtgcionimhmbgeaaDoorR.BitsW
