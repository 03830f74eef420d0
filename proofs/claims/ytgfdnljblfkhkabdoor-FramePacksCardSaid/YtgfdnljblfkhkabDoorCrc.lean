/-
  CRC-32 on lists of bytes, in plain words: bit by bit, and by half bytes.
-/
import Derived.Test.YtgfdnljblfkhkabDoorSha
namespace Go.Proofs.YtgfdnljblfkhkabDoor.Crc
open Go
set_option linter.unusedSimpArgs false
def PP : UInt32 := 3988292384
def bit1 (r : UInt32) : UInt32 := if r &&& 1 = 1 then r >>> 1 ^^^ PP else r >>> 1
def bits8 (r : UInt32) : Nat → UInt32
  | 0 => r
  | n + 1 => bit1 (bits8 r n)
def stepc (r : UInt32) (c : UInt8) : UInt32 := bits8 (r ^^^ c.toUInt32) 8
def overc (r : UInt32) (l : List UInt8) : UInt32 := l.foldl stepc r
def crc (l : List UInt8) : UInt32 := ~~~ overc 0xFFFFFFFF l
def T16 : List UInt32 := [
  0x00000000, 0x1db71064, 0x3b6e20c8, 0x26d930ac, 0x76dc4190, 0x6b6b51f4, 0x4db26158, 0x5005713c,
  0xedb88320, 0xf00f9344, 0xd6d6a3e8, 0xcb61b38c, 0x9b64c2b0, 0x86d3d2d4, 0xa00ae278, 0xbdbdf21c]
/-- the bit as a mask -/
def low1 (r : UInt32) : UInt32 := if r &&& 1 = 1 then PP else 0
theorem bit1_eq (r : UInt32) : bit1 r = r >>> 1 ^^^ low1 r := by
  unfold bit1 low1; split <;> simp
theorem and1 (r : UInt32) : r &&& 1 = 0 ∨ r &&& 1 = 1 := by
  have h : (r &&& 1).toNat = r.toNat % 2 := by rw [UInt32.toNat_and]; exact Nat.and_one_is_mod _
  rcases Nat.mod_two_eq_zero_or_one r.toNat with h2 | h2
  · left; apply UInt32.toNat_inj.1; rw [h, h2]; rfl
  · right; apply UInt32.toNat_inj.1; rw [h, h2]; rfl
theorem low1_xor (a b : UInt32) : low1 (a ^^^ b) = low1 a ^^^ low1 b := by
  have e : (a ^^^ b) &&& 1 = (a &&& 1) ^^^ (b &&& 1) := by
    apply UInt32.toBitVec_inj.1
    ext i hi
    simp [Bool.and_xor_distrib_right]
  unfold low1
  rw [e]
  rcases and1 a with ha | ha <;> rcases and1 b with hb | hb <;> rw [ha, hb] <;> decide
theorem xor4 (a b c d : UInt32) : (a ^^^ b) ^^^ (c ^^^ d) = (a ^^^ c) ^^^ (b ^^^ d) := by
  apply UInt32.toBitVec_inj.1
  ext i hi
  simp
  cases a.toBitVec[i] <;> cases b.toBitVec[i] <;> cases c.toBitVec[i] <;> cases d.toBitVec[i] <;> rfl
theorem shr_xor (a b : UInt32) : (a ^^^ b) >>> 1 = a >>> 1 ^^^ b >>> 1 := by
  apply UInt32.toBitVec_inj.1
  ext i hi
  simp
theorem bit1_xor (a b : UInt32) : bit1 (a ^^^ b) = bit1 a ^^^ bit1 b := by
  rw [bit1_eq, bit1_eq, bit1_eq, low1_xor, shr_xor, xor4]
theorem bits8_xor (a b : UInt32) (n : Nat) : bits8 (a ^^^ b) n = bits8 a n ^^^ bits8 b n := by
  induction n with
  | zero => rfl
  | succ n ih => simp only [bits8, ih, bit1_xor]
theorem bit1_even (a : UInt32) (m : Nat) (h : a.toNat = 2 * m) : (bit1 a).toNat = m := by
  have e : a &&& 1 = 0 := by
    apply UInt32.toNat_inj.1
    rw [UInt32.toNat_and, h]
    show (2 * m) &&& 1 = 0
    rw [Nat.and_one_is_mod]; omega
  have e2 : bit1 a = a >>> 1 := by unfold bit1; rw [e]; rfl
  rw [e2, UInt32.toNat_shiftRight, h, Nat.shiftRight_eq_div_pow]
  show 2 * m / 2 ^ 1 = m
  omega
theorem bits4_hi (a : UInt32) (k : Nat) (h : a.toNat = 16 * k) : (bits8 a 4).toNat = k := by
  have h1 := bit1_even a (8 * k) (by omega)
  have h2 := bit1_even (bit1 a) (4 * k) (by omega)
  have h3 := bit1_even (bit1 (bit1 a)) (2 * k) (by omega)
  exact bit1_even (bit1 (bit1 (bit1 a))) k (by omega)
theorem bits4_lo : ∀ b, b < 16 → bits8 (UInt32.ofNat b) 4 = T16.getD b 0 := by decide
theorem split4 (r : UInt32) : r = UInt32.ofNat (16 * (r.toNat / 16)) ^^^ UInt32.ofNat (r.toNat % 16) := by
  apply UInt32.toNat_inj.1
  have hr := r.toNat_lt
  rw [UInt32.toNat_xor, UInt32.toNat_ofNat_of_lt' (by simp [UInt32.size]; omega), UInt32.toNat_ofNat_of_lt' (by simp [UInt32.size]; omega)]
  have h : r.toNat = 2 ^ 4 * (r.toNat / 16) + r.toNat % 16 := by omega
  apply Nat.eq_of_testBit_eq
  intro i
  rw [Nat.testBit_xor]
  conv => lhs; rw [h, Nat.testBit_two_pow_mul_add _ (by omega : r.toNat % 16 < 2 ^ 4)]
  have e := Nat.testBit_two_pow_mul (i := 4) (a := r.toNat / 16) (j := i)
  rw [show 16 * (r.toNat / 16) = 2 ^ 4 * (r.toNat / 16) from rfl, e]
  by_cases hi : i < 4
  · simp [show ¬ 4 ≤ i by omega]
  · rw [if_neg hi, Nat.testBit_lt_two_pow (x := r.toNat % 16) (Nat.lt_of_lt_of_le (by omega : r.toNat % 16 < 2 ^ 4) (Nat.pow_le_pow_right (by omega) (by omega)))]
    simp [hi, show 4 ≤ i by omega]
def half (r : UInt32) : UInt32 := UInt32.ofNat (r.toNat / 16) ^^^ T16.getD (r.toNat % 16) 0
theorem bits4 (r : UInt32) : bits8 r 4 = half r := by
  have hr := r.toNat_lt
  conv => lhs; rw [split4 r, bits8_xor, bits4_lo (r.toNat % 16) (by omega)]
  unfold half
  congr 1
  apply UInt32.toNat_inj.1
  rw [bits4_hi _ (r.toNat / 16) (UInt32.toNat_ofNat_of_lt' (by simp [UInt32.size]; omega)), UInt32.toNat_ofNat_of_lt' (by simp [UInt32.size]; omega)]
theorem bits8_add (r : UInt32) (m n : Nat) : bits8 r (m + n) = bits8 (bits8 r m) n := by
  induction n with
  | zero => rfl
  | succ n ih => show bit1 (bits8 r (m + n)) = _; rw [ih]; rfl
theorem stepc_half (r : UInt32) (c : UInt8) : stepc r c = half (half (r ^^^ c.toUInt32)) := by
  unfold stepc
  rw [bits8_add _ 4 4, bits4, bits4]
end Go.Proofs.YtgfdnljblfkhkabDoor.Crc
