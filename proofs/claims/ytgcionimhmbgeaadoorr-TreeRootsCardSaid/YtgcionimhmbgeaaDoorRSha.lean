/-
  SHA-256 on lists of bytes, in plain words; the model's arithmetic of 32 bits as UInt32's.
-/
import Derived.Laws.BitsAllLaws
import Derived.Tactics
namespace Go.Proofs.YtgcionimhmbgeaaDoorR.Sha
open Go
def U (x : UInt32) : Int := (x.toNat : Int)
theorem U_lo (x : UInt32) : 0 ≤ U x := Int.natCast_nonneg _
theorem U_hi (x : UInt32) : U x < 4294967296 := by have := x.toNat_lt; unfold U; omega
theorem u_add (x y : UInt32) : IntKind.u32.wrap (U x + U y) = U (x + y) := by
  rw [IntKind.wrap_u32', U, U, U, UInt32.toNat_add]; omega
theorem u_and (x y : UInt32) : bits .and .u32 (U x) (U y) = U (x &&& y) := by
  unfold U; rw [u32_and_nat _ _ x.toNat_lt y.toNat_lt, UInt32.toNat_and]
theorem u_or (x y : UInt32) : bits .or .u32 (U x) (U y) = U (x ||| y) := by
  unfold U; rw [u32_or_nat _ _ x.toNat_lt y.toNat_lt, UInt32.toNat_or]
theorem u_xor (x y : UInt32) : bits .xor .u32 (U x) (U y) = U (x ^^^ y) := by
  unfold U; rw [u32_xor_nat _ _ x.toNat_lt y.toNat_lt, UInt32.toNat_xor]
def sr (x : UInt32) (n : Nat) : UInt32 := UInt32.ofNat (x.toNat / 2 ^ n)
def sl (x : UInt32) (n : Nat) : UInt32 := UInt32.ofNat (x.toNat * 2 ^ n)
theorem U_shr (x : UInt32) (n : Nat) : U x / 2 ^ n = U (sr x n) := by
  unfold U sr
  have h : x.toNat / 2 ^ n < 2 ^ 32 := Nat.lt_of_le_of_lt (Nat.div_le_self _ _) x.toNat_lt
  rw [UInt32.toNat_ofNat_of_lt' h]; norm_cast
theorem wrap_shl (x : UInt32) (n : Nat) : IntKind.u32.wrap (U x * 2 ^ n) = U (sl x n) := by
  unfold U sl
  have e : ((x.toNat : Int) * 2 ^ n) = ((x.toNat * 2 ^ n : Nat) : Int) := by rw [Int.natCast_mul, Int.natCast_pow]; rfl
  rw [IntKind.wrap_u32', UInt32.toNat_ofNat', e]
  generalize x.toNat * 2 ^ n = y
  omega
def rotr (x : UInt32) (n : Nat) : UInt32 := sr x n ||| sl x (32 - n)
theorem or_comm (x y : UInt32) : x ||| y = y ||| x := by
  apply UInt32.toNat_inj.1
  rw [UInt32.toNat_or, UInt32.toNat_or, Nat.or_comm]
theorem rot_or (x : UInt32) (n : Nat) : bits .or .u32 (U x * 2 ^ (32 - n) % 4294967296) (U x / 2 ^ n) = U (rotr x n) := by
  rw [← IntKind.wrap_u32', wrap_shl, U_shr, u_or, or_comm]; rfl
theorem or_rot (x : UInt32) (n : Nat) : bits .or .u32 (U x / 2 ^ n) (U x * 2 ^ (32 - n) % 4294967296) = U (rotr x n) := by
  rw [← IntKind.wrap_u32', wrap_shl, U_shr, u_or]; rfl
def K : List UInt32 := [
    0x428a2f98, 0x71374491, 0xb5c0fbcf, 0xe9b5dba5, 0x3956c25b, 0x59f111f1, 0x923f82a4, 0xab1c5ed5,
    0xd807aa98, 0x12835b01, 0x243185be, 0x550c7dc3, 0x72be5d74, 0x80deb1fe, 0x9bdc06a7, 0xc19bf174,
    0xe49b69c1, 0xefbe4786, 0x0fc19dc6, 0x240ca1cc, 0x2de92c6f, 0x4a7484aa, 0x5cb0a9dc, 0x76f988da,
    0x983e5152, 0xa831c66d, 0xb00327c8, 0xbf597fc7, 0xc6e00bf3, 0xd5a79147, 0x06ca6351, 0x14292967,
    0x27b70a85, 0x2e1b2138, 0x4d2c6dfc, 0x53380d13, 0x650a7354, 0x766a0abb, 0x81c2c92e, 0x92722c85,
    0xa2bfe8a1, 0xa81a664b, 0xc24b8b70, 0xc76c51a3, 0xd192e819, 0xd6990624, 0xf40e3585, 0x106aa070,
    0x19a4c116, 0x1e376c08, 0x2748774c, 0x34b0bcb5, 0x391c0cb3, 0x4ed8aa4a, 0x5b9cca4f, 0x682e6ff3,
    0x748f82ee, 0x78a5636f, 0x84c87814, 0x8cc70208, 0x90befffa, 0xa4506ceb, 0xbef9a3f7, 0xc67178f2]
def s0 (x : UInt32) : UInt32 := rotr x 7 ^^^ rotr x 18 ^^^ sr x 3
def s1 (x : UInt32) : UInt32 := rotr x 17 ^^^ rotr x 19 ^^^ sr x 10
structure St where
  (a b c d e f g h : UInt32)
def tx (s : St) (k w : UInt32) : UInt32 := s.h + (rotr s.e 6 ^^^ rotr s.e 11 ^^^ rotr s.e 25) + (s.e &&& s.f ^^^ ~~~ s.e &&& s.g) + k + w
def ty (s : St) : UInt32 := (rotr s.a 2 ^^^ rotr s.a 13 ^^^ rotr s.a 22) + (s.a &&& s.b ^^^ s.a &&& s.c ^^^ s.b &&& s.c)
def round (s : St) (k w : UInt32) : St := ⟨tx s k w + ty s, s.a, s.b, s.c, s.d + tx s k w, s.e, s.f, s.g⟩
def word (m : List UInt8) (t : Nat) : UInt32 := sl (m.getD (4 * t + 0) 0).toUInt32 24 ||| sl (m.getD (4 * t + 1) 0).toUInt32 16 ||| sl (m.getD (4 * t + 2) 0).toUInt32 8 ||| (m.getD (4 * t + 3) 0).toUInt32
def grow (l : List UInt32) : List UInt32 := l ++ [l.getD (l.length - 16) 0 + s0 (l.getD (l.length - 15) 0) + l.getD (l.length - 7) 0 + s1 (l.getD (l.length - 2) 0)]
def sched (m : List UInt8) : Nat → List UInt32
  | 0 => (List.range 16).map (word m)
  | n + 1 => grow (sched m n)
def rounds (m : List UInt8) (s : St) : Nat → St
  | 0 => s
  | t + 1 => round (rounds m s t) (K.getD t 0) ((sched m 48).getD t 0)
def St.add (s r : St) : St := ⟨s.a + r.a, s.b + r.b, s.c + r.c, s.d + r.d, s.e + r.e, s.f + r.f, s.g + r.g, s.h + r.h⟩
def mix (s : St) (m : List UInt8) : St := s.add (rounds m s 64)
def init : St := ⟨0x6a09e667, 0xbb67ae85, 0x3c6ef372, 0xa54ff53a, 0x510e527f, 0x9b05688c, 0x1f83d9ab, 0x5be0cd19⟩
def blocks (s : St) : Nat → List UInt8 → St
  | 0, _ => s
  | n + 1, l => blocks (mix s (l.take 64)) n (l.drop 64)
def len8 (n : Nat) : List UInt8 := (List.range 8).map fun i => UInt8.ofNat (8 * n / 2 ^ (56 - 8 * i))
def pad (l : List UInt8) : List UInt8 := l ++ 128 :: List.replicate ((119 - l.length % 64) % 64) 0 ++ len8 l.length
def out (s : St) : List UInt8 := [s.a, s.b, s.c, s.d, s.e, s.f, s.g, s.h].flatMap fun n => [UInt8.ofNat (n.toNat / 2^24), UInt8.ofNat (n.toNat / 2^16), UInt8.ofNat (n.toNat / 2^8), UInt8.ofNat n.toNat]
def sha (l : List UInt8) : List UInt8 := out (blocks init ((pad l).length / 64) (pad l))
theorem g_add (x y : UInt32) : (U x + U y) % 4294967296 = U (x + y) := by rw [← IntKind.wrap_u32', u_add]
theorem g_byte (c : UInt8) : IntKind.u32.wrap ((c.toNat : Nat) : Int) = U c.toUInt32 := by
  rw [IntKind.wrap_u32', U, UInt8.toNat_toUInt32]; have := c.toNat_lt; omega
theorem g_byte' (c : UInt8) : ((c.toNat : Nat) : Int) % 4294967296 = U c.toUInt32 := by rw [← IntKind.wrap_u32', g_byte]
theorem g_sl8 (x : UInt32) : U x * 256 % 4294967296 = U (sl x 8) := by rw [← IntKind.wrap_u32']; exact wrap_shl x 8
theorem g_sl16 (x : UInt32) : U x * 65536 % 4294967296 = U (sl x 16) := by rw [← IntKind.wrap_u32']; exact wrap_shl x 16
theorem g_sl24 (x : UInt32) : U x * 16777216 % 4294967296 = U (sl x 24) := by rw [← IntKind.wrap_u32']; exact wrap_shl x 24
theorem g_sr3 (x : UInt32) : U x / 8 = U (sr x 3) := U_shr x 3
theorem g_sr10 (x : UInt32) : U x / 1024 = U (sr x 10) := U_shr x 10
theorem g_sr8 (x : UInt32) : U x / 256 = U (sr x 8) := U_shr x 8
theorem g_sr16 (x : UInt32) : U x / 65536 = U (sr x 16) := U_shr x 16
theorem g_sr24 (x : UInt32) : U x / 16777216 = U (sr x 24) := U_shr x 24
theorem h_sl8 (x : UInt32) : IntKind.u32.wrap (U x * 256) = U (sl x 8) := wrap_shl x 8
theorem h_sl16 (x : UInt32) : IntKind.u32.wrap (U x * 65536) = U (sl x 16) := wrap_shl x 16
theorem h_sl24 (x : UInt32) : IntKind.u32.wrap (U x * 16777216) = U (sl x 24) := wrap_shl x 24
attribute [go_sem] h_sl8 h_sl16 h_sl24 g_add u_add u_and u_or u_xor g_byte g_byte' g_sl8 g_sl16 g_sl24 g_sr3 g_sr10 g_sr8 g_sr16 g_sr24
def W (x : UInt32) : Value := .int .u32 (U x)
def ws (s : St) : List UInt32 := [s.a, s.b, s.c, s.d, s.e, s.f, s.g, s.h]
def St.of (l : List UInt32) : St := ⟨l.getD 0 0, l.getD 1 0, l.getD 2 0, l.getD 3 0, l.getD 4 0, l.getD 5 0, l.getD 6 0, l.getD 7 0⟩
end Go.Proofs.YtgcionimhmbgeaaDoorR.Sha
