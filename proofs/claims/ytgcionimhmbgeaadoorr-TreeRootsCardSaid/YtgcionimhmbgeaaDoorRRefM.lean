/-
  Plain facts for docketref2.Sum.
-/
import Derived.Test.YtgcionimhmbgeaaDoorRSha
namespace Go.Proofs.YtgcionimhmbgeaaDoorR.RefM
open Go Sha
set_option linter.unusedVariables false

theorem pad_len (l : List UInt8) : (pad l).length = (l.length + 72) / 64 * 64 := by
  unfold pad len8
  simp
  omega
theorem pad_lt {l : List UInt8} {i : Nat} (h : i < l.length) : (pad l).getD i 0 = l.getD i 0 := by
  unfold pad
  rw [List.getD_eq_getElem?_getD, List.getD_eq_getElem?_getD, List.append_assoc, List.getElem?_append_left h]
theorem pad_eq (l : List UInt8) : (pad l).getD l.length 0 = 128 := by
  unfold pad
  rw [List.getD_eq_getElem?_getD, List.append_assoc, List.getElem?_append_right (Nat.le_refl _), Nat.sub_self]
  rfl
theorem pad_end {l : List UInt8} {i : Nat} (h0 : l.length < i) (h1 : (l.length + 72) / 64 * 64 - 8 ≤ i) (h2 : i < (l.length + 72) / 64 * 64) :
    (pad l).getD i 0 = UInt8.ofNat (8 * l.length / 2 ^ (8 * ((l.length + 72) / 64 * 64 - 1 - i))) := by
  unfold pad
  have hl : (l ++ 128 :: List.replicate ((119 - l.length % 64) % 64) (0 : UInt8)).length = (l.length + 72) / 64 * 64 - 8 := by simp; omega
  rw [List.getD_eq_getElem?_getD, List.getElem?_append_right (by omega), hl]
  unfold len8
  rw [List.getElem?_map, List.getElem?_range (by omega)]
  simp only [Option.map_some, Option.getD_some]
  congr 3
  omega
theorem pad_mid {l : List UInt8} {i : Nat} (h0 : l.length < i) (h1 : i < (l.length + 72) / 64 * 64 - 8) : (pad l).getD i 0 = 0 := by
  unfold pad
  have hl : (l ++ 128 :: List.replicate ((119 - l.length % 64) % 64) (0 : UInt8)).length = (l.length + 72) / 64 * 64 - 8 := by simp; omega
  rw [List.getD_eq_getElem?_getD, List.getElem?_append_left (by omega), List.getElem?_append_right (by omega), show i - l.length = (i - l.length - 1) + 1 by omega, List.getElem?_cons_succ, List.getElem?_replicate]
  split <;> rfl

/-- the bytes 4q .. 4q+c-1 as a number -/
def pw (m : List UInt8) (q : Nat) : Nat → UInt32
  | 0 => 0
  | c + 1 => sl (pw m q c) 8 ||| (m.getD (4 * q + c) 0).toUInt32
theorem sl_or (x : UInt32) (c : UInt8) : (sl x 8 ||| c.toUInt32).toNat = x.toNat * 256 % 4294967296 + c.toNat := by
  unfold sl
  rw [UInt32.toNat_or, UInt32.toNat_ofNat', UInt8.toNat_toUInt32]
  have hb := c.toNat_lt
  have h1 : x.toNat * 2 ^ 8 % 2 ^ 32 = 2 ^ 8 * (x.toNat % 2 ^ 24) := by omega
  rw [h1, ← Nat.two_pow_add_eq_or_of_lt (by omega)]
theorem or4 (a b c d : UInt8) : (sl a.toUInt32 24 ||| sl b.toUInt32 16 ||| sl c.toUInt32 8 ||| d.toUInt32).toNat = ((a.toNat * 256 + b.toNat) * 256 + c.toNat) * 256 + d.toNat := by
  have ha := a.toNat_lt
  have hb := b.toNat_lt
  have hc := c.toNat_lt
  have hd := d.toNat_lt
  unfold sl
  rw [UInt32.toNat_or, UInt32.toNat_or, UInt32.toNat_or, UInt32.toNat_ofNat', UInt32.toNat_ofNat', UInt32.toNat_ofNat', UInt8.toNat_toUInt32, UInt8.toNat_toUInt32, UInt8.toNat_toUInt32, UInt8.toNat_toUInt32]
  rw [show a.toNat * 2 ^ 24 % 2 ^ 32 = 2 ^ 24 * a.toNat by omega, show b.toNat * 2 ^ 16 % 2 ^ 32 = b.toNat * 2 ^ 16 by omega, show c.toNat * 2 ^ 8 % 2 ^ 32 = c.toNat * 2 ^ 8 by omega]
  rw [← Nat.two_pow_add_eq_or_of_lt (i := 24) (by omega), show 2 ^ 24 * a.toNat + b.toNat * 2 ^ 16 = 2 ^ 16 * (a.toNat * 256 + b.toNat) by omega]
  rw [← Nat.two_pow_add_eq_or_of_lt (i := 16) (by omega), show 2 ^ 16 * (a.toNat * 256 + b.toNat) + c.toNat * 2 ^ 8 = 2 ^ 8 * ((a.toNat * 256 + b.toNat) * 256 + c.toNat) by omega]
  rw [← Nat.two_pow_add_eq_or_of_lt (i := 8) (by omega)]
  omega
theorem pw_four (m : List UInt8) (q : Nat) : pw m q 4 = word m q := by
  apply UInt32.toNat_inj.1
  unfold word
  rw [or4]
  simp only [pw, sl_or]
  have ha := (m.getD (4 * q + 0) 0).toNat_lt
  have hb := (m.getD (4 * q + 1) 0).toNat_lt
  have hc := (m.getD (4 * q + 2) 0).toNat_lt
  have hd := (m.getD (4 * q + 3) 0).toNat_lt
  have h0 : (0 : UInt32).toNat = 0 := rfl
  rw [h0]
  omega
/-- the word q behind i bytes -/
def wsub (m : List UInt8) (i q : Nat) : UInt32 := pw m q (min 4 (i - 4 * q))
theorem wsub_zero (m : List UInt8) (q : Nat) : wsub m 0 q = 0 := by simp [wsub, pw]
theorem wsub_full (m : List UInt8) (q : Nat) (h : q < 16) : wsub m 64 q = word m q := by
  unfold wsub
  rw [show min 4 (64 - 4 * q) = 4 by omega, pw_four]
theorem wsub_same (m : List UInt8) (i : Nat) : wsub m (i + 1) (i / 4) = sl (wsub m i (i / 4)) 8 ||| (m.getD i 0).toUInt32 := by
  unfold wsub
  rw [show min 4 (i + 1 - 4 * (i / 4)) = min 4 (i - 4 * (i / 4)) + 1 by omega]
  simp only [pw]
  rw [show 4 * (i / 4) + min 4 (i - 4 * (i / 4)) = i by omega]
theorem wsub_other (m : List UInt8) (i q : Nat) (h : q ≠ i / 4) : wsub m (i + 1) q = wsub m i q := by
  unfold wsub
  rw [show min 4 (i + 1 - 4 * q) = min 4 (i - 4 * q) by omega]

/-- the words of all rounds -/
def S (m : List UInt8) (t : Nat) : UInt32 := (sched m 48).getD t 0
theorem sched_len (m : List UInt8) (n : Nat) : (sched m n).length = 16 + n := by
  induction n with
  | zero => rfl
  | succ n ih => simp [sched, grow, ih]; omega
theorem sched_pre (m : List UInt8) (n k t : Nat) (h : t < 16 + n) : (sched m (n + k)).getD t 0 = (sched m n).getD t 0 := by
  induction k with
  | zero => rfl
  | succ k ih =>
    rw [← ih]
    have e : sched m (n + (k + 1)) = grow (sched m (n + k)) := rfl
    rw [e]
    unfold grow
    rw [List.getD_eq_getElem?_getD, List.getElem?_append_left (by rw [sched_len]; omega), ← List.getD_eq_getElem?_getD]
theorem S_word (m : List UInt8) (t : Nat) (h : t < 16) : S m t = word m t := by
  unfold S
  rw [show (48 : Nat) = 0 + 48 from rfl, sched_pre m 0 48 t (by omega)]
  simp [sched, h]
theorem S_next (m : List UInt8) (t : Nat) (h0 : 16 ≤ t) (h : t < 64) : S m t = S m (t - 16) + s0 (S m (t - 15)) + S m (t - 7) + s1 (S m (t - 2)) := by
  have e : ∀ u, u < t → S m u = (sched m (t - 16)).getD u 0 := fun u hu => by
    unfold S
    rw [show (48 : Nat) = (t - 16) + (64 - t) by omega, sched_pre m _ _ u (by omega)]
  rw [e (t - 16) (by omega), e (t - 15) (by omega), e (t - 7) (by omega), e (t - 2) (by omega)]
  have e2 : S m t = (sched m (t - 16 + 1)).getD t 0 := by
    unfold S
    rw [show (48 : Nat) = (t - 16 + 1) + (63 - t) by omega, sched_pre m _ _ t (by omega)]
  rw [e2]
  show (grow (sched m (t - 16))).getD t 0 = _
  unfold grow
  have hl := sched_len m (t - 16)
  rw [List.getD_eq_getElem?_getD, List.getElem?_append_right (by omega), hl, show t - (16 + (t - 16)) = 0 by omega,
    show 16 + (t - 16) - 16 = t - 16 by omega, show 16 + (t - 16) - 15 = t - 15 by omega, show 16 + (t - 16) - 7 = t - 7 by omega, show 16 + (t - 16) - 2 = t - 2 by omega]
  rfl

theorem ch_eq (e f g : UInt32) : g ^^^ e &&& (f ^^^ g) = (e &&& f ^^^ ~~~ e &&& g) := by
  apply UInt32.eq_of_toBitVec_eq
  simp only [UInt32.toBitVec_xor, UInt32.toBitVec_and, UInt32.toBitVec_not]
  apply BitVec.eq_of_getLsbD_eq
  intro i hi
  simp only [BitVec.getLsbD_xor, BitVec.getLsbD_and, BitVec.getLsbD_not, hi, decide_true, Bool.true_and]
  cases e.toBitVec.getLsbD i <;> cases f.toBitVec.getLsbD i <;> cases g.toBitVec.getLsbD i <;> rfl
theorem maj_eq (a b c : UInt32) : (a &&& b ||| c &&& (a ||| b)) = (a &&& b ^^^ a &&& c ^^^ b &&& c) := by
  apply UInt32.eq_of_toBitVec_eq
  simp only [UInt32.toBitVec_xor, UInt32.toBitVec_and, UInt32.toBitVec_or]
  apply BitVec.eq_of_getLsbD_eq
  intro i hi
  simp only [BitVec.getLsbD_xor, BitVec.getLsbD_and, BitVec.getLsbD_or]
  cases a.toBitVec.getLsbD i <;> cases b.toBitVec.getLsbD i <;> cases c.toBitVec.getLsbD i <;> rfl
end Go.Proofs.YtgcionimhmbgeaaDoorR.RefM
