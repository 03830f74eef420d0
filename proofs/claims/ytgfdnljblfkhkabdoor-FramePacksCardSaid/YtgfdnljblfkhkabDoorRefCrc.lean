/-
  docketref4.CRC: bit by bit.
-/
import Derived.Test.YtgfdnljblfkhkabDoorFrTurn
namespace Go.Proofs.YtgfdnljblfkhkabDoor.RefCrc
open Go.RowKit Sha Mem RowW Crc FrTurn
set_option linter.unusedVariables false

theorem g_sr1 (x : UInt32) : U x / 2 = U (sr x 1) := U_shr x 1
theorem g_xorP (x : UInt32) : bits .xor .u32 (U x) 3988292384 = U (x ^^^ PP) := u_xor x PP
attribute [go_sem] g_sr1 g_xorP
theorem sr1 (x : UInt32) : sr x 1 = x >>> 1 := by
  apply UInt32.toNat_inj.1
  rw [UInt32.toNat_shiftRight, Nat.shiftRight_eq_div_pow]
  unfold sr
  rw [UInt32.toNat_ofNat_of_lt' (Nat.lt_of_le_of_lt (Nat.div_le_self _ _) x.toNat_lt)]
  rfl
theorem and1_odd (x : UInt32) (h : U x % 2 = 1) : x &&& 1 = 1 := by
  apply UInt32.toNat_inj.1
  rw [UInt32.toNat_and]
  show x.toNat &&& 1 = 1
  rw [Nat.and_one_is_mod]
  unfold U at h
  omega
theorem and1_even (x : UInt32) (h : ¬ U x % 2 = 1) : ¬ x &&& 1 = 1 := by
  intro e
  have e2 := congrArg UInt32.toNat e
  rw [UInt32.toNat_and] at e2
  have e3 : x.toNat &&& 1 = 1 := e2
  rw [Nat.and_one_is_mod] at e3
  unfold U at h
  omega
theorem bit1_odd (x : UInt32) (h : U x % 2 = 1) : bit1 x = sr x 1 ^^^ PP := by
  unfold bit1; rw [if_pos (and1_odd x h), sr1]
theorem bit1_ev (x : UInt32) (h : ¬ U x % 2 = 1) : bit1 x = sr x 1 := by
  unfold bit1; rw [if_neg (and1_even x h), sr1]
theorem u_flip (x : UInt32) : 4294967295 - U x = U (~~~ x) := by
  rw [← u_not, show IntKind.u32.max = (4294967295 : Int) from rfl]
  have h := u_xor (4294967295 : UInt32) x
  have e : U 4294967295 = 4294967295 := rfl
  rw [e] at h
  rw [h]
  unfold U
  rw [UInt32.toNat_xor]
  have hx := x.toNat_lt
  have h2 : (4294967295 : UInt32).toNat = 2 ^ 32 - 1 := rfl
  have h3 : (2 ^ 32 - 1) ^^^ x.toNat = 2 ^ 32 - 1 - x.toNat := by
    apply Nat.eq_of_testBit_eq
    intro i
    rw [Nat.testBit_xor, Nat.testBit_two_pow_sub_one]
    have := Nat.testBit_two_pow_sub_succ hx i
    rw [show 2 ^ 32 - 1 - x.toNat = 2 ^ 32 - (x.toNat + 1) by omega, this]
    by_cases hi : i < 32
    · simp [hi]
    · simp [hi, Nat.testBit_lt_two_pow (Nat.lt_of_lt_of_le hx (Nat.pow_le_pow_right (by decide) (show 32 ≤ i by omega)))]
  rw [h2, h3]
  omega
def LI (r : UInt32) (x j : Value) : Prop := ∃ k : Nat, k ≤ 8 ∧ j = .int .i64 k ∧ x = .int .u32 (U (bits8 r k))

set_option maxHeartbeats 2000000 in
theorem refcrc_any (ao : Option Addr) (n cap : Nat) (l : List UInt8) (w : World) (hs : Sl w (.slice ao n cap) l) (hr : n ≤ 140737488355328) :
    Calls Tryd.prog 27 #[.slice ao n cap] w fun e w' => e = .returned (.int .u32 (U (crc l))) ∧ w = w' := by
  have hnl : n = l.length := by obtain ⟨_, _, h, _⟩ := hs; injection h
  have Hs := Lib.hid hs
  have Hn := Lib.hid hnl
  clear hs hnl
  go_enter Tryd.func27, Tryd.ntmps27
  go_wp2
  go_loop [3, 4] (fun x i => LO 4294967295 l x i) (fun _ i => n - (intOf i).toNat)
  case atStart => exact ⟨0, Nat.zero_le _, rfl, rfl⟩
  case round =>
    obtain ⟨k, hk, rfl, rfl⟩ := hrel
    have hk' : k ≤ n := by have := Hn.out; omega
    clear hk
    by_cases hlt : k < n
    · have hltI : (k : Int) < (n : Int) := by omega
      obtain ⟨ao', cap', he, h1, h2, h3, h4⟩ := Hs.out
      injection he with e1 e2 e3
      subst e1 e3
      clear e2
      obtain ⟨⟨pa, oa, sa⟩, rfl⟩ : ∃ ad, ao = some ad := by
        cases ao with
        | some ad => exact ⟨ad, rfl⟩
        | none => have := h3 rfl; have := Hn.out; omega
      obtain ⟨hsa, hca⟩ := h4 _ rfl
      obtain rfl : sa = none := hsa
      have c0 := hca k (by have := Hn.out; omega)
      rw [add_none] at c0
      have HX := Lib.hid (over_snoc 4294967295 l k (by have := Hn.out; omega))
      obtain ⟨c, hc⟩ : ∃ c, c = l.getD k 0 := ⟨_, rfl⟩
      obtain ⟨x, hx⟩ : ∃ x, x = overc 4294967295 (l.take k) := ⟨_, rfl⟩
      rw [← hc] at c0
      have Hc := Lib.hid hc
      have Hx := Lib.hid hx
      rw [← hx]
      unfold Mem.u8 at c0
      clear h1 h2 h3 h4 hca hc hx
      go_wp2
      go_loop [3, 5] (fun x' j => LI (x ^^^ c.toUInt32) x' j) (fun _ j => 8 - (intOf j).toNat)
      case atStart => exact ⟨0, Nat.zero_le _, rfl, rfl⟩
      case round =>
        obtain ⟨j, hj, rfl, rfl⟩ := hrel
        by_cases hlj : j < 8
        · have hljI : (j : Int) < 8 := by omega
          obtain ⟨y, hy⟩ : ∃ y, y = bits8 (x ^^^ c.toUInt32) j := ⟨_, rfl⟩
          have Hy := Lib.hid hy
          rw [← hy]
          have b0 := U_lo y
          have b1 := U_hi y
          clear hy
          by_cases hodd : U y % 2 = 1
          · have HB := Lib.hid (bit1_odd y hodd)
            have hd : (U y % 2 == 1) = true := by simpa using hodd
            clear hodd
            go_wp2
            go_round
            case rel => exact ⟨j + 1, by omega, by go_num, by show _ = Value.int .u32 (U (bit1 (bits8 _ j))); rw [← Hy.out, HB.out]; try rfl⟩
            case measure => simp [intOf]; omega
          · have HB := Lib.hid (bit1_ev y hodd)
            have hd : (U y % 2 == 1) = false := by simpa using hodd
            clear hodd
            go_wp2
            go_round
            case rel => exact ⟨j + 1, by omega, by go_num, by show _ = Value.int .u32 (U (bit1 (bits8 _ j))); rw [← Hy.out, HB.out, ← g_sr1]; try rfl⟩
            case measure => simp [intOf]; omega
        · obtain rfl : j = 8 := by omega
          go_wp2
          go_round
          case rel => exact ⟨k + 1, by have := Hn.out; omega, by go_num, by rw [HX.out, ← Hc.out, ← Hx.out]; rfl⟩
          case measure => simp [intOf]; omega
    · have HE : Hid (overc 4294967295 (l.take k) = overc 4294967295 l) := by show _ = _; rw [List.take_of_length_le (by have := Hn.out; omega)]
      have hltI : ¬ (k : Int) < (n : Int) := by omega
      obtain ⟨x, hx⟩ : ∃ x, x = overc 4294967295 (l.take k) := ⟨_, rfl⟩
      have Hx := Lib.hid hx
      rw [← hx]
      have b0 := U_lo x
      have b1 := U_hi x
      have HF := Lib.hid (u_flip x)
      clear hx
      go_wp2
      go_ret
      refine ⟨?_, rfl⟩
      rw [crc, ← HE.out, ← Hx.out, ← HF.out]
      rfl
end Go.Proofs.YtgfdnljblfkhkabDoor.RefCrc
