/-
  frame.turn, over, sum, CRC, highFirst: CRC-32.
-/
import Derived.Test.YtgfdnljblfkhkabDoorRowW
import Derived.Test.YtgfdnljblfkhkabDoorCrc
import Derived.LoopTactic
namespace Go.Proofs.YtgfdnljblfkhkabDoor.FrTurn
open Go.RowKit Sha Mem RowW Crc
set_option linter.unusedVariables false

theorem g_sr4 (x : UInt32) : U x / 16 = U (sr x 4) := U_shr x 4
def n4 (x : UInt32) : Nat := x.toNat % 16
theorem n4_lt (x : UInt32) : n4 x < 16 := Nat.mod_lt _ (by decide)
theorem g_and15 (x : UInt32) : bits .and .u32 (U x) 15 = ((n4 x : Nat) : Int) := by
  have h := u_and x 15
  have e : U 15 = 15 := rfl
  rw [e] at h
  rw [h]
  unfold U
  rw [UInt32.toNat_and]
  have : x.toNat &&& 15 = x.toNat % 16 := Nat.and_two_pow_sub_one_eq_mod (n := 4) x.toNat
  rw [show (15 : UInt32).toNat = 15 from rfl, this]
  rfl
attribute [go_sem] g_sr4 g_and15

/-- the table of half turns stands -/
def Tw (w : World) : Prop := ∀ t, t < 16 → w.cell? ⟨0, t, none⟩ = some (.int .u32 (U (T16.getD t 0)))
theorem Tw.upd {S : Nat → Prop} {w w' : World} (h : Tw w) (hu : Upd S w w') (hs : ¬ S 0) : Tw w' := fun t ht => hu.cell (h t ht) hs

theorem half_eq (r : UInt32) : half r = sr r 4 ^^^ T16.getD (n4 r) 0 := rfl
def tb (x : UInt32) : UInt32 := T16.getD (n4 x) 0

set_option maxHeartbeats 1000000 in
theorem turn_any (r : UInt32) (c : UInt8) (w : World) (ht : Tw w) :
    Calls Tryd.prog 47 #[.int .u32 (U r), .int .u8 (c.toNat : Int)] w fun e w' => e = .returned (.int .u32 (U (stepc r c))) ∧ w = w' := by
  have H : Hid (stepc r c = sr (sr (r ^^^ c.toUInt32) 4 ^^^ tb (r ^^^ c.toUInt32)) 4 ^^^ tb (sr (r ^^^ c.toUInt32) 4 ^^^ tb (r ^^^ c.toUInt32))) := by show _ = _; rw [stepc_half]; rfl
  have c1 : w.cell? ⟨0, n4 (r ^^^ c.toUInt32), none⟩ = some (.int .u32 (U (tb (r ^^^ c.toUInt32)))) := ht _ (n4_lt _)
  have c2 : w.cell? ⟨0, n4 (sr (r ^^^ c.toUInt32) 4 ^^^ tb (r ^^^ c.toUInt32)), none⟩ = some (.int .u32 (U (tb (sr (r ^^^ c.toUInt32) 4 ^^^ tb (r ^^^ c.toUInt32))))) := ht _ (n4_lt _)
  have l1 := n4_lt (r ^^^ c.toUInt32)
  have l2 := n4_lt (sr (r ^^^ c.toUInt32) 4 ^^^ tb (r ^^^ c.toUInt32))
  clear ht
  go_enter Tryd.func47, Tryd.ntmps47
  go_wp2
  go_ret
  exact ⟨by rw [H.out]; rfl, rfl⟩

theorem u_not (x : UInt32) : bits .xor .u32 IntKind.u32.max (U x) = U (~~~ x) := by
  have h := u_xor (4294967295 : UInt32) x
  have e : U 4294967295 = IntKind.u32.max := rfl
  rw [e] at h
  rw [h]
  congr 1
theorem sum_any (r : UInt32) (w : World) :
    Calls Tryd.prog 34 #[.int .u32 (U r)] w fun e w' => e = .returned (.int .u32 (U (~~~ r))) ∧ w = w' := by
  have hs : IntKind.u32.signed = false := rfl
  have H := Lib.hid (u_not r)
  go_enter Tryd.func34, Tryd.ntmps34
  go_wp2
  go_ret
  refine ⟨?_, rfl⟩
  rw [← H.out]
  rfl

theorem over_snoc (r : UInt32) (l : List UInt8) (k : Nat) (h : k < l.length) : overc r (l.take (k + 1)) = stepc (overc r (l.take k)) (l.getD k 0) := by
  unfold overc
  rw [List.take_succ_eq_append_getElem h, List.foldl_append, List.getD_eq_getElem?_getD, List.getElem?_eq_getElem h]
  rfl
/-- the round's relation -/
def LO (r : UInt32) (l : List UInt8) (x i : Value) : Prop := ∃ k : Nat, k ≤ l.length ∧ i = .int .i64 k ∧ x = .int .u32 (U (overc r (l.take k)))

set_option maxHeartbeats 1000000 in
theorem over_any (r : UInt32) (ao : Option Addr) (n cap : Nat) (l : List UInt8) (w : World) (hs : Sl w (.slice ao n cap) l) (ht : Tw w) (hr : n ≤ 140737488355328) :
    Calls Tryd.prog 35 #[.int .u32 (U r), .slice ao n cap] w fun e w' => e = .returned (.int .u32 (U (overc r l))) ∧ w = w' := by
  have hnl : n = l.length := by obtain ⟨_, _, h, _⟩ := hs; injection h
  have Hs := Lib.hid hs
  have Hn := Lib.hid hnl
  have HT := Lib.hid ht
  clear hs hnl ht
  go_enter Tryd.func35, Tryd.ntmps35
  go_wp2
  go_loop [0, 9] (fun x i => LO r l x i) (fun _ i => n - (intOf i).toNat)
  case atStart => exact ⟨0, Nat.zero_le _, rfl, rfl⟩
  case round =>
    obtain ⟨k, hk, rfl, rfl⟩ := hrel
    have hk' : k ≤ n := by have := Hn.out; omega
    clear hk
    by_cases hlt : k < n
    · have hltI : (k : Int) < (n : Int) := by omega
      obtain ⟨ao', cap', he, _, _, h3, h4⟩ := Hs.out
      injection he with e1 e2 e3
      subst e1 e3
      clear e2
      obtain ⟨⟨pa, oa, sa⟩, rfl⟩ : ∃ ad, ao = some ad := by
        cases ao with
        | some ad => exact ⟨ad, rfl⟩
        | none => have := h3 rfl; have := Hn.out; omega
      obtain ⟨hsa, hca⟩ := h4 _ rfl
      obtain rfl : sa = none := hsa
      have c0 := hca k (by have := Hn.out; omega)
      rw [add_none] at c0
      have HX := Lib.hid (over_snoc r l k (by have := Hn.out; omega))
      obtain ⟨c, hc⟩ : ∃ c, c = l.getD k 0 := ⟨_, rfl⟩
      obtain ⟨x, hx⟩ : ∃ x, x = overc r (l.take k) := ⟨_, rfl⟩
      rw [← hc] at c0
      have Hc := Lib.hid hc
      have Hx := Lib.hid hx
      rw [← hx]
      have HC := Lib.hid (turn_any x c w HT.out)
      unfold u8 at c0
      clear h3 h4 hca hc hx
      go_wp2_with (go_at_call 47; refine HC.out.mono ?_; rintro e w' ⟨rfl, rfl⟩)
      go_round
      case rel => exact ⟨k + 1, by have := Hn.out; omega, by go_num, by rw [HX.out, ← Hc.out, ← Hx.out]⟩
      case measure => simp [intOf]; omega
    · have HE : Hid (overc r (l.take k) = overc r l) := by show _ = _; rw [List.take_of_length_le (by have := Hn.out; omega)]
      have hltI : ¬ (k : Int) < (n : Int) := by omega
      go_wp2
      go_ret
      exact ⟨by rw [HE.out]; rfl, rfl⟩

theorem crc_any (ao : Option Addr) (n cap : Nat) (l : List UInt8) (w : World) (hs : Sl w (.slice ao n cap) l) (ht : Tw w) (hr : n ≤ 140737488355328) :
    Calls Tryd.prog 24 #[.slice ao n cap] w fun e w' => e = .returned (.int .u32 (U (crc l))) ∧ w = w' := by
  have HO := Lib.hid (over_any 4294967295 ao n cap l w hs ht hr)
  clear hs ht
  have e0 : U 4294967295 = 4294967295 := rfl
  rw [e0] at HO
  clear e0
  go_enter Tryd.func24, Tryd.ntmps24
  go_wp2_with (first
    | (go_at_call 35; refine HO.out.mono ?_; rintro e w' ⟨rfl, rfl⟩)
    | (go_at_call 34; refine (sum_any _ _).mono ?_; rintro e w' ⟨rfl, rfl⟩))
  go_ret
  exact ⟨rfl, rfl⟩
end Go.Proofs.YtgfdnljblfkhkabDoor.FrTurn
