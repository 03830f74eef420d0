/-
  The two Go functions Legal (octet's and the reference's), walked: each returns legalB of the string's bytes and the bound.
-/
import Derived.Test.YtbdfemnnnlidpaaRows
import Derived.WalkKit
import Derived.ProofKit
import Derived.Outline
import Derived.WalkSpells
import Derived.Lib.Hide
namespace Go.Proofs.Ytbdfemnnnlidpaa.Legal
open Go.RowKit
set_option linter.unusedVariables false

def okB (c : Int) : Bool := decide (97 ≤ c ∧ c ≤ 122 ∨ 48 ≤ c ∧ c ≤ 57 ∨ c = 45)
theorem okB_yes {c : Int} (h : 97 ≤ c ∧ c ≤ 122 ∨ 48 ≤ c ∧ c ≤ 57 ∨ c = 45) : okB c = true := by simp [okB, h]
theorem okB_no {c : Int} (h : ¬ (97 ≤ c ∧ c ≤ 122 ∨ 48 ≤ c ∧ c ≤ 57 ∨ c = 45)) : okB c = false := by simp [okB, h]

theorem ret_b {a b : Bool} (h : a = b) : Ending.returned (.bool a) = .returned (.bool b) := by rw [h]

set_option maxHeartbeats 400000 in
theorem nameByte_any (c : Int) (w : World) (h0 : 0 ≤ c) (h1 : c ≤ 255) :
    Calls Try.prog 78 #[.int .u8 c] w fun e w' => e = .returned (.bool (okB c)) ∧ w = w' := by
  by_cases a : 97 ≤ c
  · by_cases b : c ≤ 122
    · rw [okB_yes (by omega)]
      go_enter Try.func78, Try.ntmps78
      go_wp2
      go_ret
      exact ⟨ret_b (by simp [*]), rfl⟩
    · rw [okB_no (by omega)]
      go_enter Try.func78, Try.ntmps78
      go_wp2
      go_ret
      exact ⟨ret_b (by simp; omega), rfl⟩
  · by_cases b : 48 ≤ c
    · by_cases d : c ≤ 57
      · rw [okB_yes (by omega)]
        go_enter Try.func78, Try.ntmps78
        go_wp2
        go_ret
        exact ⟨ret_b (by simp [*]), rfl⟩
      · rw [okB_no (by omega)]
        go_enter Try.func78, Try.ntmps78
        go_wp2
        go_ret
        exact ⟨ret_b (by simp; omega), rfl⟩
    · by_cases d : c = 45
      · rw [okB_yes (by omega)]
        subst d
        go_enter Try.func78, Try.ntmps78
        go_wp2
        go_ret
        exact ⟨rfl, rfl⟩
      · rw [okB_no (by omega)]
        go_enter Try.func78, Try.ntmps78
        go_wp2
        go_ret
        exact ⟨ret_b (by simp; omega), rfl⟩
/-- 1 to most bytes, each of them okB -/
def legalB (l : List UInt8) (most : Int) : Bool := l.all (fun c => okB (c.toNat : Int)) && decide (1 ≤ l.length ∧ (l.length : Int) ≤ most)
theorem legal_bad {l : List UInt8} {most : Int} (k : Nat) (hk : k < l.length) (h : okB ((l[k]).toNat : Int) = false) : legalB l most = false := by
  have : l.all (fun c => okB (c.toNat : Int)) = false := by
    rw [List.all_eq_false]
    exact ⟨l[k], List.getElem_mem hk, by simp [h]⟩
  simp [legalB, this]
theorem legal_len {l : List UInt8} {most : Int} (h : ¬ (1 ≤ l.length ∧ (l.length : Int) ≤ most)) : legalB l most = false := by
  simp only [legalB, decide_eq_false h, Bool.and_false]
theorem legal_yes {l : List UInt8} {most : Int} (h : 1 ≤ l.length ∧ (l.length : Int) ≤ most) (ha : ∀ k (hk : k < l.length), okB ((l[k]).toNat : Int) = true) : legalB l most = true := by
  have : l.all (fun c => okB (c.toNat : Int)) = true := by
    rw [List.all_eq_true]
    intro x hx
    obtain ⟨k, hk, rfl⟩ := List.getElem_of_mem hx
    exact ha k hk
  simp [legalB, this, h]

set_option maxHeartbeats 400000 in
theorem legal_any (s : ByteArray) (most : Int) (w : World) (hs : s.size ≤ maxLen) :
    Calls Try.prog 42 #[.string s, .int .i64 most] w fun e w' => e = .returned (.bool (legalB s.data.toList most)) ∧ w = w' := by
  unfold maxLen at hs
  have hl : s.data.toList.length = s.size := by simp
  by_cases a : s.size < 1
  · rw [legal_len (by omega)]
    go_enter Try.func42, Try.ntmps42
    go_wp2
    go_ret
    exact ⟨rfl, rfl⟩
  by_cases b : most < (s.size : Int)
  · rw [legal_len (by omega)]
    go_enter Try.func42, Try.ntmps42
    go_wp2
    go_ret
    exact ⟨rfl, rfl⟩
  go_enter Try.func42, Try.ntmps42
  go_wp2
  go_loop [5, 17] (fun _ i => ∃ k : Nat, k ≤ s.size ∧ i = .int .i64 k ∧ ∀ j (hj : j < k) (hj' : j < s.data.toList.length), okB ((s.data.toList[j]).toNat : Int) = true) (fun _ i => s.size - (intOf i).toNat)
  case atStart => exact ⟨0, Nat.zero_le _, rfl, fun j hj _ => by omega⟩
  case round =>
    obtain ⟨k, hk, rfl, hall⟩ := hrel
    have Hall := Lib.hid hall
    clear hall
    by_cases hlt : k < s.size
    · have hsi : s.data.toList[k]'(by omega) = s[k] := rfl
      by_cases hok : okB ((s[k]).toNat : Int) = true
      · have Hstep := Lib.hid (show ∀ j (hj : j < k + 1) (hj' : j < s.data.toList.length), okB ((s.data.toList[j]).toNat : Int) = true from fun j hj hj' => by
          by_cases e : j = k
          · subst e; exact hok
          · exact Hall.out j (by omega) hj')
        clear hsi Hall
        go_wp2_with (go_at_call 78; refine (nameByte_any _ _ (by omega) (by have := (s[k]).toNat_lt; omega)).mono ?_; rintro e w' ⟨rfl, rfl⟩)
        go_round
        case rel => exact ⟨k + 1, by omega, by go_num, Hstep.out⟩
        case measure => simp [intOf]; omega
      · have hno : okB ((s[k]).toNat : Int) = false := by simpa using hok
        have Hbad := Lib.hid (show legalB s.data.toList most = false from legal_bad k (by omega) hno)
        clear hsi Hall hok
        go_wp2_with (go_at_call 78; refine (nameByte_any _ _ (by omega) (by have := (s[k]).toNat_lt; omega)).mono ?_; rintro e w' ⟨rfl, rfl⟩)
        go_ret
        exact ⟨ret_b Hbad.out.symm, rfl⟩
    · have Hyes := Lib.hid (show legalB s.data.toList most = true from legal_yes (by omega) (fun j hj => Hall.out j (by omega) hj))
      clear Hall
      go_wp2
      go_ret
      exact ⟨ret_b Hyes.out.symm, rfl⟩

set_option maxHeartbeats 1000000 in
theorem refLegal_any (s : ByteArray) (most : Int) (w : World) (hs : s.size ≤ maxLen) :
    Calls Try.prog 43 #[.string s, .int .i64 most] w fun e w' => e = .returned (.bool (legalB s.data.toList most)) ∧ w = w' := by
  unfold maxLen at hs
  have hl : s.data.toList.length = s.size := by simp
  go_enter Try.func43, Try.ntmps43
  go_wp2
  go_loop [5] (fun i => ∃ k : Nat, k ≤ s.size ∧ i = .int .i64 k ∧ ∀ j (hj : j < k) (hj' : j < s.data.toList.length), okB ((s.data.toList[j]).toNat : Int) = true) (fun i => s.size - (intOf i).toNat)
  case atStart => exact ⟨0, Nat.zero_le _, rfl, fun j hj _ => by omega⟩
  case round =>
    obtain ⟨k, hk, rfl, hall⟩ := hrel
    have Hall := Lib.hid hall
    clear hall
    by_cases hlt : k < s.size
    · have hsi : s.data.toList[k]'(by omega) = s[k] := rfl
      have hcl := (s[k]).toNat_lt
      obtain ⟨c, hc⟩ : ∃ c, c = s[k] := ⟨_, rfl⟩
      by_cases hok : okB ((s[k]).toNat : Int) = true
      · have Hstep := Lib.hid (show ∀ j (hj : j < k + 1) (hj' : j < s.data.toList.length), okB ((s.data.toList[j]).toNat : Int) = true from fun j hj hj' => by
          by_cases e : j = k
          · subst e; exact hok
          · exact Hall.out j (by omega) hj')
        clear hsi Hall hc c
        have hcases : (97 ≤ ((s[k]).toNat : Int) ∧ ((s[k]).toNat : Int) ≤ 122) ∨ (48 ≤ ((s[k]).toNat : Int) ∧ ((s[k]).toNat : Int) ≤ 57) ∨ ((s[k]).toNat : Int) = 45 := by simpa [okB] using hok
        clear hok
        rcases hcases with ⟨h1, h2⟩ | ⟨h1, h2⟩ | h1
        · go_wp2
          go_round
          case rel => exact ⟨k + 1, by omega, by go_num, Hstep.out⟩
          case measure => simp [intOf]; omega
        · have hn : ¬ (97 ≤ ((s[k]).toNat : Int)) := by omega
          go_wp2
          go_round
          case rel => exact ⟨k + 1, by omega, by go_num, Hstep.out⟩
          case measure => simp [intOf]; omega
        · have hn : ¬ (97 ≤ ((s[k]).toNat : Int)) := by omega
          have hn2 : ¬ (48 ≤ ((s[k]).toNat : Int)) := by omega
          have hb : (((s[k]).toNat : Int) == 45) = true := by simpa using h1
          clear h1
          go_wp2
          go_round
          case rel => exact ⟨k + 1, by omega, by go_num, Hstep.out⟩
          case measure => simp [intOf]; omega
      · have hno : okB ((s[k]).toNat : Int) = false := by simpa using hok
        have Hbad := Lib.hid (show legalB s.data.toList most = false from legal_bad k (by omega) hno)
        have hcases : ¬ ((97 ≤ ((s[k]).toNat : Int) ∧ ((s[k]).toNat : Int) ≤ 122) ∨ (48 ≤ ((s[k]).toNat : Int) ∧ ((s[k]).toNat : Int) ≤ 57) ∨ ((s[k]).toNat : Int) = 45) := by simpa [okB] using hno
        clear hsi Hall hok hno hc c
        have hb : (((s[k]).toNat : Int) == 45) = false := by simp; omega
        by_cases a : 97 ≤ ((s[k]).toNat : Int)
        · have b : ¬ ((s[k]).toNat : Int) ≤ 122 := by omega
          have d : 48 ≤ ((s[k]).toNat : Int) := by omega
          have e : ¬ ((s[k]).toNat : Int) ≤ 57 := by omega
          clear hcases
          go_wp2
          go_ret
          exact ⟨ret_b Hbad.out.symm, rfl⟩
        · by_cases d : 48 ≤ ((s[k]).toNat : Int)
          · have e : ¬ ((s[k]).toNat : Int) ≤ 57 := by omega
            clear hcases
            go_wp2
            go_ret
            exact ⟨ret_b Hbad.out.symm, rfl⟩
          · clear hcases
            go_wp2
            go_ret
            exact ⟨ret_b Hbad.out.symm, rfl⟩
    · by_cases h1 : 1 ≤ s.size
      · by_cases h2 : (s.size : Int) ≤ most
        · have Hyes := Lib.hid (show legalB s.data.toList most = true from legal_yes (by omega) (fun j hj => Hall.out j (by omega) hj))
          clear Hall
          go_wp2
          go_ret
          exact ⟨ret_b Hyes.out.symm, rfl⟩
        · have Hyes := Lib.hid (show legalB s.data.toList most = false from legal_len (by omega))
          clear Hall
          go_wp2
          go_ret
          exact ⟨ret_b Hyes.out.symm, rfl⟩
      · have Hyes := Lib.hid (show legalB s.data.toList most = false from legal_len (by omega))
        clear Hall
        go_wp2
        go_ret
        exact ⟨ret_b Hyes.out.symm, rfl⟩
end Go.Proofs.Ytbdfemnnnlidpaa.Legal
