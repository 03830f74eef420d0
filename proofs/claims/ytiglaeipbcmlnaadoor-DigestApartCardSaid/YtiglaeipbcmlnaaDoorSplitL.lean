/-
  docketbook.Room, Lists; Fork; Write and append of an empty slice wherever it points.
-/
import Derived.Test.YtiglaeipbcmlnaaDoorRefMac
namespace Go.Proofs.YtiglaeipbcmlnaaDoor.SplitL
open Go.RowKit Sha TurnW Mem RowW SpreadW MixW HashM CopyW WriteW WriteN EndW SumH NewW EqW BookW
set_option linter.unusedVariables false
set_option linter.unusedSimpArgs false

def room (a n : Int) : Int := if a < 0 then -1 else if a < n then -1 else a - n
theorem room_any (a n : Int) (w : World) (h0 : -1 ≤ a) (h1 : a ≤ 2147483647) (h2 : 0 ≤ n) (h3 : n ≤ 9223372036854775807) :
    Calls Tryd.prog 24 #[.int .i64 a, .int .i64 n] w fun e w' => e = .returned (.int .i64 (room a n)) ∧ w = w' := by
  by_cases ha : a < 0
  · have e : room a n = -1 := if_pos ha
    rw [e]
    clear e
    go_enter Tryd.func24, Tryd.ntmps24
    go_wp2
    go_ret
    exact ⟨rfl, rfl⟩
  · by_cases hn : a < n
    · have e : room a n = -1 := by unfold room; rw [if_neg ha, if_pos hn]
      rw [e]
      clear e
      have hd : decide (a < 0) = false := by simpa using ha
      go_enter Tryd.func24, Tryd.ntmps24
      go_wp2
      go_ret
      exact ⟨rfl, rfl⟩
    · have e : room a n = a - n := by unfold room; rw [if_neg ha, if_neg hn]
      rw [e]
      clear e
      have hd : decide (a < 0) = false := by simpa using ha
      have hd2 : decide (a < n) = false := by simpa using hn
      go_enter Tryd.func24, Tryd.ntmps24
      go_wp2
      go_ret
      exact ⟨rfl, rfl⟩

/-- a slice of bytes, whose address is asked for where it has an element alone -/
def El (w : World) (v : Value) (l : List UInt8) : Prop := ∃ ao cap, v = .slice ao l.length cap ∧ l.length ≤ cap ∧ cap ≤ maxLen ∧ (ao = none → cap = 0) ∧ (l ≠ [] → Sl w v l)
theorem El.upd {S : Nat → Prop} {w w' : World} {v : Value} {l : List UInt8} (h : El w v l) (hu : Upd S w w') (hd : l ≠ [] → ∀ k, own v k → ¬ S k) : El w' v l := by
  obtain ⟨ao, cap, rfl, h1, h2, h0, h3⟩ := h
  exact ⟨ao, cap, rfl, h1, h2, h0, fun hn => (h3 hn).upd hu (hd hn)⟩
/-- a slice of such slices; what is read of it lies in blocks of O -/
def SlE (w : World) (v : Value) (ts : List (List UInt8)) (O : Nat → Prop) : Prop :=
  ∃ ao cap, ∃ pv : Nat → Value, v = .slice ao ts.length cap ∧ (ao = none → ts.length = 0) ∧
    ∀ a, ao = some a → a.spot = none ∧ (0 < ts.length → O a.block) ∧ ∀ i, i < ts.length → w.cell? (a.add i) = some (pv i) ∧ El w (pv i) (ts.getD i []) ∧ (ts.getD i [] ≠ [] → ∀ k, own (pv i) k → O k)
theorem SlE.upd {S O : Nat → Prop} {w w' : World} {v : Value} {ts : List (List UInt8)} (h : SlE w v ts O) (hu : Upd S w w') (hd : ∀ k, O k → ¬ S k) : SlE w' v ts O := by
  obtain ⟨ao, cap, pv, rfl, h3, h4⟩ := h
  refine ⟨ao, cap, pv, rfl, h3, fun a ha => ⟨(h4 a ha).1, (h4 a ha).2.1, fun i hi => ?_⟩⟩
  obtain ⟨hc, hs, hp⟩ := (h4 a ha).2.2 i hi
  refine ⟨hu.cell hc ?_, hs.upd hu (fun hn k hk => hd k (hp hn k hk)), hp⟩
  have hb : (a.add i).block = a.block := by unfold Addr.add; split <;> rfl
  rw [hb]
  exact hd _ ((h4 a ha).2.1 (by omega))

def tot (ts : List (List UInt8)) : Nat := (ts.map fun t => t.length + 1).sum
theorem tot_take (ts : List (List UInt8)) (j : Nat) (h : j < ts.length) : tot (ts.take (j + 1)) = tot (ts.take j) + (ts.getD j []).length + 1 := by
  unfold tot
  rw [List.take_succ_eq_append_getElem h, List.map_append, List.sum_append]
  simp [List.getD_eq_getElem?_getD, h, Nat.add_assoc]
def ListsAt (left : Int) (ts : List (List UInt8)) (w : World) (e : Ending) (w' : World) : Prop := ∃ a : Int, e = .returned (.int .i64 a) ∧ -1 ≤ a ∧ (0 ≤ a → a + (tot ts : Int) = left) ∧ w = w'
def LLi (left : Int) (ts : List (List UInt8)) (w0 : World) (l i : Value) : Prop :=
  ∃ (j : Nat) (a : Int), j ≤ ts.length ∧ i = .int .i64 j ∧ l = .int .i64 a ∧ -1 ≤ a ∧ a ≤ left ∧ (0 ≤ a → a + (tot (ts.take j) : Int) = left)

set_option maxHeartbeats 2000000 in
set_option maxRecDepth 100000 in
theorem lists_any (left : Int) (hl0 : 0 ≤ left) (hl1 : left ≤ 2147483647) (ao : Option Addr) (n cap : Nat) (ts : List (List UInt8)) (O : Nat → Prop) (w : World) (hs : SlE w (.slice ao n cap) ts O) (hn : n ≤ 9223372036854775807) (hel : ∀ i, (ts.getD i []).length ≤ 9223372036854775807) :
    Calls Tryd.prog 23 #[.int .i64 left, .slice ao n cap] w (ListsAt left ts w) := by
  have hnl : n = ts.length := by obtain ⟨_, _, _, h, _⟩ := hs; injection h
  have Hs := Lib.hid hs
  have Hnl := Lib.hid hnl
  have Hel := Lib.hid hel
  clear hs hnl hel
  go_enter Tryd.func23, Tryd.ntmps23
  go_wp2
  go_loop [0, 5] (fun l i => LLi left ts w l i) (fun _ i => n - (intOf i).toNat)
  case atStart => exact ⟨0, left, Nat.zero_le _, rfl, rfl, by omega, by omega, fun _ => by simp [tot]⟩
  case round =>
    obtain ⟨j, a, hj, rfl, rfl, ha0, ha1, hsum⟩ := hrel
    have Hsum := Lib.hid hsum
    have hj' : j ≤ n := by have := Hnl.out; omega
    clear hsum hj
    by_cases hlt : j < n
    · have hltI : (j : Int) < (n : Int) := by omega
      by_cases hneg : a < 0
      · have HP : Hid (ListsAt left ts w (.returned (.int .i64 a)) w) := ⟨a, rfl, ha0, fun h => by omega, rfl⟩
        have hd : ¬ 0 ≤ a := by omega
        have hd' : decide (0 ≤ a) = false := by simpa using hd
        go_wp2
        go_ret
        exact HP.out
      · have hpos : 0 ≤ a := by omega
        obtain ⟨ao', cap', pv, he, h3, h4⟩ := Hs.out
        injection he with e1 e2 e3
        subst e1 e3
        obtain ⟨⟨pa, oa, sa⟩, rfl⟩ : ∃ ad, ao = some ad := by
          cases ao with
          | some ad => exact ⟨ad, rfl⟩
          | none => have := h3 rfl; have := Hnl.out; omega
        obtain ⟨hsa, _, h5⟩ := h4 _ rfl
        obtain rfl : sa = none := hsa
        obtain ⟨hc, ⟨bo, bc, hpv, _⟩, _⟩ := h5 j (by have := Hnl.out; omega)
        rw [hpv, add_none] at hc
        obtain ⟨m, hm⟩ : ∃ m, m = (ts.getD j []).length := ⟨_, rfl⟩
        rw [← hm] at hc
        have hmb : m ≤ 9223372036854775807 := by rw [hm]; exact Hel.out j
        have Hm := Lib.hid hm
        obtain ⟨r1, hr1⟩ : ∃ r, r = room a 1 := ⟨_, rfl⟩
        obtain ⟨r2, hr2⟩ : ∃ r, r = room r1 m := ⟨_, rfl⟩
        have hr1a : -1 ≤ r1 ∧ r1 ≤ 2147483647 ∧ r1 ≤ a := by rw [hr1]; unfold room; split <;> (try split) <;> omega
        obtain ⟨hr1a, hr1b, hr1c⟩ := hr1a
        have hr2a : -1 ≤ r2 ∧ r2 ≤ left := by rw [hr2]; unfold room; split <;> (try split) <;> omega
        obtain ⟨hr2a, hr2b⟩ := hr2a
        have HS2 : Hid (0 ≤ r2 → r2 + (tot (ts.take (j + 1)) : Int) = left) := fun h => by
          have h6 := Hsum.out hpos
          rw [tot_take ts j (by have := Hnl.out; omega), ← Hm.out]
          have e2 : r2 = a - 1 - m := by
            rw [hr2, hr1] at h ⊢
            unfold room at h ⊢
            repeat (first | omega | split at h | split)
          omega
        have HC1 := Lib.hid (room_any a 1 w ha0 (by omega) (by omega) (by omega))
        have HC2 := Lib.hid (room_any r1 m w hr1a hr1b (by omega) (by omega))
        rw [← hr1] at HC1
        rw [← hr2] at HC2
        clear h3 h4 h5 hpv hm hr1 hr2 e2
        go_wp2_with fail
        refine HC1.out.mono ?_
        rintro e w' ⟨rfl, rfl⟩
        go_wp2_with fail
        refine HC2.out.mono ?_
        rintro e w' ⟨rfl, rfl⟩
        go_wp2
        go_round
        case rel => exact ⟨j + 1, r2, by have := Hnl.out; omega, by go_num, rfl, hr2a, hr2b, HS2.out⟩
        case measure => simp [intOf]; omega
    · have HP : Hid (ListsAt left ts w (.returned (.int .i64 a)) w) := ⟨a, rfl, ha0, fun h => by
        have h6 := Hsum.out h
        rwa [List.take_of_length_le (by have := Hnl.out; omega)] at h6, rfl⟩
      have hltI : ¬ (j : Int) < (n : Int) := by omega
      have hdI : decide ((j : Int) < (n : Int)) = false := by simpa using hltI
      go_wp2
      go_ret
      exact HP.out
end Go.Proofs.YtiglaeipbcmlnaaDoor.SplitL
