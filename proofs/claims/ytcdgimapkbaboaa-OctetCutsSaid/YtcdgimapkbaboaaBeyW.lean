/-
  docketbook.Lists, Texts of whatever rows; docketlaw1.beyond.
-/
import Derived.Test.YtcdgimapkbaboaaOpenF
namespace Go.Proofs.Ytcdgimapkbaboaa.BeyW
open Go.RowKit Mem RowW PutW StrW RawW TextsW DigW ListsB LaysD OpenF
set_option linter.unusedVariables false
set_option linter.unusedSimpArgs false

set_option maxHeartbeats 2000000 in
set_option maxRecDepth 100000 in
theorem lists_big (left : Int) (hl0 : 0 ≤ left) (hl1 : left ≤ 2147483647) (ao : Option Addr) (n cap : Nat) (ts : List (List UInt8)) (O : Nat → Prop) (w : World) (hs : SlE w (.slice ao n cap) ts O) (hn : n ≤ 9223372036854775807) (hel : ∀ i, (ts.getD i []).length ≤ 9223372036854775807) :
    Calls Try.prog 51 #[.int .i64 left, .slice ao n cap] w (ListsAt left ts w) := by
  have hnl : n = ts.length := by obtain ⟨_, _, _, h, _⟩ := hs; injection h
  have Hs := Lib.hid hs
  have Hnl := Lib.hid hnl
  have Hel := Lib.hid hel
  clear hs hnl hel
  go_enter Try.func51, Try.ntmps51
  go_wp2
  go_loop [0, 5] (fun l i => LLi left ts w l i) (fun _ i => n - (intOf i).toNat)
  case atStart => exact ⟨0, left, Nat.zero_le _, rfl, rfl, by omega, by omega, fun _ => by simp [tot]⟩
  case round =>
    obtain ⟨j, a, hj, rfl, rfl, ha0, ha1, hsum⟩ := hrel
    have Hsum := Lib.hid hsum
    have hj' : j ≤ n := by have := Hnl.out; omega
    clear hsum hj
    by_cases hlt : j < n
    · have hltI : (j : Int) < (n : Int) := by omega
      by_cases hneg : a < 0
      · have HP : Hid (ListsAt left ts w (.returned (.int .i64 a)) w) := ⟨a, rfl, ha0, fun h => by omega, rfl⟩
        have hd : ¬ 0 ≤ a := by omega
        have hd' : decide (0 ≤ a) = false := by simpa using hd
        go_wp2
        go_ret
        exact HP.out
      · have hpos : 0 ≤ a := by omega
        obtain ⟨ao', cap', pv, he, h3, h4⟩ := Hs.out
        injection he with e1 e2 e3
        subst e1 e3
        obtain ⟨⟨pa, oa, sa⟩, rfl⟩ : ∃ ad, ao = some ad := by
          cases ao with
          | some ad => exact ⟨ad, rfl⟩
          | none => have := h3 rfl; have := Hnl.out; omega
        obtain ⟨hsa, _, h5⟩ := h4 _ rfl
        obtain rfl : sa = none := hsa
        obtain ⟨hc, ⟨bo, bc, hpv, _⟩, _⟩ := h5 j (by have := Hnl.out; omega)
        rw [hpv, RowW.add_none] at hc
        obtain ⟨m, hm⟩ : ∃ m, m = (ts.getD j []).length := ⟨_, rfl⟩
        rw [← hm] at hc
        have hmb : m ≤ 9223372036854775807 := by rw [hm]; exact Hel.out j
        have Hm := Lib.hid hm
        obtain ⟨r1, hr1⟩ : ∃ r, r = room a 1 := ⟨_, rfl⟩
        obtain ⟨r2, hr2⟩ : ∃ r, r = room r1 m := ⟨_, rfl⟩
        have hr1a : -1 ≤ r1 ∧ r1 ≤ 2147483647 ∧ r1 ≤ a := by rw [hr1]; unfold room; split <;> (try split) <;> omega
        obtain ⟨hr1a, hr1b, hr1c⟩ := hr1a
        have hr2a : -1 ≤ r2 ∧ r2 ≤ left := by rw [hr2]; unfold room; split <;> (try split) <;> omega
        obtain ⟨hr2a, hr2b⟩ := hr2a
        have HS2 : Hid (0 ≤ r2 → r2 + (tot (ts.take (j + 1)) : Int) = left) := fun h => by
          have h6 := Hsum.out hpos
          rw [tot_take ts j (by have := Hnl.out; omega), ← Hm.out]
          have e2 : r2 = a - 1 - m := by
            rw [hr2, hr1] at h ⊢
            unfold room at h ⊢
            repeat (first | omega | split at h | split)
          omega
        have HC1 := Lib.hid (room_any a 1 w ha0 (by omega) (by omega) (by omega))
        have HC2 := Lib.hid (room_any r1 m w hr1a hr1b (by omega) (by omega))
        rw [← hr1] at HC1
        rw [← hr2] at HC2
        clear h3 h4 h5 hpv hm hr1 hr2 e2
        go_wp2_with fail
        refine HC1.out.mono ?_
        rintro e w' ⟨rfl, rfl⟩
        go_wp2_with fail
        refine HC2.out.mono ?_
        rintro e w' ⟨rfl, rfl⟩
        go_wp2
        go_round
        case rel => exact ⟨j + 1, r2, by have := Hnl.out; omega, by go_num, rfl, hr2a, hr2b, HS2.out⟩
        case measure => simp [intOf]; omega
    · have HP : Hid (ListsAt left ts w (.returned (.int .i64 a)) w) := ⟨a, rfl, ha0, fun h => by
        have h6 := Hsum.out h
        rwa [List.take_of_length_le (by have := Hnl.out; omega)] at h6, rfl⟩
      have hltI : ¬ (j : Int) < (n : Int) := by omega
      have hdI : decide ((j : Int) < (n : Int)) = false := by simpa using hltI
      go_wp2
      go_ret
      exact HP.out

def totS (ts : List ByteArray) : Nat := (ts.map fun t => t.size + 1).sum
theorem totS_take (ts : List ByteArray) (j : Nat) (h : j < ts.length) : totS (ts.take (j + 1)) = totS (ts.take j) + (ts.getD j ByteArray.empty).size + 1 := by
  unfold totS
  rw [List.take_succ_eq_append_getElem h, List.map_append, List.sum_append]
  simp [List.getD_eq_getElem?_getD, h, Nat.add_assoc]
def TextsAt (left : Int) (ts : List ByteArray) (w : World) (e : Ending) (w' : World) : Prop := ∃ a : Int, e = .returned (.int .i64 a) ∧ -1 ≤ a ∧ (0 ≤ a → a + (totS ts : Int) = left) ∧ w = w'
def LTi (left : Int) (ts : List ByteArray) (w0 : World) (l i : Value) : Prop :=
  ∃ (j : Nat) (a : Int), j ≤ ts.length ∧ i = .int .i64 j ∧ l = .int .i64 a ∧ -1 ≤ a ∧ a ≤ left ∧ (0 ≤ a → a + (totS (ts.take j) : Int) = left)

set_option maxHeartbeats 2000000 in
set_option maxRecDepth 100000 in
theorem texts_big (left : Int) (hl0 : 0 ≤ left) (hl1 : left ≤ 2147483647) (ao : Option Addr) (n cap : Nat) (ts : List ByteArray) (w : World) (hs : StrL w (.slice ao n cap) ts) (hn : n ≤ 9223372036854775807) (hel : ∀ i, (ts.getD i ByteArray.empty).size ≤ 9223372036854775807) :
    Calls Try.prog 52 #[.int .i64 left, .slice ao n cap] w (TextsAt left ts w) := by
  have hnl : n = ts.length := by obtain ⟨_, _, h, _⟩ := hs; injection h
  have Hs := Lib.hid hs
  have Hnl := Lib.hid hnl
  have Hel := Lib.hid hel
  clear hs hnl hel
  go_enter Try.func52, Try.ntmps52
  go_wp2
  go_loop [0, 5] (fun l i => LTi left ts w l i) (fun _ i => n - (intOf i).toNat)
  case atStart => exact ⟨0, left, Nat.zero_le _, rfl, rfl, by omega, by omega, fun _ => by simp [totS]⟩
  case round =>
    obtain ⟨j, a, hj, rfl, rfl, ha0, ha1, hsum⟩ := hrel
    have Hsum := Lib.hid hsum
    have hj' : j ≤ n := by have := Hnl.out; omega
    clear hsum hj
    by_cases hlt : j < n
    · have hltI : (j : Int) < (n : Int) := by omega
      by_cases hneg : a < 0
      · have HP : Hid (TextsAt left ts w (.returned (.int .i64 a)) w) := ⟨a, rfl, ha0, fun h => by omega, rfl⟩
        have hd : ¬ 0 ≤ a := by omega
        have hd' : decide (0 ≤ a) = false := by simpa using hd
        go_wp2
        go_ret
        exact HP.out
      · have hpos : 0 ≤ a := by omega
        obtain ⟨ao', cap', he, h3, _, h4⟩ := Hs.out
        injection he with e1 e2 e3
        subst e1 e3
        obtain ⟨⟨pa, oa, sa⟩, rfl⟩ : ∃ ad, ao = some ad := by
          cases ao with
          | some ad => exact ⟨ad, rfl⟩
          | none => have := h3 rfl; have := Hnl.out; omega
        obtain ⟨hsa, h5⟩ := h4 _ rfl
        obtain rfl : sa = none := hsa
        have hc := h5 j (by have := Hnl.out; omega)
        rw [RowW.add_none] at hc
        obtain ⟨s, hs⟩ : ∃ s, s = ts.getD j ByteArray.empty := ⟨_, rfl⟩
        rw [← hs] at hc
        obtain ⟨m, hm⟩ : ∃ m, m = (ts.getD j ByteArray.empty).size := ⟨_, rfl⟩
        have hsm : s.size = m := by rw [hs, hm]
        have hmb : m ≤ 9223372036854775807 := by rw [hm]; exact Hel.out j
        have Hm := Lib.hid hm
        obtain ⟨r1, hr1⟩ : ∃ r, r = room a 1 := ⟨_, rfl⟩
        obtain ⟨r2, hr2⟩ : ∃ r, r = room r1 m := ⟨_, rfl⟩
        have hr1a : -1 ≤ r1 ∧ r1 ≤ 2147483647 ∧ r1 ≤ a := by rw [hr1]; unfold room; split <;> (try split) <;> omega
        obtain ⟨hr1a, hr1b, hr1c⟩ := hr1a
        have hr2a : -1 ≤ r2 ∧ r2 ≤ left := by rw [hr2]; unfold room; split <;> (try split) <;> omega
        obtain ⟨hr2a, hr2b⟩ := hr2a
        have HS2 : Hid (0 ≤ r2 → r2 + (totS (ts.take (j + 1)) : Int) = left) := fun h => by
          have h6 := Hsum.out hpos
          rw [totS_take ts j (by have := Hnl.out; omega), ← Hm.out]
          have e2 : r2 = a - 1 - m := by
            rw [hr2, hr1] at h ⊢
            unfold room at h ⊢
            repeat (first | omega | split at h | split)
          omega
        have HC1 := Lib.hid (room_any a 1 w ha0 (by omega) (by omega) (by omega))
        have HC2 := Lib.hid (room_any r1 m w hr1a hr1b (by omega) (by omega))
        rw [← hr1] at HC1
        rw [← hr2] at HC2
        clear h3 h4 h5 hm hr1 hr2 e2 hs
        go_wp2_with fail
        refine HC1.out.mono ?_
        rintro e w' ⟨rfl, rfl⟩
        go_wp2_with fail
        refine HC2.out.mono ?_
        rintro e w' ⟨rfl, rfl⟩
        go_wp2
        go_round
        case rel => exact ⟨j + 1, r2, by have := Hnl.out; omega, by go_num, rfl, hr2a, hr2b, HS2.out⟩
        case measure => simp [intOf]; omega
    · have HP : Hid (TextsAt left ts w (.returned (.int .i64 a)) w) := ⟨a, rfl, ha0, fun h => by
        have h6 := Hsum.out h
        rwa [List.take_of_length_le (by have := Hnl.out; omega)] at h6, rfl⟩
      have hltI : ¬ (j : Int) < (n : Int) := by omega
      have hdI : decide ((j : Int) < (n : Int)) = false := by simpa using hltI
      go_wp2
      go_ret
      exact HP.out

theorem lists_empty (left : Int) (ao : Option Addr) (cap : Nat) (w : World) : Calls Try.prog 51 #[.int .i64 left, .slice ao 0 cap] w fun e w' => e = .returned (.int .i64 left) ∧ w = w' := by
  go_enter Try.func51, Try.ntmps51
  go_wp2
  refine wp_loop_rounds 1 ?_
  rw [rounds_succ]
  go_wp2
  go_ret
  exact ⟨rfl, rfl⟩
theorem lists_neg (ao : Option Addr) (n cap : Nat) (w : World) : Calls Try.prog 51 #[.int .i64 (-1), .slice ao n cap] w fun e w' => e = .returned (.int .i64 (-1)) ∧ w = w' := by
  by_cases h : 0 < n
  · have hI : (0 : Int) < (n : Int) := by omega
    go_enter Try.func51, Try.ntmps51
    go_wp2
    refine wp_loop_rounds 1 ?_
    rw [rounds_succ]
    go_wp2
    go_ret
    exact ⟨rfl, rfl⟩
  · obtain rfl : n = 0 := by omega
    exact lists_empty (-1) ao cap w
theorem texts_empty (left : Int) (ao : Option Addr) (cap : Nat) (w : World) : Calls Try.prog 52 #[.int .i64 left, .slice ao 0 cap] w fun e w' => e = .returned (.int .i64 left) ∧ w = w' := by
  go_enter Try.func52, Try.ntmps52
  go_wp2
  refine wp_loop_rounds 1 ?_
  rw [rounds_succ]
  go_wp2
  go_ret
  exact ⟨rfl, rfl⟩
theorem texts_neg (ao : Option Addr) (n cap : Nat) (w : World) : Calls Try.prog 52 #[.int .i64 (-1), .slice ao n cap] w fun e w' => e = .returned (.int .i64 (-1)) ∧ w = w' := by
  by_cases h : 0 < n
  · have hI : (0 : Int) < (n : Int) := by omega
    go_enter Try.func52, Try.ntmps52
    go_wp2
    refine wp_loop_rounds 1 ?_
    rw [rounds_succ]
    go_wp2
    go_ret
    exact ⟨rfl, rfl⟩
  · obtain rfl : n = 0 := by omega
    exact texts_empty (-1) ao cap w

/-- what is left behind a row -/
def LeftAt (left : Int) (t : Nat) (w : World) (e : Ending) (w' : World) : Prop := ∃ a : Int, e = .returned (.int .i64 a) ∧ -1 ≤ a ∧ a ≤ 2147483647 ∧ (0 ≤ a → 0 ≤ left ∧ a + (t : Int) ≤ left) ∧ w = w'
theorem listsE (left : Int) (h0 : -1 ≤ left) (h1 : left ≤ 2147483647) (v : Value) (ts : List (List UInt8)) (w : World) (hp : PrtE w v ts) (hn : ts.length ≤ maxLen) (hel : ∀ i, (ts.getD i []).length ≤ maxLen) :
    Calls Try.prog 51 #[.int .i64 left, v] w (LeftAt left 0 w) := by
  unfold maxLen at hn hel
  obtain ⟨ao, cap, rfl, hs⟩ := hp
  by_cases hl : left < 0
  · obtain rfl : left = -1 := by omega
    exact (lists_neg ao _ cap w).mono fun e w' ⟨he, hw⟩ => ⟨-1, he, by omega, by omega, fun h => by omega, hw⟩
  · by_cases ht : ts = []
    · subst ht
      exact (lists_empty left ao cap w).mono fun e w' ⟨he, hw⟩ => ⟨left, he, by omega, by omega, fun h => by omega, hw⟩
    · exact (lists_big left (by omega) h1 ao _ cap ts _ w (hs ht) (by omega) (fun i => by have := hel i; omega)).mono fun e w' ⟨a, he, g1, g2, hw⟩ => by
        by_cases ha : 0 ≤ a
        · have := g2 ha; exact ⟨a, he, g1, by omega, fun _ => by omega, hw⟩
        · exact ⟨a, he, g1, by omega, fun h => absurd h ha, hw⟩
theorem textsE (left : Int) (h0 : -1 ≤ left) (h1 : left ≤ 2147483647) (v : Value) (ss : List ByteArray) (O : Nat → Prop) (w : World) (hp : StE w v ss O) (hn : ss.length ≤ maxLen) :
    Calls Try.prog 52 #[.int .i64 left, v] w (LeftAt left (totS ss) w) := by
  unfold maxLen at hn
  obtain ⟨ao, cap, rfl, hs⟩ := hp
  by_cases hl : left < 0
  · obtain rfl : left = -1 := by omega
    exact (texts_neg ao _ cap w).mono fun e w' ⟨he, hw⟩ => ⟨-1, he, by omega, by omega, fun h => by omega, hw⟩
  · by_cases ht : ss = []
    · subst ht
      exact (texts_empty left ao cap w).mono fun e w' ⟨he, hw⟩ => ⟨left, he, by omega, by omega, fun h => ⟨by omega, by simp [totS]⟩, hw⟩
    · obtain ⟨hst, _⟩ := hs ht
      have hel : ∀ i, (ss.getD i ByteArray.empty).size ≤ 9223372036854775807 := fun i => by
        obtain ⟨_, _, _, _, hm, _⟩ := hst
        rcases Nat.lt_or_ge i ss.length with hi | hi
        · rw [List.getD_eq_getElem?_getD, List.getElem?_eq_getElem hi]
          have := hm _ (List.getElem_mem hi)
          unfold maxLen at this
          simpa using this
        · rw [List.getD_eq_getElem?_getD, List.getElem?_eq_none hi]
          exact Nat.zero_le _
      exact (texts_big left (by omega) h1 ao _ cap ss w hst (by omega) hel).mono fun e w' ⟨a, he, g1, g2, hw⟩ => by
        by_cases ha : 0 ≤ a
        · have := g2 ha; exact ⟨a, he, g1, by omega, fun _ => by omega, hw⟩
        · exact ⟨a, he, g1, by omega, fun h => absurd h ha, hw⟩

/-- what a step counts for -/
def costD (o : OpD) : Nat := 100 + o.xs.length + o.st.length + 32 * o.ds.length + totS o.ss
def costs (os : List OpD) : Nat := (os.map costD).sum
theorem costs_take (os : List OpD) (od : OpD) (j : Nat) (h : j < os.length) : costs (os.take (j + 1)) = costs (os.take j) + costD (os.getD j od) := by
  unfold costs
  rw [List.take_succ_eq_append_getElem h, List.map_append, List.sum_append]
  simp [List.getD_eq_getElem?_getD, h]
theorem room_le {a n : Int} (h : 0 ≤ room a n) : 0 ≤ a ∧ room a n = a - n ∧ n ≤ a := by
  unfold room at h ⊢
  split at h
  · omega
  · split at h
    · omega
    · rename_i h1 h2
      rw [if_neg h1, if_neg h2]
      omega
theorem room_ge (a n : Int) (h0 : -1 ≤ a) (hn : 0 ≤ n) : -1 ≤ room a n ∧ room a n ≤ a := by
  unfold room
  split
  · omega
  · split <;> omega
def BeyAt (os : List OpD) (w : World) (e : Ending) (w' : World) : Prop := ∃ b : Bool, e = .returned (.bool b) ∧ (b = false → costs os ≤ 2147483647) ∧ Upd (fun _ => False) w w'
def LB (os : List OpD) (w : World) (lv i : Value) : Prop :=
  ∃ (j : Nat) (a : Int), j ≤ os.length ∧ i = .int .i64 j ∧ lv = .int .i64 a ∧ -1 ≤ a ∧ a ≤ 2147483647 ∧ (0 ≤ a → a + (costs (os.take j) : Int) ≤ 2147483647)
set_option maxHeartbeats 8000000 in
set_option maxRecDepth 100000 in
theorem beyond_any (ao : Option Addr) (n cap : Nat) (os : List OpD) (od : OpD) (w : World) (hs : OpsF w (.slice ao n cap) os od) (hn : n ≤ 9223372036854775807) :
    Calls Try.prog 25 #[.slice ao n cap] w (BeyAt os w) := by
  have hnl : n = os.length := by obtain ⟨_, _, h, _⟩ := hs; injection h
  have Hs : Hid (OpsF w (.slice ao n cap) os od) := hs
  have Hnl := Lib.hid hnl
  clear hs hnl
  go_enter Try.func25, Try.ntmps25
  go_wp2
  go_loop [3, 4] (fun l i => LB os w l i) (fun _ i => n - (intOf i).toNat)
  case atStart => exact ⟨0, 2147483647, Nat.zero_le _, rfl, rfl, by omega, by omega, fun _ => by simp [costs]⟩
  case round =>
    obtain ⟨j, a, hj, rfl, rfl, ha0, ha1, hsum⟩ := hrel
    have Hsum := Lib.hid hsum
    have hj' : j ≤ n := by have := Hnl.out; omega
    clear hsum hj
    by_cases hlt : j < n
    · have hltI : (j : Int) < (n : Int) := by omega
      by_cases hneg : a < 0
      · have HP : Hid (BeyAt os w (.returned (.bool true)) w) := ⟨true, rfl, fun h => (by cases h), Upd.refl _ _⟩
        have hd : ¬ 0 ≤ a := by omega
        go_wp2
        go_ret
        exact HP.out
      · have hpos : 0 ≤ a := by omega
        have hjo : j < os.length := by have := Hnl.out; omega
        obtain ⟨ao', cap', he, h3, h4⟩ := Hs.out
        injection he with e1 e2 e3
        subst e1 e3
        clear e2
        obtain ⟨⟨pa, oa, sa⟩, rfl⟩ : ∃ ad, ao = some ad := by
          cases ao with
          | some ad => exact ⟨ad, rfl⟩
          | none => have := h3 rfl; omega
        obtain ⟨hsa, _, h5⟩ := h4 _ rfl
        obtain rfl : sa = none := hsa
        obtain ⟨cs, hf, hra⟩ := h5 j hjo
        obtain ⟨o, ho⟩ : ∃ o, o = os.getD j od := ⟨_, rfl⟩
        rw [← ho] at hf
        have hct := costs_take os od j hjo
        rw [← ho] at hct
        obtain ⟨⟨⟨x1, dv, x6, pv, lv, rfl, hd, hp, hpo, hst⟩, _⟩, ⟨v6, ts, h6, hprt, htl, hte⟩, _, hbd, hbs, hbt, _⟩ := hf
        obtain rfl : x6 = v6 := Option.some.inj h6
        obtain ⟨dao, dcap, rfl, _⟩ := hd
        obtain ⟨pao, pcap, rfl, hpl, hpc, _⟩ := id hp
        obtain ⟨nd, hnd⟩ : ∃ x, x = o.ds.length := ⟨_, rfl⟩
        obtain ⟨np, hnp⟩ : ∃ x, x = o.xs.length := ⟨_, rfl⟩
        obtain ⟨stv, hstv⟩ : ∃ x : ByteArray, x = ⟨o.st.toArray⟩ := ⟨_, rfl⟩
        have hsz : stv.size = o.st.length := by rw [hstv]; simp [ByteArray.size]
        have hbd' : nd ≤ 9223372036854775807 := by rw [hnd]; exact hbd
        have hbp' : np ≤ 9223372036854775807 := by rw [hnp]; unfold maxLen at hpc; omega
        have hbt' : stv.size ≤ 9223372036854775807 := by rw [hsz]; exact hbt
        rw [← hnd, ← hnp, ← hstv] at hra
        have c5 : w.cell? ⟨pa, oa + j * 12 + 5, none⟩ = some (.slice dao nd dcap) := hra 5 _ rfl
        have c6 : w.cell? ⟨pa, oa + j * 12 + 6, none⟩ = some x6 := hra 6 _ rfl
        have c7 : w.cell? ⟨pa, oa + j * 12 + 7, none⟩ = some (.slice pao np pcap) := hra 7 _ rfl
        have c8 : w.cell? ⟨pa, oa + j * 12 + 8, none⟩ = some (.string stv) := hra 8 _ rfl
        have c9 : w.cell? ⟨pa, oa + j * 12 + 9, none⟩ = some lv := hra 9 _ rfl
        obtain ⟨r1, hr1⟩ : ∃ r, r = room a 100 := ⟨_, rfl⟩
        obtain ⟨r2, hr2⟩ : ∃ r, r = room r1 np := ⟨_, rfl⟩
        obtain ⟨r3, hr3⟩ : ∃ r, r = room r2 (stv.size : Int) := ⟨_, rfl⟩
        obtain ⟨b1, t1⟩ := room_ge a 100 ha0 (by omega)
        rw [← hr1] at b1 t1
        obtain ⟨b2, t2⟩ := room_ge r1 np b1 (by omega)
        rw [← hr2] at b2 t2
        obtain ⟨b3, t3⟩ := room_ge r2 stv.size b2 (by omega)
        rw [← hr3] at b3 t3
        have HC1 := Lib.hid (room_any a 100 w ha0 ha1 (by omega) (by omega))
        have HC2 := Lib.hid (room_any r1 np w b1 (by omega) (by omega) (by omega))
        have HC3 := Lib.hid (room_any r2 (stv.size : Int) w b2 (by omega) (by omega) (by omega))
        rw [← hr1] at HC1
        rw [← hr2] at HC2
        rw [← hr3] at HC3
        by_cases hbig : 67108863 < nd
        · have HP : Hid (BeyAt os w (.returned (.bool true)) w) := ⟨true, rfl, fun h => (by cases h), Upd.refl _ _⟩
          have hbigI : (67108863 : Int) < (nd : Int) := by omega
          clear h3 h4 h5 hra hr1 hr2 hr3 hct ho hprt htl hte hst hp hpo hnd hnp hstv hsz hbd hbs hbt h6
          go_wp2_with fail
          refine HC1.out.mono ?_
          rintro e w' ⟨rfl, hw⟩
          subst hw
          go_wp2_with fail
          refine HC2.out.mono ?_
          rintro e w' ⟨rfl, hw⟩
          subst hw
          go_wp2_with fail
          refine HC3.out.mono ?_
          rintro e w' ⟨rfl, hw⟩
          subst hw
          go_wp2
          go_ret
          exact HP.out
        · have hbigI : ¬ (67108863 : Int) < (nd : Int) := by omega
          have hmul : (32 : Int) * (nd : Int) = ((32 * nd : Nat) : Int) := by omega
          obtain ⟨r4, hr4⟩ : ∃ r, r = room r3 (32 * (nd : Int)) := ⟨_, rfl⟩
          obtain ⟨b4, t4⟩ := room_ge r3 (32 * (nd : Int)) b3 (by omega)
          rw [← hr4] at b4 t4
          have HC4 := Lib.hid (room_any r3 (32 * (nd : Int)) w b3 (by omega) (by omega) (by omega))
          rw [← hr4] at HC4
          have HC5 := Lib.hid (listsE r4 b4 (by omega) x6 ts w hprt htl hte)
          have HC6 : Hid (∀ r5 : Int, -1 ≤ r5 → r5 ≤ 2147483647 → Calls Try.prog 52 #[.int .i64 r5, lv] w (LeftAt r5 (totS o.ss) w)) := fun r5 g0 g1 => textsE r5 g0 g1 lv o.ss _ w hst hbs
          have HSum : Hid (∀ r5 r6 : Int, (0 ≤ r5 → 0 ≤ r4 ∧ r5 + 0 ≤ r4) → (0 ≤ r6 → 0 ≤ r5 ∧ r6 + (totS o.ss : Int) ≤ r5) → 0 ≤ r6 → r6 + (costs (os.take (j + 1)) : Int) ≤ 2147483647) := by
            intro r5 r6 g5 g6 g0
            obtain ⟨k5, k6⟩ := g6 g0
            obtain ⟨k4, k5'⟩ := g5 k5
            rw [hr4] at k4
            obtain ⟨k3, q4, _⟩ := room_le k4
            rw [hr3] at k3
            obtain ⟨k2, q3, _⟩ := room_le k3
            rw [hr2] at k2
            obtain ⟨k1, q2, _⟩ := room_le k2
            rw [hr1] at k1
            obtain ⟨k0, q1, _⟩ := room_le k1
            have hc := Hsum.out hpos
            rw [hct]
            unfold costD
            rw [← hr1] at q1
            rw [← hr2] at q2
            rw [← hr3] at q3
            rw [← hr4] at q4
            omega
          clear h3 h4 h5 hra hr1 hr2 hr3 hr4 hct ho hprt htl hte hst hp hpo hnd hnp hstv hsz hbd hbs hbt h6 hmul
          go_wp2_with fail
          refine HC1.out.mono ?_
          rintro e w' ⟨rfl, hw⟩
          subst hw
          go_wp2_with fail
          refine HC2.out.mono ?_
          rintro e w' ⟨rfl, hw⟩
          subst hw
          go_wp2_with fail
          refine HC3.out.mono ?_
          rintro e w' ⟨rfl, hw⟩
          subst hw
          go_wp2_with fail
          refine HC4.out.mono ?_
          rintro e w' ⟨rfl, hw⟩
          subst hw
          go_wp2_with fail
          refine HC5.out.mono ?_
          rintro e w' ⟨r5, rfl, g50, g51, g52, hw⟩
          subst hw
          go_wp2_with fail
          refine (HC6.out r5 g50 g51).mono ?_
          rintro e w' ⟨r6, rfl, g60, g61, g62, hw⟩
          subst hw
          have HS6 : Hid (0 ≤ r6 → r6 + (costs (os.take (j + 1)) : Int) ≤ 2147483647) := fun h => HSum.out r5 r6 (by simpa using g52) g62 h
          clear g52 g62
          go_wp2
          go_round
          case rel => exact ⟨j + 1, r6, by have := Hnl.out; omega, by go_num, rfl, g60, g61, HS6.out⟩
          case measure => simp [intOf]; omega
    · have hltI : ¬ (j : Int) < (n : Int) := by omega
      obtain rfl : n = j := by omega
      have hall : os.take n = os := List.take_of_length_le (by have := Hnl.out; omega)
      by_cases hneg : a < 0
      · have HP : Hid (BeyAt os w (.returned (.bool true)) w) := ⟨true, rfl, fun h => (by cases h), Upd.refl _ _⟩
        clear hall
        go_wp2
        go_ret
        exact HP.out
      · have HP : Hid (BeyAt os w (.returned (.bool false)) w) := ⟨false, rfl, fun _ => by
          have h := Hsum.out (by omega)
          rw [hall] at h
          omega, Upd.refl _ _⟩
        clear hall
        go_wp2
        go_ret
        exact HP.out
end Go.Proofs.Ytcdgimapkbaboaa.BeyW
