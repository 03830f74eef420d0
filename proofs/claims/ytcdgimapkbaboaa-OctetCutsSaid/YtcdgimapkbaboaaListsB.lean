/-
  docketbook.Room, Lists; slices of bytes whose address is asked for where they have an element alone.
-/
import Derived.Test.YtcdgimapkbaboaaBookW
import Derived.Deep.OwnRows
import Derived.Laws.AppendOwnNone
import Derived.Maps.AppendAt
namespace Go.Proofs.Ytcdgimapkbaboaa.ListsB
open Go.RowKit Sha Mem RowW CopyW BookW
set_option linter.unusedVariables false
set_option linter.unusedSimpArgs false

def room (a n : Int) : Int := if a < 0 then -1 else if a < n then -1 else a - n
theorem room_any (a n : Int) (w : World) (h0 : -1 ≤ a) (h1 : a ≤ 2147483647) (h2 : 0 ≤ n) (h3 : n ≤ 9223372036854775807) :
    Calls Try.prog 50 #[.int .i64 a, .int .i64 n] w fun e w' => e = .returned (.int .i64 (room a n)) ∧ w = w' := by
  by_cases ha : a < 0
  · have e : room a n = -1 := if_pos ha
    rw [e]
    clear e
    go_enter Try.func50, Try.ntmps50
    go_wp2
    go_ret
    exact ⟨rfl, rfl⟩
  · by_cases hn : a < n
    · have e : room a n = -1 := by unfold room; rw [if_neg ha, if_pos hn]
      rw [e]
      clear e
      have hd : decide (a < 0) = false := by simpa using ha
      go_enter Try.func50, Try.ntmps50
      go_wp2
      go_ret
      exact ⟨rfl, rfl⟩
    · have e : room a n = a - n := by unfold room; rw [if_neg ha, if_neg hn]
      rw [e]
      clear e
      have hd : decide (a < 0) = false := by simpa using ha
      have hd2 : decide (a < n) = false := by simpa using hn
      go_enter Try.func50, Try.ntmps50
      go_wp2
      go_ret
      exact ⟨rfl, rfl⟩

/-- a slice of bytes, whose address is asked for where it has an element alone -/
def El (w : World) (v : Value) (l : List UInt8) : Prop := ∃ ao cap, v = .slice ao l.length cap ∧ l.length ≤ cap ∧ cap ≤ maxLen ∧ (ao = none → cap = 0) ∧ (l ≠ [] → Sl w v l)
theorem El.upd {S : Nat → Prop} {w w' : World} {v : Value} {l : List UInt8} (h : El w v l) (hu : Upd S w w') (hd : l ≠ [] → ∀ k, own v k → ¬ S k) : El w' v l := by
  obtain ⟨ao, cap, rfl, h1, h2, h0, h3⟩ := h
  exact ⟨ao, cap, rfl, h1, h2, h0, fun hn => (h3 hn).upd hu (hd hn)⟩
/-- a slice of such slices; what is read of it lies in blocks of O -/
def SlE (w : World) (v : Value) (ts : List (List UInt8)) (O : Nat → Prop) : Prop :=
  ∃ ao cap, ∃ pv : Nat → Value, v = .slice ao ts.length cap ∧ (ao = none → ts.length = 0) ∧
    ∀ a, ao = some a → a.spot = none ∧ (0 < ts.length → O a.block) ∧ ∀ i, i < ts.length → w.cell? (a.add i) = some (pv i) ∧ El w (pv i) (ts.getD i []) ∧ (ts.getD i [] ≠ [] → ∀ k, own (pv i) k → O k)
theorem SlE.upd {S O : Nat → Prop} {w w' : World} {v : Value} {ts : List (List UInt8)} (h : SlE w v ts O) (hu : Upd S w w') (hd : ∀ k, O k → ¬ S k) : SlE w' v ts O := by
  obtain ⟨ao, cap, pv, rfl, h3, h4⟩ := h
  refine ⟨ao, cap, pv, rfl, h3, fun a ha => ⟨(h4 a ha).1, (h4 a ha).2.1, fun i hi => ?_⟩⟩
  obtain ⟨hc, hs, hp⟩ := (h4 a ha).2.2 i hi
  refine ⟨hu.cell hc ?_, hs.upd hu (fun hn k hk => hd k (hp hn k hk)), hp⟩
  have hb : (a.add i).block = a.block := by unfold Addr.add; split <;> rfl
  rw [hb]
  exact hd _ ((h4 a ha).2.1 (by omega))

def tot (ts : List (List UInt8)) : Nat := (ts.map fun t => t.length + 1).sum
theorem tot_take (ts : List (List UInt8)) (j : Nat) (h : j < ts.length) : tot (ts.take (j + 1)) = tot (ts.take j) + (ts.getD j []).length + 1 := by
  unfold tot
  rw [List.take_succ_eq_append_getElem h, List.map_append, List.sum_append]
  simp [List.getD_eq_getElem?_getD, h, Nat.add_assoc]
def ListsAt (left : Int) (ts : List (List UInt8)) (w : World) (e : Ending) (w' : World) : Prop := ∃ a : Int, e = .returned (.int .i64 a) ∧ -1 ≤ a ∧ (0 ≤ a → a + (tot ts : Int) = left) ∧ w = w'
def LLi (left : Int) (ts : List (List UInt8)) (w0 : World) (l i : Value) : Prop :=
  ∃ (j : Nat) (a : Int), j ≤ ts.length ∧ i = .int .i64 j ∧ l = .int .i64 a ∧ -1 ≤ a ∧ a ≤ left ∧ (0 ≤ a → a + (tot (ts.take j) : Int) = left)

set_option maxHeartbeats 2000000 in
set_option maxRecDepth 100000 in
theorem lists_any (left : Int) (hl0 : 0 ≤ left) (hl1 : left ≤ 2147483647) (ao : Option Addr) (n cap : Nat) (ts : List (List UInt8)) (O : Nat → Prop) (w : World) (hs : SlE w (.slice ao n cap) ts O) (hn : n ≤ 140737488355328) (hel : ∀ i, (ts.getD i []).length ≤ 9223372036854775807) :
    Calls Try.prog 51 #[.int .i64 left, .slice ao n cap] w (ListsAt left ts w) := by
  have hnl : n = ts.length := by obtain ⟨_, _, _, h, _⟩ := hs; injection h
  have Hs := Lib.hid hs
  have Hnl := Lib.hid hnl
  have Hel := Lib.hid hel
  clear hs hnl hel
  go_enter Try.func51, Try.ntmps51
  go_wp2
  go_loop [0, 5] (fun l i => LLi left ts w l i) (fun _ i => n - (intOf i).toNat)
  case atStart => exact ⟨0, left, Nat.zero_le _, rfl, rfl, by omega, by omega, fun _ => by simp [tot]⟩
  case round =>
    obtain ⟨j, a, hj, rfl, rfl, ha0, ha1, hsum⟩ := hrel
    have Hsum := Lib.hid hsum
    have hj' : j ≤ n := by have := Hnl.out; omega
    clear hsum hj
    by_cases hlt : j < n
    · have hltI : (j : Int) < (n : Int) := by omega
      by_cases hneg : a < 0
      · have HP : Hid (ListsAt left ts w (.returned (.int .i64 a)) w) := ⟨a, rfl, ha0, fun h => by omega, rfl⟩
        have hd : ¬ 0 ≤ a := by omega
        have hd' : decide (0 ≤ a) = false := by simpa using hd
        go_wp2
        go_ret
        exact HP.out
      · have hpos : 0 ≤ a := by omega
        obtain ⟨ao', cap', pv, he, h3, h4⟩ := Hs.out
        injection he with e1 e2 e3
        subst e1 e3
        obtain ⟨⟨pa, oa, sa⟩, rfl⟩ : ∃ ad, ao = some ad := by
          cases ao with
          | some ad => exact ⟨ad, rfl⟩
          | none => have := h3 rfl; have := Hnl.out; omega
        obtain ⟨hsa, _, h5⟩ := h4 _ rfl
        obtain rfl : sa = none := hsa
        obtain ⟨hc, ⟨bo, bc, hpv, _⟩, _⟩ := h5 j (by have := Hnl.out; omega)
        rw [hpv, add_none] at hc
        obtain ⟨m, hm⟩ : ∃ m, m = (ts.getD j []).length := ⟨_, rfl⟩
        rw [← hm] at hc
        have hmb : m ≤ 9223372036854775807 := by rw [hm]; exact Hel.out j
        have Hm := Lib.hid hm
        obtain ⟨r1, hr1⟩ : ∃ r, r = room a 1 := ⟨_, rfl⟩
        obtain ⟨r2, hr2⟩ : ∃ r, r = room r1 m := ⟨_, rfl⟩
        have hr1a : -1 ≤ r1 ∧ r1 ≤ 2147483647 ∧ r1 ≤ a := by rw [hr1]; unfold room; split <;> (try split) <;> omega
        obtain ⟨hr1a, hr1b, hr1c⟩ := hr1a
        have hr2a : -1 ≤ r2 ∧ r2 ≤ left := by rw [hr2]; unfold room; split <;> (try split) <;> omega
        obtain ⟨hr2a, hr2b⟩ := hr2a
        have HS2 : Hid (0 ≤ r2 → r2 + (tot (ts.take (j + 1)) : Int) = left) := fun h => by
          have h6 := Hsum.out hpos
          rw [tot_take ts j (by have := Hnl.out; omega), ← Hm.out]
          have e2 : r2 = a - 1 - m := by
            rw [hr2, hr1] at h ⊢
            unfold room at h ⊢
            repeat (first | omega | split at h | split)
          omega
        have HC1 := Lib.hid (room_any a 1 w ha0 (by omega) (by omega) (by omega))
        have HC2 := Lib.hid (room_any r1 m w hr1a hr1b (by omega) (by omega))
        rw [← hr1] at HC1
        rw [← hr2] at HC2
        clear h3 h4 h5 hpv hm hr1 hr2 e2
        go_wp2_with fail
        refine HC1.out.mono ?_
        rintro e w' ⟨rfl, rfl⟩
        go_wp2_with fail
        refine HC2.out.mono ?_
        rintro e w' ⟨rfl, rfl⟩
        go_wp2
        go_round
        case rel => exact ⟨j + 1, r2, by have := Hnl.out; omega, by go_num, rfl, hr2a, hr2b, HS2.out⟩
        case measure => simp [intOf]; omega
    · have HP : Hid (ListsAt left ts w (.returned (.int .i64 a)) w) := ⟨a, rfl, ha0, fun h => by
        have h6 := Hsum.out h
        rwa [List.take_of_length_le (by have := Hnl.out; omega)] at h6, rfl⟩
      have hltI : ¬ (j : Int) < (n : Int) := by omega
      have hdI : decide ((j : Int) < (n : Int)) = false := by simpa using hltI
      go_wp2
      go_ret
      exact HP.out
theorem own_form {w : World} {base n : Nat} {e : TypeId} {v : Value} {xs : List Value} (h : w.ownsRow base e 1 v n xs) : ∃ ao cap, v = .slice ao n cap := by
  rcases h.2 with ⟨rfl, rfl⟩ | ⟨g, cap, cur, rfl, _⟩
  · exact ⟨_, _, rfl⟩
  · exact ⟨_, _, rfl⟩
theorem El.of_sl {w : World} {v : Value} {l : List UInt8} (h : Sl w v l) : El w v l := by
  obtain ⟨ao, cap, rfl, h1, h2, h3, h4⟩ := id h
  exact ⟨ao, cap, rfl, h1, h2, h3, fun _ => h⟩

/-- append(v, p...): v a row of the call's own, p a slice that may be empty wherever it points -/
theorem wpList_append_el (w : World) {ops : Array Oper} {rest : List Oper} {o : Oper} {a : Act} {Q : Exit → Act → World → Prop} (hgd : o.guard = none) (sl x : Operand)
    (ho : o.op = .call { callee := .builtin .append, args := #[sl, x], argTypes := #[30, 30] })
    (v : Value) (n : Nat) (l t : List UInt8) (hs : a.eval sl = v) (hn : n = l.length) (hown : w.ownsRow 0 5 1 v n (l.map u8)) (sv : Value) (hx : a.eval x = sv) (hsl : El w sv t)
    (h63 : l.length + t.length ≤ maxLen) (hbytes : l.length + t.length ≤ 140737488355328) (m : Nat) (hm : m = l.length + t.length)
    (h : ∀ ao cap w', Hid (w'.ownsRow 0 5 1 (.slice ao m cap) m ((l ++ t).map u8)) → Hid (w.grownBy w' v.ownBlock) → Hid ((Value.slice ao m cap).ownBlock = v.ownBlock ∨ (Value.slice ao m cap).ownBlock = some w.heap.size) → wpList Try.prog ops Q rest (a.put o.dst (.slice ao m cap)) w') :
    wpList Try.prog ops Q (o :: rest) a w := by
  subst hn hm
  have key : ∀ v' w', Hid (w'.ownsRow 0 5 1 v' (l ++ t).length ((l ++ t).map u8)) → Hid (w.grownBy w' v.ownBlock) → Hid (v'.ownBlock = v.ownBlock ∨ v'.ownBlock = some w.heap.size) → wpList Try.prog ops Q rest (a.put o.dst v') w' := by
    intro v' w' h1 h2 h3
    have h1' := h1.out
    rw [List.length_append] at h1'
    obtain ⟨ao, cap, rfl⟩ := own_form h1'
    exact h ao cap w' h1' h2 h3
  by_cases ht : t = []
  · subst ht
    obtain ⟨ao, cap, rfl, _, hcm, hnone, _⟩ := hsl
    obtain ⟨i0, hi, hz0, hz1, hz2⟩ := info_parts info8
    cases ao with
    | none =>
      by_cases hc : cap = 0
      · subst hc
        exact wpList_append_own_none hgd sl x 30 ho 0 5 i0 1 Try.underlying30 hi v _ _ hs hown hx (key v w (show World.ownsRow _ _ _ _ _ _ _ by simpa using hown) (World.grownBy.refl _ _) (.inl rfl))
      · exact absurd (hnone rfl) hc
    | some ad =>
      refine wpList_append_own_at w hgd sl x 30 ho 0 5 i0 (.int .u8 0) 1 1 Try.underlying30 hi hz0 hz1 hz2 rfl (by decide) v _ _ hs hown ad 0 cap [] hx (by simp) (fun j u hu => by simp at hu) (fun u hu => by simp at hu) h63 (by simpa using hbytes) (Nat.zero_le _) (fun v' w' a1 a2 _ a4 => key v' w' ?_ a2 a4)
      show World.ownsRow _ _ _ _ _ _ _
      simpa using a1
  · obtain ⟨_, _, _, _, _, _, hsl'⟩ := hsl
    exact wpList_append_bytes w hgd sl x ho 0 v l t hs hown sv hx (hsl' ht) h63 hbytes (Nat.zero_le _) key
end Go.Proofs.Ytcdgimapkbaboaa.ListsB
