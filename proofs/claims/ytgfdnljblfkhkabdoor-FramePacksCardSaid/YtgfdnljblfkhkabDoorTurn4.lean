/-
  docketlaw4.turned: bytes from a place on are written over where they stand.
-/
import Derived.Test.YtgfdnljblfkhkabDoorBookW
namespace Go.Proofs.YtgfdnljblfkhkabDoor.Turn4
open Go.RowKit Sha Mem RowW CopyW BookW
set_option linter.unusedVariables false

/-- the bytes from a on, as far as j, turned -/
def tf (L : List UInt8) (a j : Nat) : List UInt8 := L.take a ++ tsub (L.drop a) (j - a)
theorem tf_len (L : List UInt8) (a j : Nat) (h : a ≤ L.length) : (tf L a j).length = L.length := by simp [tf, tsub_len]; omega
theorem tf_start (L : List UInt8) (a : Nat) : tf L a a = L := by simp [tf, tsub_zero]
theorem tf_set (L : List UInt8) (a j : Nat) (ha : a ≤ j) (hj : j < L.length) : (tf L a j).set j (L.getD j 0 ^^^ 255) = tf L a (j + 1) := by
  unfold tf
  have hl : (L.take a).length = a := by simp; omega
  rw [List.set_append_right _ _ (by omega), hl, show j + 1 - a = (j - a) + 1 by omega, ← tsub_set (L.drop a) (j - a) (by simp; omega)]
  congr 3
  simp [List.getD_eq_getElem?_getD, List.getElem?_drop]
  congr 2
  rw [show a + (j - a) = j by omega]
theorem tf_at (L : List UInt8) (a j : Nat) (ha : a ≤ j) (hj : j < L.length) : (tf L a j)[j]? = some (L.getD j 0) := by
  have hl : (L.take a).length = a := by simp; omega
  unfold tf
  rw [List.getElem?_append_right (by omega), hl, tsub_at _ _ (by simp; omega)]
  congr 1
  rw [List.getD_eq_getElem?_getD, List.getD_eq_getElem?_getD, List.getElem?_drop, show a + (j - a) = j by omega]
def LT4 (g : Nat) (L : List UInt8) (a n : Nat) (w0 : World) (i : Value) (wr : World) : Prop :=
  ∃ j : Nat, a ≤ j ∧ j ≤ n ∧ i = .int .i64 j ∧ Row wr g 5 ((tf L a j).map u8) ∧ Upd (fun k => k = g) w0 wr
/-- what turned tells: a copy of what stands there then -/
def Turn4At (w : World) (g a n : Nat) (L : List UInt8) (e : Ending) (w' : World) : Prop :=
  ∃ v, e = .returned v ∧ Sl w' v ((tf L a n).take n) ∧ (∀ k, own v k → w.heap.size ≤ k) ∧ Row w' g 5 ((tf L a n).map u8) ∧ Upd (fun k => k = g) w w'

set_option maxHeartbeats 2000000 in
set_option maxRecDepth 100000 in
theorem turned4_any (g n cap a : Nat) (L : List UInt8) (w : World) (hrow : Row w g 5 (L.map u8)) (hn : n ≤ L.length) (ha : a ≤ n) (hc : n ≤ cap) (hm : cap ≤ maxLen) (hr : n ≤ 140737488355328) :
    Calls Tryd.prog 15 #[.slice (some ⟨g, 0, none⟩) n cap, .int .i64 a] w (Turn4At w g a n L) := by
  have Hrow := Lib.hid hrow
  have Hm := Lib.hid hm
  clear hrow hm
  go_enter Tryd.func15, Tryd.ntmps15
  go_wp2
  go_loopw [5] (fun i wr => LT4 g L a n w i wr) (fun i _ => (n - (intOf i).toNat))
  case atStart => exact ⟨a, Nat.le_refl _, ha, rfl, by rw [tf_start]; exact Hrow.out, Upd.refl _ _⟩
  case round =>
    obtain ⟨j, haj, hj, rfl, hr1, hu⟩ := hrel
    have HR := Lib.hid hr1
    have HU := Lib.hid hu
    clear hr1 hu
    by_cases hlt : j < n
    · have hltI : (j : Int) < (n : Int) := by omega
      obtain ⟨c, hc'⟩ : ∃ c, c = L.getD j 0 := ⟨_, rfl⟩
      have c0 : wr.cell? ⟨g, j, none⟩ = some (.int .u8 (c.toNat : Int)) := by
        rw [HR.out.cell, List.getElem?_map, tf_at L a j haj (by omega), ← hc']
        rfl
      have f0 := HR.out.frozen j
      have HC := Lib.hid hc'
      have vx := v_xor255 c
      clear hc'
      go_wp2
      go_roundw
      case rel =>
        refine ⟨j + 1, by omega, by omega, by go_num, ?_, HU.out.put _ _ (.inl rfl) _⟩
        rw [← tf_set L a j haj (by omega), List.map_set, ← HC.out]
        exact HR.out.set j _
      case measure => simp [intOf]; omega
    · obtain rfl : j = n := by omega
      have HSl := Lib.hid (Sl.of_row (n := j) (cap := cap) HR.out (by rw [tf_len _ _ _ (by omega)]; omega) hc Hm.out)
      have HO := Lib.hid (own_nil wr)
      have Hl := Lib.hid (show ([] : List UInt8).length + ((tf L a j).take j).length ≤ maxLen by rw [List.length_take]; unfold maxLen; simp; omega)
      have Hl2 := Lib.hid (show ([] : List UInt8).length + ((tf L a j).take j).length ≤ 140737488355328 by rw [List.length_take]; simp; omega)
      go_wp2_with (at_builtin; refine wpList_append_bytes _ rfl _ _ rfl 0 (.slice none 0 0) [] _ rfl HO.out _ rfl HSl.out Hl.out Hl2.out (Nat.zero_le _) ?_; intro v2 w2 Hown2 Hgrow2 Hat2)
      go_ret
      have h2 := Sl.of_own Hown2.out
      have hu2 : Upd (fun _ => False) wr w2 := Upd.grown Hgrow2.out (fun k hk => by simp [Value.ownBlock] at hk)
      refine ⟨v2, rfl, by simpa using h2, fun k hk => ?_, HR.out.upd hu2 id, HU.out.trans (hu2.mono (fun _ _ h => h.elim))⟩
      rcases Hat2.out with h | h
      · unfold own at hk; rw [h] at hk; simp [Value.ownBlock] at hk
      · unfold own at hk; rw [h] at hk; cases hk; exact HU.out.size
end Go.Proofs.YtgfdnljblfkhkabDoor.Turn4
