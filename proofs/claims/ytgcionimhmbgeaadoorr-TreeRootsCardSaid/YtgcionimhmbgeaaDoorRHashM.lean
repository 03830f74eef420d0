/-
  What a Hasher holds: plain lemmas on blocks, and the words for its memory.
-/
import Derived.Test.YtgcionimhmbgeaaDoorRRowW
namespace Go.Proofs.YtgcionimhmbgeaaDoorR.HashM
open Go.RowKit Sha Mem RowW
set_option linter.unusedVariables false

theorem blocks_append (s : St) (n : Nat) (a x : List UInt8) (h : a.length = 64 * n) : blocks s n (a ++ x) = blocks s n a := by
  induction n generalizing s a with
  | zero => rfl
  | succ n ih =>
    unfold blocks
    rw [List.take_append_of_le_length (by omega), List.drop_append_of_le_length (by omega)]
    exact ih _ _ (by rw [List.length_drop]; omega)
theorem blocks_snoc (s : St) (n : Nat) (a c : List UInt8) (h : a.length = 64 * n) (hc : c.length = 64) : blocks s (n + 1) (a ++ c) = mix (blocks s n a) c := by
  induction n generalizing s a with
  | zero =>
    obtain rfl : a = [] := List.eq_nil_of_length_eq_zero (by simpa using h)
    simp only [blocks, List.nil_append]
    rw [List.take_of_length_le (by omega)]
  | succ n ih =>
    have e1 : blocks s (n + 1 + 1) (a ++ c) = blocks (mix s ((a ++ c).take 64)) (n + 1) ((a ++ c).drop 64) := rfl
    have e2 : blocks s (n + 1) a = blocks (mix s (a.take 64)) n (a.drop 64) := rfl
    rw [e1, e2, List.take_append_of_le_length (by omega), List.drop_append_of_le_length (by omega)]
    exact ih _ _ (by rw [List.length_drop]; omega)

/-- the state behind the whole blocks q -/
def stq (q : List UInt8) : St := blocks init (q.length / 64) q
theorem stq_snoc (q c : List UInt8) (h : q.length % 64 = 0) (hc : c.length = 64) : stq (q ++ c) = mix (stq q) c := by
  unfold stq
  rw [show (q ++ c).length / 64 = q.length / 64 + 1 by rw [List.length_append]; omega]
  exact blocks_snoc _ _ _ _ (by omega) hc

/-- the cells of a Hasher -/
def hcells (st : St) (blk : List UInt8) (n : Nat) : List Value := (ws st).map W ++ (blk.map u8 ++ [.int .u64 n])
/-- the Hasher at b has taken the whole blocks q, holds blk, has counted n -/
def HQ (w : World) (b : Nat) (q blk : List UInt8) (n : Nat) : Prop := blk.length = 64 ∧ Row w b 135 (hcells (stq q) blk n)
/-- the Hasher at b has taken l -/
def Hs (w : World) (b : Nat) (l : List UInt8) : Prop :=
  ∃ q t blk, l = q ++ t ∧ q.length % 64 = 0 ∧ t.length < 64 ∧ blk.take t.length = t ∧ HQ w b q blk l.length

theorem Hs.drew {w : World} {b : Nat} {l : List UInt8} (h : Hs w b l) : Hs w.drew b l := h
theorem Hs.upd {S : Nat → Prop} {w w' : World} {b : Nat} {l : List UInt8} (h : Hs w b l) (hu : Upd S w w') (hb : ¬ S b) : Hs w' b l := by
  obtain ⟨q, t, blk, h1, h2, h3, h4, h5, h6⟩ := h
  exact ⟨q, t, blk, h1, h2, h3, h4, h5, h6.upd hu hb⟩
theorem Hs.lt {w : World} {b : Nat} {l : List UInt8} (h : Hs w b l) : b < w.heap.size := by
  obtain ⟨q, t, blk, h1, h2, h3, h4, h5, h6⟩ := h
  exact h6.lt

theorem hcells_len (st : St) (blk : List UInt8) (n : Nat) (h : blk.length = 64) : (hcells st blk n).length = 73 := by simp [hcells, ws, h]
theorem hcells_72 (st : St) (blk : List UInt8) (n : Nat) (h : blk.length = 64) : (hcells st blk n)[72]? = some (.int .u64 n) := by
  simp [hcells, ws, h]
theorem hcells_blk (st : St) (blk : List UInt8) (n i : Nat) (h : blk.length = 64) (hi : i < 64) : (hcells st blk n)[8 + i]? = some (u8 (blk.getD i 0)) := by
  have h8 : ((ws st).map W).length = 8 := rfl
  unfold hcells
  rw [List.getElem?_append_right (by omega), h8, Nat.add_sub_cancel_left, List.getElem?_append_left (by rw [List.length_map]; omega), List.getElem?_map, List.getD_eq_getElem?_getD, List.getElem?_eq_getElem (by omega)]
  rfl
theorem hcells_set (st : St) (blk : List UInt8) (n n' : Nat) (h : blk.length = 64) : (hcells st blk n).set 72 (.int .u64 n') = hcells st blk n' := by
  have h8 : ((ws st).map W).length = 8 := rfl
  unfold hcells
  rw [List.set_append_right _ _ (by omega), h8, List.set_append_right _ _ (by simp [h])]
  simp [h]
theorem hcells_splice (st : St) (blk : List UInt8) (n k : Nat) (p : List UInt8) (h : blk.length = 64) (hk : k + p.length ≤ 64) :
    splice (hcells st blk n) (8 + k) (p.map u8) = hcells st (splice blk k p) n := by
  have h8 : ((ws st).map W).length = 8 := rfl
  unfold hcells splice
  rw [List.take_append, h8, Nat.add_sub_cancel_left, List.take_of_length_le (by omega), List.take_append_of_le_length (by simp; omega), List.length_map,
    List.drop_append, h8, List.drop_eq_nil_of_le (by omega), List.nil_append, show 8 + k + p.length - 8 = k + p.length by omega, List.drop_append_of_le_length (by simp; omega)]
  simp [List.map_take, List.map_drop]
theorem splice_len (blk p : List UInt8) (k : Nat) (h : blk.length = 64) (hk : k + p.length ≤ 64) : (splice blk k p).length = 64 := by rw [length_splice _ _ _ (by omega), h]
theorem splice_take (blk p : List UInt8) (k : Nat) (h : blk.length = 64) (hk : k + p.length ≤ 64) : (splice blk k p).take (k + p.length) = blk.take k ++ p := by
  unfold splice
  rw [← List.append_assoc, List.take_append_of_le_length (by simp; omega), List.take_of_length_le (by simp; omega)]
end Go.Proofs.YtgcionimhmbgeaaDoorR.HashM
