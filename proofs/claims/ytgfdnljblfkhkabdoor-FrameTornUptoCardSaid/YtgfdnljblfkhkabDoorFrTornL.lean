/-
  Frames one behind the other, and their beginnings.
-/
import Derived.Test.YtgfdnljblfkhkabDoorFrLaw3
namespace Go.Proofs.YtgfdnljblfkhkabDoor.FrTornL
open Go.RowKit Sha Mem Width PutW WriterW RowW CopyW BookW RawB Crc FrTurn FrScan FrFits FrBegin FrOne FrWalk FrEnd FrPack FrLaw
set_option linter.unusedVariables false
set_option linter.unusedSimpArgs false

/-- the frames of n, n + 1 and so on, one behind the other -/
def cats (n : Int) : List (List UInt8) → List UInt8
  | [] => []
  | q :: r => frame n q ++ cats (n + 1) r
theorem cats_app (n : Int) (a b : List (List UInt8)) : cats n (a ++ b) = cats n a ++ cats (n + a.length) b := by
  induction a generalizing n with
  | nil => simp [cats]
  | cons q r ih =>
    rw [List.cons_append, cats, cats, ih, List.append_assoc, List.length_cons]
    rw [show n + 1 + (r.length : Int) = n + ((r.length + 1 : Nat) : Int) by omega]
theorem cats_snoc (n : Int) (a : List (List UInt8)) (q : List UInt8) : cats n (a ++ [q]) = cats n a ++ frame (n + a.length) q := by
  rw [cats_app]
  simp [cats]
/-- where the m-th ends -/
def ends (n : Int) (Q : List (List UInt8)) (m : Nat) : Nat := (cats n (Q.take m)).length
theorem take_next (Q : List (List UInt8)) (m : Nat) (h : m < Q.length) : Q.take (m + 1) = Q.take m ++ [Q.getD m []] := by
  rw [List.take_succ_eq_append_getElem h, List.getD_eq_getElem?_getD, List.getElem?_eq_getElem h]
  rfl
theorem cats_next (n : Int) (Q : List (List UInt8)) (m : Nat) (h : m < Q.length) : cats n (Q.take (m + 1)) = cats n (Q.take m) ++ frame (n + m) (Q.getD m []) := by
  rw [take_next Q m h, cats_snoc]
  simp only [List.length_take, Nat.min_eq_left (Nat.le_of_lt h)]
theorem ends_next (n : Int) (Q : List (List UInt8)) (m : Nat) (h : m < Q.length) : ends n Q (m + 1) = ends n Q m + ((Q.getD m []).length + 13) := by
  unfold ends
  rw [cats_next n Q m h, List.length_append, frame_len]
theorem ends_zero (n : Int) (Q : List (List UInt8)) : ends n Q 0 = 0 := rfl
/-- each of the first M may be packed -/
def AllOk (n : Int) (Q : List (List UInt8)) (M : Nat) : Prop := M ≤ Q.length ∧ ∀ i, i < M → nok (n + i) = true ∧ (Q.getD i []).length ≤ 65536
theorem ends_mono (n : Int) (Q : List (List UInt8)) (m M : Nat) (h : m ≤ M) (hM : M ≤ Q.length) : ends n Q m ≤ ends n Q M := by
  induction M with
  | zero => obtain rfl : m = 0 := by omega
            exact Nat.le_refl _
  | succ M ih =>
    by_cases he : m = M + 1
    · rw [he]; exact Nat.le_refl _
    · have := ih (by omega) (by omega)
      rw [ends_next n Q M (by omega)]
      omega
theorem split_at (n : Int) (Q : List (List UInt8)) (m M : Nat) (h : m < M) (hM : M ≤ Q.length) : ∃ rest, cats n (Q.take M) = cats n (Q.take m) ++ (frame (n + m) (Q.getD m []) ++ rest) := by
  refine ⟨cats (n + (m + 1 : Nat)) ((Q.take M).drop (m + 1)), ?_⟩
  have e : Q.take M = Q.take (m + 1) ++ (Q.take M).drop (m + 1) := by
    have h2 := List.take_append_drop (m + 1) (Q.take M)
    rw [List.take_take, Nat.min_eq_left (by omega)] at h2
    exact h2.symm
  conv => lhs; rw [e, cats_app, cats_next n Q m (by omega)]
  rw [List.append_assoc, List.length_take, Nat.min_eq_left (by omega)]
theorem drop_at_ (n : Int) (Q : List (List UInt8)) (m M at_ : Nat) (h : m < M) (hM : M ≤ Q.length) (ha : ends n Q m ≤ at_) :
    ∃ rest, ((cats n (Q.take M)).take at_).drop (ends n Q m) = (frame (n + m) (Q.getD m []) ++ rest).take (at_ - ends n Q m) := by
  obtain ⟨rest, hr⟩ := split_at n Q m M h hM
  refine ⟨rest, ?_⟩
  rw [hr, List.drop_take]
  unfold ends
  rw [List.drop_left]
theorem pos_cats (n : Int) (Q : List (List UInt8)) (M at_ : Nat) (hg : AllOk n Q M) (ha : at_ ≤ ends n Q M) : ∀ m, m ≤ M → ends n Q m ≤ at_ → pos n ((cats n (Q.take M)).take at_) m = some (ends n Q m) := by
  have hl : ((cats n (Q.take M)).take at_).length = at_ := by rw [List.length_take]; exact Nat.min_eq_left ha
  intro m
  induction m with
  | zero => intro _ _; rw [ends_zero]; rfl
  | succ m ih =>
    intro hm he
    have hn := ends_next n Q m (by have := hg.1; omega)
    have hp := ih (by omega) (by omega)
    obtain ⟨rest, hd⟩ := drop_at_ n Q m M at_ (by omega) hg.1 (by omega)
    have hone : one (n + m) (((cats n (Q.take M)).take at_).drop (ends n Q m)) = (Q.getD m []).length + 13 := by
      rw [hd, List.take_append, List.take_of_length_le (by rw [frame_len]; omega)]
      exact one_frame _ _ _ (hg.2 m (by omega)).2
    have := pos_succ hp (by rw [hl]; omega) (hg.2 m (by omega)).1 (by rw [hone]; omega)
    rw [this, hone, hn]
/-- P4.7 -/
theorem end_cats (n : Int) (Q : List (List UInt8)) (M at_ k : Nat) (hg : AllOk n Q M) (ha : at_ ≤ ends n Q M) (hk : k ≤ M) (he : ends n Q k ≤ at_) (hnext : k < M → at_ < ends n Q (k + 1)) :
    EndIs n ((cats n (Q.take M)).take at_) k (ends n Q k) (if ends n Q k = at_ then 0 else 40) := by
  have hl : ((cats n (Q.take M)).take at_).length = at_ := by rw [List.length_take]; exact Nat.min_eq_left ha
  refine ⟨pos_cats n Q M at_ hg ha k hk he, ?_⟩
  by_cases h : ends n Q k = at_
  · rw [if_pos h]
    exact .inl ⟨by rw [hl]; omega, rfl⟩
  · rw [if_neg h]
    have hkM : k < M := by
      rcases Nat.lt_or_ge k M with h1 | h1
      · exact h1
      · obtain rfl : k = M := by omega
        omega
    have hn := ends_next n Q k (by have := hg.1; omega)
    have hlt := hnext hkM
    obtain ⟨rest, hd⟩ := drop_at_ n Q k M at_ hkM hg.1 he
    refine .inr (.inr (.inr ⟨by rw [hl]; omega, (hg.2 k hkM).1, ?_, rfl⟩))
    rw [hd, List.take_append_of_le_length (by rw [frame_len]; omega)]
    exact one_torn _ _ _ (hg.2 k hkM).2 (by omega)
end Go.Proofs.YtgfdnljblfkhkabDoor.FrTornL
