/-
  What fits is a frame's beginning.
-/
import Derived.Test.YtgfdnljblfkhkabDoorFrLaw2
namespace Go.Proofs.YtgfdnljblfkhkabDoor.FrLaw
open Go.RowKit Sha Mem Width PutW WriterW RowW CopyW BookW RawB Crc FrTurn FrScan FrFits FrBegin FrOne FrWalk FrEnd FrPack
set_option linter.unusedVariables false
set_option linter.unusedSimpArgs false

theorem fits_len (n : Int) (R : List UInt8) (k : Nat) (hk : k ≤ R.length) (hf : Fits n R k) : lenOf (R.take k) ≤ 65536 := by
  induction k with
  | zero => rw [List.take_zero, lenOf_nil]; exact Nat.zero_le _
  | succ k ih =>
    have h := ih (by omega) (fun i hi => hf i (by omega))
    have hl : (R.take k).length = k := by simp; omega
    rw [take_snoc' R k (by omega)]
    by_cases h5 : k < 5
    · rw [lenOf_snoc _ _ (by omega), hl]
      by_cases h0 : k = 0
      · rw [if_pos h0]; exact h
      · rw [if_neg h0]
        have h2 := hf k (by omega)
        unfold fit at h2
        rw [hl] at h2
        unfold Sc.ok at h2
        rw [if_pos h5, if_neg h0] at h2
        exact of_decide_eq_true h2
    · rw [lenOf_app _ _ (by omega)]; exact h
theorem byte_of (X : List UInt8) (i : Nat) (h0 : 1 ≤ i) (h4 : i ≤ 4) : byteAt (lenOf X : Int) (4 - i) = X.getD i 0 := by
  apply UInt8.toNat_inj.1
  rw [byteAt_nat]
  unfold lenOf grow4
  have h1 := (X.getD 1 0).toNat_lt
  have h2 := (X.getD 2 0).toNat_lt
  have h3 := (X.getD 3 0).toNat_lt
  have h5 := (X.getD 4 0).toNat_lt
  have hs : i = 1 ∨ i = 2 ∨ i = 3 ∨ i = 4 := by omega
  rcases hs with rfl | rfl | rfl | rfl
  · generalize (X.getD 1 0).toNat = a at *; generalize (X.getD 2 0).toNat = b at *; generalize (X.getD 3 0).toNat = c at *; generalize (X.getD 4 0).toNat = d at *; simp; omega
  · generalize (X.getD 1 0).toNat = a at *; generalize (X.getD 2 0).toNat = b at *; generalize (X.getD 3 0).toNat = c at *; generalize (X.getD 4 0).toNat = d at *; simp; omega
  · generalize (X.getD 1 0).toNat = a at *; generalize (X.getD 2 0).toNat = b at *; generalize (X.getD 3 0).toNat = c at *; generalize (X.getD 4 0).toNat = d at *; simp; omega
  · generalize (X.getD 1 0).toNat = a at *; generalize (X.getD 2 0).toNat = b at *; generalize (X.getD 3 0).toNat = c at *; generalize (X.getD 4 0).toNat = d at *; simp; omega
theorem getD_take (R : List UInt8) (i k : Nat) (h : i < k) : (R.take k).getD i 0 = R.getD i 0 := by
  rw [List.getD_eq_getElem?_getD, List.getD_eq_getElem?_getD, List.getElem?_take_of_lt h]
theorem ext_getD {X Y : List UInt8} (hl : X.length = Y.length) (h : ∀ i, i < X.length → X.getD i 0 = Y.getD i 0) : X = Y := by
  apply List.ext_getElem hl
  intro i h1 h2
  have := h i h1
  rw [List.getD_eq_getElem?_getD, List.getD_eq_getElem?_getD, List.getElem?_eq_getElem h1, List.getElem?_eq_getElem h2] at this
  exact this
theorem lenOf_take (R : List UInt8) (i k : Nat) (h5 : 5 ≤ i) (hik : i ≤ k) (hk : k ≤ R.length) : lenOf (R.take i) = lenOf (R.take k) := by
  have e : R.take k = R.take i ++ (R.take k).drop i := by
    have h := List.take_append_drop i (R.take k)
    rw [List.take_take, Nat.min_eq_left hik] at h
    exact h.symm
  rw [e, lenOf_app _ _ (by simp; omega)]

theorem prefix_frame (n : Int) (R q : List UInt8) (k : Nat) (hk : k ≤ R.length) (hf : Fits n R k) (hq : q.length = lenOf (R.take k)) (hkL : k ≤ 13 + q.length)
    (hg : ∀ i, 9 ≤ i → i < 9 + q.length → i < k → q.getD (i - 9) 0 = R.getD i 0) : R.take k = (frame n q).take k := by
  have hq6 : q.length ≤ 65536 := by rw [hq]; exact fits_len n R k hk hf
  obtain ⟨O, hO⟩ : ∃ O, O = opening q.length := ⟨_, rfl⟩
  obtain ⟨A, hA⟩ : ∃ A, A = be (U (crc O)) 4 := ⟨_, rfl⟩
  obtain ⟨B, hB⟩ : ∃ B, B = be (U (~~~ overc (nreg n) q)) 4 := ⟨_, rfl⟩
  have hO5 : O.length = 5 := by rw [hO]; rfl
  have hA4 : A.length = 4 := by rw [hA, be_len]
  have eF : frame n q = ((O ++ A) ++ q) ++ B := by unfold frame; rw [← hO, ← hA, ← hB]
  have hfl := frame_len n q
  have hok : ∀ i, i < k → (S n (R.take i)).ok i (R.getD i 0) = true := fun i hi => by
    have h := hf i hi
    unfold fit at h
    rwa [show (R.take i).length = i by simp; omega] at h
  have hop : ∀ i, i < k → i < 5 → R.getD i 0 = O.getD i 0 := by
    intro i hi h5
    by_cases h0 : i = 0
    · have h := hok i hi
      unfold Sc.ok at h
      rw [if_pos h5, if_pos h0, beq_iff_eq] at h
      rw [h, hO, h0, op0]
    · rw [hO, op_get _ _ (by omega) h5, hq, byte_of _ _ (by omega) (by omega), getD_take _ _ _ hi]
  have h5O : 5 ≤ k → R.take 5 = O := by
    intro h5
    refine ext_getD (by rw [hO5]; simp; omega) fun i hi => ?_
    have hi5 : i < 5 := by simp at hi; omega
    rw [getD_take _ _ _ hi5]
    exact hop i (by omega) hi5
  have key : ∀ i, i < k → R.getD i 0 = (frame n q).getD i 0 := by
    intro i hi
    rw [eF]
    by_cases h5 : i < 5
    · rw [form0 O A q B hO5 hA4 i h5]; exact hop i hi h5
    · have h := hok i hi
      unfold Sc.ok at h
      rw [if_neg h5] at h
      by_cases h9 : i < 9
      · rw [if_pos h9, beq_iff_eq] at h
        have e5 : (R.take i).take 5 = O := by rw [List.take_take, Nat.min_eq_left (by omega)]; exact h5O (by omega)
        have h' : R.getD i 0 = FrScan.hf (~~~ overc 4294967295 ((R.take i).take 5)) (i - 5) := h
        rw [h', e5, form1 O A q B hO5 hA4 i (by omega) h9, hA, be_get _ _ (by omega)]
        rfl
      · rw [if_neg h9] at h
        have hL : lenOf (R.take i) = q.length := by rw [hq]; exact lenOf_take R i k (by omega) (by omega) hk
        have hLs : (S n (R.take i)).len = q.length := hL
        rw [hLs] at h
        by_cases hb : i < 9 + q.length
        · rw [form2 O A q B hO5 hA4 i (by omega) hb]
          exact (hg i (by omega) hb hi).symm
        · rw [if_neg hb, beq_iff_eq] at h
          have eq : ((R.take i).drop 9).take q.length = q := by
            refine ext_getD (by simp; omega) fun j hj => ?_
            have hjq : j < q.length := by simp at hj; omega
            have h2 := hg (9 + j) (by omega) (by omega) (by omega)
            rw [show 9 + j - 9 = j by omega] at h2
            rw [h2, getD_take _ _ _ hjq, List.getD_eq_getElem?_getD, List.getElem?_drop, List.getElem?_take_of_lt (by omega), ← List.getD_eq_getElem?_getD]
          have h' : R.getD i 0 = FrScan.hf (~~~ overc (nreg n) (((R.take i).drop 9).take (lenOf (R.take i)))) (i - (9 + q.length)) := h
          rw [h', hL, eq, form3 O A q B hO5 hA4 i (by omega), hB, be_get _ _ (by omega)]
  refine ext_getD (by simp; omega) fun i hi => ?_
  have hik : i < k := by simp at hi; omega
  rw [getD_take _ _ _ hik, getD_take _ _ _ hik]
  exact key i hik

/-- P4.6: what is whole is the frame of its record -/
theorem whole_frame (n : Int) (R : List UInt8) (h : 13 ≤ one n R) : R.take (one n R) = frame n (rec n R) ∧ (rec n R).length ≤ 65536 := by
  have hle := one_le n R h
  have hrl := rec_len n R h
  rcases trace n R R.length (Nat.le_refl _) with ⟨h2, _⟩ | ⟨_, _, _, _, _, h2⟩ | ⟨i, hi, hf, hL, ho⟩
  · rw [h2.torn (Nat.le_refl _)] at h; omega
  · omega
  · rw [ho] at hrl
    have hq : (rec n R).length = lenOf (R.take (i + 1)) := by rw [hrl]; omega
    have hp := prefix_frame n R (rec n R) (i + 1) (by omega) hf hq (by omega) (by
      intro j hj hj2 hj3
      unfold rec
      rw [ho, getD_take _ _ _ (by omega), List.getD_eq_getElem?_getD, List.getElem?_drop, show 9 + (j - 9) = j by omega, ← List.getD_eq_getElem?_getD])
    refine ⟨?_, by rw [hq]; exact fits_len n R (i + 1) (by omega) hf⟩
    rw [ho, hp]
    exact List.take_of_length_le (by rw [frame_len]; omega)
/-- the record that lacking bytes are taken as 0 of -/
def padded (R : List UInt8) : List UInt8 := (R.drop 9 ++ List.replicate (lenOf R) 0).take (lenOf R)
theorem padded_len (R : List UInt8) : (padded R).length = lenOf R := by unfold padded; simp
/-- P4.3: where it is torn there is a frame that goes on so -/
theorem torn_frame (n : Int) (R : List UInt8) (h : one n R = 0) : R.length < (padded R).length + 13 ∧ (padded R).length ≤ 65536 ∧ (frame n (padded R)).take R.length = R := by
  rcases trace n R R.length (Nat.le_refl _) with ⟨h2, hf⟩ | ⟨_, _, _, _, _, h2⟩ | ⟨i, hi, _, _, ho⟩
  · have hlt := h2.lt
    have hl := fits_len n R R.length (Nat.le_refl _) hf
    rw [List.take_length] at hlt hl
    have hlt' : R.length < 13 + lenOf R := hlt
    have hp := prefix_frame n R (padded R) R.length (Nat.le_refl _) hf (by rw [padded_len, List.take_length]) (by rw [padded_len]; omega) (by
      intro j hj hj2 hj3
      rw [padded_len] at hj2
      unfold padded
      rw [getD_take _ _ _ (by omega), getD_left _ _ _ (by simp; omega), List.getD_eq_getElem?_getD, List.getElem?_drop, show 9 + (j - 9) = j by omega, ← List.getD_eq_getElem?_getD])
    rw [List.take_length] at hp
    exact ⟨by rw [padded_len]; omega, by rw [padded_len]; exact hl, hp.symm⟩
  · omega
  · omega
end Go.Proofs.YtgfdnljblfkhkabDoor.FrLaw
