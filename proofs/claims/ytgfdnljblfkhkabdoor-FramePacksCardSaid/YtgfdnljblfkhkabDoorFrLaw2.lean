/-
  A frame fits itself; what fits is a frame's beginning.
-/
import Derived.Test.YtgfdnljblfkhkabDoorFrLaw
namespace Go.Proofs.YtgfdnljblfkhkabDoor.FrLaw
open Go.RowKit Sha Mem Width PutW WriterW RowW CopyW BookW RawB Crc FrTurn FrScan FrFits FrBegin FrOne FrWalk FrEnd FrPack
set_option linter.unusedVariables false
set_option linter.unusedSimpArgs false

theorem getD_left (X Y : List UInt8) (i : Nat) (h : i < X.length) : (X ++ Y).getD i 0 = X.getD i 0 := by
  rw [List.getD_eq_getElem?_getD, List.getD_eq_getElem?_getD, List.getElem?_append_left h]
theorem getD_right (X Y : List UInt8) (i : Nat) (h : X.length ≤ i) : (X ++ Y).getD i 0 = Y.getD (i - X.length) 0 := by
  rw [List.getD_eq_getElem?_getD, List.getD_eq_getElem?_getD, List.getElem?_append_right h]
/-- a list of the frame's form: an opening, four bytes, a record, four bytes -/
theorem form0 (O A p B : List UInt8) (hO : O.length = 5) (hA : A.length = 4) (i : Nat) (h : i < 5) : (((O ++ A) ++ p) ++ B).getD i 0 = O.getD i 0 := by
  rw [getD_left _ _ _ (by simp; omega), getD_left _ _ _ (by simp; omega), getD_left _ _ _ (by omega)]
theorem form1 (O A p B : List UInt8) (hO : O.length = 5) (hA : A.length = 4) (i : Nat) (h5 : 5 ≤ i) (h : i < 9) : (((O ++ A) ++ p) ++ B).getD i 0 = A.getD (i - 5) 0 := by
  rw [getD_left _ _ _ (by simp; omega), getD_left _ _ _ (by simp; omega), getD_right _ _ _ (by omega), hO]
theorem form2 (O A p B : List UInt8) (hO : O.length = 5) (hA : A.length = 4) (i : Nat) (h5 : 9 ≤ i) (h : i < 9 + p.length) : (((O ++ A) ++ p) ++ B).getD i 0 = p.getD (i - 9) 0 := by
  have hl : (O ++ A).length = 9 := by simp; omega
  rw [getD_left _ _ _ (by rw [List.length_append, hl]; omega), getD_right _ _ _ (by omega), hl]
theorem form3 (O A p B : List UInt8) (hO : O.length = 5) (hA : A.length = 4) (i : Nat) (h5 : 9 + p.length ≤ i) : (((O ++ A) ++ p) ++ B).getD i 0 = B.getD (i - (9 + p.length)) 0 := by
  have hl : ((O ++ A) ++ p).length = 9 + p.length := by simp; omega
  rw [getD_right _ _ _ (by omega), hl]
theorem formT (O A p B : List UInt8) (hO : O.length = 5) (i : Nat) (h : 5 ≤ i) : ∃ Y, (((O ++ A) ++ p) ++ B).take i = O ++ Y := by
  refine ⟨((A ++ p) ++ B).take (i - 5), ?_⟩
  rw [List.append_assoc, List.append_assoc, List.take_append, List.take_of_length_le (by omega), hO, List.append_assoc]
theorem form5 (O A p B : List UInt8) (hO : O.length = 5) : (((O ++ A) ++ p) ++ B).take 5 = O := by
  rw [List.append_assoc, List.append_assoc, ← hO]; exact List.take_left
theorem form9 (O A p B : List UInt8) (hO : O.length = 5) (hA : A.length = 4) (i : Nat) (h : 9 + p.length ≤ i) : (((((O ++ A) ++ p) ++ B).take i).drop 9).take p.length = p := by
  have hl : (O ++ A).length = 9 := by simp; omega
  rw [List.append_assoc, List.drop_take, ← hl, List.drop_left, List.take_take, List.take_append_of_le_length (by omega)]
  exact List.take_of_length_le (by omega)

theorem op0 (m : Nat) : (opening m).getD 0 0 = 209 := by show byteAt 209 0 = 209; decide
theorem op_get (m i : Nat) (h0 : 1 ≤ i) (h : i < 5) : (opening m).getD i 0 = byteAt m (4 - i) := by
  have hs : i = 1 ∨ i = 2 ∨ i = 3 ∨ i = 4 := by omega
  rcases hs with rfl | rfl | rfl | rfl <;> rfl
theorem grow_le (m i : Nat) (h : m ≤ 65536) (h0 : 1 ≤ i) (h4 : i ≤ 4) (X : List UInt8) (hX : X = (opening m).take (i + 1)) : lenOf X ≤ m := by
  have hs : i = 1 ∨ i = 2 ∨ i = 3 ∨ i = 4 := by omega
  have hl := lenOf_opening m h
  have e : opening m = [byteAt 209 0, byteAt m 3, byteAt m 2, byteAt m 1, byteAt m 0] := rfl
  rw [e] at hl hX
  unfold lenOf at hl ⊢
  rcases hs with rfl | rfl | rfl | rfl <;> subst hX <;> simp [grow4] at hl ⊢ <;> omega

theorem fits_frame (n : Int) (p : List UInt8) (hp : p.length ≤ 65536) : Fits n (frame n p) (13 + p.length) ∧ ∀ i, 5 ≤ i → lenOf ((frame n p).take i) = p.length := by
  obtain ⟨O, hO⟩ : ∃ O, O = opening p.length := ⟨_, rfl⟩
  obtain ⟨A, hA⟩ : ∃ A, A = be (U (crc O)) 4 := ⟨_, rfl⟩
  obtain ⟨B, hB⟩ : ∃ B, B = be (U (~~~ overc (nreg n) p)) 4 := ⟨_, rfl⟩
  have hO5 : O.length = 5 := by rw [hO]; rfl
  have hA4 : A.length = 4 := by rw [hA, be_len]
  have eF : frame n p = ((O ++ A) ++ p) ++ B := by unfold frame; rw [← hO, ← hA, ← hB]
  have hlen : ∀ i, 5 ≤ i → lenOf ((frame n p).take i) = p.length := by
    intro i hi
    obtain ⟨Y, hY⟩ := formT O A p B hO5 i hi
    rw [eF, hY, lenOf_app _ _ (by omega), hO, lenOf_opening _ hp]
  refine ⟨fun i hi => ?_, hlen⟩
  have hl : ((frame n p).take i).length = i := by rw [List.length_take, frame_len]; omega
  unfold fit
  rw [hl]
  unfold Sc.ok
  by_cases h5 : i < 5
  · rw [if_pos h5]
    by_cases h0 : i = 0
    · rw [if_pos h0, eF, form0 O A p B hO5 hA4 i h5, hO, h0, op0]
      rfl
    · rw [if_neg h0]
      refine decide_eq_true ?_
      show lenOf _ + grow4 i _ ≤ 65536
      have h1 := lenOf_snoc ((frame n p).take i) ((frame n p).getD i 0) (by omega)
      rw [hl, if_neg h0, ← take_snoc' _ _ (by rw [frame_len]; omega)] at h1
      rw [← h1]
      refine Nat.le_trans (grow_le p.length i hp (by omega) (by omega) _ ?_) hp
      have e5 := congrArg (List.take (i + 1)) (form5 O A p B hO5)
      rw [List.take_take, Nat.min_eq_left (by omega)] at e5
      rw [eF, ← hO]
      exact e5
  · rw [if_neg h5]
    by_cases h9 : i < 9
    · rw [if_pos h9, beq_iff_eq]
      have e5 : ((frame n p).take i).take 5 = O := by rw [List.take_take, Nat.min_eq_left (by omega), eF, form5 O A p B hO5]
      show _ = hf (~~~ overc 4294967295 (((frame n p).take i).take 5)) (i - 5)
      rw [e5, eF, form1 O A p B hO5 hA4 i (by omega) h9, hA, be_get _ _ (by omega)]
      rfl
    · rw [if_neg h9]
      have hLL : (S n ((frame n p).take i)).len = p.length := hlen i (by omega)
      rw [hLL]
      by_cases hb : i < 9 + p.length
      · rw [if_pos hb]
      · rw [if_neg hb, beq_iff_eq]
        show _ = hf (~~~ overc (nreg n) ((((frame n p).take i).drop 9).take (lenOf ((frame n p).take i)))) _
        rw [hlen i (by omega), eF, form9 O A p B hO5 hA4 i (by omega), form3 O A p B hO5 hA4 i (by omega), hB, be_get _ _ (by omega)]

/-- P4.6: a packed frame is whole, whatever stands behind it -/
theorem one_frame (n : Int) (p t : List UInt8) (hp : p.length ≤ 65536) : one n (frame n p ++ t) = p.length + 13 := by
  obtain ⟨hf, hlen⟩ := fits_frame n p hp
  have hl := frame_len n p
  have hf' : Fits n (frame n p ++ t) (13 + p.length) := hf.congr (by rw [List.take_append_of_le_length (by omega)]) (by omega) (by simp; omega)
  have hlen' : ∀ i, 5 ≤ i → i ≤ p.length + 13 → lenOf ((frame n p ++ t).take i) = p.length := fun i h1 h2 => by rw [List.take_append_of_le_length (by omega)]; exact hlen i h1
  rcases trace n (frame n p ++ t) (13 + p.length) (by simp; omega) with ⟨h, _⟩ | ⟨i, hi, _, _, h, _⟩ | ⟨i, hi, _, h, ho⟩
  · have := h.lt
    have e : (S n ((frame n p ++ t).take (13 + p.length))).len = p.length := hlen' _ (by omega) (by omega)
    omega
  · rw [hf' i hi] at h; cases h
  · by_cases h5 : 5 ≤ i + 1
    · rw [hlen' _ h5 (by omega)] at h; omega
    · omega
/-- P4.7: each shorter beginning is torn -/
theorem one_torn (n : Int) (p : List UInt8) (j : Nat) (hp : p.length ≤ 65536) (hj : j < p.length + 13) : one n ((frame n p).take j) = 0 := by
  obtain ⟨hf, hlen⟩ := fits_frame n p hp
  have hl := frame_len n p
  have hlj : ((frame n p).take j).length = j := by simp; omega
  have hf' : Fits n ((frame n p).take j) j := Fits.congr (R := frame n p) (fun i hi => hf i (by omega)) (by rw [List.take_take, Nat.min_self]) (by omega) (by omega)
  rcases trace n ((frame n p).take j) j (by omega) with ⟨h, _⟩ | ⟨i, hi, _, _, h, _⟩ | ⟨i, hi, _, h, ho⟩
  · exact h.torn (by omega)
  · rw [hf' i hi] at h; cases h
  · by_cases h5 : 5 ≤ i + 1
    · rw [List.take_take, Nat.min_eq_left (by omega), hlen _ h5] at h; omega
    · omega
/-- P4.3: what no sum fits stays so -/
theorem one_bad (n : Int) (R t : List UInt8) (h : one n R = 1) : one n (R ++ t) = 1 := by
  rcases trace n R R.length (Nat.le_refl _) with ⟨h2, _⟩ | ⟨i, hi, hat, hf, hb, _⟩ | ⟨i, hi, _, h2, ho⟩
  · rw [h2.torn (Nat.le_refl _)] at h; cases h
  · have ei : ∀ j, j ≤ i → (R ++ t).take j = R.take j := fun j hj => List.take_append_of_le_length (by omega)
    have eg : (R ++ t).getD i 0 = R.getD i 0 := getD_left _ _ _ hi
    have hf' : Fits n (R ++ t) i := hf.congr (ei i (Nat.le_refl _)).symm (by omega) (by simp; omega)
    rcases trace n (R ++ t) (i + 1) (by simp; omega) with ⟨_, h3⟩ | ⟨_, _, _, _, _, h3⟩ | ⟨j, hj, h4, h5, h3⟩
    · have := h3 i (by omega)
      rw [ei i (Nat.le_refl _), eg, hb] at this
      cases this
    · exact h3
    · rcases Nat.lt_or_ge j i with hji | hji
      · have hn : one n R = j + 1 := by
          rcases trace n R (j + 1) (by omega) with ⟨h6, _⟩ | ⟨a, ha, _, _, h6, _⟩ | ⟨a, ha, h6, h7, h8⟩
          · have := h6.lt
            have e : (S n (R.take (j + 1))).len = lenOf (R.take (j + 1)) := rfl
            rw [e, ← ei (j + 1) (by omega)] at this
            omega
          · rw [hf a (by omega)] at h6; cases h6
          · rcases Nat.lt_or_ge a j with h9 | h9
            · rw [← ei (a + 1) (by omega)] at h7
              omega
            · omega
        omega
      · obtain rfl : j = i := by omega
        have := h4 j (by omega)
        rw [ei j (Nat.le_refl _), eg, hb] at this
        cases this
  · omega
end Go.Proofs.YtgfdnljblfkhkabDoor.FrLaw
