/-
  What is taken is laid again as it stood: each form of octet, on lists.
-/
import Derived.Test.YtcdgimapkbaboaaReadB
import Derived.Test.YtcdgimapkbaboaaReadT
import Derived.Test.YtcdgimapkbaboaaReadG
import Derived.Test.YtcdgimapkbaboaaFlagW
import Derived.Test.YtcdgimapkbaboaaTextsW
import Derived.Test.YtcdgimapkbaboaaDigW
namespace Go.Proofs.Ytcdgimapkbaboaa.ForthL
open Go.RowKit Mem PutW TakeW FlagW ReadB ReadT ReadG StrW RawW TextsW
set_option linter.unusedVariables false
set_option linter.unusedSimpArgs false

theorem val_cons (x : UInt8) (xs : List UInt8) : val (x :: xs) = x.toNat * 256 ^ xs.length + val xs := by
  have key : ∀ (xs : List UInt8) (n : Nat), xs.foldl (fun n c => n * 256 + c.toNat) n = n * 256 ^ xs.length + val xs := by
    intro xs
    induction xs with
    | nil => intro n; simp [val]
    | cons y ys ih =>
      intro n
      have h1 := ih (n * 256 + y.toNat)
      have h2 := ih (0 * 256 + y.toNat)
      have e : val (y :: ys) = ys.foldl (fun n c => n * 256 + c.toNat) (0 * 256 + y.toNat) := rfl
      rw [e, List.foldl_cons, h1, h2, List.length_cons, Nat.pow_succ, Nat.add_mul, Nat.zero_mul, Nat.zero_add, Nat.mul_assoc, Nat.mul_comm 256, Nat.add_assoc]
  have h := key xs (0 * 256 + x.toNat)
  have e : val (x :: xs) = xs.foldl (fun n c => n * 256 + c.toNat) (0 * 256 + x.toNat) := rfl
  rw [e, h, Nat.zero_mul, Nat.zero_add]
theorem byteAt_low (x r k j : Nat) (h : j < k) : byteAt ((x * 256 ^ k + r : Nat) : Int) j = byteAt (r : Int) j := by
  unfold byteAt
  congr 1
  rw [Int.toNat_natCast, Int.toNat_natCast]
  have e : ∀ N : Nat, N / 256 ^ j % 256 = N % (256 ^ j * 256) / 256 ^ j := fun N => (Nat.mod_mul_right_div_self _ _ _).symm
  rw [e, e]
  congr 1
  have hk : 256 ^ k = 256 ^ j * 256 * 256 ^ (k - j - 1) := by
    rw [← Nat.pow_succ, ← Nat.pow_add]
    congr 1
    omega
  rw [hk, Nat.mul_comm x, Nat.mul_assoc, Nat.mul_add_mod]
theorem be_low (x r k : Nat) : ∀ j, j ≤ k → be ((x * 256 ^ k + r : Nat) : Int) j = be (r : Int) j
  | 0, _ => rfl
  | j + 1, h => by
    show byteAt _ j :: be _ j = byteAt _ j :: be _ j
    rw [byteAt_low x r k j h, be_low x r k j (by omega)]
theorem be_val : ∀ xs : List UInt8, be ((val xs : Nat) : Int) xs.length = xs
  | [] => rfl
  | x :: xs => by
    show byteAt _ xs.length :: be _ xs.length = _
    rw [val_cons, be_low _ _ _ _ (Nat.le_refl _), be_val xs]
    congr 1
    unfold byteAt
    rw [Int.toNat_natCast]
    have h1 : val xs < 256 ^ xs.length := val_lt xs
    have h2 : (x.toNat * 256 ^ xs.length + val xs) / 256 ^ xs.length = x.toNat := by
      rw [Nat.add_comm, Nat.mul_comm, Nat.add_mul_div_left _ _ (Nat.pow_pos (by decide)), Nat.div_eq_of_lt h1, Nat.zero_add]
    rw [h2, Nat.mod_eq_of_lt x.toNat_lt]
    simp

def seg (l : List UInt8) (a n : Nat) : List UInt8 := (l.drop a).take n
theorem seg_len (l : List UInt8) (a n : Nat) (h : a + n ≤ l.length) : (seg l a n).length = n := by simp [seg]; omega
theorem seg_add (l : List UInt8) (a i j : Nat) : seg l a (i + j) = seg l a i ++ seg l (a + i) j := by
  unfold seg
  rw [List.take_add, List.drop_drop]
theorem take_seg (l : List UInt8) (a n : Nat) : l.take (a + n) = l.take a ++ seg l a n := by
  unfold seg
  rw [List.take_add]

/-- what the row of taking calls makes of the reader's state -/
def stepM (kind most each many : Int) (l : List UInt8) (s : Nat × Int) : Nat × Int :=
  if kind = 1 then (takeM 1 l s).2 else if kind = 2 then (takeM 2 l s).2 else if kind = 3 then (takeM 4 l s).2 else if kind = 4 then (takeM 8 l s).2 else if kind = 5 then (flagM l s).2 else
  if kind = 6 then (dgsM many l s).2 else if kind = 7 then (nextM many l s).2 else if kind = 8 then (txtM most l s).2 else if kind = 9 then (bytM most l s).2 else if kind = 10 then (tsM most each l s).2 else s

/-- it went well: from a to a' -/
def Went (l : List UInt8) (a a' : Nat) (news : List UInt8) : Prop := a ≤ a' ∧ a' ≤ l.length ∧ news = seg l a (a' - a)
theorem went_take (W : Nat) (l : List UInt8) (a : Nat) (h : (takeM W l (a, 0)).2.2 = 0) :
    (takeM W l (a, 0)).2 = (a + W, 0) ∧ (takeM W l (a, 0)).1 = val (seg l a W) ∧ a + W ≤ l.length ∧ Went l a (a + W) (be ((takeM W l (a, 0)).1 : Int) W) := by
  by_cases hl : a + W ≤ l.length
  · rw [takeM_ok hl]
    refine ⟨rfl, rfl, hl, Nat.le_add_right _ _, hl, ?_⟩
    have e := be_val (seg l a W)
    rw [seg_len l a W hl] at e
    rw [Nat.add_sub_cancel_left]
    exact e
  · rw [takeM_short (by omega)] at h
    cases h
theorem went_flag (l : List UInt8) (a : Nat) (h : (flagM l (a, 0)).2.2 = 0) :
    (flagM l (a, 0)).2 = (a + 1, 0) ∧ Went l a (a + 1) [if (flagM l (a, 0)).1 then 1 else 0] := by
  unfold flagM at h ⊢
  by_cases h1 : (takeM 1 l (a, 0)).1 ≤ 1
  · rw [if_pos h1] at h ⊢
    obtain ⟨e2, e1, hl, h3, h4, h5⟩ := went_take 1 l a h
    refine ⟨e2, h3, h4, ?_⟩
    rw [← h5]
    have : (takeM 1 l (a, 0)).1 = 0 ∨ (takeM 1 l (a, 0)).1 = 1 := by omega
    rcases this with e | e <;> rw [e] <;> rfl
  · rw [if_neg h1] at h
    cases h
theorem went_next (n : Int) (l : List UInt8) (a : Nat) (h : (nextM n l (a, 0)).2.2 = 0) :
    0 ≤ n ∧ a + n.toNat ≤ l.length ∧ (nextM n l (a, 0)) = (seg l a n.toNat, (a + n.toNat, 0)) := by
  unfold nextM at h ⊢
  rw [if_pos rfl] at h ⊢
  by_cases h1 : n < 0 ∨ (l.length : Int) - ((a, (0 : Int)) : Nat × Int).1 < n
  · rw [if_pos h1] at h
    cases h
  · rw [if_neg h1]
    simp only [not_or, Int.not_lt] at h1
    exact ⟨h1.1, by omega, rfl⟩
theorem went_raw (n : Int) (l : List UInt8) (a : Nat) (ha : a ≤ l.length) (h : (nextM n l (a, 0)).2.2 = 0) :
    ∃ a', (nextM n l (a, 0)).2 = (a', 0) ∧ Went l a a' (nextM n l (a, 0)).1 := by
  obtain ⟨h0, h1, e⟩ := went_next n l a h
  rw [e]
  exact ⟨_, rfl, by omega, h1, by rw [Nat.add_sub_cancel_left]⟩
theorem went_dgs (n : Int) (l : List UInt8) (a : Nat) (ha : a ≤ l.length) (h : (dgsM n l (a, 0)).2.2 = 0) :
    ∃ a', (dgsM n l (a, 0)).2 = (a', 0) ∧ Went l a a' (cat (dgsM n l (a, 0)).1) ∧ 32 * (dgsM n l (a, 0)).1.length = a' - a := by
  unfold dgsM at h ⊢
  rw [if_pos rfl] at h ⊢
  by_cases h1 : n < 0 ∨ (((l.length - ((a, (0 : Int)) : Nat × Int).1) / 32 : Nat) : Int) < n
  · rw [if_pos h1] at h
    cases h
  · rw [if_neg h1]
    simp only [not_or, Int.not_lt] at h1
    have hl : a + 32 * n.toNat ≤ l.length := by
      have := h1.2
      omega
    refine ⟨_, rfl, ⟨Nat.le_add_right _ _, hl, ?_⟩, ?_⟩
    · rw [cat_chunks l a n.toNat hl]
      simp only [Nat.add_sub_cancel_left]
      rfl
    · simp only [chunks_len, Nat.add_sub_cancel_left]
theorem went_cnt (W a : Nat) (top most : Int) (l : List UInt8) (h : (cntM a (takeM W l (a, 0)).1 (bnd most top) l (takeM W l (a, 0)).2).2.2 = 0) :
    ∃ t, (cntM a (takeM W l (a, 0)).1 (bnd most top) l (takeM W l (a, 0)).2) = (t, (a + W + t.length, 0)) ∧ terr t.length most top = 0 ∧ Went l a (a + W + t.length) (be t.length W ++ t) := by
  by_cases h1 : bnd most top < (((takeM W l (a, 0)).1 : Nat) : Int)
  · unfold cntM at h
    rw [if_pos h1] at h
    simp only at h
    split at h
    · cases h
    · contradiction
  · unfold cntM at h ⊢
    rw [if_neg h1] at h ⊢
    have h2 : (nextM ((takeM W l (a, 0)).1 : Int) l (takeM W l (a, 0)).2).2.2 = 0 := by
      simp only at h
      by_cases hz : (nextM ((takeM W l (a, 0)).1 : Int) l (takeM W l (a, 0)).2).2.2 = 0
      · exact hz
      · rw [if_neg hz] at h
        exact absurd h hz
    have h3 : (takeM W l (a, 0)).2.2 = 0 := by
      by_cases hz : (takeM W l (a, 0)).2.2 = 0
      · exact hz
      · unfold nextM at h2
        rw [if_neg hz] at h2
        exact absurd h2 hz
    obtain ⟨e2, e1, hl, _, _, h5⟩ := went_take W l a h3
    rw [if_pos h2]
    rw [e2] at h2 ⊢
    obtain ⟨g0, g1, e⟩ := went_next _ l (a + W) h2
    rw [e]
    have hlen : (seg l (a + W) ((((takeM W l (a, 0)).1 : Nat) : Int)).toNat).length = (takeM W l (a, 0)).1 := by rw [seg_len _ _ _ g1]; simp
    refine ⟨_, by rw [hlen]; rfl, ?_, ?_, ?_, ?_⟩
    · rw [hlen]
      unfold terr
      rw [if_neg h1]
    · omega
    · rw [hlen]; simpa using g1
    · rw [hlen, h5]
      simp only [Nat.add_sub_cancel_left, Int.toNat_natCast]
      rw [Nat.add_assoc, Nat.add_sub_cancel_left, seg_add]
theorem went_txt (most : Int) (l : List UInt8) (a : Nat) (h : (txtM most l (a, 0)).2.2 = 0) :
    ∃ t, txtM most l (a, 0) = (t, (a + 2 + t.length, 0)) ∧ terr t.length most 65535 = 0 ∧ Went l a (a + 2 + t.length) (be t.length 2 ++ t) := went_cnt 2 a 65535 most l h
theorem went_byt (most : Int) (l : List UInt8) (a : Nat) (h : (bytM most l (a, 0)).2.2 = 0) :
    ∃ t, bytM most l (a, 0) = (t, (a + 4 + t.length, 0)) ∧ terr t.length most 2147483647 = 0 ∧ Went l a (a + 4 + t.length) (be t.length 4 ++ t) := went_cnt 4 a 2147483647 most l h
theorem tx_size (t : List UInt8) : (tx t).size = t.length := by simp [tx, ByteArray.size]
theorem form_tx (t : List UInt8) : form (tx t) = be t.length 2 ++ t := by unfold form; rw [tx_size]; simp [tx]
theorem getD_snoc (acc : List ByteArray) (x : ByteArray) (i : Nat) : (acc ++ [x]).getD i ByteArray.empty = if i < acc.length then acc.getD i ByteArray.empty else if i = acc.length then x else ByteArray.empty := by
  rw [List.getD_eq_getElem?_getD]
  rcases Nat.lt_trichotomy i acc.length with h | h | h
  · rw [if_pos h, List.getElem?_append_left h, List.getD_eq_getElem?_getD]
  · subst h; rw [if_neg (Nat.lt_irrefl _), if_pos rfl]; simp
  · rw [if_neg (by omega), if_neg (by omega), List.getElem?_append_right (by omega), List.getElem?_eq_none (by simp; omega)]; rfl
theorem went_loop (frm : Nat) (each : Int) (l : List UInt8) (a : Nat) : ∀ (n : Nat) (acc : List ByteArray) (p : Nat), Went l a p (cat (acc.map form)) → TextsW.Good acc each acc.length → (∀ s ∈ acc, s.size ≤ 65535) →
    (tsLoop frm each l n acc (p, 0)).2.2 = 0 → ∃ ss p', tsLoop frm each l n acc (p, 0) = (ss, (p', 0)) ∧ ss.length = acc.length + n ∧ Went l a p' (cat (ss.map form)) ∧ TextsW.Good ss each ss.length ∧ ∀ s ∈ ss, s.size ≤ 65535
  | 0, acc, p, hw, hg, hs, h => ⟨acc, p, rfl, rfl, hw, hg, hs⟩
  | n + 1, acc, p, hw, hg, hs, h => by
    unfold tsLoop at h ⊢
    by_cases h1 : (txtM each l (p, 0)).2.2 = 0
    · rw [if_pos h1] at h ⊢
      by_cases h2 : acc ≠ [] ∧ leB (tx (txtM each l (p, 0)).1) (acc.getD (acc.length - 1) ByteArray.empty) = true
      · rw [if_pos h2] at h
        cases h
      · rw [if_neg h2] at h ⊢
        obtain ⟨t, e, ht, hwt⟩ := went_txt each l p h1
        rw [e] at h h2 ⊢
        have hb : ¬ bnd each 65535 < (t.length : Int) := by
          intro hb
          unfold terr at ht
          rw [if_pos hb] at ht
          cases ht
        have hb2 : t.length ≤ 65535 := by unfold bnd at hb; omega
        obtain ⟨ss, p', q1, q2, q3, q4, q5⟩ := went_loop frm each l a n (acc ++ [tx t]) (p + 2 + t.length) (by
            obtain ⟨w1, w2, w3⟩ := hw
            obtain ⟨v1, v2, v3⟩ := hwt
            refine ⟨by omega, v2, ?_⟩
            rw [List.map_append, cat_append, List.map_singleton, form_tx, v3, w3]
            rw [show cat [seg l p (p + 2 + t.length - p)] = seg l p (p + 2 + t.length - p) by simp [cat]]
            have e1 : p + 2 + t.length - a = (p - a) + (p + 2 + t.length - p) := by omega
            rw [e1, seg_add, show a + (p - a) = p by omega]) (by
            intro j hj
            rw [List.length_append, List.length_singleton] at hj
            rcases Nat.lt_or_ge j acc.length with hlt | hge
            · obtain ⟨g1, g2⟩ := hg j hlt
              refine ⟨?_, ?_⟩
              · unfold longB at g1 ⊢
                rw [getD_snoc, if_pos hlt]
                exact g1
              · unfold lowB at g2 ⊢
                rw [getD_snoc, if_pos hlt, getD_snoc, if_pos (by omega)]
                exact g2
            · obtain rfl : j = acc.length := by omega
              refine ⟨?_, ?_⟩
              · unfold longB
                rw [getD_snoc, if_neg (Nat.lt_irrefl _), if_pos rfl, tx_size]
                simpa using hb
              · unfold lowB
                rw [getD_snoc, if_neg (Nat.lt_irrefl _), if_pos rfl]
                rcases Nat.eq_zero_or_pos acc.length with h0 | h0
                · rw [h0]; rfl
                · rw [getD_snoc, if_pos (by omega)]
                  have hne : acc ≠ [] := fun e => by rw [e] at h0; exact absurd h0 (Nat.lt_irrefl _)
                  have h3 : ¬ leB (tx t) (acc.getD (acc.length - 1) ByteArray.empty) = true := fun h4 => h2 ⟨hne, h4⟩
                  rw [Bool.not_eq_true] at h3
                  rw [h3, Bool.and_false]) (by
            intro s hsm
            rcases List.mem_append.1 hsm with h4 | h4
            · exact hs s h4
            · rw [List.mem_singleton.1 h4, tx_size]; exact hb2) h
        exact ⟨ss, p', q1, by rw [q2, List.length_append, List.length_singleton]; omega, q3, q4, q5⟩
    · rw [if_neg h1] at h
      exact absurd h h1
theorem went_ts (most each : Int) (l : List UInt8) (a : Nat) (h : (tsM most each l (a, 0)).2.2 = 0) :
    ∃ ss a', tsM most each l (a, 0) = (ss, (a', 0)) ∧ tsErr ss most each = 0 ∧ Went l a a' (forms ss) ∧ ss.length ≤ 65535 ∧ ∀ s ∈ ss, s.size ≤ 65535 := by
  unfold tsM at h ⊢
  by_cases h1 : bnd most 65535 < (((takeM 2 l (a, 0)).1 : Nat) : Int)
  · rw [if_pos h1] at h
    simp only at h
    split at h
    · cases h
    · contradiction
  · rw [if_neg h1] at h ⊢
    have h3 : (takeM 2 l (a, 0)).2.2 = 0 := by
      by_cases hz : (takeM 2 l (a, 0)).2.2 = 0
      · exact hz
      · have hst : takeM 2 l (a, 0) = (0, (a, 8)) := by
          by_cases hl : a + 2 ≤ l.length
          · rw [takeM_ok hl] at hz; exact absurd rfl hz
          · exact takeM_short (by omega)
        rw [hst] at h
        cases h
    obtain ⟨e2, e1, hl, hw⟩ := went_take 2 l a h3
    rw [e2] at h ⊢
    obtain ⟨n, hn⟩ : ∃ n, n = (takeM 2 l (a, 0)).1 := ⟨_, rfl⟩
    rw [← hn] at h h1 hw ⊢
    obtain ⟨ss, p', q1, q2, q3, q4, q5⟩ := went_loop ((a, (0 : Int)) : Nat × Int).1 each l (a + 2) n [] (a + 2) ⟨Nat.le_refl _, hl, by simp [seg, cat]⟩ (fun j hj => absurd hj (Nat.not_lt_zero _)) (fun s hs => by cases hs) h
    rw [List.length_nil, Nat.zero_add] at q2
    have hbn : n ≤ 65535 := by unfold bnd at h1; omega
    refine ⟨ss, p', q1, ?_, ?_, by omega, q5⟩
    · unfold tsErr
      rw [q2, if_neg h1]
      exact rowErr_none q4
    · obtain ⟨w1, w2, w3⟩ := hw
      obtain ⟨v1, v2, v3⟩ := q3
      refine ⟨by omega, v2, ?_⟩
      unfold forms
      rw [q2, w3, v3, Nat.add_sub_cancel_left]
      rw [show p' - a = 2 + (p' - (a + 2)) by omega, seg_add]
end Go.Proofs.Ytcdgimapkbaboaa.ForthL
