/-
  Plain facts for docketref2.Sum: rings, the text block by block.
-/
import Derived.Test.YtgcionimhmbgeaaDoorRRefM
import Derived.Test.YtgcionimhmbgeaaDoorRHashM
namespace Go.Proofs.YtgcionimhmbgeaaDoorR.RefM
open Go Sha HashM
set_option linter.unusedVariables false

def isub (j : Nat) : List UInt32 := (ws init).take j ++ List.replicate (8 - j) 0
theorem isub_set (j : Nat) (h : j < 8) : (isub j).set j ((ws init).getD j 0) = isub (j + 1) := by
  match j, h with
  | 0, _ => rfl
  | 1, _ => rfl
  | 2, _ => rfl
  | 3, _ => rfl
  | 4, _ => rfl
  | 5, _ => rfl
  | 6, _ => rfl
  | 7, _ => rfl
theorem isub_zero : isub 0 = List.replicate 8 0 := rfl
theorem isub_all : isub 8 = ws init := rfl
def ring8 (st : St) (t : Nat) : List UInt32 := (List.range 8).map fun j => (ws st).getD ((j + t) % 8) 0
theorem ring8_zero (st : St) : ring8 st 0 = ws st := rfl
theorem ring8_end (st : St) : ring8 st 64 = ws st := rfl
theorem ring8_at (st : St) (t q : Nat) (ht : t ≤ 64) (hq : q < 8) : (ring8 st t)[(64 + q - t) % 8]? = some ((ws st).getD q 0) := by
  have e : ((64 + q - t) % 8 + t) % 8 = q := by omega
  unfold ring8
  rw [List.getElem?_map, List.getElem?_range (by omega), Option.map_some, e]
theorem ring8_len (st : St) (t : Nat) : (ring8 st t).length = 8 := by simp [ring8]
theorem ring8_get (st : St) (t j : Nat) (hj : j < 8) : (ring8 st t)[j]? = some ((ws st).getD ((j + t) % 8) 0) := by
  unfold ring8
  rw [List.getElem?_map, List.getElem?_range hj]
  rfl
theorem ring8_step (st : St) (t : Nat) (x y : UInt32) (ht : t < 64) :
    ((ring8 st t).set ((67 - t) % 8) (st.d + x)).set ((71 - t) % 8) (x + y) = ring8 ⟨x + y, st.a, st.b, st.c, st.d + x, st.e, st.f, st.g⟩ (t + 1) := by
  apply List.ext_getElem?
  intro j
  rcases Nat.lt_or_ge j 8 with hj | hj
  · rw [ring8_get _ _ _ hj, List.getElem?_set, List.getElem?_set, List.length_set, ring8_len, ring8_get _ _ _ hj]
    obtain ⟨q, hq⟩ : ∃ q, q = (j + t) % 8 := ⟨_, rfl⟩
    have hq8 : q < 8 := by omega
    rw [show (j + (t + 1)) % 8 = (q + 1) % 8 by omega, ← hq]
    match q, hq8 with
    | 0, _ => rw [if_neg (by omega), if_neg (by omega)]; rfl
    | 1, _ => rw [if_neg (by omega), if_neg (by omega)]; rfl
    | 2, _ => rw [if_neg (by omega), if_neg (by omega)]; rfl
    | 3, _ => rw [if_neg (by omega), if_pos (by omega), if_pos (by omega)]; rfl
    | 4, _ => rw [if_neg (by omega), if_neg (by omega)]; rfl
    | 5, _ => rw [if_neg (by omega), if_neg (by omega)]; rfl
    | 6, _ => rw [if_neg (by omega), if_neg (by omega)]; rfl
    | 7, _ => rw [if_pos (by omega), if_pos (by omega)]; rfl
  · rw [List.getElem?_eq_none (by rw [List.length_set, List.length_set, ring8_len]; omega), List.getElem?_eq_none (by rw [ring8_len]; omega)]

def r16 (t j : Nat) : Nat := max t 16 - 16 + (j + 64 - (max t 16 - 16)) % 16
def ring16 (M : List UInt8) (t : Nat) : List UInt32 := (List.range 16).map fun j => S M (r16 t j)
theorem ring16_len (M : List UInt8) (t : Nat) : (ring16 M t).length = 16 := by simp [ring16]
theorem ring16_get (M : List UInt8) (t j : Nat) (hj : j < 16) : (ring16 M t)[j]? = some (S M (r16 t j)) := by
  unfold ring16
  rw [List.getElem?_map, List.getElem?_range hj]
  rfl
theorem ring16_at (M : List UInt8) (t u : Nat) (ht : t ≤ 64) (h0 : max t 16 - 16 ≤ u) (h1 : u < max t 16) : (ring16 M t)[u % 16]? = some (S M u) := by
  rw [ring16_get _ _ _ (by omega)]
  congr 2
  unfold r16
  omega
theorem ring16_set (M : List UInt8) (t : Nat) (h0 : 16 ≤ t) (ht : t < 64) : (ring16 M t).set (t % 16) (S M t) = ring16 M (t + 1) := by
  apply List.ext_getElem?
  intro j
  rcases Nat.lt_or_ge j 16 with hj | hj
  · rw [ring16_get _ _ _ hj, List.getElem?_set, ring16_len, ring16_get _ _ _ hj]
    by_cases he : t % 16 = j
    · rw [if_pos he, if_pos (by omega)]
      congr 2
      unfold r16
      omega
    · rw [if_neg he]
      congr 2
      unfold r16
      omega
  · rw [List.getElem?_eq_none (by rw [List.length_set, ring16_len]; omega), List.getElem?_eq_none (by rw [ring16_len]; omega)]
theorem ring16_small (M : List UInt8) (t : Nat) (ht : t < 16) : ring16 M (t + 1) = ring16 M t := by
  unfold ring16 r16
  rw [show max (t + 1) 16 = max t 16 by omega]

def wlist (M : List UInt8) (i : Nat) : List UInt32 := (List.range 16).map (wsub M i)
theorem wlist_len (M : List UInt8) (i : Nat) : (wlist M i).length = 16 := by simp [wlist]
theorem wlist_get (M : List UInt8) (i j : Nat) (hj : j < 16) : (wlist M i)[j]? = some (wsub M i j) := by
  unfold wlist
  rw [List.getElem?_map, List.getElem?_range hj]
  rfl
theorem wlist_zero (M : List UInt8) : wlist M 0 = List.replicate 16 0 := by
  apply List.ext_getElem?
  intro j
  rcases Nat.lt_or_ge j 16 with hj | hj
  · rw [wlist_get _ _ _ hj, wsub_zero, List.getElem?_replicate, if_pos hj]
  · rw [List.getElem?_eq_none (by rw [wlist_len]; omega), List.getElem?_eq_none (by simp; omega)]
theorem wlist_set (M : List UInt8) (i : Nat) (h : i < 64) : (wlist M i).set (i / 4) (sl (wsub M i (i / 4)) 8 ||| (M.getD i 0).toUInt32) = wlist M (i + 1) := by
  apply List.ext_getElem?
  intro j
  rcases Nat.lt_or_ge j 16 with hj | hj
  · rw [wlist_get _ _ _ hj, List.getElem?_set, wlist_len, wlist_get _ _ _ hj]
    by_cases he : i / 4 = j
    · rw [if_pos he, if_pos (by omega), ← wsub_same, he]
    · rw [if_neg he, wsub_other _ _ _ (fun h => he h.symm)]
  · rw [List.getElem?_eq_none (by rw [List.length_set, wlist_len]; omega), List.getElem?_eq_none (by rw [wlist_len]; omega)]
theorem wlist_end (M : List UInt8) : wlist M 64 = ring16 M 0 := by
  apply List.ext_getElem?
  intro j
  rcases Nat.lt_or_ge j 16 with hj | hj
  · rw [wlist_get _ _ _ hj, ring16_get _ _ _ hj, wsub_full _ _ hj, show r16 0 j = j by unfold r16; omega, S_word _ _ hj]
  · rw [List.getElem?_eq_none (by rw [wlist_len]; omega), List.getElem?_eq_none (by rw [ring16_len]; omega)]

/-- the block m of a text -/
def blk (L : List UInt8) (m : Nat) : List UInt8 := (L.drop (64 * m)).take 64
theorem blk_at (L : List UInt8) (m i : Nat) (h : i < 64) : (blk L m).getD i 0 = L.getD (64 * m + i) 0 := by
  unfold blk
  rw [List.getD_eq_getElem?_getD, List.getElem?_take_of_lt h, List.getElem?_drop, List.getD_eq_getElem?_getD]
theorem blocks_step (L : List UInt8) (m : Nat) (h : 64 * (m + 1) ≤ L.length) : blocks init (m + 1) L = mix (blocks init m L) (blk L m) := by
  have e : L = L.take (64 * m) ++ (blk L m ++ L.drop (64 * (m + 1))) := by
    unfold blk
    rw [show 64 * (m + 1) = 64 * m + 64 by omega, ← List.drop_drop, List.take_append_drop, List.take_append_drop]
  have l1 : (L.take (64 * m)).length = 64 * m := by simp; omega
  have l2 : (blk L m).length = 64 := by simp [blk]; omega
  have e1 : blocks init (m + 1) L = blocks init (m + 1) (L.take (64 * m) ++ blk L m) := by
    have h3 := blocks_append init (m + 1) (L.take (64 * m) ++ blk L m) (L.drop (64 * (m + 1))) (by rw [List.length_append, l1, l2]; omega)
    rw [List.append_assoc, ← e] at h3
    exact h3
  have e2 : blocks init m L = blocks init m (L.take (64 * m)) := by
    have h3 := blocks_append init m (L.take (64 * m)) (blk L m ++ L.drop (64 * (m + 1))) l1
    rw [← e] at h3
    exact h3
  rw [e1, e2, blocks_snoc _ _ _ _ l1 l2]
def ssub (s r : St) (i : Nat) : List UInt32 := (ws (s.add r)).take i ++ (ws s).drop i
theorem ssub_at (s r : St) (i : Nat) (h : i < 8) : (ssub s r i)[i]? = some ((ws s).getD i 0) := by
  match i, h with
  | 0, _ => rfl
  | 1, _ => rfl
  | 2, _ => rfl
  | 3, _ => rfl
  | 4, _ => rfl
  | 5, _ => rfl
  | 6, _ => rfl
  | 7, _ => rfl
theorem ssub_set (s r : St) (i : Nat) (h : i < 8) : (ssub s r i).set i ((ws s).getD i 0 + (ws r).getD i 0) = ssub s r (i + 1) := by
  match i, h with
  | 0, _ => rfl
  | 1, _ => rfl
  | 2, _ => rfl
  | 3, _ => rfl
  | 4, _ => rfl
  | 5, _ => rfl
  | 6, _ => rfl
  | 7, _ => rfl
theorem ssub_zero (s r : St) : ssub s r 0 = ws s := rfl
theorem ssub_end (s r : St) : ssub s r 8 = ws (s.add r) := rfl
def osb (st : St) (i : Nat) : List UInt8 := (out st).take i ++ List.replicate (32 - i) 0
theorem out_len (st : St) : (out st).length = 32 := rfl
theorem osb_set (st : St) (i : Nat) (h : i < 32) : (osb st i).set i ((out st).getD i 0) = osb st (i + 1) := by
  unfold osb
  have hl : ((out st).take i).length = i := by rw [List.length_take, out_len]; omega
  rw [List.set_append_right _ _ (by omega), hl, Nat.sub_self, show 32 - i = (32 - (i + 1)) + 1 by omega, List.replicate_succ, List.set_cons_zero, List.take_succ_eq_append_getElem (by rw [out_len]; omega), List.append_assoc]
  have hlt : i < (out st).length := by rw [out_len]; exact h
  rw [List.getD_eq_getElem?_getD, List.getElem?_eq_getElem hlt]
  rfl
theorem out_at (st : St) (a b : Nat) (ha : a < 8) (hb : b < 4) : (out st).getD (4 * a + b) 0 = UInt8.ofNat (((ws st).getD a 0).toNat / 2 ^ (24 - 8 * b)) := by
  match a, ha, b, hb with
  | 0, _, 0, _ => rfl
  | 0, _, 1, _ => rfl
  | 0, _, 2, _ => rfl
  | 0, _, 3, _ => simp [out, ws]
  | 1, _, 0, _ => rfl
  | 1, _, 1, _ => rfl
  | 1, _, 2, _ => rfl
  | 1, _, 3, _ => simp [out, ws]
  | 2, _, 0, _ => rfl
  | 2, _, 1, _ => rfl
  | 2, _, 2, _ => rfl
  | 2, _, 3, _ => simp [out, ws]
  | 3, _, 0, _ => rfl
  | 3, _, 1, _ => rfl
  | 3, _, 2, _ => rfl
  | 3, _, 3, _ => simp [out, ws]
  | 4, _, 0, _ => rfl
  | 4, _, 1, _ => rfl
  | 4, _, 2, _ => rfl
  | 4, _, 3, _ => simp [out, ws]
  | 5, _, 0, _ => rfl
  | 5, _, 1, _ => rfl
  | 5, _, 2, _ => rfl
  | 5, _, 3, _ => simp [out, ws]
  | 6, _, 0, _ => rfl
  | 6, _, 1, _ => rfl
  | 6, _, 2, _ => rfl
  | 6, _, 3, _ => simp [out, ws]
  | 7, _, 0, _ => rfl
  | 7, _, 1, _ => rfl
  | 7, _, 2, _ => rfl
  | 7, _, 3, _ => simp [out, ws]
theorem tx_eq (s : St) (k w : UInt32) : s.h + (rotr s.e 6 ^^^ rotr s.e 11 ^^^ rotr s.e 25) + (s.g ^^^ s.e &&& (s.f ^^^ s.g)) + k + w = tx s k w := by
  rw [ch_eq]; rfl
theorem ty_eq (s : St) : (rotr s.a 2 ^^^ rotr s.a 13 ^^^ rotr s.a 22) + (s.a &&& s.b ||| s.c &&& (s.a ||| s.b)) = ty s := by
  rw [maj_eq]; rfl
end Go.Proofs.YtgcionimhmbgeaaDoorR.RefM
