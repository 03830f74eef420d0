/-
  The tree of layer 6 on plain numbers and lists: spots, the root row by row, the way of a leaf.
-/
import Derived.Lib.BitFns
import Derived.Lib.TrailingZeros
namespace Go.Proofs.YtgcionimhmbgeaaDoorR.SpL
open Go.Lib
set_option linter.unusedVariables false
set_option linter.unusedSimpArgs false
theorem bitLen_ge (x k : Nat) (h : 2 ^ k ≤ x) (hx : x < 2 ^ 64) : k + 1 ≤ bitLen x := by
  rw [bitLen_shift k x h hx]
  have h1 : 0 < x / 2 ^ k := Nat.div_pos h (Nat.two_pow_pos k)
  have h2 : bitLen (x / 2 ^ k) = 1 + bitLen (x / 2 ^ k / 2) := bitLen_half _ (by omega) (Nat.lt_of_le_of_lt (Nat.div_le_self _ _) hx)
  omega
theorem bitLen_pow (x : Nat) (h0 : 0 < x) (hx : x < 2 ^ 64) : 2 ^ (bitLen x - 1) ≤ x ∧ x < 2 ^ bitLen x := by
  have h64 : bitLen x ≤ 64 := bitLen_le x 64 (Nat.le_refl _) hx
  have h1 : 1 ≤ bitLen x := bitLen_ge x 0 h0 hx
  constructor
  · apply Decidable.byContradiction
    intro h
    have := bitLen_le x (bitLen x - 1) (by omega) (by omega)
    omega
  · apply Decidable.byContradiction
    intro h
    have := bitLen_ge x (bitLen x) (by omega) hx
    omega
/-- the greatest power of two that is not above n: its exponent -/
def flog (n : Nat) : Nat := bitLen n - 1
theorem flog_spec (n : Nat) (h0 : 0 < n) (hn : n < 2 ^ 64) : 2 ^ flog n ≤ n ∧ n < 2 ^ (flog n + 1) := by
  have h := bitLen_pow n h0 hn
  have h1 : 1 ≤ bitLen n := bitLen_ge n 0 h0 hn
  unfold flog
  rw [show bitLen n - 1 + 1 = bitLen n by omega]
  exact h
theorem ctz_spec (x : Nat) (h0 : 0 < x) (hx : x < 2 ^ 64) : 2 ^ ctz 64 x ∣ x ∧ ¬ 2 ^ (ctz 64 x + 1) ∣ x := by
  have h := ctzFrom_spec 64 x h0 hx
  have e : ctz 64 x = ctzFrom 64 x := by unfold ctz; rw [if_neg (by omega)]
  rw [← e] at h
  obtain ⟨m, hm, _⟩ := h
  refine ⟨⟨_, hm⟩, ?_⟩
  rintro ⟨c, hc⟩
  have : 2 ^ ctz 64 x * (2 * m + 1) = 2 ^ ctz 64 x * (2 * c) := by rw [← hm]; rw [Nat.pow_succ, Nat.mul_assoc] at hc; exact hc
  have := Nat.eq_of_mul_eq_mul_left (Nat.two_pow_pos _) this
  omega
/-- the level of the greatest spot that begins at a and ends at or ahead of b -/
def lev (a b : Nat) : Nat := min (ctz 64 a) (flog (b - a))
def Lev (a b L : Nat) : Prop := 2 ^ L ∣ a ∧ a + 2 ^ L ≤ b ∧ L ≤ 40 ∧ (L < 40 → 2 ^ (L + 1) ∣ a → b < a + 2 ^ (L + 1))
theorem two_dvd {k n a : Nat} (h : k ≤ n) (h2 : 2 ^ n ∣ a) : 2 ^ k ∣ a := Nat.dvd_trans (Nat.pow_dvd_pow 2 h) h2
theorem lev_spec (a b : Nat) (h : a < b) (hb : b ≤ 2 ^ 40) : Lev a b (lev a b) := by
  have hb' : b < 2 ^ 64 := Nat.lt_of_le_of_lt hb (by decide)
  obtain ⟨f1, f2⟩ := flog_spec (b - a) (by omega) (by omega)
  have h40 : flog (b - a) ≤ 40 := by
    apply Decidable.byContradiction
    intro hn
    have h1 : 2 ^ 41 ≤ 2 ^ flog (b - a) := Nat.pow_le_pow_right (by decide) (by omega)
    have h2 : (2 : Nat) ^ 40 < 2 ^ 41 := by decide
    omega
  have hl1 : lev a b ≤ ctz 64 a := Nat.min_le_left _ _
  have hl2 : lev a b ≤ flog (b - a) := Nat.min_le_right _ _
  have hp : 2 ^ lev a b ≤ 2 ^ flog (b - a) := Nat.pow_le_pow_right (by decide) hl2
  by_cases ha : a = 0
  · subst ha
    refine ⟨Nat.dvd_zero _, by omega, by omega, fun _ _ => ?_⟩
    have e : lev 0 b = flog (b - 0) := by
      unfold lev
      rw [Nat.min_eq_right]
      have : ctz 64 0 = 64 := rfl
      omega
    rw [e]
    omega
  · obtain ⟨c1, c2⟩ := ctz_spec a (by omega) (by omega)
    refine ⟨two_dvd hl1 c1, by omega, by omega, fun _ hd => ?_⟩
    by_cases hc : ctz 64 a ≤ flog (b - a)
    · have e : lev a b = ctz 64 a := Nat.min_eq_left hc
      rw [e] at hd
      exact absurd hd c2
    · have e : lev a b = flog (b - a) := Nat.min_eq_right (by omega)
      rw [e]
      omega
theorem Lev.uniq {a b L M : Nat} (h : Lev a b L) (k : Lev a b M) : L = M := by
  obtain ⟨h1, h2, h3, h4⟩ := h
  obtain ⟨k1, k2, k3, k4⟩ := k
  rcases Nat.lt_trichotomy L M with hl | hl | hl
  · have := h4 (by omega) (two_dvd (by omega) k1)
    have : 2 ^ (L + 1) ≤ 2 ^ M := Nat.pow_le_pow_right (by decide) (by omega)
    omega
  · exact hl
  · have := k4 (by omega) (two_dvd (by omega) h1)
    have : 2 ^ (M + 1) ≤ 2 ^ L := Nat.pow_le_pow_right (by decide) (by omega)
    omega
/-- the spots from a up to b -/
def spots (a b : Nat) : List (Nat × Nat) :=
  if h : a < b then (lev a b, a / 2 ^ lev a b) :: spots (a + 2 ^ lev a b) b else []
termination_by b - a
decreasing_by have := Nat.two_pow_pos (lev a b); omega
theorem spots_nil {a b : Nat} (h : ¬ a < b) : spots a b = [] := by rw [spots]; simp [h]
theorem spots_cons {a b : Nat} (h : a < b) : spots a b = (lev a b, a / 2 ^ lev a b) :: spots (a + 2 ^ lev a b) b := by
  rw [spots.eq_1 a b, dif_pos h]
theorem spots_len (a b : Nat) (hb : b ≤ 2 ^ 40) : (spots a b).length ≤ b - a := by
  by_cases h : a < b
  · rw [spots_cons h, List.length_cons]
    have hl := lev_spec a b h hb
    have := Nat.two_pow_pos (lev a b)
    have := spots_len (a + 2 ^ lev a b) b hb
    omega
  · rw [spots_nil h]; simp
termination_by b - a
section
variable {α : Type} (N : α → α → α) (e : α)
/-- how many leaves the left part of n has -/
def lft (n : Nat) : Nat := 2 ^ flog (n - 1)
theorem lft_spec (n : Nat) (h : 2 ≤ n) (hn : n < 2 ^ 64) : 1 ≤ lft n ∧ lft n < n ∧ n ≤ 2 * lft n := by
  have h1 := flog_spec (n - 1) (by omega) (by omega)
  unfold lft
  rw [Nat.pow_succ] at h1
  omega
theorem flog_uniq (n f : Nat) (h : 2 ^ f ≤ n) (h2 : n < 2 ^ (f + 1)) (hn : n < 2 ^ 64) : flog n = f := by
  have h0 : 0 < n := Nat.lt_of_lt_of_le (Nat.two_pow_pos f) h
  obtain ⟨a, b⟩ := flog_spec n h0 hn
  rcases Nat.lt_trichotomy (flog n) f with hl | hl | hl
  · have : 2 ^ (flog n + 1) ≤ 2 ^ f := Nat.pow_le_pow_right (by decide) (by omega)
    omega
  · exact hl
  · have : 2 ^ (f + 1) ≤ 2 ^ flog n := Nat.pow_le_pow_right (by decide) (by omega)
    omega
/-- the root, with fuel -/
def mthF : Nat → List α → α
  | 0, _ => e
  | f + 1, l => if l.length = 0 then e else if l.length = 1 then l.headD e else N (mthF f (l.take (lft l.length))) (mthF f (l.drop (lft l.length)))
theorem mthF_fuel (f g : Nat) (l : List α) (hf : l.length < f) (hg : l.length < g) (hl : l.length < 2 ^ 64) : mthF N e f l = mthF N e g l := by
  induction f generalizing g l with
  | zero => omega
  | succ f ih =>
    cases g with
    | zero => omega
    | succ g =>
      unfold mthF
      by_cases h0 : l.length = 0
      · rw [if_pos h0, if_pos h0]
      · rw [if_neg h0, if_neg h0]
        by_cases h1 : l.length = 1
        · rw [if_pos h1, if_pos h1]
        · rw [if_neg h1, if_neg h1]
          obtain ⟨a, b, c⟩ := lft_spec l.length (by omega) hl
          rw [ih g _ (by simp; omega) (by simp; omega) (by simp; omega), ih g _ (by simp; omega) (by simp; omega) (by simp; omega)]
def mth (l : List α) : α := mthF N e (l.length + 1) l
theorem mth_nil : mth N e [] = e := rfl
theorem mth_one (x : α) : mth N e [x] = x := rfl
theorem mth_two (l : List α) (h : 2 ≤ l.length) (hl : l.length < 2 ^ 64) : mth N e l = N (mth N e (l.take (lft l.length))) (mth N e (l.drop (lft l.length))) := by
  unfold mth
  rw [mthF, if_neg (by omega), if_neg (by omega)]
  obtain ⟨a, b, c⟩ := lft_spec l.length h hl
  rw [mthF_fuel N e l.length _ (l.take _) (by simp; omega) (Nat.lt_succ_self _) (by simp; omega), mthF_fuel N e l.length _ (l.drop _) (by simp; omega) (Nat.lt_succ_self _) (by simp; omega)]
/-- one row up -/
def up : List α → List α
  | x :: y :: r => N x y :: up r
  | r => r
theorem up_len : ∀ l : List α, (up N l).length = (l.length + 1) / 2
  | [] => by simp [up]
  | [_] => by simp [up]
  | x :: y :: r => by
    rw [up, List.length_cons, up_len r, List.length_cons, List.length_cons]
    omega
theorem up_append : ∀ (l m : List α), l.length % 2 = 0 → up N (l ++ m) = up N l ++ up N m
  | [], m, _ => rfl
  | [x], m, h => by simp at h
  | x :: y :: r, m, h => by
    rw [List.cons_append, List.cons_append, up, up, up_append r m (by simp at h; omega), List.cons_append]
theorem up_mth (l : List α) (h : 2 ≤ l.length) (hl : l.length < 2 ^ 64) : mth N e l = mth N e (up N l) := by
  obtain ⟨n, hn⟩ : ∃ n, n = l.length := ⟨_, rfl⟩
  induction n using Nat.strongRecOn generalizing l with
  | _ n ih =>
    by_cases h2 : l.length = 2
    · match l, h2 with
      | [x, y], _ =>
        rw [mth_two N e _ (by simp) (by simp)]
        have : lft 2 = 1 := by decide
        simp [this, mth_one, up]
    · obtain ⟨a, b, c⟩ := lft_spec l.length h hl
      have hf : 1 ≤ flog (l.length - 1) := by
        apply Decidable.byContradiction
        intro hn
        have e0 : flog (l.length - 1) = 0 := by omega
        unfold lft at c
        rw [e0] at c
        omega
      obtain ⟨f, hfe⟩ : ∃ f, flog (l.length - 1) = f + 1 := ⟨flog (l.length - 1) - 1, by omega⟩
      have hk : lft l.length = 2 * 2 ^ f := by unfold lft; rw [hfe, Nat.pow_succ, Nat.mul_comm]
      have hul := up_len N l
      have hk' : lft (up N l).length = 2 ^ f := by
        unfold lft
        rw [flog_uniq _ f (by rw [hul]; omega) (by rw [hul, Nat.pow_succ]; omega) (by rw [hul]; omega)]
      have hsplit : up N l = up N (l.take (lft l.length)) ++ up N (l.drop (lft l.length)) := by
        rw [← up_append N _ _ (by rw [List.length_take, Nat.min_eq_left (by omega), hk]; omega), List.take_append_drop]
      have hpos := Nat.two_pow_pos f
      have hlt : (up N (l.take (lft l.length))).length = 2 ^ f := by rw [up_len, List.length_take, Nat.min_eq_left (by omega), hk]; omega
      rw [mth_two N e l h hl, mth_two N e (up N l) (by rw [hul]; omega) (by rw [hul]; omega), hk', hsplit, List.take_left' hlt, List.drop_left' hlt]
      congr 1
      · exact ih _ (by rw [List.length_take]; omega) _ (by rw [List.length_take]; omega) (by rw [List.length_take]; omega) rfl
      · by_cases hd : 2 ≤ (l.drop (lft l.length)).length
        · exact ih _ (by rw [List.length_drop]; omega) _ hd (by rw [List.length_drop]; omega) rfl
        · have : (l.drop (lft l.length)).length = 1 := by rw [List.length_drop] at hd ⊢; omega
          match h1 : l.drop (lft l.length), this with
          | [x], _ => rfl
/-- folded from the right -/
def fold : List α → α
  | [] => e
  | [x] => x
  | x :: y :: r => N x (fold (y :: r))
theorem fold_cons (x : α) (l : List α) (h : l ≠ []) : fold N e (x :: l) = N x (fold N e l) := by
  cases l with
  | nil => exact absurd rfl h
  | cons y r => rfl
end
/-- the parts aside of the i-th of n leaves, from the top: is it left? -/
def dirsF : Nat → Nat → Nat → List Bool
  | 0, _, _ => []
  | f + 1, n, i => if n ≤ 1 then [] else if i < lft n then false :: dirsF f (lft n) i else true :: dirsF f (n - lft n) (i - lft n)
/-- from below, by the bits of the number and of the last one -/
def bu : Nat → Nat → Nat → List Bool
  | 0, _, _ => []
  | f + 1, i, m => if m = 0 then [] else if i % 2 = 1 then true :: bu f (i / 2) (m / 2) else if i < m then false :: bu f (i / 2) (m / 2) else bu f (i / 2) (m / 2)
theorem bu_fuel (f g i m : Nat) (hf : m < 2 ^ f) (hg : m < 2 ^ g) : bu f i m = bu g i m := by
  induction f generalizing g i m with
  | zero =>
    have : m = 0 := by simpa using hf
    subst this
    cases g <;> simp [bu]
  | succ f ih =>
    cases g with
    | zero =>
      have : m = 0 := by simpa using hg
      subst this
      simp [bu]
    | succ g =>
      rw [Nat.pow_succ] at hf hg
      rw [bu, bu, ih g (i / 2) (m / 2) (by omega) (by omega)]
theorem bu_step (f i m : Nat) (h : m ≠ 0) : bu (f + 1) i m = if i % 2 = 1 then true :: bu f (i / 2) (m / 2) else if i < m then false :: bu f (i / 2) (m / 2) else bu f (i / 2) (m / 2) := by
  rw [bu, if_neg h]
theorem bu_split (f F i n : Nat) (hn : 2 ≤ n) (hi : i < n) (hk1 : 2 ^ f < n) (hk2 : n ≤ 2 ^ (f + 1)) (hF : n ≤ 2 ^ F) :
    bu F i (n - 1) = if i < 2 ^ f then bu F i (2 ^ f - 1) ++ [false] else bu F (i - 2 ^ f) (n - 2 ^ f - 1) ++ [true] := by
  induction f generalizing F i n with
  | zero =>
    obtain rfl : n = 2 := by simp at hk1 hk2; omega
    cases F with
    | zero => simp at hF
    | succ F =>
      have : i = 0 ∨ i = 1 := by omega
      rcases this with rfl | rfl
      · cases F <;> simp [bu]
      · cases F <;> simp [bu]
  | succ f ih =>
    cases F with
    | zero => simp at hF; omega
    | succ F =>
      have h2 : 2 ^ (f + 1) = 2 * 2 ^ f := by rw [Nat.pow_succ, Nat.mul_comm]
      have h3 : 2 ^ (f + 1 + 1) = 2 * (2 * 2 ^ f) := by rw [Nat.pow_succ, h2, Nat.mul_comm]
      have hp := Nat.two_pow_pos f
      rw [Nat.pow_succ] at hF
      rw [h2] at hk1
      rw [h3] at hk2
      have hI := ih F (i / 2) ((n - 1) / 2 + 1) (by omega) (by omega) (by omega) (by rw [h2]; omega) (by omega)
      rw [Nat.add_sub_cancel] at hI
      rw [h2, bu_step F i (n - 1) (by omega), hI]
      by_cases hlt : i < 2 * 2 ^ f
      · rw [if_pos hlt, if_pos (show i / 2 < 2 ^ f by omega), bu_step F i (2 * 2 ^ f - 1) (by omega), show (2 * 2 ^ f - 1) / 2 = 2 ^ f - 1 by omega]
        by_cases ho : i % 2 = 1
        · rw [if_pos ho, if_pos ho]; rfl
        · rw [if_neg ho, if_neg ho, if_pos (by omega), if_pos (by omega)]; rfl
      · rw [if_neg hlt, if_neg (show ¬ i / 2 < 2 ^ f by omega)]
        have e1 : i / 2 - 2 ^ f = (i - 2 * 2 ^ f) / 2 := by omega
        have e2 : (n - 1) / 2 + 1 - 2 ^ f - 1 = (n - 2 * 2 ^ f - 1) / 2 := by omega
        rw [e1, e2]
        by_cases hm : n - 2 * 2 ^ f - 1 = 0
        · have hmm : bu F ((i - 2 * 2 ^ f) / 2) ((n - 2 * 2 ^ f - 1) / 2) = [] := by
            rw [hm]; cases F <;> simp [bu]
          have hmm2 : bu (F + 1) (i - 2 * 2 ^ f) (n - 2 * 2 ^ f - 1) = [] := by rw [hm]; simp [bu]
          rw [hmm, hmm2]
          have : i = 2 * 2 ^ f := by omega
          rw [if_neg (by omega), if_neg (by omega)]
        · rw [bu_step F (i - 2 * 2 ^ f) _ hm]
          have e3 : (i - 2 * 2 ^ f) % 2 = i % 2 := by omega
          rw [e3]
          by_cases ho : i % 2 = 1
          · rw [if_pos ho, if_pos ho]; rfl
          · rw [if_neg ho, if_neg ho]
            by_cases hl : i < n - 1
            · rw [if_pos hl, if_pos (by omega)]; rfl
            · rw [if_neg hl, if_neg (by omega)]
theorem dirs_bu (g F n i : Nat) (hg : n ≤ g) (hi : i < n) (hn : n < 2 ^ 64) (hF : n ≤ 2 ^ F) : (dirsF g n i).reverse = bu F i (n - 1) := by
  induction g generalizing n i with
  | zero => omega
  | succ g ih =>
    unfold dirsF
    by_cases h1 : n ≤ 1
    · obtain rfl : n = 1 := by omega
      rw [if_pos (Nat.le_refl 1)]
      cases F <;> simp [bu]
    · rw [if_neg h1]
      obtain ⟨a, b, c⟩ := lft_spec n (by omega) hn
      have hs := bu_split (flog (n - 1)) F i n (by omega) hi b (by rw [Nat.pow_succ, Nat.mul_comm]; exact c) hF
      have hb : lft n < n := b
      rw [hs]
      by_cases hlt : i < lft n
      · rw [if_pos hlt, if_pos (show i < 2 ^ flog (n - 1) from hlt), List.reverse_cons, ih (lft n) i (by omega) hlt (by omega) (by omega)]
        rfl
      · rw [if_neg hlt, if_neg (show ¬ i < 2 ^ flog (n - 1) from hlt), List.reverse_cons, ih (n - lft n) (i - lft n) (by omega) (by omega) (by omega) (by omega)]
        rfl
end Go.Proofs.YtgcionimhmbgeaaDoorR.SpL
