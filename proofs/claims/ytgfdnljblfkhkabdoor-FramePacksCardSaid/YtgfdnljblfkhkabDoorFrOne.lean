/-
  Frames on lists of bytes, in plain words: what one scan comes to, where the frames lie, why it goes on no further.
-/
import Derived.Test.YtgfdnljblfkhkabDoorFrBegin
namespace Go.Proofs.YtgfdnljblfkhkabDoor.FrOne
open Go.RowKit Sha Mem Width PutW WriterW RowW Crc FrTurn FrScan FrFits FrBegin
set_option linter.unusedVariables false

/-- 0: torn; 1: no frame; else: a whole frame, so many bytes -/
def scan (s : Sc) (i : Nat) : List UInt8 → Nat
  | [] => 0
  | c :: r => if s.ok i c = true then (if i + 1 = 13 + (s.next i c).len then i + 1 else scan (s.next i c) (i + 1) r) else 1
def one (n : Int) (l : List UInt8) : Nat := scan (Sc.new n) 0 l
/-- where the k-th frame begins, if so many stand there -/
def pos (n : Int) (l : List UInt8) : Nat → Option Nat
  | 0 => some 0
  | k + 1 => match pos n l k with
    | some p => if p < l.length ∧ nok (n + k) = true ∧ 13 ≤ one (n + k) (l.drop p) then some (p + one (n + k) (l.drop p)) else none
    | none => none
/-- why it goes on no further behind the k-th frame -/
def Stops (n : Int) (l : List UInt8) (k p : Nat) (y : Int) : Prop :=
  (l.length ≤ p ∧ y = 0) ∨ (p < l.length ∧ nok (n + k) = false ∧ y = 1) ∨ (p < l.length ∧ nok (n + k) = true ∧ one (n + k) (l.drop p) = 1 ∧ y = 41) ∨ (p < l.length ∧ nok (n + k) = true ∧ one (n + k) (l.drop p) = 0 ∧ y = 40)
def EndIs (n : Int) (l : List UInt8) (k p : Nat) (y : Int) : Prop := pos n l k = some p ∧ Stops n l k p y

/-- inside a frame's bytes: the scan stands at byte i -/
structure At (n : Int) (R : List UInt8) (s : Sc) (i : Nat) : Prop where
  same : scan s i (R.drop i) = one n R
  len : s.len ≤ 65536
  lt : i < 13 + s.len
theorem At.zero (n : Int) (R : List UInt8) : At n R (Sc.new n) 0 := ⟨rfl, by simp [Sc.new], by simp [Sc.new]⟩
theorem next_len {s : Sc} {i : Nat} {c : UInt8} (hl : s.len ≤ 65536) (h : s.ok i c = true) : s.len ≤ (s.next i c).len ∧ (s.next i c).len ≤ 65536 := by
  unfold Sc.ok at h
  unfold Sc.next
  by_cases h5 : i < 5
  · rw [if_pos h5] at h ⊢
    by_cases h0 : i = 0
    · rw [if_pos h0]; exact ⟨Nat.le_refl _, hl⟩
    · rw [if_neg h0] at h
      simp only [if_neg h0]
      exact ⟨Nat.le_add_right _ _, of_decide_eq_true h⟩
  · rw [if_neg h5]
    by_cases h9 : i < 9
    · rw [if_pos h9]; exact ⟨Nat.le_refl _, hl⟩
    · rw [if_neg h9]
      by_cases hb : i < 9 + s.len
      · rw [if_pos hb]; exact ⟨Nat.le_refl _, hl⟩
      · rw [if_neg hb]; exact ⟨Nat.le_refl _, hl⟩
theorem At.cons {n : Int} {R : List UInt8} {s : Sc} {i : Nat} (h : At n R s i) (hi : i < R.length) :
    one n R = if s.ok i (R.getD i 0) = true then (if i + 1 = 13 + (s.next i (R.getD i 0)).len then i + 1 else scan (s.next i (R.getD i 0)) (i + 1) (R.drop (i + 1))) else 1 := by
  rw [← h.same, List.drop_eq_getElem_cons hi, List.getD_eq_getElem?_getD, List.getElem?_eq_getElem hi]
  rfl
theorem At.bad {n : Int} {R : List UInt8} {s : Sc} {i : Nat} (h : At n R s i) (hi : i < R.length) (hk : s.ok i (R.getD i 0) = false) : one n R = 1 := by
  rw [h.cons hi, if_neg (by rw [hk]; decide)]
theorem At.whole {n : Int} {R : List UInt8} {s : Sc} {i : Nat} (h : At n R s i) (hi : i < R.length) (hk : s.ok i (R.getD i 0) = true) (he : i + 1 = 13 + (s.next i (R.getD i 0)).len) : one n R = i + 1 := by
  rw [h.cons hi, if_pos hk, if_pos he]
theorem At.on {n : Int} {R : List UInt8} {s : Sc} {i : Nat} (h : At n R s i) (hi : i < R.length) (hk : s.ok i (R.getD i 0) = true) (he : ¬ i + 1 = 13 + (s.next i (R.getD i 0)).len) : At n R (s.next i (R.getD i 0)) (i + 1) := by
  have hn := next_len h.len hk
  have := h.lt
  refine ⟨?_, hn.2, by omega⟩
  rw [h.cons hi, if_pos hk, if_neg he]
theorem At.torn {n : Int} {R : List UInt8} {s : Sc} {i : Nat} (h : At n R s i) (hi : R.length ≤ i) : one n R = 0 := by
  rw [← h.same, List.drop_eq_nil_of_le hi]
  rfl
theorem scan_le (R : List UInt8) : ∀ (s : Sc) (i : Nat), scan s i R ≤ 1 ∨ scan s i R ≤ i + R.length := by
  induction R with
  | nil => intro s i; left; exact Nat.zero_le _
  | cons c r ih =>
    intro s i
    unfold scan
    by_cases h : s.ok i c = true
    · rw [if_pos h]
      by_cases h2 : i + 1 = 13 + (s.next i c).len
      · rw [if_pos h2]; right; simp
      · rw [if_neg h2]
        rcases ih (s.next i c) (i + 1) with h3 | h3
        · exact .inl h3
        · right; simp; omega
    · rw [if_neg h]; left; exact Nat.le_refl _
theorem one_le (n : Int) (R : List UInt8) (h : 13 ≤ one n R) : one n R ≤ R.length := by
  rcases scan_le R (Sc.new n) 0 with h2 | h2
  · unfold one at h; omega
  · unfold one; omega
theorem pos_succ {n : Int} {l : List UInt8} {k p : Nat} (h : pos n l k = some p) (h1 : p < l.length) (h2 : nok (n + k) = true) (h3 : 13 ≤ one (n + k) (l.drop p)) : pos n l (k + 1) = some (p + one (n + k) (l.drop p)) := by
  show (match pos n l k with | some p => _ | none => none) = _
  rw [h]
  exact if_pos ⟨h1, h2, h3⟩
theorem pos_prev {n : Int} {l : List UInt8} {k q : Nat} (h : pos n l (k + 1) = some q) : ∃ p, pos n l k = some p ∧ p < l.length ∧ nok (n + k) = true ∧ 13 ≤ one (n + k) (l.drop p) ∧ q = p + one (n + k) (l.drop p) := by
  change (match pos n l k with | some p => _ | none => none) = some q at h
  cases hp : pos n l k with
  | none => rw [hp] at h; cases h
  | some p =>
    rw [hp] at h
    by_cases hc : p < l.length ∧ nok (n + k) = true ∧ 13 ≤ one (n + k) (l.drop p)
    · change (if _ then some _ else none) = _ at h
      rw [if_pos hc] at h
      exact ⟨p, rfl, hc.1, hc.2.1, hc.2.2, (Option.some.inj h).symm⟩
    · change (if _ then some _ else none) = _ at h
      rw [if_neg hc] at h; cases h
theorem pos_le {n : Int} {l : List UInt8} : ∀ {k p : Nat}, pos n l k = some p → 13 * k ≤ p ∧ p ≤ l.length := by
  intro k
  induction k with
  | zero => intro p h; injection h with h; omega
  | succ k ih =>
    intro q h
    obtain ⟨p, hp, h1, h2, h3, rfl⟩ := pos_prev h
    have := ih hp
    have h4 := one_le (n + k) (l.drop p) h3
    rw [List.length_drop] at h4
    omega
theorem nok_iff (n : Int) : nok n = true ↔ 0 ≤ n ∧ n < 1099511627776 := by unfold nok; exact decide_eq_true_iff
/-- the number that is asked for lies in an int -/
theorem pos_num {n : Int} {l : List UInt8} {k p : Nat} (h : pos n l k = some p) (hn : -9223372036854775808 ≤ n ∧ n ≤ 9223372036854775807) : -9223372036854775808 ≤ n + k ∧ n + k ≤ 9223372036854775807 := by
  cases k with
  | zero => simpa using hn
  | succ k =>
    obtain ⟨p, hp, h1, h2, h3, rfl⟩ := pos_prev h
    have := (nok_iff _).1 h2
    omega
theorem EndIs.unique {n : Int} {l : List UInt8} {k k' p p' : Nat} {y y' : Int} (h : EndIs n l k p y) (h' : EndIs n l k' p' y') : k = k' ∧ p = p' ∧ y = y' := by
  have key : ∀ {k k' p p' : Nat} {y y' : Int}, EndIs n l k p y → EndIs n l k' p' y' → k < k' → False := by
    intro k k' p p' y y' h h' hlt
    have hs : ∀ m, pos n l (k + 1 + m) = none := by
      intro m
      induction m with
      | zero =>
        show (match pos n l k with | some p => _ | none => none) = _
        rw [h.1]
        refine if_neg ?_
        rintro ⟨a, b, c⟩
        rcases h.2 with ⟨e, _⟩ | ⟨_, e, _⟩ | ⟨_, _, e, _⟩ | ⟨_, _, e, _⟩
        · omega
        · rw [b] at e; cases e
        · omega
        · omega
      | succ m ih =>
        show (match pos n l (k + 1 + m) with | some p => _ | none => none) = _
        rw [ih]
    have := hs (k' - (k + 1))
    rw [show k + 1 + (k' - (k + 1)) = k' by omega, h'.1] at this
    cases this
  have hk : k = k' := by
    rcases Nat.lt_trichotomy k k' with hl | he | hl
    · exact (key h h' hl).elim
    · exact he
    · exact (key h' h hl).elim
  subst hk
  have hp : p = p' := Option.some.inj (h.1.symm.trans h'.1)
  subst hp
  refine ⟨rfl, rfl, ?_⟩
  rcases h.2 with ⟨a1, e⟩ | ⟨a1, a2, e⟩ | ⟨a1, a2, a3, e⟩ | ⟨a1, a2, a3, e⟩ <;> rcases h'.2 with ⟨b1, e'⟩ | ⟨b1, b2, e'⟩ | ⟨b1, b2, b3, e'⟩ | ⟨b1, b2, b3, e'⟩ <;> first | omega | (rw [a2] at b2; cases b2)
end Go.Proofs.YtgfdnljblfkhkabDoor.FrOne
