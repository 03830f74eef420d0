/-
  octet.Reader: next as one law; Raw, counted, Text, Bytes.
-/
import Derived.Test.YtcdgimapkbaboaaStrW
import Derived.Deep.Onto
namespace Go.Proofs.Ytcdgimapkbaboaa.ReadB
open Go.RowKit Mem Width PutW WriterW ReaderW TakeW FlagW NamesW StrW
set_option linter.unusedVariables false
set_option linter.unusedSimpArgs false

/-- what next lends, and where the Reader stands behind it -/
def nextM (n : Int) (l : List UInt8) (s : Nat × Int) : List UInt8 × (Nat × Int) :=
  if s.2 = 0 then (if n < 0 ∨ (l.length : Int) - s.1 < n then ([], (s.1, 8)) else ((l.drop s.1).take n.toNat, (s.1 + n.toNat, 0))) else ([], s)
def NextAt (n : Int) (b : Nat) (v : Value) (l : List UInt8) (s : Nat × Int) (w : World) (e : Ending) (w' : World) : Prop :=
  ∃ sv, e = .returned sv ∧ Sl w' sv (nextM n l s).1 ∧ Rd w' b v l (nextM n l s).2 ∧ Upd (fun k => k = b) w w' ∧ ∀ k, own sv k → own v k
theorem sl_nil (w : World) : Sl w (.slice none 0 0) [] := ⟨none, 0, rfl, by simp, by simp, fun _ => rfl, by simp⟩
theorem next_any (n : Int) (b : Nat) (v : Value) (l : List UInt8) (s : Nat × Int) (w : World) (hr : Rd w b v l s) (hl : l.length ≤ 140737488355328) :
    Calls Try.prog 46 #[.pointer (some ⟨b, 0, none⟩), .int .i64 n] w (NextAt n b v l s w) := by
  obtain ⟨a, y⟩ := s
  by_cases hy : y = 0
  · subst hy
    by_cases hn : n < 0 ∨ (l.length : Int) - a < n
    · have hm : nextM n l (a, 0) = ([], (a, 8)) := by unfold nextM; rw [if_pos rfl, if_pos hn]
      refine (next_short b v l a n w hr hl hn).mono ?_
      rintro e w' ⟨rfl, h1, h2⟩
      unfold NextAt
      rw [hm]
      exact ⟨_, rfl, sl_nil _, h1, h2, fun k hk => by simp [own, Value.ownBlock] at hk⟩
    · obtain ⟨m, rfl⟩ := Int.eq_ofNat_of_zero_le (show 0 ≤ n by omega)
      have hle := hr.2.2
      simp only at hle
      have hm : nextM (m : Int) l (a, 0) = ((l.drop a).take m, (a + m, 0)) := by unfold nextM; rw [if_pos rfl, if_neg hn]; rfl
      refine (next_lends b v l a m w hr hl (by omega)).mono ?_
      rintro e w' ⟨sv, rfl, h1, h2, h3, h4⟩
      unfold NextAt
      rw [hm]
      exact ⟨sv, rfl, h1, h2, h3, h4⟩
  · have hm : nextM n l (a, y) = ([], (a, y)) := by unfold nextM; rw [if_neg hy]
    refine (next_refused b v l (a, y) n w hr hy).mono ?_
    rintro e w' ⟨rfl, rfl⟩
    unfold NextAt
    rw [hm]
    exact ⟨_, rfl, sl_nil _, hr, Upd.refl _ _, fun k hk => by simp [own, Value.ownBlock] at hk⟩
theorem nextM_le (n : Int) (l : List UInt8) (s : Nat × Int) : (nextM n l s).1.length ≤ l.length := by
  unfold nextM
  split
  · split
    · simp
    · simp; omega
  · simp
theorem nextM_at (n : Int) (l : List UInt8) (s : Nat × Int) (h : s.1 ≤ l.length) : (nextM n l s).2.1 ≤ l.length := by
  unfold nextM
  split
  · split
    · exact h
    · simp only; omega
  · exact h

/-- an answer in memory of its own -/
def Own (l xs : List UInt8) (b : Nat) (v : Value) (s : Nat × Int) (w : World) (e : Ending) (w' : World) : Prop :=
  ∃ ao cap, e = .returned (.slice ao xs.length cap) ∧ w'.ownsRow w.heap.size 5 1 (.slice ao xs.length cap) xs.length (xs.map u8) ∧ Rd w' b v l s ∧ Upd (fun k => k = b) w w'

theorem raw_any (n : Int) (b : Nat) (v : Value) (l : List UInt8) (s : Nat × Int) (w : World) (hr : Rd w b v l s) (hl : l.length ≤ 140737488355328) :
    Calls Try.prog 74 #[.pointer (some ⟨b, 0, none⟩), .int .i64 n] w (Own l (nextM n l s).1 b v (nextM n l s).2 w) := by
  have Hn := Lib.hid (next_any n b v l s w hr hl)
  have hlt := lt_of_block hr.1
  have hvl := hr.2.1.lt
  have Hle := Lib.hid (nextM_le n l s)
  have Hvl := Lib.hid hvl
  clear hr hvl
  go_enter Try.func74, Try.ntmps74
  go_wp2_with fail
  refine Hn.out.mono ?_
  rintro e w1 ⟨sv, rfl, h1, h2, h3, h4⟩
  have H2 := Lib.hid h2
  have H3 := Lib.hid h3
  have HC := Lib.hid (clone_any sv _ w1 h1 (by have := Hle.out; omega))
  clear h1 h2 h3 h4 Hn
  obtain ⟨m, hm⟩ : ∃ x, x = nextM n l s := ⟨_, rfl⟩
  rw [← hm] at H2 HC ⊢
  have Hm := Lib.hid hm
  clear hm
  go_wp2_with fail
  refine HC.out.mono ?_
  rintro e w2 ⟨v2, rfl, hown, hu⟩
  obtain ⟨ao, cap, rfl⟩ := row_form hown
  have HP : Hid (Own l m.1 b v m.2 w (.returned (.slice ao m.1.length cap)) w2) :=
    ⟨ao, cap, rfl, World.ownsRow.mono hown H3.out.size, H2.out.upd hu id (fun _ _ => id), H3.out.trans (hu.mono fun _ _ e => e.elim)⟩
  rw [Hm.out] at HP
  clear hown hu HC H2
  go_wp2
  go_ret
  rw [← Hm.out]
  rw [← Hm.out] at HP
  exact HP.out

/-- what counted lends -/
def cntM (a0 : Nat) (n : Nat) (most : Int) (l : List UInt8) (s : Nat × Int) : List UInt8 × (Nat × Int) :=
  if most < n then ([], (a0, if s.2 = 0 then 6 else s.2)) else ((nextM n l s).1, if (nextM n l s).2.2 = 0 then (nextM n l s).2 else (a0, (nextM n l s).2.2))
def CntAt (r : List UInt8 × (Nat × Int)) (b : Nat) (v : Value) (l : List UInt8) (w : World) (e : Ending) (w' : World) : Prop :=
  ∃ sv, e = .returned sv ∧ Sl w' sv r.1 ∧ Rd w' b v l r.2 ∧ Upd (fun k => k = b) w w' ∧ ∀ k, own sv k → own v k
theorem counted_any (a0 n : Nat) (most : Int) (b : Nat) (v : Value) (l : List UInt8) (s : Nat × Int) (w : World) (hr : Rd w b v l s) (hl : l.length ≤ 140737488355328) (ha : a0 ≤ l.length) (hn : n < 4294967296) (h0 : 0 ≤ most) (h1 : most ≤ 2147483647) :
    Calls Try.prog 102 #[.pointer (some ⟨b, 0, none⟩), .int .i64 a0, .int .u32 n, .int .i64 most] w (CntAt (cntM a0 n most l s) b v l w) := by
  have Hr := Lib.hid hr
  have ew : IntKind.u32.wrap most = most := by rw [IntKind.wrap_u32']; omega
  clear hr
  by_cases hm : most < n
  · have Hc : Hid (cntM a0 n most l s = ([], (a0, if s.2 = 0 then 6 else s.2))) := if_pos hm
    go_enter Try.func102, Try.ntmps102
    go_wp2_with fail
    refine (refuse_any b v l s a0 6 w Hr.out ha).mono ?_
    rintro e w1 ⟨rfl, hr1, hu1⟩
    have HP : Hid (CntAt (cntM a0 n most l s) b v l w (.returned (.slice none 0 0)) w1) := by
      show CntAt _ _ _ _ _ _ _
      rw [Hc.out]
      exact ⟨_, rfl, sl_nil _, hr1, hu1, fun k hk => by simp [own, Value.ownBlock] at hk⟩
    clear hr1 hu1
    go_wp2
    go_ret
    exact HP.out
  · have Hc : Hid (cntM a0 n most l s = ((nextM n l s).1, if (nextM n l s).2.2 = 0 then (nextM n l s).2 else (a0, (nextM n l s).2.2))) := if_neg hm
    have hd : decide (most < (n : Int)) = false := decide_eq_false hm
    go_enter Try.func102, Try.ntmps102
    go_wp2_with fail
    refine (next_any n b v l s w Hr.out hl).mono ?_
    rintro e w1 ⟨sv, rfl, g1, g2, g3, g4⟩
    obtain ⟨m, hmm⟩ : ∃ x, x = nextM n l s := ⟨_, rfl⟩
    rw [← hmm] at g1 g2 Hc
    obtain ⟨xs, a, y⟩ := m
    obtain ⟨sao, scap, rfl, g5⟩ := id g1
    have G1 := Lib.hid g1
    have G2 := Lib.hid g2
    have G3 := Lib.hid g3
    have G4 := Lib.hid g4
    obtain ⟨xl, hxl⟩ : ∃ x, x = xs.length := ⟨_, rfl⟩
    simp only at G1 ⊢
    rw [← hxl] at G1 G4 ⊢
    have c2 : w1.cell? ⟨b, 2, none⟩ = some (.int .i64 y) := g2.c2
    have c1 : w1.cell? ⟨b, 1, none⟩ = some (.int .i64 a) := g2.c1
    have f1 := g2.f 1
    clear g1 g2 g3 g4 g5 hmm hxl
    by_cases hy : y = 0
    · subst hy
      have HP : Hid (CntAt (cntM a0 n most l s) b v l w (.returned (.slice sao xl scap)) w1) := by
        show CntAt _ _ _ _ _ _ _
        rw [Hc.out]
        exact ⟨_, rfl, G1.out, by simpa using G2.out, G3.out, G4.out⟩
      go_wp2
      go_ret
      exact HP.out
    · have hyb : (y == 0) = false := by simpa using hy
      have HP : Hid (CntAt (cntM a0 n most l s) b v l w (.returned (.slice sao xl scap)) (w1.setCell ⟨b, 1, none⟩ (.int .i64 a0))) := by
        show CntAt _ _ _ _ _ _ _
        rw [Hc.out]
        refine ⟨_, rfl, G1.out.upd (put1 (Upd.refl _ w1) 1 _) (fun k hk e => ?_), ?_, put1 G3.out _ _, G4.out⟩
        · have := rowNe G2.out.1 (by decide) G2.out.2.1
          exact this (e ▸ G4.out k hk)
        · have := G2.out.setAt a0 ha
          simpa [hy] using this
      clear hy
      go_wp2
      go_ret
      exact HP.out

theorem bnd_pos (most top : Int) : 0 ≤ bnd most top := by unfold bnd; omega
theorem bnd_le (most top : Int) (h : 0 ≤ top) : bnd most top ≤ top := by unfold bnd; omega
theorem takeM_at (W : Nat) (l : List UInt8) (s : Nat × Int) (h : s.1 ≤ l.length) : (takeM W l s).2.1 ≤ l.length := by
  unfold takeM
  split
  · split
    · assumption
    · exact h
  · exact h
theorem takeM_lt (W : Nat) (l : List UInt8) (s : Nat × Int) : (takeM W l s).1 < 256 ^ W := by
  have h0 : 0 < 256 ^ W := Nat.pow_pos (by decide)
  unfold takeM
  split
  · split
    · have := val_lt ((l.drop s.1).take W)
      refine Nat.lt_of_lt_of_le this (Nat.pow_le_pow_right (by decide) ?_)
      simp; omega
    · exact h0
  · exact h0
def txtM (most : Int) (l : List UInt8) (s : Nat × Int) : List UInt8 × (Nat × Int) := cntM s.1 (takeM 2 l s).1 (bnd most 65535) l (takeM 2 l s).2
def bytM (most : Int) (l : List UInt8) (s : Nat × Int) : List UInt8 × (Nat × Int) := cntM s.1 (takeM 4 l s).1 (bnd most 2147483647) l (takeM 4 l s).2

theorem rtext_any (most : Int) (b : Nat) (v : Value) (l : List UInt8) (s : Nat × Int) (w : World) (hr : Rd w b v l s) (hl : l.length ≤ 140737488355328) :
    Calls Try.prog 75 #[.pointer (some ⟨b, 0, none⟩), .int .i64 most] w fun e w' => e = .returned (.string ⟨(txtM most l s).1.toArray⟩) ∧ Rd w' b v l (txtM most l s).2 ∧ Upd (fun k => k = b) w w' := by
  have Hr := Lib.hid hr
  have hp := hr.2.2
  have c1 := hr.c1
  clear hr
  go_enter Try.func75, Try.ntmps75
  go_wp2_with fail
  refine (take16 b v l s w Hr.out hl).mono ?_
  rintro e w1 ⟨rfl, hr1, hu1⟩
  have hn := takeM_lt 2 l s
  have Hd : Hid (txtM most l s = cntM s.1 (takeM 2 l s).1 (bnd most 65535) l (takeM 2 l s).2) := rfl
  obtain ⟨tk, htk⟩ : ∃ x, x = takeM 2 l s := ⟨_, rfl⟩
  rw [← htk] at hr1 hn Hd ⊢
  have Hr1 := Lib.hid hr1
  have Hu1 := Lib.hid hu1
  clear hr1 hu1 htk
  obtain ⟨tn, ts⟩ := tk
  simp only at hn Hd Hr1 ⊢
  have hn' : (tn : Int) ≤ 65535 := by omega
  go_wp2_with fail
  refine (bound_any most 65535 w1).mono ?_
  rintro e w2 ⟨rfl, rfl⟩
  have HC := Lib.hid (counted_any s.1 tn (bnd most 65535) b v l ts w1 Hr1.out hl hp (by omega) (bnd_pos _ _) (by have := bnd_le most 65535 (by decide); omega))
  rw [← Hd.out] at HC
  obtain ⟨r, hrr⟩ : ∃ x, x = txtM most l s := ⟨_, rfl⟩
  rw [← hrr] at HC
  have Hrr := Lib.hid hrr
  obtain ⟨bm, hbm⟩ : ∃ x, x = bnd most 65535 := ⟨_, rfl⟩
  rw [← hbm] at HC ⊢
  clear Hd hrr hbm hn
  go_wp2_with fail
  refine HC.out.mono ?_
  rintro e w3 ⟨sv, rfl, g1, g2, g3, g4⟩
  obtain ⟨sao, scap, rfl, _⟩ := id g1
  have hcv := conv_sl g1
  have HP : Hid (Rd w3 b v l r.2 ∧ Upd (fun k => k = b) w w3) := ⟨g2, Hu1.out.trans (g3.mono fun k _ e => .inl e)⟩
  clear g1 g2 g3 g4 HC
  go_wp2
  go_ret
  rw [← Hrr.out]
  exact ⟨rfl, HP.out⟩

theorem rbytes_any (most : Int) (b : Nat) (v : Value) (l : List UInt8) (s : Nat × Int) (w : World) (hr : Rd w b v l s) (hl : l.length ≤ 140737488355328) :
    Calls Try.prog 76 #[.pointer (some ⟨b, 0, none⟩), .int .i64 most] w (Own l (bytM most l s).1 b v (bytM most l s).2 w) := by
  have Hr := Lib.hid hr
  have hp := hr.2.2
  have c1 := hr.c1
  clear hr
  go_enter Try.func76, Try.ntmps76
  go_wp2_with fail
  refine (take32 b v l s w Hr.out hl).mono ?_
  rintro e w1 ⟨rfl, hr1, hu1⟩
  have hn := takeM_lt 4 l s
  have Hd : Hid (bytM most l s = cntM s.1 (takeM 4 l s).1 (bnd most 2147483647) l (takeM 4 l s).2) := rfl
  obtain ⟨tk, htk⟩ : ∃ x, x = takeM 4 l s := ⟨_, rfl⟩
  rw [← htk] at hr1 hn Hd ⊢
  have Hr1 := Lib.hid hr1
  have Hu1 := Lib.hid hu1
  clear hr1 hu1 htk
  obtain ⟨tn, ts⟩ := tk
  simp only at hn Hd Hr1 ⊢
  go_wp2_with fail
  refine (bound_any most 2147483647 w1).mono ?_
  rintro e w2 ⟨rfl, rfl⟩
  have HC := Lib.hid (counted_any s.1 tn (bnd most 2147483647) b v l ts w1 Hr1.out hl hp (by omega) (bnd_pos _ _) (bnd_le most 2147483647 (by decide)))
  rw [← Hd.out] at HC
  obtain ⟨r, hrr⟩ : ∃ x, x = bytM most l s := ⟨_, rfl⟩
  have HRl : Hid (r.1.length ≤ l.length) := by
    show _ ≤ _
    rw [hrr, Hd.out]
    unfold cntM
    split
    · simp
    · exact nextM_le _ _ _
  rw [← hrr] at HC
  have Hrr := Lib.hid hrr
  obtain ⟨bm, hbm⟩ : ∃ x, x = bnd most 2147483647 := ⟨_, rfl⟩
  rw [← hbm] at HC ⊢
  clear Hd hrr hbm hn
  go_wp2_with fail
  refine HC.out.mono ?_
  rintro e w3 ⟨sv, rfl, g1, g2, g3, g4⟩
  have HQ := Lib.hid (clone_any sv r.1 w3 g1 (by have := HRl.out; omega))
  have G2 := Lib.hid g2
  have HU3 : Hid (Upd (fun k => k = b) w w3) := Hu1.out.trans (g3.mono fun k _ e => .inl e)
  clear g1 g2 g3 g4 HC
  go_wp2_with fail
  refine HQ.out.mono ?_
  rintro e w4 ⟨v2, rfl, hown, hu⟩
  obtain ⟨ao, cap, rfl⟩ := row_form hown
  have HP : Hid (Own l r.1 b v r.2 w (.returned (.slice ao r.1.length cap)) w4) :=
    ⟨ao, cap, rfl, World.ownsRow.mono hown HU3.out.size, G2.out.upd hu id (fun _ _ => id), HU3.out.trans (hu.mono fun _ _ e => e.elim)⟩
  clear hown hu HQ G2
  go_wp2
  go_ret
  rw [← Hrr.out]
  exact HP.out
end Go.Proofs.Ytcdgimapkbaboaa.ReadB
