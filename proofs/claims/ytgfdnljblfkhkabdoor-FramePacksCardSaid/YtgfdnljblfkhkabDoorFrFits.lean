/-
  frame.begin; (*scan).opens, fits, size, record.
-/
import Derived.Test.YtgfdnljblfkhkabDoorFrScan
namespace Go.Proofs.YtgfdnljblfkhkabDoor.FrFits
open Go.RowKit Sha Mem Width PutW WriterW RowW Crc FrTurn FrScan
set_option linter.unusedVariables false

/-- what a scan knows: the record's length (or its least), the registers of the two CRCs -/
structure Sc where
  (len : Nat) (hd bd : UInt32)
def Sc.cells (s : Sc) : List Value := [.int .i64 s.len, .int .u32 (U s.hd), .int .u32 (U s.bd)]
def ScAt (w : World) (b : Nat) (s : Sc) : Prop := Row w b 85 s.cells
/-- the length grows by a byte of the opening -/
def grow4 (i : Nat) (c : UInt8) : Nat := c.toNat * 2 ^ (8 * (4 - i))
def Sc.next (s : Sc) (i : Nat) (c : UInt8) : Sc :=
  if i < 5 then ⟨if i = 0 then s.len else s.len + grow4 i c, stepc s.hd c, s.bd⟩
  else if i < 9 then s
  else if i < 9 + s.len then ⟨s.len, s.hd, stepc s.bd c⟩
  else s
def Sc.ok (s : Sc) (i : Nat) (c : UInt8) : Bool :=
  if i < 5 then (if i = 0 then c == 209 else decide (s.len + grow4 i c ≤ 65536))
  else if i < 9 then c == hf (~~~ s.hd) (i - 5)
  else if i < 9 + s.len then true
  else c == hf (~~~ s.bd) (i - (9 + s.len))

theorem ScAt.c0 {w : World} {b : Nat} {s : Sc} (h : ScAt w b s) : w.cell? ⟨b, 0, none⟩ = some (.int .i64 s.len) := by rw [Row.cell h]; rfl
theorem ScAt.c1 {w : World} {b : Nat} {s : Sc} (h : ScAt w b s) : w.cell? ⟨b, 1, none⟩ = some (.int .u32 (U s.hd)) := by rw [Row.cell h]; rfl
theorem ScAt.c2 {w : World} {b : Nat} {s : Sc} (h : ScAt w b s) : w.cell? ⟨b, 2, none⟩ = some (.int .u32 (U s.bd)) := by rw [Row.cell h]; rfl

theorem size_any (b : Nat) (s : Sc) (w : World) (h : ScAt w b s) (hl : s.len ≤ 4294967296) :
    Calls Tryd.prog 52 #[.pointer (some ⟨b, 0, none⟩)] w fun e w' => e = .returned (.int .i64 (13 + s.len)) ∧ w = w' := by
  have c0 := h.c0
  clear h
  go_enter Tryd.func52, Tryd.ntmps52
  go_wp2
  go_ret
  exact ⟨rfl, rfl⟩

theorem eq_byte (c d : UInt8) : (((c.toNat : Int)) == ((d.toNat : Int))) = (c == d) := by
  rw [Bool.eq_iff_iff]
  simp only [beq_iff_eq, ← UInt8.toNat_inj]
  omega

theorem shl_grow (i : Nat) (c : UInt8) (h0 : 1 ≤ i) (hi : i ≤ 4) : grow4 i c ≤ 4278190080 := by
  unfold grow4
  have := c.toNat_lt
  have hs : i = 1 ∨ i = 2 ∨ i = 3 ∨ i = 4 := by omega
  rcases hs with rfl | rfl | rfl | rfl <;> simp <;> omega

theorem opens_zero (b : Nat) (c : UInt8) (s : Sc) (w : World) (h : ScAt w b s) :
    Calls Tryd.prog 56 #[.pointer (some ⟨b, 0, none⟩), .int .i64 0, .int .u8 (c.toNat : Int)] w fun e w' => e = .returned (.bool (c == 209)) ∧ w = w' := by
  have H := Lib.hid (eq_byte c 209)
  clear h
  go_enter Tryd.func56, Tryd.ntmps56
  go_wp2
  go_ret
  exact ⟨by rw [← H.out]; rfl, rfl⟩

def OpenAt (b : Nat) (s : Sc) (l : Nat) (w : World) (e : Ending) (w' : World) : Prop :=
  e = .returned (.bool (decide (l ≤ 65536))) ∧ ScAt w' b ⟨l, s.hd, s.bd⟩ ∧ Upd (fun k => k = b) w w'
theorem ScAt.setLen {w : World} {b : Nat} {s : Sc} (h : ScAt w b s) (l : Nat) (v : Value) (hv : v = .int .i64 l) : ScAt (w.setCell ⟨b, 0, none⟩ v).drew b ⟨l, s.hd, s.bd⟩ := by
  subst hv
  exact (Row.set h 0 _).drew
theorem upd_len (w : World) (b : Nat) (v : Value) : Upd (fun k => k = b) w (w.setCell ⟨b, 0, none⟩ v).drew := (Upd.put (S := fun k => k = b) (Upd.refl _ _) b 0 (.inl rfl) v).drew

set_option maxHeartbeats 1000000 in
theorem opens_1 (b : Nat) (c : UInt8) (s : Sc) (w : World) (h : ScAt w b s) (hl : s.len ≤ 65536) :
    Calls Tryd.prog 56 #[.pointer (some ⟨b, 0, none⟩), .int .i64 1, .int .u8 (c.toNat : Int)] w (OpenAt b s (s.len + grow4 1 c) w) := by
  have Hh := Lib.hid h
  have HG : Hid (((s.len + grow4 1 c : Nat) : Int) = (s.len : Int) + (c.toNat : Int) * 16777216) := by show _ = _; unfold grow4; omega
  have c0 := h.c0
  have f0 := Row.frozen h 0
  have hc := c.toNat_lt
  clear h
  go_enter Tryd.func56, Tryd.ntmps56
  go_wp2
  go_region
  all_goals (try go_wp2)
  all_goals go_ret
  all_goals refine ⟨?_, Hh.out.setLen _ _ ?_, upd_len _ _ _⟩
  · show Ending.returned (Value.bool (decide ((s.len : Int) + (c.toNat : Int) * 16777216 ≤ 65536))) = _
    rw [← HG.out]
    exact congrArg (fun p => Ending.returned (.bool p)) (decide_eq_decide.2 (by omega))
  · rw [HG.out]
set_option maxHeartbeats 1000000 in
theorem opens_2 (b : Nat) (c : UInt8) (s : Sc) (w : World) (h : ScAt w b s) (hl : s.len ≤ 65536) :
    Calls Tryd.prog 56 #[.pointer (some ⟨b, 0, none⟩), .int .i64 2, .int .u8 (c.toNat : Int)] w (OpenAt b s (s.len + grow4 2 c) w) := by
  have Hh := Lib.hid h
  have HG : Hid (((s.len + grow4 2 c : Nat) : Int) = (s.len : Int) + (c.toNat : Int) * 65536) := by show _ = _; unfold grow4; omega
  have c0 := h.c0
  have f0 := Row.frozen h 0
  have hc := c.toNat_lt
  clear h
  go_enter Tryd.func56, Tryd.ntmps56
  go_wp2
  go_region
  all_goals (try go_wp2)
  all_goals go_ret
  all_goals refine ⟨?_, Hh.out.setLen _ _ ?_, upd_len _ _ _⟩
  · show Ending.returned (Value.bool (decide ((s.len : Int) + (c.toNat : Int) * 65536 ≤ 65536))) = _
    rw [← HG.out]
    exact congrArg (fun p => Ending.returned (.bool p)) (decide_eq_decide.2 (by omega))
  · rw [HG.out]
set_option maxHeartbeats 1000000 in
theorem opens_3 (b : Nat) (c : UInt8) (s : Sc) (w : World) (h : ScAt w b s) (hl : s.len ≤ 65536) :
    Calls Tryd.prog 56 #[.pointer (some ⟨b, 0, none⟩), .int .i64 3, .int .u8 (c.toNat : Int)] w (OpenAt b s (s.len + grow4 3 c) w) := by
  have Hh := Lib.hid h
  have HG : Hid (((s.len + grow4 3 c : Nat) : Int) = (s.len : Int) + (c.toNat : Int) * 256) := by show _ = _; unfold grow4; omega
  have c0 := h.c0
  have f0 := Row.frozen h 0
  have hc := c.toNat_lt
  clear h
  go_enter Tryd.func56, Tryd.ntmps56
  go_wp2
  go_region
  all_goals (try go_wp2)
  all_goals go_ret
  all_goals refine ⟨?_, Hh.out.setLen _ _ ?_, upd_len _ _ _⟩
  · show Ending.returned (Value.bool (decide ((s.len : Int) + (c.toNat : Int) * 256 ≤ 65536))) = _
    rw [← HG.out]
    exact congrArg (fun p => Ending.returned (.bool p)) (decide_eq_decide.2 (by omega))
  · rw [HG.out]
set_option maxHeartbeats 1000000 in
theorem opens_4 (b : Nat) (c : UInt8) (s : Sc) (w : World) (h : ScAt w b s) (hl : s.len ≤ 65536) :
    Calls Tryd.prog 56 #[.pointer (some ⟨b, 0, none⟩), .int .i64 4, .int .u8 (c.toNat : Int)] w (OpenAt b s (s.len + grow4 4 c) w) := by
  have Hh := Lib.hid h
  have HG : Hid (((s.len + grow4 4 c : Nat) : Int) = (s.len : Int) + (c.toNat : Int)) := by show _ = _; unfold grow4; omega
  have c0 := h.c0
  have f0 := Row.frozen h 0
  have hc := c.toNat_lt
  clear h
  go_enter Tryd.func56, Tryd.ntmps56
  go_wp2
  go_region
  all_goals (try go_wp2)
  all_goals go_ret
  all_goals refine ⟨?_, Hh.out.setLen _ _ ?_, upd_len _ _ _⟩
  · show Ending.returned (Value.bool (decide ((s.len : Int) + (c.toNat : Int) ≤ 65536))) = _
    rw [← HG.out]
    exact congrArg (fun p => Ending.returned (.bool p)) (decide_eq_decide.2 (by omega))
  · rw [HG.out]

theorem opens_any (b i : Nat) (c : UInt8) (s : Sc) (w : World) (h : ScAt w b s) (h0 : 1 ≤ i) (hi : i < 5) (hl : s.len ≤ 65536) :
    Calls Tryd.prog 56 #[.pointer (some ⟨b, 0, none⟩), .int .i64 i, .int .u8 (c.toNat : Int)] w (OpenAt b s (s.len + grow4 i c) w) := by
  have hs : i = 1 ∨ i = 2 ∨ i = 3 ∨ i = 4 := by omega
  rcases hs with rfl | rfl | rfl | rfl
  · exact opens_1 b c s w h hl
  · exact opens_2 b c s w h hl
  · exact opens_3 b c s w h hl
  · exact opens_4 b c s w h hl

def FitsAt (b i : Nat) (c : UInt8) (s : Sc) (w : World) (e : Ending) (w' : World) : Prop :=
  e = .returned (.bool (s.ok i c)) ∧ ScAt w' b (s.next i c) ∧ Upd (fun k => k = b) w w'
theorem setHd {w : World} {b : Nat} {s : Sc} (h : ScAt w b s) (x : UInt32) : ScAt (w.setCell ⟨b, 1, none⟩ (.int .u32 (U x))) b ⟨s.len, x, s.bd⟩ := Row.set h 1 _
theorem setBd {w : World} {b : Nat} {s : Sc} (h : ScAt w b s) (x : UInt32) : ScAt (w.setCell ⟨b, 2, none⟩ (.int .u32 (U x))) b ⟨s.len, s.hd, x⟩ := Row.set h 2 _
theorem upd_put (w : World) (b o : Nat) (v : Value) : Upd (fun k => k = b) w (w.setCell ⟨b, o, none⟩ v) := Upd.put (S := fun k => k = b) (Upd.refl _ _) b o (.inl rfl) v

set_option maxHeartbeats 1000000 in
theorem fits_open0 (b : Nat) (c : UInt8) (s : Sc) (w : World) (h : ScAt w b s) (hl : s.len ≤ 65536) (ht : Tw w) :
    Calls Tryd.prog 51 #[.pointer (some ⟨b, 0, none⟩), .int .i64 0, .int .u8 (c.toNat : Int)] w (FitsAt b 0 c s w) := by
  have Hh := Lib.hid h
  have Ht := Lib.hid ht
  have c0 := h.c0
  have c1 := h.c1
  have f1 := Row.frozen h 1
  obtain ⟨x, hx⟩ : ∃ x, x = stepc s.hd c := ⟨_, rfl⟩
  have hs1 : Hid (ScAt (w.setCell ⟨b, 1, none⟩ (.int .u32 (U x))) b ⟨s.len, x, s.bd⟩) := setHd Hh.out x
  have HT := Lib.hid (turn_any s.hd c w Ht.out)
  rw [← hx] at HT
  have HO := Lib.hid (opens_zero b c _ _ hs1.out)
  have HP : Hid (FitsAt b 0 c s w (.returned (.bool (c == 209))) (w.setCell ⟨b, 1, none⟩ (.int .u32 (U x)))) := by
    refine ⟨rfl, ?_, upd_put _ _ _ _⟩
    show ScAt _ _ ⟨s.len, stepc s.hd c, s.bd⟩
    rw [← hx]
    exact hs1.out
  clear h ht hx
  go_enter Tryd.func51, Tryd.ntmps51
  go_wp2_with (first
    | (go_at_call 47; refine HT.out.mono ?_; rintro e w' ⟨rfl, rfl⟩)
    | (go_at_call 56; refine HO.out.mono ?_; rintro e w' ⟨rfl, rfl⟩))
  go_ret
  exact HP.out

set_option maxHeartbeats 1000000 in
theorem fits_open (b i : Nat) (c : UInt8) (s : Sc) (w : World) (h : ScAt w b s) (h0 : 1 ≤ i) (hi : i < 5) (hl : s.len ≤ 65536) (ht : Tw w) :
    Calls Tryd.prog 51 #[.pointer (some ⟨b, 0, none⟩), .int .i64 i, .int .u8 (c.toNat : Int)] w (FitsAt b i c s w) := by
  have Hh := Lib.hid h
  have Ht := Lib.hid ht
  have c0 := h.c0
  have c1 := h.c1
  have f1 := Row.frozen h 1
  obtain ⟨x, hx⟩ : ∃ x, x = stepc s.hd c := ⟨_, rfl⟩
  obtain ⟨l, hl'⟩ : ∃ l, l = s.len + grow4 i c := ⟨_, rfl⟩
  have hs1 : Hid (ScAt (w.setCell ⟨b, 1, none⟩ (.int .u32 (U x))) b ⟨s.len, x, s.bd⟩) := setHd Hh.out x
  have HT := Lib.hid (turn_any s.hd c w Ht.out)
  rw [← hx] at HT
  have HO := Lib.hid (opens_any b i c _ _ hs1.out h0 hi hl)
  have hb : l ≤ 4278255616 := by have := shl_grow i c h0 (by omega); omega
  have HP : Hid (∀ w', ScAt w' b ⟨l, x, s.bd⟩ → Upd (fun k => k = b) (w.setCell ⟨b, 1, none⟩ (.int .u32 (U x))) w' → FitsAt b i c s w (.returned (.bool (decide (l ≤ 65536)))) w') := by
    intro w' h1 h2
    refine ⟨?_, ?_, (upd_put _ _ _ _).trans (h2.mono fun _ _ e => .inl e)⟩
    · unfold Sc.ok
      rw [if_pos hi, if_neg (by omega), ← hl']
    · unfold Sc.next
      rw [if_pos hi, if_neg (by omega), ← hl', ← hx]
      exact h1
  have HO' : Hid (Calls Tryd.prog 56 #[.pointer (some ⟨b, 0, none⟩), .int .i64 i, .int .u8 (c.toNat : Int)] (w.setCell ⟨b, 1, none⟩ (.int .u32 (U x))) (OpenAt b ⟨s.len, x, s.bd⟩ l (w.setCell ⟨b, 1, none⟩ (.int .u32 (U x))))) := by
    show Calls _ _ _ _ _
    rw [hl']
    exact HO.out
  have hi5 : (i : Int) < 5 := by omega
  clear h ht hx hl' HO
  go_enter Tryd.func51, Tryd.ntmps51
  go_wp2_with (first
    | (go_at_call 47; refine HT.out.mono ?_; rintro e w' ⟨rfl, rfl⟩)
    | (go_at_call 56; refine HO'.out.mono ?_; rintro e w2 ⟨rfl, h1, h2⟩; have H1 := Lib.hid h1; have H2 := Lib.hid h2; clear h1 h2))
  go_ret
  exact HP.out _ H1.out H2.out

set_option maxHeartbeats 1000000 in
theorem fits_head (b i : Nat) (c : UInt8) (s : Sc) (w : World) (h : ScAt w b s) (h0 : 5 ≤ i) (hi : i < 9) (hl : s.len ≤ 65536) :
    Calls Tryd.prog 51 #[.pointer (some ⟨b, 0, none⟩), .int .i64 i, .int .u8 (c.toNat : Int)] w (FitsAt b i c s w) := by
  have Hh := Lib.hid h
  have c0 := h.c0
  have c1 := h.c1
  obtain ⟨j, hj⟩ : ∃ j, i = j + 5 := ⟨i - 5, by omega⟩
  subst hj
  have ej : (((j + 5 : Nat) : Int)) = (j : Int) + 5 := by omega
  rw [ej]
  have hj4 : j < 4 := by omega
  have d5 : decide ((j : Int) + 5 < 5) = false := by simp; omega
  have d9 : (j : Int) + 5 < 9 := by omega
  have HH := Lib.hid (high_any (~~~ s.hd) j hj4 w)
  obtain ⟨d, hd⟩ : ∃ d, d = hf (~~~ s.hd) j := ⟨_, rfl⟩
  rw [← hd] at HH
  have HP : Hid (FitsAt b (j + 5) c s w (.returned (.bool (c == d))) w) := by
    refine ⟨?_, ?_, Upd.refl _ _⟩
    · unfold Sc.ok
      rw [if_neg (by omega), if_pos (by omega), show j + 5 - 5 = j by omega, ← hd]
    · unfold Sc.next
      rw [if_neg (by omega), if_pos (by omega)]
      exact Hh.out
  have HE := Lib.hid (eq_byte c d)
  clear h hd ej
  go_enter Tryd.func51, Tryd.ntmps51
  go_wp2_with (first
    | (go_at_call 34; refine (sum_any _ _).mono ?_; rintro e w' ⟨rfl, rfl⟩)
    | (go_at_call 57; refine HH.out.mono ?_; rintro e w' ⟨rfl, rfl⟩))
  go_ret
  have := HP.out
  rw [← HE.out] at this
  exact this

set_option maxHeartbeats 1000000 in
theorem fits_body (b i : Nat) (c : UInt8) (s : Sc) (w : World) (h : ScAt w b s) (h0 : 9 ≤ i) (hi : i < 9 + s.len) (hl : s.len ≤ 65536) (ht : Tw w) :
    Calls Tryd.prog 51 #[.pointer (some ⟨b, 0, none⟩), .int .i64 i, .int .u8 (c.toNat : Int)] w (FitsAt b i c s w) := by
  have Hh := Lib.hid h
  have Ht := Lib.hid ht
  have c0 := h.c0
  have c2 := h.c2
  have f2 := Row.frozen h 2
  obtain ⟨x, hx⟩ : ∃ x, x = stepc s.bd c := ⟨_, rfl⟩
  have HT := Lib.hid (turn_any s.bd c w Ht.out)
  rw [← hx] at HT
  have HP : Hid (FitsAt b i c s w (.returned (.bool true)) (w.setCell ⟨b, 2, none⟩ (.int .u32 (U x)))) := by
    refine ⟨?_, ?_, upd_put _ _ _ _⟩
    · unfold Sc.ok
      rw [if_neg (by omega), if_neg (by omega), if_pos hi]
    · unfold Sc.next
      rw [if_neg (by omega), if_neg (by omega), if_pos hi, ← hx]
      exact setBd Hh.out x
  have d5 : decide ((i : Int) < 5) = false := by simp; omega
  have d9 : decide ((i : Int) < 9) = false := by simp; omega
  have dl : (i : Int) < 9 + (s.len : Int) := by omega
  clear h ht hx
  go_enter Tryd.func51, Tryd.ntmps51
  go_wp2_with (go_at_call 47; refine HT.out.mono ?_; rintro e w' ⟨rfl, rfl⟩)
  go_ret
  exact HP.out

set_option maxHeartbeats 1000000 in
theorem fits_tail (b i : Nat) (c : UInt8) (s : Sc) (w : World) (h : ScAt w b s) (h0 : 9 + s.len ≤ i) (hi : i < 13 + s.len) (hl : s.len ≤ 65536) :
    Calls Tryd.prog 51 #[.pointer (some ⟨b, 0, none⟩), .int .i64 i, .int .u8 (c.toNat : Int)] w (FitsAt b i c s w) := by
  have Hh := Lib.hid h
  have c0 := h.c0
  have c2 := h.c2
  obtain ⟨j, hj⟩ : ∃ j, i = j + (9 + s.len) := ⟨i - (9 + s.len), by omega⟩
  have ej : (i : Int) - (9 + (s.len : Int)) = j := by omega
  have hj4 : j < 4 := by omega
  have d5 : decide ((i : Int) < 5) = false := by simp; omega
  have d9 : decide ((i : Int) < 9) = false := by simp; omega
  have dl : decide ((i : Int) < 9 + (s.len : Int)) = false := by simp; omega
  have HH := Lib.hid (high_any (~~~ s.bd) j hj4 w)
  obtain ⟨d, hd⟩ : ∃ d, d = hf (~~~ s.bd) j := ⟨_, rfl⟩
  rw [← hd] at HH
  have HP : Hid (FitsAt b i c s w (.returned (.bool (c == d))) w) := by
    refine ⟨?_, ?_, Upd.refl _ _⟩
    · unfold Sc.ok
      rw [if_neg (by omega), if_neg (by omega), if_neg (by omega), hj, show j + (9 + s.len) - (9 + s.len) = j by omega, ← hd]
    · unfold Sc.next
      rw [if_neg (by omega), if_neg (by omega), if_neg (by omega)]
      exact Hh.out
  have HE := Lib.hid (eq_byte c d)
  have EJ := Lib.hid ej
  clear h hd ej hj
  go_enter Tryd.func51, Tryd.ntmps51
  go_wp2_with (first
    | (go_at_call 34; refine (sum_any _ _).mono ?_; rintro e w' ⟨rfl, rfl⟩)
    | (go_at_call 57; rw [EJ.out]; refine HH.out.mono ?_; rintro e w' ⟨rfl, rfl⟩))
  go_ret
  have := HP.out
  rw [← HE.out] at this
  exact this

theorem fits_any (b i : Nat) (c : UInt8) (s : Sc) (w : World) (h : ScAt w b s) (hi : i < 13 + s.len) (hl : s.len ≤ 65536) (ht : Tw w) :
    Calls Tryd.prog 51 #[.pointer (some ⟨b, 0, none⟩), .int .i64 i, .int .u8 (c.toNat : Int)] w (FitsAt b i c s w) := by
  by_cases h5 : i < 5
  · rcases Nat.eq_zero_or_pos i with rfl | h0
    · exact fits_open0 b c s w h hl ht
    · exact fits_open b i c s w h h0 h5 hl ht
  · by_cases h9 : i < 9
    · exact fits_head b i c s w h (by omega) h9 hl
    · by_cases h1 : i < 9 + s.len
      · exact fits_body b i c s w h (by omega) h1 hl ht
      · exact fits_tail b i c s w h (by omega) hi hl

/-- where a record lies in its frame; of no bytes: at the frame's own place -/
def rat (o l : Nat) : Nat := if l = 0 then o else o + 9
theorem record_any (b p o n cap : Nat) (s : Sc) (w : World) (h : ScAt w b s) (hl : s.len ≤ 65536) (hc : 13 + s.len ≤ cap) :
    Calls Tryd.prog 53 #[.pointer (some ⟨b, 0, none⟩), .slice (some ⟨p, o, none⟩) n cap] w fun e w' => e = .returned (.slice (some ⟨p, rat o s.len, none⟩) s.len s.len) ∧ w = w' := by
  have c0 := h.c0
  clear h
  obtain ⟨l, hld⟩ : ∃ l, l = s.len := ⟨_, rfl⟩
  rw [← hld] at c0 hl hc ⊢
  clear hld
  have h1 : (9 : Int) + (l : Int) ≤ (cap : Int) := by omega
  have h2 : ¬ cap = 9 := by omega
  by_cases hz : l = 0
  · subst hz
    go_enter Tryd.func53, Tryd.ntmps53
    go_wp2
    go_ret
    exact ⟨rfl, rfl⟩
  · have h3 : ¬ 9 + l = 9 := by omega
    have HR : Hid (rat o l = o + 9) := if_neg hz
    go_enter Tryd.func53, Tryd.ntmps53
    go_wp2
    go_ret
    have e9 : 9 + l - 9 = l := by omega
    refine ⟨?_, rfl⟩
    rw [HR.out]
    show Ending.returned (.slice (some ⟨p, o + 9, none⟩) (9 + l - 9) (9 + l - 9)) = _
    rw [e9]
end Go.Proofs.YtgfdnljblfkhkabDoor.FrFits
