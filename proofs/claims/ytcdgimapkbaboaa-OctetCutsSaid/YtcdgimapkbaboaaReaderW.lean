/-
  octet.Reader: Read, Left, Why, Done, refuse, next.
-/
import Derived.Test.YtcdgimapkbaboaaWrFlag
import Derived.RegionTactic
import Derived.BigQuiet
import Derived.Deep.QuietTactic
namespace Go.Proofs.Ytcdgimapkbaboaa.ReaderW
open Go.RowKit Mem Width PutW WriterW
set_option linter.unusedVariables false

/-- A Reader at block b over the bytes l, at place at, with the refusal why -/
def Rd (w : World) (b : Nat) (v : Value) (l : List UInt8) (s : Nat × Int) : Prop :=
  w.heap[b]? = some (.cells #[v, .int .i64 s.1, .int .i64 s.2] 90 (0, 0)) ∧ w.ownsRow 0 5 1 v l.length (l.map u8) ∧ s.1 ≤ l.length

theorem Rd.c0 {w : World} {b : Nat} {v : Value} {l : List UInt8} {s : Nat × Int} (h : Rd w b v l s) : w.cell? ⟨b, 0, none⟩ = some v := by rw [cell_of_row w b 0 _ _ _ h.1]; rfl
theorem Rd.c1 {w : World} {b : Nat} {v : Value} {l : List UInt8} {s : Nat × Int} (h : Rd w b v l s) : w.cell? ⟨b, 1, none⟩ = some (.int .i64 s.1) := by rw [cell_of_row w b 1 _ _ _ h.1]; rfl
theorem Rd.c2 {w : World} {b : Nat} {v : Value} {l : List UInt8} {s : Nat × Int} (h : Rd w b v l s) : w.cell? ⟨b, 2, none⟩ = some (.int .i64 s.2) := by rw [cell_of_row w b 2 _ _ _ h.1]; rfl
theorem Rd.f {w : World} {b : Nat} {v : Value} {l : List UInt8} {s : Nat × Int} (h : Rd w b v l s) (k : Nat) : w.frozen? ⟨b, k, none⟩ = false := by simp [World.frozen?, h.1]
theorem Rd.drew {w : World} {b : Nat} {v : Value} {l : List UInt8} {s : Nat × Int} (h : Rd w b v l s) : Rd w.drew b v l s := h
theorem Rd.upd {w w' : World} {b : Nat} {v : Value} {l : List UInt8} {s : Nat × Int} {S : Nat → Prop} (h : Rd w b v l s) (hu : Upd S w w') (hb : ¬ S b) (hv : ∀ k, own v k → ¬ S k) : Rd w' b v l s := by
  refine ⟨by rw [hu.block b (lt_of_block h.1) hb]; exact h.1, ?_, h.2.2⟩
  obtain ⟨h1, h2⟩ := h.2.1
  refine ⟨h1, ?_⟩
  rcases h2 with h2 | ⟨g, cap, cur, rfl, hg, hh, r⟩
  · exact .inl h2
  · exact .inr ⟨g, cap, cur, rfl, hg, by rw [hu.block g (lt_of_block hh) (hv g rfl)]; exact hh, r⟩
theorem Rd.setAt {w : World} {b : Nat} {v : Value} {l : List UInt8} {s : Nat × Int} (h : Rd w b v l s) (a : Nat) (ha : a ≤ l.length) : Rd (w.setCell ⟨b, 1, none⟩ (.int .i64 a)) b v l (a, s.2) := by
  refine ⟨?_, ownsRow_setCell_other h.2.1 (rowNe h.1 (by decide) h.2.1) _, ha⟩
  have hlt := lt_of_block h.1
  have h' : w.heap[b] = .cells #[v, .int .i64 s.1, .int .i64 s.2] 90 (0, 0) := by simpa [Array.getElem?_eq_getElem hlt] using h.1
  show (w.heap.modify b _)[b]? = _
  rw [Array.getElem?_eq_getElem (by simpa using hlt), Array.getElem_modify_self, h']
  rfl
theorem Rd.setWhy {w : World} {b : Nat} {v : Value} {l : List UInt8} {s : Nat × Int} (h : Rd w b v l s) (y : Int) : Rd (w.setCell ⟨b, 2, none⟩ (.int .i64 y)) b v l (s.1, y) := by
  refine ⟨?_, ownsRow_setCell_other h.2.1 (rowNe h.1 (by decide) h.2.1) _, h.2.2⟩
  have hlt := lt_of_block h.1
  have h' : w.heap[b] = .cells #[v, .int .i64 s.1, .int .i64 s.2] 90 (0, 0) := by simpa [Array.getElem?_eq_getElem hlt] using h.1
  show (w.heap.modify b _)[b]? = _
  rw [Array.getElem?_eq_getElem (by simpa using hlt), Array.getElem_modify_self, h']
  rfl

theorem put1 {b : Nat} {a w : World} (h : Upd (fun k => k = b) a w) (o : Nat) (u : Value) : Upd (fun k => k = b) a (w.setCell ⟨b, o, none⟩ u) := h.setCell (p := ⟨b, o, none⟩) (.inl rfl) u

theorem left_any (b : Nat) (v : Value) (l : List UInt8) (s : Nat × Int) (w : World) (hr : Rd w b v l s) (hl : l.length ≤ 140737488355328) :
    Calls Try.prog 22 #[.pointer (some ⟨b, 0, none⟩)] w fun e w' => e = .returned (.int .i64 (l.length - s.1)) ∧ w' = w.drew := by
  have h0 := hr.c0
  have h1 := hr.c1
  have hle := hr.2.2
  obtain ⟨ao, cap, rfl, _⟩ := Sl.of_row hr.2.1
  clear hr
  have e8 : IntKind.i64.wrap ((l.length : Int) - s.1) = (l.length : Int) - s.1 := IntWalk.i64_in _ (by omega)
  go_enter Try.func22, Try.ntmps22
  go_wp2
  go_region
  all_goals
    go_wp2
    go_ret
    exact ⟨rfl, rfl⟩

theorem why_any (b : Nat) (v : Value) (l : List UInt8) (s : Nat × Int) (w : World) (hr : Rd w b v l s) :
    Calls Try.prog 24 #[.pointer (some ⟨b, 0, none⟩)] w fun e w' => e = .returned (.int .i64 s.2) ∧ w = w' := by
  have h2 := hr.c2
  clear hr
  go_enter Try.func24, Try.ntmps24
  go_wp2
  go_ret
  exact ⟨rfl, rfl⟩

/-- Done's number -/
def doneM (l : List UInt8) (s : Nat × Int) : Int := if s.2 = 0 then (if s.1 < l.length then 8 else 0) else s.2

theorem done_any (b : Nat) (v : Value) (l : List UInt8) (s : Nat × Int) (w : World) (hr : Rd w b v l s) (hl : l.length ≤ 140737488355328) :
    Calls Try.prog 23 #[.pointer (some ⟨b, 0, none⟩)] w fun e w' => e = .returned (.int .i64 (doneM l s)) ∧ Upd (fun _ => False) w w' := by
  have h2 := hr.c2
  have hle := hr.2.2
  have Hr := Lib.hid hr
  clear hr
  obtain ⟨a, y⟩ := s
  by_cases hy : y = 0
  · subst hy
    by_cases ha : a < l.length
    · have Hd := Lib.hid (show doneM l (a, 0) = 8 by simp [doneM, ha])
      simp only at h2 hle
      go_enter Try.func23, Try.ntmps23
      go_wp2_with (go_at_call 22; refine (left_any _ _ _ _ _ Hr.out hl).mono ?_; rintro e w' ⟨rfl, rfl⟩)
      go_ret
      rw [Hd.out]
      exact ⟨rfl, (Upd.refl _ _).drew⟩
    · have Hd := Lib.hid (show doneM l (a, 0) = 0 by simp [doneM, ha])
      simp only at h2 hle
      go_enter Try.func23, Try.ntmps23
      go_wp2_with (go_at_call 22; refine (left_any _ _ _ _ _ Hr.out hl).mono ?_; rintro e w' ⟨rfl, rfl⟩)
      go_ret
      rw [Hd.out]
      exact ⟨rfl, (Upd.refl _ _).drew⟩
  · have Hd := Lib.hid (show doneM l (a, y) = y by simp [doneM, hy])
    have hb : (y == 0) = false := by simpa using hy
    clear hy
    simp only at h2 hle
    go_enter Try.func23, Try.ntmps23
    go_wp2
    go_ret
    rw [Hd.out]
    exact ⟨rfl, Upd.refl _ _⟩

/-- what refuse leaves -/
theorem refuse_any (b : Nat) (v : Value) (l : List UInt8) (s : Nat × Int) (a : Nat) (y : Int) (w : World) (hr : Rd w b v l s) (ha : a ≤ l.length) :
    Calls Try.prog 49 #[.pointer (some ⟨b, 0, none⟩), .int .i64 a, .int .i64 y] w fun e w' => e = .returned (.tuple #[]) ∧ Rd w' b v l (a, if s.2 = 0 then y else s.2) ∧ Upd (fun k => k = b) w w' := by
  have h2 := hr.c2
  have h1 := hr.c1
  have f1 := hr.f 1
  have f2 := hr.f 2
  have Hr := Lib.hid hr
  clear hr
  obtain ⟨p, q⟩ := s
  by_cases hy : q = 0
  · subst hy
    have H1 := Lib.hid (Hr.out.setWhy y |>.setAt a ha)
    have h1' : (w.setCell ⟨b, 2, none⟩ (.int .i64 y)).cell? ⟨b, 1, none⟩ = some (.int .i64 p) := (Hr.out.setWhy y).c1
    go_enter Try.func49, Try.ntmps49
    go_wp2
    go_end0
    exact ⟨rfl, H1.out, put1 (put1 (Upd.refl _ _) _ _) _ _⟩
  · have hb : (q == 0) = false := by simpa using hy
    have H1 := Lib.hid (Hr.out.setAt a ha)
    have Hy := Lib.hid hy
    clear hy
    simp only at h2
    go_enter Try.func49, Try.ntmps49
    go_wp2
    go_end0
    exact ⟨rfl, by simpa [Hy.out] using H1.out, put1 (Upd.refl _ _) _ _⟩

/-- behind a refusal next answers nothing -/
theorem next_refused (b : Nat) (v : Value) (l : List UInt8) (s : Nat × Int) (n : Int) (w : World) (hr : Rd w b v l s) (hs : s.2 ≠ 0) :
    Calls Try.prog 46 #[.pointer (some ⟨b, 0, none⟩), .int .i64 n] w fun e w' => e = .returned (.slice none 0 0) ∧ w = w' := by
  have h2 := hr.c2
  have hb : (s.2 == 0) = false := by simpa using hs
  clear hr hs
  go_enter Try.func46, Try.ntmps46
  go_wp2
  go_ret
  exact ⟨rfl, rfl⟩

/-- next refuses -/
theorem next_short (b : Nat) (v : Value) (l : List UInt8) (a : Nat) (n : Int) (w : World) (hr : Rd w b v l (a, 0)) (hl : l.length ≤ 140737488355328) (hn : n < 0 ∨ (l.length : Int) - a < n) :
    Calls Try.prog 46 #[.pointer (some ⟨b, 0, none⟩), .int .i64 n] w fun e w' => e = .returned (.slice none 0 0) ∧ Rd w' b v l (a, 8) ∧ Upd (fun k => k = b) w w' := by
  have h2 : w.cell? ⟨b, 2, none⟩ = some (.int .i64 0) := hr.c2
  have f2 := hr.f 2
  have hle := hr.2.2
  have Hr := Lib.hid hr
  simp only at hle
  by_cases h0 : n < 0
  · have H1 := Lib.hid (Hr.out.setWhy 8)
    clear hr hn
    go_enter Try.func46, Try.ntmps46
    go_wp2
    go_ret
    exact ⟨rfl, H1.out, put1 (Upd.refl _ _) _ _⟩
  · have hn' : (l.length : Int) - a < n := by omega
    have H1 := Lib.hid (Hr.out.drew.setWhy 8)
    clear hr hn
    go_enter Try.func46, Try.ntmps46
    go_wp2_with (go_at_call 22; refine (left_any _ _ _ _ _ Hr.out hl).mono ?_; rintro e w' ⟨rfl, rfl⟩)
    go_ret
    exact ⟨rfl, H1.out, put1 (Upd.refl _ _).drew _ _⟩

theorem Sl.empty {w : World} {ao : Option Addr} (h : ∀ a, ao = some a → a.spot = none) : Sl w (.slice ao 0 0) [] :=
  ⟨ao, 0, rfl, by simp, by unfold maxLen; omega, fun _ => rfl, fun a ha => ⟨h a ha, fun i hi => by simp at hi⟩⟩
theorem Sl.sub {w : World} {g cap a n : Nat} {l : List UInt8} (h : w.ownsRow 0 5 1 (.slice (some ⟨g, 0, none⟩) l.length cap) l.length (l.map u8)) (hn : a + n ≤ l.length) (hc : l.length ≤ cap) (hm : cap ≤ maxLen) :
    Sl w (.slice (some ⟨g, a, none⟩) n (cap - a)) ((l.drop a).take n) := by
  have hlen : ((l.drop a).take n).length = n := by simp; omega
  refine ⟨some ⟨g, a, none⟩, cap - a, by rw [hlen], by rw [hlen]; omega, by omega, (fun e => nomatch e), fun x hx => ?_⟩
  cases hx
  refine ⟨rfl, fun i hi => ?_⟩
  rw [hlen] at hi
  have hc := h.cellAt (a + i) (by omega)
  have e : (⟨g, a, none⟩ : Addr).add i = ⟨g, a + i, none⟩ := by unfold Addr.add; split <;> simp_all
  rw [e, hc]
  simp [List.getD, hi, List.getElem?_drop, show a + i < l.length by omega]

/-- next moves over n bytes and lends them -/
def Lends (b : Nat) (v : Value) (l : List UInt8) (a n : Nat) (w : World) (e : Ending) (w' : World) : Prop :=
  ∃ sv, e = .returned sv ∧ Sl w' sv ((l.drop a).take n) ∧ Rd w' b v l (a + n, 0) ∧ Upd (fun k => k = b) w w' ∧ ∀ k, own sv k → own v k
theorem next_lends (b : Nat) (v : Value) (l : List UInt8) (a n : Nat) (w : World) (hr : Rd w b v l (a, 0)) (hl : l.length ≤ 140737488355328) (hn : a + n ≤ l.length) :
    Calls Try.prog 46 #[.pointer (some ⟨b, 0, none⟩), .int .i64 n] w (Lends b v l a n w) := by
  have h2 : w.cell? ⟨b, 2, none⟩ = some (.int .i64 0) := hr.c2
  have h1 : w.cell? ⟨b, 1, none⟩ = some (.int .i64 a) := hr.c1
  have f1 := hr.f 1
  have Hr := Lib.hid hr
  rcases Hr.out.2.1.2 with ⟨rfl, h0⟩ | ⟨g, cap, cur, rfl, _, hg, hlc, hcm, hcs, htk⟩
  · have hle : l = [] := List.eq_nil_of_length_eq_zero h0
    subst hle
    obtain rfl : n = 0 := by simp at hn; omega
    obtain rfl : a = 0 := by simp at hn; omega
    have H1 := Lib.hid (show Rd (w.setCell ⟨b, 1, none⟩ (.int .i64 0)).drew.drew b (.slice none 0 0) [] (0, 0) from Rd.drew (Rd.drew (by simpa using (Hr.out.setAt 0 hn))))
    have k1 : (w.setCell ⟨b, 1, none⟩ (.int .i64 0)).cell? ⟨b, 1, none⟩ = some (.int .i64 0) := by simpa using H1.out.c1
    have k0 : (w.setCell ⟨b, 1, none⟩ (.int .i64 0)).cell? ⟨b, 0, none⟩ = some (.slice none 0 0) := by simpa using H1.out.c0
    clear hr
    simp only [Int.ofNat_zero] at h1
    go_enter Try.func46, Try.ntmps46
    go_wp2_with (go_at_call 22; refine (left_any _ _ _ _ _ Hr.out hl).mono ?_; rintro e w' ⟨rfl, rfl⟩)
    have e8 : IntKind.i64.wrap 0 = 0 := by decide
    go_region
    go_wp2
    go_ret
    exact ⟨_, rfl, Sl.empty (fun a ha => nomatch ha), H1.out, ((put1 (Upd.refl _ _).drew _ _)).drew, fun k hk => hk⟩
  · by_cases hca : cap = a
    · obtain rfl : n = 0 := by omega
      subst hca
      have H1 := Lib.hid (show Rd (w.setCell ⟨b, 1, none⟩ (.int .i64 (cap : Int))).drew.drew b (.slice (some ⟨g, 0, none⟩) l.length cap) l (cap, 0) from Rd.drew (Rd.drew (by simpa using (Hr.out.setAt cap hn))))
      have k1 : (w.setCell ⟨b, 1, none⟩ (.int .i64 (cap : Int))).cell? ⟨b, 1, none⟩ = some (.int .i64 (cap : Int)) := by simpa using H1.out.c1
      have k0 : (w.setCell ⟨b, 1, none⟩ (.int .i64 (cap : Int))).cell? ⟨b, 0, none⟩ = some (.slice (some ⟨g, 0, none⟩) l.length cap) := by simpa using H1.out.c0
      have hcm' : cap ≤ 9223372036854775807 := by unfold maxLen at hcm; omega
      clear hr hg htk hcs hcm
      go_enter Try.func46, Try.ntmps46
      go_wp2_with (go_at_call 22; refine (left_any _ _ _ _ _ Hr.out hl).mono ?_; rintro e w' ⟨rfl, rfl⟩)
      have e8 : IntKind.i64.wrap (cap : Int) = cap := IntWalk.i64_in _ (by omega)
      have e7 : (0 : Int) ≤ cap := by omega
      go_region
      all_goals
        go_wp2
        go_ret
        exact ⟨_, rfl, by simpa using Sl.empty (w := (w.setCell ⟨b, 1, none⟩ (.int .i64 (cap : Int))).drew.drew) (ao := some ⟨g, 0, none⟩) (by rintro x ⟨⟩; rfl), H1.out, (put1 (Upd.refl _ _).drew _ _).drew, fun k hk => hk⟩
    · have H1 := Lib.hid (show Rd (w.setCell ⟨b, 1, none⟩ (.int .i64 ((a : Int) + n))).drew.drew b (.slice (some ⟨g, 0, none⟩) l.length cap) l (a + n, 0) from Rd.drew (Rd.drew (by simpa using (Hr.out.setAt (a + n) hn))))
      have k1 : (w.setCell ⟨b, 1, none⟩ (.int .i64 ((a : Int) + n))).cell? ⟨b, 1, none⟩ = some (.int .i64 ((a : Int) + n)) := by simpa using H1.out.c1
      have k0 : (w.setCell ⟨b, 1, none⟩ (.int .i64 ((a : Int) + n))).cell? ⟨b, 0, none⟩ = some (.slice (some ⟨g, 0, none⟩) l.length cap) := by simpa using H1.out.c0
      have hcm' : cap ≤ 9223372036854775807 := by unfold maxLen at hcm; omega
      have Hcm := Lib.hid hcm
      clear hr hg htk hcs hcm
      go_enter Try.func46, Try.ntmps46
      go_wp2_with (go_at_call 22; refine (left_any _ _ _ _ _ Hr.out hl).mono ?_; rintro e w' ⟨rfl, rfl⟩)
      have e8 : IntKind.i64.wrap ((a : Int) + n - n) = a := by rw [show (a : Int) + n - n = a from by omega]; exact IntWalk.i64_in _ (by omega)
      have e9 : ((a : Int) + n).toNat = a + n := by omega
      have e7 : (0 : Int) ≤ a := by omega
      have e6 : (a : Int) ≤ a + n := by omega
      have e5 : (a : Int) + n ≤ cap := by omega
      have e10 : a + n ≤ cap := by omega
      go_region
      all_goals
        go_wp2
        go_ret
        exact ⟨_, rfl, Sl.sub H1.out.2.1 hn hlc Hcm.out, H1.out, ((put1 (Upd.refl _ _).drew _ _)).drew, fun k hk => hk⟩
end Go.Proofs.Ytcdgimapkbaboaa.ReaderW
