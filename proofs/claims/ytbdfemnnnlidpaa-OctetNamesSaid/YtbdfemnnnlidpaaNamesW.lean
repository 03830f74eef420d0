/-
  docketlaw1.OctetNames, walked.
-/
import Derived.Test.YtbdfemnnnlidpaaFlagW
import Derived.Test.YtbdfemnnnlidpaaNilW
import Derived.Laws.BytesArg
namespace Go.Proofs.Ytbdfemnnnlidpaa.NamesW
open Go.RowKit Mem Width PutW WriterW ReaderW TakeW FlagW NilW
set_option linter.unusedVariables false

theorem Wr.upd {w w' : World} {b : Nat} {v : Value} {l : List UInt8} {S : Nat → Prop} (h : Wr w b v l) (hu : Upd S w w') (hb : ¬ S b) (hv : ∀ k, own v k → ¬ S k) : Wr w' b v l := by
  refine ⟨by rw [hu.block b (lt_of_block h.1) hb]; exact h.1, ?_⟩
  obtain ⟨h1, h2⟩ := h.2
  refine ⟨h1, ?_⟩
  rcases h2 with h2 | ⟨g, cap, cur, rfl, hg, hh, r⟩
  · exact .inl h2
  · exact .inr ⟨g, cap, cur, rfl, hg, by rw [hu.block g (lt_of_block hh) (hv g rfl)]; exact hh, r⟩

theorem Sl.form {w : World} {v : Value} {l : List UInt8} (h : Sl w v l) : ∃ ao cap, v = .slice ao l.length cap := by
  obtain ⟨ao, cap, rfl, _⟩ := h
  exact ⟨ao, cap, rfl⟩

theorem strOf_map (l : List UInt8) : strOfNums (l.map fun c => (c.toNat : Int)) = ⟨l.toArray⟩ := by
  apply ByteArray.ext
  apply Array.ext'
  rw [strOfNums_data, List.map_map]
  exact List.map_id'' (fun c => by simp) l

theorem conv_sl {w : World} {ao : Option Addr} {cap : Nat} {l : List UInt8} (h : Sl w (.slice ao l.length cap) l) :
    (convert 30 9 (.slice ao l.length cap)).run Try.prog w = .ok (.string ⟨l.toArray⟩) w := by
  obtain ⟨ao', cap', he, h1, h2, h3, h4⟩ := h
  cases he
  cases ao with
  | none =>
    obtain rfl := h3 rfl
    have : l = [] := List.eq_nil_of_length_eq_zero (by omega)
    subst this
    exact run_convert_bytes_nil w 30 5 Try.underlying30 Try.underlying5 0 0 _ Try.underlying9
  | some a =>
    obtain ⟨hsp, hc⟩ := h4 a rfl
    obtain ⟨b, off, sp⟩ := a
    obtain rfl : sp = none := hsp
    have := run_convert_bytes_arg (P := Try.prog) w 30 5 Try.underlying30 Try.underlying5 b off l.length cap (l.map fun c => (c.toNat : Int)) (by simp) (fun i hi => by
      have := hc i hi
      rw [show (⟨b, off, none⟩ : Addr).add i = ⟨b, off + i, none⟩ by unfold Addr.add; split <;> simp_all] at this
      rw [this]
      simp [u8, List.getD, hi]) _ Try.underlying9
    rw [this, strOf_map]

set_option maxRecDepth 100000 in
theorem walk (w : World) :
    Calls Try.prog 3 #[] w fun e w' => e = .returned (.bool true) ∧ Below w.heap.size w w' := by
  go_enter Try.func3, Try.ntmps3
  go_wp2_with (first | (go_at_call 10; refine (put8nil _ _).mono ?_; rintro e w' ⟨rfl, rfl⟩) | (go_at_call 11; refine (put64nil _ _).mono ?_; rintro e w' ⟨rfl, rfl⟩) | (go_at_call 12; refine (take8nil _).mono ?_; rintro e w' ⟨rfl, rfl⟩) | (go_at_call 13; refine (take64nil _).mono ?_; rintro e w' ⟨rfl, rfl⟩))
  refine (new_any _).mono ?_
  rintro e w1 ⟨rfl, hw1, hu1⟩
  have Hw1 := Lib.hid hw1
  have Hu1 := Lib.hid hu1
  clear hw1 hu1
  go_wp2_with fail
  refine (len_any _ _ _ _ Hw1.out).mono ?_
  rintro e w' ⟨rfl, rfl⟩
  go_wp2_with fail
  refine (all_any _ _ _ _ Hw1.out (by simp)).mono ?_
  rintro e w2 ⟨v2, rfl, hown2, hu2⟩
  obtain ⟨ao2, cap2, rfl⟩ := Sl.form (Sl.of_row hown2)
  have Hw2 := Lib.hid (Wr.upd Hw1.out hu2 id (fun _ _ => id))
  have Hu2 := Lib.hid (Hu1.out.trans (hu2.mono fun _ _ h => h.elim))
  clear hown2 hu2
  go_wp2_with fail
  refine (put16 _ _ _ _ _ (by decide) (by decide) Hw2.out (by simp)).mono ?_
  rintro e w3 ⟨rfl, v3, hw3, hu3, ho3⟩
  have Hu3 := Lib.hid (Hu2.out.trans (hu3.mono fun k hk h => .inr (h.elim (fun h => by omega) (fun h => nomatch h))))
  have Ho3 := Lib.hid (show ∀ k, own v3 k → w.heap.size ≤ k from fun k hk => (ho3 k hk).elim (fun h => by cases h) (fun h => Nat.le_trans Hu2.out.size h))
  have Hw3 := Lib.hid (show Wr w3 w.heap.size v3 [3, 2] from hw3)
  clear hw3 hu3 ho3
  go_wp2_with fail
  refine (flag_any true _ _ _ _ Hw3.out (by simp)).mono ?_
  rintro e w4 ⟨rfl, v4, hw4, hu4, ho4⟩
  have Hu4 := Lib.hid (Hu3.out.trans (hu4.mono fun k hk h => .inr (h.elim (fun h => by omega) (fun h => Ho3.out k h))))
  have Ho4 := Lib.hid (show ∀ k, own v4 k → w.heap.size ≤ k from fun k hk => (ho4 k hk).elim (fun h => Ho3.out k h) (fun h => Nat.le_trans Hu3.out.size h))
  have Hw4 := Lib.hid (show Wr w4 w.heap.size v4 [3, 2, 1] from hw4)
  clear hw4 hu4 ho4
  go_wp2_with fail
  refine (all_any _ _ _ _ Hw4.out (by simp)).mono ?_
  rintro e w5 ⟨v5, rfl, hown5, hu5⟩
  have hs5 := Sl.of_row hown5
  obtain ⟨ao5, cap5, rfl⟩ := Sl.form (Sl.of_row hown5)
  have Hw5 := Lib.hid (Wr.upd Hw4.out hu5 id (fun _ _ => id))
  have Hu5 := Lib.hid (Hu4.out.trans (hu5.mono fun _ _ h => h.elim))
  have hconv : (convert 30 9 (.slice ao5 3 cap5)).run Try.prog w5 = .ok (.string ⟨#[3, 2, 1]⟩) w5 := conv_sl hs5
  rw [show ([3, 2, 1] : List UInt8).length = 3 from rfl]
  clear hown5 hu5 hs5
  go_wp2_with fail
  refine (len_any _ _ _ _ Hw5.out).mono ?_
  rintro e w' ⟨rfl, rfl⟩
  go_wp2_with fail
  refine (all_any _ _ _ _ Hw5.out (by simp)).mono ?_
  rintro e w6 ⟨v6, rfl, hown6, hu6⟩
  have Hs6 := Lib.hid (Sl.of_row hown6)
  have Hu6 := Lib.hid (Hu5.out.trans (hu6.mono fun _ _ h => h.elim))
  clear hown6 hu6 hconv
  go_wp2_with fail
  refine (read_any _ _ _ Hs6.out (by simp)).mono ?_
  rintro e w7 ⟨b7, v7, rfl, hr7, hu7, hb7, ho7⟩
  have Hr7 := Lib.hid hr7
  have Hb7 := Lib.hid (show w.heap.size ≤ b7 from Nat.le_trans Hu6.out.size hb7)
  have Hu7 := Lib.hid (Hu6.out.trans (hu7.mono fun _ _ h => h.elim))
  clear hr7 hu7 hb7 ho7
  go_wp2_with fail
  refine (take16 _ _ _ _ _ Hr7.out (by simp)).mono ?_
  rintro e w8 ⟨rfl, hr8, hu8⟩
  have Hr8 := Lib.hid (show Rd w8 b7 v7 [3, 2, 1] (2, 0) from hr8)
  have Hu8 := Lib.hid (Hu7.out.trans (hu8.mono fun k _ h => .inr (h ▸ Hb7.out)))
  rw [show (takeM 2 [3, 2, 1] (0, 0)).1 = 770 from by decide]
  clear hr8 hu8
  go_wp2_with fail
  refine (rflag_any _ _ _ _ _ Hr8.out (by simp)).mono ?_
  rintro e w9 ⟨rfl, hr9, hu9⟩
  have Hr9 := Lib.hid (show Rd w9 b7 v7 [3, 2, 1] (3, 0) from hr9)
  have Hu9 := Lib.hid (Hu8.out.trans (hu9.mono fun k _ h => .inr (h ▸ Hb7.out)))
  rw [show (flagM [3, 2, 1] (2, 0)).1 = true from by decide]
  clear hr9 hu9
  go_wp2_with fail
  refine (left_any _ _ _ _ _ Hr9.out (by simp)).mono ?_
  rintro e w10 ⟨rfl, rfl⟩
  have Hu10 := Lib.hid Hu9.out.drew
  go_wp2_with fail
  refine (done_any _ _ _ _ _ Hr9.out.drew (by simp)).mono ?_
  rintro e w11 ⟨rfl, hu11⟩
  have Hr11 := Lib.hid (Hr9.out.drew.upd hu11 id (fun _ _ => id))
  have Hu11 := Lib.hid (Hu10.out.trans (hu11.mono fun _ _ h => h.elim))
  rw [show doneM [3, 2, 1] (3, 0) = 0 from by decide]
  clear hu11
  go_wp2_with fail
  refine (why_any _ _ _ _ _ Hr11.out).mono ?_
  rintro e w' ⟨rfl, rfl⟩
  go_wp2_with fail
  refine (read_any (.slice none 0 0) [] _ (Sl.empty (ao := none) (fun a ha => by cases ha)) (by simp)).mono ?_
  rintro e w12 ⟨b12, v12, rfl, hr12, hu12, hb12, ho12⟩
  have Hr12 := Lib.hid hr12
  have Hu12 := Lib.hid (Hu11.out.trans (hu12.mono fun _ _ h => h.elim))
  clear hr12 hu12 hb12 ho12
  go_wp2_with fail
  refine (done_any _ _ _ _ _ Hr12.out (by simp)).mono ?_
  rintro e w13 ⟨rfl, hu13⟩
  have Hu13 := Lib.hid (Hu12.out.trans (hu13.mono fun _ _ h => h.elim))
  rw [show doneM [] (0, 0) = 0 from by decide]
  clear hu13
  go_wp2_with fail
  go_ret
  exact ⟨rfl, Hu13.out.below (Nat.le_refl _) fun _ _ => id⟩
end Go.Proofs.Ytbdfemnnnlidpaa.NamesW
