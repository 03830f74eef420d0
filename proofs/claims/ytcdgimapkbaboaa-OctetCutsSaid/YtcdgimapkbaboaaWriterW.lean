/-
  bytes.Clone; octet.New, Len, All.
-/
import Derived.Test.YtcdgimapkbaboaaPutW
import Derived.Lib.SliceRun
namespace Go.Proofs.Ytcdgimapkbaboaa.WriterW
open Go.RowKit Mem Width PutW
set_option linter.unusedVariables false

theorem Sl.of_row {w : World} {base : Nat} {v : Value} {l : List UInt8} (h : w.ownsRow base 5 1 v l.length (l.map u8)) : Sl w v l := by
  rcases h.2 with ⟨rfl, h0⟩ | ⟨g, cap, cur, rfl, hg, hh, hl, hm, hs, ht⟩
  · refine ⟨none, 0, by rw [h0], by omega, by unfold maxLen; omega, fun _ => rfl, (fun a ha => nomatch ha)⟩
  · refine ⟨some ⟨g, 0, none⟩, cap, rfl, hl, hm, (fun e => nomatch e), fun a ha => ?_⟩
    cases ha
    refine ⟨rfl, fun i hi => ?_⟩
    have hc := h.cells (g := g) rfl i (u8 (l.getD i 0)) (by simp [List.getD, hi])
    exact hc

/-- a new row of bytes, or nil, is returned -/
def Fresh (l : List UInt8) (w : World) (e : Ending) (w' : World) : Prop :=
  ∃ v', e = .returned v' ∧ w'.ownsRow w.heap.size 5 1 v' l.length (l.map u8) ∧ Upd (fun _ => False) w w'

set_option maxHeartbeats 400000 in
theorem clone_any (v : Value) (l : List UInt8) (w : World) (hs : Sl w v l) (hl : l.length ≤ 140737488355328) :
    Calls Try.prog 47 #[v] w (Fresh l w) := by
  obtain ⟨ao, cap, rfl, h1, h2, h3, h4⟩ := hs
  cases ao with
  | none =>
    obtain rfl := h3 rfl
    have h0 : l = [] := List.eq_nil_of_length_eq_zero (by omega)
    subst h0
    go_enter Try.func47, Try.ntmps47
    have hq := fun (w : World) => Lib.run_eql_slice_nil (P := Try.prog) w 30 5 none 0 0 0 0 Try.underlying30
    go_wp2
    go_ret
    exact ⟨_, rfl, World.ownsRow_nil _ _ _ _, Upd.refl _ _⟩
  | some a =>
    obtain ⟨hsp, hcell⟩ := h4 a rfl
    obtain ⟨bk, off, sp⟩ := a
    obtain rfl : sp = none := hsp
    have Hc := Lib.hid hcell
    have H2 := Lib.hid h2
    clear hcell h4 h3 h2
    have hq := fun (w : World) => Lib.run_eql_slice_nil (P := Try.prog) w 30 5 (some ⟨bk, off, none⟩) l.length cap 0 0 Try.underlying30
    go_enter Try.func47, Try.ntmps47
    have Hn := Lib.hid (show ∀ j u, (l.map u8)[j]? = some u → (w.alloc (.cells #[] 5)).cell? ((⟨bk, off, none⟩ : Addr).add j) = some u from fun j u hu => by
      have hj : j < l.length := by have := (List.getElem?_eq_some_iff.1 hu).1; simpa using this
      have e : u = u8 (l.getD j 0) := by simp [hj] at hu; simp [List.getD, hj, hu]
      rw [e]
      exact ((Upd.refl (fun _ => False) w).alloc _).cell (Hc.out j hj) id)
    have Ho := Lib.hid (World.ownsRow_made (base := w.heap.size) (size := 1) (e := 5) w #[] 0 (Nat.le_refl _) (by unfold maxLen; omega) (by simp))
    have H1 := Lib.hid (show ∀ u ∈ l.map u8, u.oneCell' = true from fun u hu => by obtain ⟨x, _, rfl⟩ := List.mem_map.1 hu; rfl)
    have Hm := Lib.hid (show 0 + l.length ≤ maxLen from by unfold maxLen; omega)
    have Hi := Lib.hid (info_parts info8)
    clear Hc H2
    go_wp2_with (at_builtin; obtain ⟨i0, hi, hz0, hz1, hz2⟩ := Hi.out; refine wpList_append_own _ rfl _ _ 30 rfl w.heap.size 5 i0 (.int .u8 0) 1 1 Try.underlying30 hi hz0 hz1 hz2 rfl (by decide) _ 0 [] rfl Ho.out ⟨bk, off, none⟩ l.length cap (l.map u8) rfl (by simp) Hn.out H1.out Hm.out (by omega) (by simp) ?_; clear hi hz0 hz1 hz2; intro v' w1 hown hgrow _; have Hown := Lib.hid hown; have Hgrow := Lib.hid hgrow; clear hown hgrow)
    go_ret
    refine ⟨_, rfl, by simpa using Hown.out, ((Upd.refl _ _).alloc _).trans (Upd.grown Hgrow.out fun k hk => ?_)⟩
    cases hk
    exact .inr (Nat.le_refl _)

theorem new_any (w : World) : Calls Try.prog 14 #[] w fun e w' => e = .returned (.pointer (some ⟨w.heap.size, 0, none⟩)) ∧ Wr w' w.heap.size (.slice none 0 0) [] ∧ Upd (fun _ => False) w w' := by
  go_enter Try.func14, Try.ntmps14
  go_wp2
  go_ret
  exact ⟨rfl, ⟨heap_alloc_new _ _, World.ownsRow_nil _ _ _ _⟩, (Upd.refl _ _).alloc _⟩

theorem len_any (b : Nat) (v : Value) (l : List UInt8) (w : World) (hw : Wr w b v l) :
    Calls Try.prog 15 #[.pointer (some ⟨b, 0, none⟩)] w fun e w' => e = .returned (.int .i64 l.length) ∧ w = w' := by
  obtain ⟨hb, hown⟩ := hw
  have hc := cell_of_one hb
  obtain ⟨ao, cap, rfl, _⟩ := Sl.of_row hown
  clear hb hown
  go_enter Try.func15, Try.ntmps15
  go_wp2
  go_ret
  exact ⟨rfl, rfl⟩

theorem all_any (b : Nat) (v : Value) (l : List UInt8) (w : World) (hw : Wr w b v l) (hl : l.length ≤ 140737488355328) :
    Calls Try.prog 16 #[.pointer (some ⟨b, 0, none⟩)] w (Fresh l w) := by
  obtain ⟨hb, hown⟩ := hw
  have hc := cell_of_one hb
  have Hs := Lib.hid (Sl.of_row hown)
  clear hb hown
  go_enter Try.func16, Try.ntmps16
  go_wp2_with fail
  refine (clone_any _ _ _ Hs.out hl).mono ?_
  rintro e w' ⟨v', rfl, hown, hu⟩
  have Hown := Lib.hid hown
  have Hu := Lib.hid hu
  clear hown hu
  go_wp2
  go_ret
  exact ⟨_, rfl, Hown.out, Hu.out⟩

/-- One row of bytes is appended and the slice stored back. -/
theorem step' {wr W w1 : World} {b g cap n : Nat} {v1 : Value} {l news : List UInt8} (hb : wr.heap[b]? = some (.cells #[v1] 85 (0, 0))) (hown : wr.ownsRow 0 5 1 v1 l.length (l.map u8))
    (hn : n = l.length + news.length) (hu : Upd (fun _ => False) wr W) (hown1 : w1.ownsRow 0 5 1 (.slice (some ⟨g, 0, none⟩) n cap) n (l.map u8 ++ news.map u8)) (hg : W.grownBy w1 v1.ownBlock)
    (hat : v1.ownBlock = some g ∨ wr.heap.size ≤ g) : Grew b v1 l news wr (w1.setCell ⟨b, 0, none⟩ (.slice (some ⟨g, 0, none⟩) n cap)) := by
  subst hn
  have hb1 : w1.heap[b]? = some (.cells #[v1] 85 (0, 0)) := one_kept hb (by decide) hown (fun k hk => hu.block k hk id) hu.size hg
  refine ⟨_, ⟨one_setCell hb1, ?_⟩, upd_append (e := 5) (n := 0) (s := 1) (xs := []) hb hu hg, fun k hk => ?_⟩
  · have := row_stored (wr := wr) (nv := .slice (some ⟨g, 0, none⟩) (l.length + news.length) cap) hb1 (by decide) hown1
    simpa using this
  · simp [own, Value.ownBlock] at hk
    subst hk
    exact hat

end Go.Proofs.Ytcdgimapkbaboaa.WriterW
