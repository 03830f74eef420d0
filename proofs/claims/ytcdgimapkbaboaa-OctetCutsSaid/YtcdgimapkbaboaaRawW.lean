/-
  octet.Writer.Raw, Texts: rows of byte slices and of strings.
-/
import Derived.Test.YtcdgimapkbaboaaStrW
namespace Go.Proofs.Ytcdgimapkbaboaa.RawW
open Go.RowKit Mem Width PutW WriterW ReaderW NamesW StrW
set_option linter.unusedVariables false

/-- v is a slice of slices that read as ts; O: the blocks that they lie in -/
def SlL (w : World) (v : Value) (ts : List (List UInt8)) (O : Nat → Prop) : Prop :=
  ∃ ao cap, ∃ pv : Nat → Value, v = .slice ao ts.length cap ∧ (ao = none → ts.length = 0) ∧ (∀ k, own v k → O k) ∧
    ∀ a, ao = some a → a.spot = none ∧ ∀ i, i < ts.length → w.cell? (a.add i) = some (pv i) ∧ Sl w (pv i) (ts.getD i []) ∧ ∀ k, own (pv i) k → O k

theorem SlL.upd {S O : Nat → Prop} {w w' : World} {v : Value} {ts : List (List UInt8)} (h : SlL w v ts O) (hu : Upd S w w') (hd : ∀ k, O k → ¬ S k) : SlL w' v ts O := by
  obtain ⟨ao, cap, pv, rfl, h3, ho, h4⟩ := h
  refine ⟨ao, cap, pv, rfl, h3, ho, fun a ha => ⟨(h4 a ha).1, fun i hi => ?_⟩⟩
  subst ha
  obtain ⟨hc, hs, hp⟩ := (h4 a rfl).2 i hi
  refine ⟨hu.cell hc (hd _ (ho _ ?_)), hs.upd hu (fun k hk => hd k (hp k hk)), hp⟩
  simp [own, Value.ownBlock, Addr.add]
  split <;> rfl

/-- the parts, one behind the other -/
def cat (ts : List (List UInt8)) : List UInt8 := List.flatten ts
theorem cat_append (a b : List (List UInt8)) : cat (a ++ b) = cat a ++ cat b := by simp [cat]
theorem flat_take {ts : List (List UInt8)} {k : Nat} (h : k < ts.length) : cat (ts.take (k + 1)) = cat (ts.take k) ++ ts.getD k [] := by
  rw [List.take_succ_eq_append_getElem h, cat_append]
  simp [cat, List.getD, h]
theorem flat_take_le (ts : List (List UInt8)) (k : Nat) : (cat (ts.take k)).length ≤ (cat ts).length := by
  have h := cat_append (ts.take k) (ts.drop k)
  rw [List.take_append_drop] at h
  rw [h, List.length_append]
  omega
theorem flat_le {ts : List (List UInt8)} {k : Nat} (h : k < ts.length) : (cat (ts.take k)).length + (ts.getD k []).length ≤ (cat ts).length := by
  have := flat_take_le ts (k + 1)
  rw [flat_take h] at this
  simpa using this

set_option maxHeartbeats 1000000 in
theorem Raw_any (b : Nat) (v p : Value) (l : List UInt8) (ts : List (List UInt8)) (O : Nat → Prop) (w : World) (hw : Wr w b v l) (hs : SlL w p ts O) (hO : ∀ k, O k → k < w.heap.size ∧ k ≠ b ∧ ¬ own v k) (hl : l.length + (cat ts).length ≤ 140737488355300) (hn : ts.length ≤ 70368744177660) :
    Calls Try.prog 66 #[.pointer (some ⟨b, 0, none⟩), p] w fun e w' => e = .returned (.tuple #[]) ∧ Grew b v l (cat ts) w w' := by
  have Hw := Lib.hid hw
  have Hs := Lib.hid hs
  obtain ⟨ao, cap, pv, rfl, h3, ho, h4⟩ := hs
  have Hl := Lib.hid hl
  clear hw hl ho h4
  go_enter Try.func66, Try.ntmps66
  go_wp2
  go_loopw [5, 8] (fun _ i wr => ∃ k : Nat, k ≤ ts.length ∧ i = .int .i64 k ∧ Grew b v l (cat (ts.take k)) w wr) (fun _ i _ => ts.length - (intOf i).toNat)
  case atStart => exact ⟨0, Nat.zero_le _, rfl, by simpa [cat] using Grew.refl Hw.out⟩
  case round =>
    obtain ⟨k, hk, rfl, hg⟩ := hrel
    by_cases hlt : k < ts.length
    · obtain ⟨v1, ⟨hb, hown⟩, hu1, ho1⟩ := hg
      have hsl := Hs.out.upd hu1 (fun j hj h => h.elim (hO j hj).2.1 (hO j hj).2.2)
      obtain ⟨ao', cap', pv', he, h3', ho', h4'⟩ := hsl
      cases he
      obtain ⟨ad, rfl⟩ : ∃ ad, ao = some ad := by
        cases ao with
        | some ad => exact ⟨ad, rfl⟩
        | none => have := h3 rfl; omega
      obtain ⟨hsp, h4'⟩ := h4' ad rfl
      obtain ⟨g, off, sp⟩ := ad
      obtain rfl : sp = none := hsp
      obtain ⟨hc, hsl1, hown1⟩ := h4' k hlt
      rw [show (⟨g, off, none⟩ : Addr).add k = ⟨g, off + k, none⟩ by unfold Addr.add; split <;> simp_all] at hc
      have hcb : wr.cell? ⟨b, 0, none⟩ = some v1 := cell_of_one hb
      have hblt := lt_of_block hb
      obtain ⟨ao3, cap3, hpv⟩ := Sl.form hsl1
      rw [hpv] at hc hsl1
      have Hb := Lib.hid hb
      have Hown := Lib.hid hown
      have Hu := Lib.hid hu1
      have Ho := Lib.hid ho1
      have Hsl := Lib.hid hsl1
      have hfl := flat_le hlt
      have Hlm := Lib.hid (show (l ++ (cat (ts.take k))).length + (ts.getD k []).length ≤ maxLen from by have := Hl.out; rw [List.length_append]; unfold maxLen; omega)
      have Hlb := Lib.hid (show (l ++ (cat (ts.take k))).length + (ts.getD k []).length ≤ 140737488355328 from by have := Hl.out; rw [List.length_append]; omega)
      have Hft := Lib.hid (flat_take hlt)
      clear hb hown hu1 ho1 hsl1 h3' ho' h4' hown1 hpv hfl
      obtain ⟨t, ht⟩ : ∃ t, t = ts.getD k [] := ⟨_, rfl⟩
      rw [← ht] at hc Hsl Hlm Hlb Hft
      clear ht
      go_wp2_with (at_builtin; refine wpList_append_sl _ rfl _ _ rfl 0 v1 _ t rfl Hown.out _ rfl Hsl.out Hlm.out Hlb.out (Nat.zero_le _) ?_; intro v2 w2 hown2 hgrow2 hat2; obtain ⟨ao2, cap2, rfl⟩ := row_form hown2; have hc2 := cell_of_one (one_kept Hb.out (by decide) Hown.out (fun k hk => rfl) (Nat.le_refl _) hgrow2); have hf2 := free_of_one (one_kept Hb.out (by decide) Hown.out (fun k hk => rfl) (Nat.le_refl _) hgrow2); have Hown2 := Lib.hid hown2; have Hgrow2 := Lib.hid hgrow2; have Hat2 := Lib.hid hat2; clear hown2 hgrow2 hat2)
      go_roundw
      case rel =>
        refine ⟨k + 1, by omega, by go_num, ?_⟩
        rw [Hft.out]
        have HG := Grew.then Hu.out Ho.out (back (news := t) Hb.out Hown.out rfl (Upd.refl _ _) Hown2.out Hgrow2.out Hat2.out)
        simp only [List.length_append] at HG ⊢
        exact HG
      case measure => simp [intOf]; omega
    · have Hg := Lib.hid (show Grew b v l (cat ts) w wr by rw [List.take_of_length_le (by omega)] at hg; exact hg)
      clear hg
      go_wp2
      go_end0
      exact ⟨rfl, Hg.out⟩
end Go.Proofs.Ytcdgimapkbaboaa.RawW
