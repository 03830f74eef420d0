/-
  octet.Writer.Raw, Bytes of slices that may be empty wherever they point.
-/
import Derived.Test.YtcdgimapkbaboaaRawW
import Derived.Test.YtcdgimapkbaboaaListsB
namespace Go.Proofs.Ytcdgimapkbaboaa.RawE
open Go.RowKit Mem NamesW PutW WriterW StrW RawW ListsB
set_option linter.unusedVariables false
set_option linter.unusedSimpArgs false

set_option maxHeartbeats 1000000 in
theorem Raw_el (b : Nat) (v p : Value) (l : List UInt8) (ts : List (List UInt8)) (O : Nat → Prop) (w : World) (hw : Wr w b v l) (hs : SlE w p ts O) (hO : ∀ k, O k → k < w.heap.size ∧ k ≠ b ∧ ¬ own v k) (hl : l.length + (cat ts).length ≤ 140737488355300) (hn : ts.length ≤ 70368744177660) :
    Calls Try.prog 66 #[.pointer (some ⟨b, 0, none⟩), p] w fun e w' => e = .returned (.tuple #[]) ∧ Grew b v l (cat ts) w w' := by
  have Hw := Lib.hid hw
  have Hs := Lib.hid hs
  obtain ⟨ao, cap, pv, rfl, h3, h4⟩ := hs
  have Hl := Lib.hid hl
  clear hw hl h4
  go_enter Try.func66, Try.ntmps66
  go_wp2
  go_loopw [5, 8] (fun _ i wr => ∃ k : Nat, k ≤ ts.length ∧ i = .int .i64 k ∧ Grew b v l (cat (ts.take k)) w wr) (fun _ i _ => ts.length - (intOf i).toNat)
  case atStart => exact ⟨0, Nat.zero_le _, rfl, by simpa [cat] using Grew.refl Hw.out⟩
  case round =>
    obtain ⟨k, hk, rfl, hg⟩ := hrel
    by_cases hlt : k < ts.length
    · obtain ⟨v1, ⟨hb, hown⟩, hu1, ho1⟩ := hg
      have hsl := Hs.out.upd hu1 (fun j hj h => h.elim (hO j hj).2.1 (hO j hj).2.2)
      obtain ⟨ao', cap', pv', he, h3', h4'⟩ := hsl
      cases he
      obtain ⟨ad, rfl⟩ : ∃ ad, ao = some ad := by
        cases ao with
        | some ad => exact ⟨ad, rfl⟩
        | none => have := h3 rfl; omega
      obtain ⟨hsp, _, h4'⟩ := h4' ad rfl
      obtain ⟨g, off, sp⟩ := ad
      obtain rfl : sp = none := hsp
      obtain ⟨hc, hsl1, hown1⟩ := h4' k hlt
      rw [show (⟨g, off, none⟩ : Addr).add k = ⟨g, off + k, none⟩ by unfold Addr.add; split <;> simp_all] at hc
      have hcb : wr.cell? ⟨b, 0, none⟩ = some v1 := cell_of_one hb
      have hblt := lt_of_block hb
      obtain ⟨ao3, cap3, hpv, _⟩ := id hsl1
      rw [hpv] at hc hsl1
      have Hb := Lib.hid hb
      have Hown := Lib.hid hown
      have Hu := Lib.hid hu1
      have Ho := Lib.hid ho1
      have Hsl := Lib.hid hsl1
      have hfl := flat_le hlt
      have Hlm := Lib.hid (show (l ++ (cat (ts.take k))).length + (ts.getD k []).length ≤ maxLen from by have := Hl.out; rw [List.length_append]; unfold maxLen; omega)
      have Hlb := Lib.hid (show (l ++ (cat (ts.take k))).length + (ts.getD k []).length ≤ 140737488355328 from by have := Hl.out; rw [List.length_append]; omega)
      have Hft := Lib.hid (flat_take hlt)
      clear hb hown hu1 ho1 hsl1 h3' h4' hown1 hpv hfl
      obtain ⟨t, ht⟩ : ∃ t, t = ts.getD k [] := ⟨_, rfl⟩
      rw [← ht] at hc Hsl Hlm Hlb Hft
      clear ht
      go_wp2_with (at_builtin; refine wpList_append_el _ rfl _ _ rfl v1 _ (l ++ cat (ts.take k)) t rfl rfl Hown.out _ rfl Hsl.out Hlm.out Hlb.out _ rfl ?_; intro ao2 cap2 w2 Hown2 Hgrow2 Hat2; have hc2 := cell_of_one (one_kept Hb.out (by decide) Hown.out (fun k hk => rfl) (Nat.le_refl _) Hgrow2.out); have hf2 := free_of_one (one_kept Hb.out (by decide) Hown.out (fun k hk => rfl) (Nat.le_refl _) Hgrow2.out))
      go_roundw
      case rel =>
        refine ⟨k + 1, by omega, by go_num, ?_⟩
        rw [Hft.out]
        have HG := Grew.then Hu.out Ho.out (back (news := t) Hb.out Hown.out rfl (Upd.refl _ _) (by have h := Hown2.out; rwa [List.map_append] at h) Hgrow2.out Hat2.out)
        simp only [List.length_append] at HG ⊢
        exact HG
      case measure => simp [intOf]; omega
    · have Hg := Lib.hid (show Grew b v l (cat ts) w wr by rw [List.take_of_length_le (by omega)] at hg; exact hg)
      clear hg
      go_wp2
      go_end0
      exact ⟨rfl, Hg.out⟩

theorem slE_one (w : World) (g : Nat) (v : Value) (xs : List UInt8) (O : Nat → Prop) (hg : w.heap[g]? = some (.cells #[v] 30 (0, 0))) (hs : El w v xs) (ho : xs ≠ [] → ∀ k, own v k → O k) (hO : O g) :
    SlE w (.slice (some ⟨g, 0, none⟩) 1 1) [xs] O := by
  refine ⟨_, 1, fun _ => v, rfl, by simp, fun a ha => ?_⟩
  injection ha with ha
  subst ha
  refine ⟨rfl, fun _ => hO, fun i hi => ?_⟩
  obtain rfl : i = 0 := by simpa using hi
  exact ⟨by rw [RowW.add_none, cell_of_row _ _ _ _ _ _ hg]; rfl, hs, ho⟩

set_option maxHeartbeats 1000000 in
theorem Bytes_el (b : Nat) (v p : Value) (l t : List UInt8) (most : Int) (w : World) (hw : Wr w b v l) (hs : El w p t) (hoff : t ≠ [] → Off p v b) (hl : l.length + t.length ≤ 140737488355300) :
    Calls Try.prog 68 #[.pointer (some ⟨b, 0, none⟩), p, .int .i64 most] w
      (Lays b v l (be t.length 4 ++ t) (terr t.length most 2147483647) w) := by
  have Hw := Lib.hid hw
  have Hs := Lib.hid hs
  obtain ⟨ao, cap, rfl, _⟩ := id hs
  by_cases hlt : bnd most 2147483647 < t.length
  · have HP := Lib.hid (show Lays b v l (be t.length 4 ++ t) (terr t.length most 2147483647) w (.returned (.int .i64 6)) w by
      have e : terr t.length most 2147483647 = 6 := if_pos hlt
      rw [e]; exact ⟨rfl, Grew.refl hw⟩)
    clear hw hs
    generalize hbn : bnd most 2147483647 = bn at *
    have Hbn := Lib.hid hbn
    clear hbn
    go_enter Try.func68, Try.ntmps68
    go_wp2_with fail
    refine (bound_any _ _ _).mono ?_
    rintro e w' ⟨rfl, rfl⟩
    rw [Hbn.out]
    go_wp2
    go_ret
    exact HP.out
  · have HP := Lib.hid (show ∀ w', Grew b v l (be t.length 4 ++ t) w w' → Lays b v l (be t.length 4 ++ t) (terr t.length most 2147483647) w (.returned (.int .i64 0)) w' from fun w' hg => by
      have e : terr t.length most 2147483647 = 0 := if_neg hlt
      rw [e]; exact ⟨rfl, hg⟩)
    have ht : t.length ≤ 2147483647 := by have := bnd_lt hlt; omega
    have e32 : IntKind.u32.wrap (t.length : Int) = t.length := by rw [IntKind.wrap_u32]; omega
    clear hw hs
    generalize hbn : bnd most 2147483647 = bn at *
    have Hbn := Lib.hid hbn
    clear hbn
    go_enter Try.func68, Try.ntmps68
    go_wp2_with fail
    refine (bound_any _ _ _).mono ?_
    rintro e w' ⟨rfl, rfl⟩
    rw [Hbn.out]
    go_wp2_with fail
    refine (put32 b v l _ _ (by omega) (WalkArith.wf_u32 (by omega)) Hw.out (by omega)).mono ?_
    rintro e w1 ⟨rfl, v1, hw1, hu1, ho1⟩
    clear e32
    have hc := cell_of_one hw1.1
    have hblt := lt_of_block hw1.1
    have Hb := Lib.hid hw1.1
    have Hown := Lib.hid hw1.2
    have Hu1 := Lib.hid hu1
    have Ho1 := Lib.hid ho1
    have Hs1 := Lib.hid (Hs.out.upd hu1 (fun hne k hk h => h.elim (hoff hne k hk).1 (hoff hne k hk).2))
    have Hl := Lib.hid (show (l ++ be (t.length : Int) 4).length + t.length ≤ maxLen from by simp [be_length]; unfold maxLen; omega)
    have Hl2 := Lib.hid (show (l ++ be (t.length : Int) 4).length + t.length ≤ 140737488355328 from by simp [be_length]; omega)
    clear hw1 hu1 ho1 hoff
    go_wp2_with (at_builtin; refine wpList_append_el _ rfl _ _ rfl v1 _ (l ++ be (t.length : Int) 4) t rfl rfl Hown.out _ rfl Hs1.out Hl.out Hl2.out _ rfl ?_; intro ao2 cap2 w2 Hown2 Hgrow2 Hat2; have hc2 := cell_of_one (one_kept Hb.out (by decide) Hown.out (fun k hk => rfl) (Nat.le_refl _) Hgrow2.out); have hf2 := free_of_one (one_kept Hb.out (by decide) Hown.out (fun k hk => rfl) (Nat.le_refl _) Hgrow2.out))
    go_ret
    refine HP.out _ ?_
    have HG := Grew.then Hu1.out Ho1.out (back (news := t) Hb.out Hown.out rfl (Upd.refl _ _) (by have h := Hown2.out; rwa [List.map_append] at h) Hgrow2.out Hat2.out)
    simp only [List.length_append] at HG ⊢
    exact HG
end Go.Proofs.Ytcdgimapkbaboaa.RawE
