/-
  frame.over, Writer.Raw, frame.Pack of a slice of bytes that may be empty wherever it points.
-/
import Derived.Test.YtgfdnljblfkhkabDoorFrPack
import Derived.Test.YtgfdnljblfkhkabDoorListsB
namespace Go.Proofs.YtgfdnljblfkhkabDoor.FrPackE
open Go.RowKit Sha Mem Width PutW WriterW RowW CopyW BookW RawB Crc FrTurn FrScan FrFits FrBegin FrOne FrWalk FrEnd FrPack ListsB
set_option linter.unusedVariables false
set_option linter.unusedSimpArgs false

theorem over_empty (r : UInt32) (ao : Option Addr) (cap : Nat) (w : World) :
    Calls Tryd.prog 35 #[.int .u32 (U r), .slice ao 0 cap] w fun e w' => e = .returned (.int .u32 (U r)) ∧ w = w' := by
  go_enter Tryd.func35, Tryd.ntmps35
  go_wp2
  refine wp_loop_rounds 1 ?_
  rw [rounds_succ]
  go_wp2
  go_ret
  exact ⟨rfl, rfl⟩
theorem over_el (r : UInt32) (ao : Option Addr) (n cap : Nat) (l : List UInt8) (w : World) (hs : El w (.slice ao n cap) l) (ht : Tw w) (hr : n ≤ 140737488355328) :
    Calls Tryd.prog 35 #[.int .u32 (U r), .slice ao n cap] w fun e w' => e = .returned (.int .u32 (U (overc r l))) ∧ w = w' := by
  obtain ⟨ao', cap', he, _, _, _, hsl⟩ := hs
  injection he with e1 e2 e3
  subst e1 e3
  by_cases h : l = []
  · subst h
    subst e2
    exact over_empty r ao cap w
  · exact over_any r ao n cap l w (hsl h) ht hr

set_option maxHeartbeats 1000000 in
theorem Raw_el (b : Nat) (v p : Value) (l : List UInt8) (ts : List (List UInt8)) (O : Nat → Prop) (w : World) (hw : Wr w b v l) (hs : SlE w p ts O) (hO : ∀ k, O k → k < w.heap.size ∧ k ≠ b ∧ ¬ own v k) (hl : l.length + (cat ts).length ≤ 70368744177660) (hn : ts.length ≤ 70368744177660) :
    Calls Tryd.prog 33 #[.pointer (some ⟨b, 0, none⟩), p] w fun e w' => e = .returned (.tuple #[]) ∧ Grew b v l (cat ts) w w' := by
  have Hw := Lib.hid hw
  have Hs := Lib.hid hs
  obtain ⟨ao, cap, pv, rfl, h3, h4⟩ := hs
  have Hl := Lib.hid hl
  clear hw hl h4
  go_enter Tryd.func33, Tryd.ntmps33
  go_wp2
  go_loopw [5, 8] (fun _ i wr => ∃ k : Nat, k ≤ ts.length ∧ i = .int .i64 k ∧ Grew b v l (cat (ts.take k)) w wr) (fun _ i _ => ts.length - (intOf i).toNat)
  case atStart => exact ⟨0, Nat.zero_le _, rfl, by simpa [cat] using Grew.refl Hw.out⟩
  case round =>
    obtain ⟨k, hk, rfl, hg⟩ := hrel
    by_cases hlt : k < ts.length
    · obtain ⟨v1, ⟨hb, hown⟩, hu1, ho1⟩ := hg
      have hsl := Hs.out.upd hu1 (fun j hj h => h.elim (hO j hj).2.1 (hO j hj).2.2)
      obtain ⟨ao', cap', pv', he, h3', h4'⟩ := hsl
      cases he
      obtain ⟨ad, rfl⟩ : ∃ ad, ao = some ad := by
        cases ao with
        | some ad => exact ⟨ad, rfl⟩
        | none => have := h3 rfl; omega
      obtain ⟨hsp, _, h4'⟩ := h4' ad rfl
      obtain ⟨g, off, sp⟩ := ad
      obtain rfl : sp = none := hsp
      obtain ⟨hc, hsl1, hown1⟩ := h4' k hlt
      rw [show (⟨g, off, none⟩ : Addr).add k = ⟨g, off + k, none⟩ by unfold Addr.add; split <;> simp_all] at hc
      have hcb : wr.cell? ⟨b, 0, none⟩ = some v1 := cell_of_one hb
      have hblt := lt_of_block hb
      obtain ⟨ao3, cap3, hpv, _⟩ := id hsl1
      rw [hpv] at hc hsl1
      have Hb := Lib.hid hb
      have Hown := Lib.hid hown
      have Hu := Lib.hid hu1
      have Ho := Lib.hid ho1
      have Hsl := Lib.hid hsl1
      have hfl := flat_le hlt
      have Hlm := Lib.hid (show (l ++ (cat (ts.take k))).length + (ts.getD k []).length ≤ maxLen from by have := Hl.out; rw [List.length_append]; unfold maxLen; omega)
      have Hlb := Lib.hid (show (l ++ (cat (ts.take k))).length + (ts.getD k []).length ≤ 140737488355328 from by have := Hl.out; rw [List.length_append]; omega)
      have Hft := Lib.hid (flat_take hlt)
      clear hb hown hu1 ho1 hsl1 h3' h4' hown1 hpv hfl
      obtain ⟨t, ht⟩ : ∃ t, t = ts.getD k [] := ⟨_, rfl⟩
      rw [← ht] at hc Hsl Hlm Hlb Hft
      clear ht
      go_wp2_with (at_builtin; refine wpList_append_el _ rfl _ _ rfl v1 _ (l ++ cat (ts.take k)) t rfl rfl Hown.out _ rfl Hsl.out Hlm.out Hlb.out _ rfl ?_; intro ao2 cap2 w2 Hown2 Hgrow2 Hat2; have hc2 := cell_of_one (one_kept Hb.out (by decide) Hown.out (fun k hk => rfl) (Nat.le_refl _) Hgrow2.out); have hf2 := free_of_one (one_kept Hb.out (by decide) Hown.out (fun k hk => rfl) (Nat.le_refl _) Hgrow2.out))
      go_roundw
      case rel =>
        refine ⟨k + 1, by omega, by go_num, ?_⟩
        rw [Hft.out]
        have HG := Grew.then Hu.out Ho.out (back (news := t) Hb.out Hown.out rfl (Upd.refl _ _) (by have h := Hown2.out; rwa [List.map_append] at h) Hgrow2.out Hat2.out)
        simp only [List.length_append] at HG ⊢
        exact HG
      case measure => simp [intOf]; omega
    · have Hg := Lib.hid (show Grew b v l (cat ts) w wr by rw [List.take_of_length_le (by omega)] at hg; exact hg)
      clear hg
      go_wp2
      go_end0
      exact ⟨rfl, Hg.out⟩

theorem slE_one (w : World) (g : Nat) (v : Value) (xs : List UInt8) (O : Nat → Prop) (hg : w.heap[g]? = some (.cells #[v] 22 (0, 0))) (hs : El w v xs) (ho : xs ≠ [] → ∀ k, own v k → O k) (hO : O g) :
    SlE w (.slice (some ⟨g, 0, none⟩) 1 1) [xs] O := by
  refine ⟨_, 1, fun _ => v, rfl, by simp, fun a ha => ?_⟩
  injection ha with ha
  subst ha
  refine ⟨rfl, fun _ => hO, fun i hi => ?_⟩
  obtain rfl : i = 0 := by simpa using hi
  exact ⟨by rw [add_none, cell_of_row _ _ _ _ _ _ hg]; rfl, hs, ho⟩

set_option maxHeartbeats 4000000 in
theorem pack_el_some (n : Int) (ao : Option Addr) (m cap : Nat) (p : List UInt8) (w : World) (hk : nok n = true) (hm : m ≤ 65536) (hs : El w (.slice ao m cap) p) (ho : p ≠ [] → ∀ k, own (.slice ao m cap) k → k < w.heap.size) (ht : Tw w) :
    Calls Tryd.prog 11 #[.int .i64 n, .slice ao m cap] w (PackAt n p w) := by
  have hml : m = p.length := by obtain ⟨_, _, h, _⟩ := hs; injection h
  have HN := numbers_any n w
  rw [hk] at HN
  have H := Lib.hid HN
  have hn := (nok_iff _).1 hk
  obtain ⟨hn0, hn1⟩ := hn
  have Hk := Lib.hid hk
  have Hml := Lib.hid hml
  have Hs := Lib.hid hs
  have Ho := Lib.hid ho
  have Ht := Lib.hid ht
  have hmI : ¬ (65536 : Int) < (m : Int) := by omega
  have hdI : decide ((65536 : Int) < (m : Int)) = false := by simpa using hmI
  have e32 : IntKind.u32.wrap (m : Int) = (m : Int) := by rw [IntKind.wrap_u32']; omega
  clear HN hk hml hs ho ht
  go_enter Tryd.func11, Tryd.ntmps11
  go_wp2_with (go_at_call 28; refine H.out.mono ?_; rintro e w2 ⟨rfl, rfl⟩)
  refine (new_any _).mono ?_
  rintro e w1 ⟨rfl, hw1, hu1⟩
  obtain ⟨b, hb⟩ : ∃ b, b = w.heap.size := ⟨_, rfl⟩
  rw [← hb] at hw1 ⊢
  have K1 : Hid (Wk w w1 b (.slice none 0 0) []) := ⟨hw1, by omega, fun k h => by simp [own, Value.ownBlock] at h, hu1⟩
  have Hb := Lib.hid hb
  clear hw1 hu1 hb
  go_wp2_with fail
  refine (put8 b _ _ 209 w1 (by decide) (by decide) K1.out.wr (by simp)).mono ?_
  rintro e w2 ⟨rfl, hg⟩
  obtain ⟨v2, hk2⟩ := K1.out.grew hg
  have K2 := Lib.hid hk2
  clear hg hk2
  go_wp2_with fail
  refine (put32 b v2 _ (m : Int) w2 (by omega) (wf32 _ (by omega) (by omega)) K2.out.wr (by simp [be])).mono ?_
  rintro e w3 ⟨rfl, hg⟩
  obtain ⟨v3, hk3⟩ := K2.out.grew hg
  have e3 : [] ++ be 209 1 ++ be (m : Int) 4 = opening m := rfl
  rw [e3] at hk3
  have K3 := Lib.hid hk3
  clear hg hk3 e3
  go_wp2_with fail
  refine (all_any b v3 _ w3 K3.out.wr (by rw [opening_len]; omega)).mono ?_
  rintro e w4 ⟨v4, rfl, hown4, hu4⟩
  have K4 := Lib.hid (K3.out.upd' hu4)
  have hsl4 := Sl.of_row hown4
  obtain ⟨ao4, cap4, rfl, hrest⟩ := hsl4
  have HC := crc_any ao4 _ cap4 (opening m) w4 ⟨ao4, cap4, rfl, hrest⟩ (Ht.out.upd K4.out.upd id) (by rw [opening_len]; omega)
  obtain ⟨x, hx⟩ : ∃ x, x = crc (opening m) := ⟨_, rfl⟩
  rw [← hx] at HC
  have HC' := Lib.hid HC
  have Hx := Lib.hid hx
  clear hown4 hu4 hrest HC hx
  go_wp2_with fail
  refine HC'.out.mono ?_
  rintro e w5 ⟨rfl, rfl⟩
  go_wp2_with fail
  refine (put32 b v3 _ (U x) w4 (U_lo x) (wf32 _ (U_lo x) (U_hi x)) K4.out.wr (by rw [opening_len]; omega)).mono ?_
  rintro e w6 ⟨rfl, hg⟩
  obtain ⟨v6, hk6⟩ := K4.out.grew hg
  have K6 := Lib.hid hk6
  clear hg hk6
  go_wp2_with fail
  obtain ⟨w7, hw7⟩ : ∃ x, x = w6.alloc (.cells #[.slice ao m cap] 22) := ⟨_, rfl⟩
  obtain ⟨g7, hg7⟩ : ∃ x, x = w6.heap.size := ⟨_, rfl⟩
  have hb7 : w7.heap[g7]? = some (.cells #[.slice ao m cap] 22 (0, 0)) := by rw [hw7, hg7]; exact heap_alloc_new _ _
  have hs7 : w7.heap.size = g7 + 1 := by rw [hw7, hg7]; simp
  have hk7 := K6.out.upd' (w' := w7) (by rw [hw7]; exact (Upd.refl _ _).alloc _)
  have hsz : w.heap.size ≤ g7 := by rw [hg7]; exact K6.out.upd.size
  have hbl : b < g7 := by rw [hg7]; exact lt_of_block K6.out.wr.1
  have hvl : ∀ k, own v6 k → k < g7 := fun k h => by rw [hg7]; exact (K6.out.wr.2.lt k h).2
  have hsl7 := slE_one w7 g7 (.slice ao m cap) p (fun k => k < w.heap.size ∨ k = g7) hb7 (Hs.out.upd hk7.upd (fun _ _ _ => id)) (fun hn k h => .inl (Ho.out hn k h)) (.inr rfl)
  have HRw := Lib.hid (Raw_el b v6 _ _ [p] _ w7 hk7.wr hsl7 (by
    intro k hk
    rcases hk with hk | rfl
    · exact ⟨by omega, by have := Hb.out; omega, fun h => by have := hk7.hv k h; omega⟩
    · exact ⟨by omega, by omega, fun h => by have := hvl _ h; omega⟩) (by have := Hml.out; simp only [List.length_append, opening_len, be_len, cat, List.flatten_cons, List.flatten_nil, List.append_nil]; omega) (by simp))
  have K7 := Lib.hid hk7
  rw [← hw7, ← hg7]
  clear hw7 hg7 hb7 hk7 hvl hsl7
  refine HRw.out.mono ?_
  rintro e w8 ⟨rfl, hg⟩
  obtain ⟨v8, hk8⟩ := K7.out.grew hg
  have ec : cat [p] = p := by simp [cat]
  rw [ec] at hk8
  have K8 := Lib.hid hk8
  clear hg hk8 ec HRw
  go_wp2_with fail
  refine (numbered_any n w8 hn0 hn1 (Ht.out.upd K8.out.upd id)).mono ?_
  rintro e w9 ⟨rfl, hu9⟩
  have K9 := Lib.hid (K8.out.upd' hu9)
  have HO := over_el (nreg n) ao m cap p w9 (Hs.out.upd K9.out.upd (fun _ _ _ => id)) (Ht.out.upd K9.out.upd id) (by omega)
  obtain ⟨y, hy⟩ : ∃ y, y = overc (nreg n) p := ⟨_, rfl⟩
  obtain ⟨z, hz⟩ : ∃ z, z = nreg n := ⟨_, rfl⟩
  rw [← hy] at HO
  rw [← hz] at HO ⊢
  have HO' := Lib.hid HO
  have Hy := Lib.hid hy
  have Hz := Lib.hid hz
  clear hu9 HO hy hz
  go_wp2_with fail
  refine HO'.out.mono ?_
  rintro e w10 ⟨rfl, rfl⟩
  go_wp2_with fail
  refine (sum_any y w9).mono ?_
  rintro e w10 ⟨rfl, rfl⟩
  go_wp2_with fail
  refine (put32 b v8 _ (U (~~~ y)) w9 (U_lo _) (wf32 _ (U_lo _) (U_hi _)) K9.out.wr (by have := Hml.out; simp only [List.length_append, opening_len, be_len]; omega)).mono ?_
  rintro e w11 ⟨rfl, hg⟩
  obtain ⟨v11, hk11⟩ := K9.out.grew hg
  have ef : opening m ++ be (U x) 4 ++ p ++ be (U (~~~ y)) 4 = frame n p := by rw [Hx.out, Hy.out, Hml.out]; rfl
  rw [ef] at hk11
  have K11 := Lib.hid hk11
  clear hg hk11 ef
  go_wp2_with fail
  refine (all_any b v11 _ w11 K11.out.wr (by rw [frame_len]; have := Hml.out; omega)).mono ?_
  rintro e w12 ⟨v12, rfl, hown12, hu12⟩
  have HP : Hid (PackAt n p w (.returned (.tuple #[v12, .int .i64 0])) w12) := by
    refine .inl ⟨Hk.out, by have := Hml.out; omega, v12, rfl, World.ownsRow.mono hown12 K11.out.upd.size, K11.out.upd.trans (hu12.mono fun _ _ e => e.elim)⟩
  clear hown12 hu12
  go_wp2
  go_ret2
  exact HP.out

theorem pack_el (n : Int) (ao : Option Addr) (m cap : Nat) (p : List UInt8) (w : World) (hs : El w (.slice ao m cap) p) (ho : p ≠ [] → ∀ k, own (.slice ao m cap) k → k < w.heap.size) (ht : Tw w) :
    Calls Tryd.prog 11 #[.int .i64 n, .slice ao m cap] w (PackAt n p w) := by
  have hml : m = p.length := by obtain ⟨_, _, h, _⟩ := hs; injection h
  by_cases hk : nok n = true
  · by_cases hm : m ≤ 65536
    · exact pack_el_some n ao m cap p w hk hm hs ho ht
    · exact pack_long n ao m cap p w hk hml.symm (by omega)
  · exact pack_number n ao m cap p w (by simpa using hk)
end Go.Proofs.YtgfdnljblfkhkabDoor.FrPackE
