/-
  octet.Put of 8 bytes.
-/
import Derived.Test.YtcdgimapkbaboaaPutW
namespace Go.Proofs.Ytcdgimapkbaboaa.PutW
open Go.RowKit Mem Width
set_option linter.unusedVariables false

set_option maxHeartbeats 4000000 in
theorem put64 (b : Nat) (v : Value) (l : List UInt8) (n : Int) (w : World) (h0 : 0 ≤ n) (h1 : (Lit.int .u64 n).wf = true) (hw : Wr w b v l) (hl : l.length ≤ 140737488355300) :
    Calls Try.prog 11 #[.pointer (some ⟨b, 0, none⟩), .int .u64 n] w fun e w' => e = .returned (.tuple #[]) ∧ Grew b v l (be n 8) w w' := by
  have H1 := Lib.hid h1
  clear h1
  go_enter Try.func11, Try.ntmps11
  go_wp2_with (go_at_call 45; refine (width64 _).mono ?_; rintro e w' ⟨rfl, rfl⟩)
  go_loopw [4] (fun i wr => ∃ j : Nat, j ≤ 8 ∧ i = .int .i64 (7 - j) ∧ Grew b v l ((be n 8).take j) w wr) (fun i _ => (intOf i + 1).toNat)
  case atStart => exact ⟨0, by omega, rfl, by simpa using Grew.refl hw⟩
  case round =>
    obtain ⟨j, hj, rfl, hg⟩ := hrel
    clear hw
    by_cases hlt : j < 8
    · obtain ⟨v1, ⟨hb, hown⟩, hu1, ho1⟩ := hg
      have hc : wr.cell? ⟨b, 0, none⟩ = some v1 := cell_of_one hb
      have hblt := lt_of_block hb
      have hln : (l ++ (be n 8).take j).length ≤ 140737488355300 + 8 := by simp [be]; omega
      have Hb := Lib.hid hb
      have Hown := Lib.hid hown
      have Hu := Lib.hid hu1
      have Ho := Lib.hid ho1
      clear hb hown hu1 ho1
      have hjs : j = 0 ∨ j = 1 ∨ j = 2 ∨ j = 3 ∨ j = 4 ∨ j = 5 ∨ j = 6 ∨ j = 7 := by omega
      rcases hjs with rfl | rfl | rfl | rfl | rfl | rfl | rfl | rfl
      · go_wp2
        obtain ⟨i0, hi, hz0, hz1, hz2⟩ := info_parts info8
        have e8 : IntKind.i64.wrap 56 = 56 := by decide
        go_region_law (refine step_append_lies _ rfl (.tmp 17) (.tmp 23) 30 rfl 0 5 i0 (.int .u8 0) 1 1 Try.underlying30 hi hz0 hz1 hz2 rfl (by decide) v1 _ _ (by simp [Act.eval]) (Hown.out.drew.alloc _) ⟨wr.heap.size, 0, none⟩ 1 1 [.int .u8 (IntKind.u8.wrap (n / 72057594037927936))] (by simp [Act.eval]) rfl (World.news_of_block (heap_alloc_new _ _)) (by simp [Value.oneCell']) (by omega) (by unfold maxLen; omega) (by omega) (Nat.zero_le _) _ rfl ?_; intro g cap w1 hown1 hgrow1 hat1 hlt1; have hc1 := cell_of_one (one_kept Hb.out (by decide) Hown.out (fun k hk => ((Upd.refl (fun _ => False) _).drew.alloc _).block k hk id) (by simp) hgrow1); have hf1 := free_of_one (one_kept Hb.out (by decide) Hown.out (fun k hk => ((Upd.refl (fun _ => False) _).drew.alloc _).block k hk id) (by simp) hgrow1); have HS := Lib.hid (Grew.then Hu.out Ho.out (step (c := byteAt n 7) Hb.out Hown.out (byteV n 7 h0) hown1 hgrow1 hat1)); clear hown1 hgrow1 hat1)
        all_goals
          clear e8
          go_wp2
          go_roundw
          case rel => exact ⟨1, by omega, by go_num, by simpa [be] using HS.out⟩
          case measure => simp [intOf]
      · go_wp2
        obtain ⟨i0, hi, hz0, hz1, hz2⟩ := info_parts info8
        have e8 : IntKind.i64.wrap 48 = 48 := by decide
        go_region_law (refine step_append_lies _ rfl (.tmp 17) (.tmp 23) 30 rfl 0 5 i0 (.int .u8 0) 1 1 Try.underlying30 hi hz0 hz1 hz2 rfl (by decide) v1 _ _ (by simp [Act.eval]) (Hown.out.drew.alloc _) ⟨wr.heap.size, 0, none⟩ 1 1 [.int .u8 (IntKind.u8.wrap (n / 281474976710656))] (by simp [Act.eval]) rfl (World.news_of_block (heap_alloc_new _ _)) (by simp [Value.oneCell']) (by omega) (by unfold maxLen; omega) (by omega) (Nat.zero_le _) _ rfl ?_; intro g cap w1 hown1 hgrow1 hat1 hlt1; have hc1 := cell_of_one (one_kept Hb.out (by decide) Hown.out (fun k hk => ((Upd.refl (fun _ => False) _).drew.alloc _).block k hk id) (by simp) hgrow1); have hf1 := free_of_one (one_kept Hb.out (by decide) Hown.out (fun k hk => ((Upd.refl (fun _ => False) _).drew.alloc _).block k hk id) (by simp) hgrow1); have HS := Lib.hid (Grew.then Hu.out Ho.out (step (c := byteAt n 6) Hb.out Hown.out (byteV n 6 h0) hown1 hgrow1 hat1)); clear hown1 hgrow1 hat1)
        all_goals
          clear e8
          go_wp2
          go_roundw
          case rel => exact ⟨2, by omega, by go_num, by simpa [be] using HS.out⟩
          case measure => simp [intOf]
      · go_wp2
        obtain ⟨i0, hi, hz0, hz1, hz2⟩ := info_parts info8
        have e8 : IntKind.i64.wrap 40 = 40 := by decide
        go_region_law (refine step_append_lies _ rfl (.tmp 17) (.tmp 23) 30 rfl 0 5 i0 (.int .u8 0) 1 1 Try.underlying30 hi hz0 hz1 hz2 rfl (by decide) v1 _ _ (by simp [Act.eval]) (Hown.out.drew.alloc _) ⟨wr.heap.size, 0, none⟩ 1 1 [.int .u8 (IntKind.u8.wrap (n / 1099511627776))] (by simp [Act.eval]) rfl (World.news_of_block (heap_alloc_new _ _)) (by simp [Value.oneCell']) (by omega) (by unfold maxLen; omega) (by omega) (Nat.zero_le _) _ rfl ?_; intro g cap w1 hown1 hgrow1 hat1 hlt1; have hc1 := cell_of_one (one_kept Hb.out (by decide) Hown.out (fun k hk => ((Upd.refl (fun _ => False) _).drew.alloc _).block k hk id) (by simp) hgrow1); have hf1 := free_of_one (one_kept Hb.out (by decide) Hown.out (fun k hk => ((Upd.refl (fun _ => False) _).drew.alloc _).block k hk id) (by simp) hgrow1); have HS := Lib.hid (Grew.then Hu.out Ho.out (step (c := byteAt n 5) Hb.out Hown.out (byteV n 5 h0) hown1 hgrow1 hat1)); clear hown1 hgrow1 hat1)
        all_goals
          clear e8
          go_wp2
          go_roundw
          case rel => exact ⟨3, by omega, by go_num, by simpa [be] using HS.out⟩
          case measure => simp [intOf]
      · go_wp2
        obtain ⟨i0, hi, hz0, hz1, hz2⟩ := info_parts info8
        have e8 : IntKind.i64.wrap 32 = 32 := by decide
        go_region_law (refine step_append_lies _ rfl (.tmp 17) (.tmp 23) 30 rfl 0 5 i0 (.int .u8 0) 1 1 Try.underlying30 hi hz0 hz1 hz2 rfl (by decide) v1 _ _ (by simp [Act.eval]) (Hown.out.drew.alloc _) ⟨wr.heap.size, 0, none⟩ 1 1 [.int .u8 (IntKind.u8.wrap (n / 4294967296))] (by simp [Act.eval]) rfl (World.news_of_block (heap_alloc_new _ _)) (by simp [Value.oneCell']) (by omega) (by unfold maxLen; omega) (by omega) (Nat.zero_le _) _ rfl ?_; intro g cap w1 hown1 hgrow1 hat1 hlt1; have hc1 := cell_of_one (one_kept Hb.out (by decide) Hown.out (fun k hk => ((Upd.refl (fun _ => False) _).drew.alloc _).block k hk id) (by simp) hgrow1); have hf1 := free_of_one (one_kept Hb.out (by decide) Hown.out (fun k hk => ((Upd.refl (fun _ => False) _).drew.alloc _).block k hk id) (by simp) hgrow1); have HS := Lib.hid (Grew.then Hu.out Ho.out (step (c := byteAt n 4) Hb.out Hown.out (byteV n 4 h0) hown1 hgrow1 hat1)); clear hown1 hgrow1 hat1)
        all_goals
          clear e8
          go_wp2
          go_roundw
          case rel => exact ⟨4, by omega, by go_num, by simpa [be] using HS.out⟩
          case measure => simp [intOf]
      · go_wp2
        obtain ⟨i0, hi, hz0, hz1, hz2⟩ := info_parts info8
        have e8 : IntKind.i64.wrap 24 = 24 := by decide
        go_region_law (refine step_append_lies _ rfl (.tmp 17) (.tmp 23) 30 rfl 0 5 i0 (.int .u8 0) 1 1 Try.underlying30 hi hz0 hz1 hz2 rfl (by decide) v1 _ _ (by simp [Act.eval]) (Hown.out.drew.alloc _) ⟨wr.heap.size, 0, none⟩ 1 1 [.int .u8 (IntKind.u8.wrap (n / 16777216))] (by simp [Act.eval]) rfl (World.news_of_block (heap_alloc_new _ _)) (by simp [Value.oneCell']) (by omega) (by unfold maxLen; omega) (by omega) (Nat.zero_le _) _ rfl ?_; intro g cap w1 hown1 hgrow1 hat1 hlt1; have hc1 := cell_of_one (one_kept Hb.out (by decide) Hown.out (fun k hk => ((Upd.refl (fun _ => False) _).drew.alloc _).block k hk id) (by simp) hgrow1); have hf1 := free_of_one (one_kept Hb.out (by decide) Hown.out (fun k hk => ((Upd.refl (fun _ => False) _).drew.alloc _).block k hk id) (by simp) hgrow1); have HS := Lib.hid (Grew.then Hu.out Ho.out (step (c := byteAt n 3) Hb.out Hown.out (byteV n 3 h0) hown1 hgrow1 hat1)); clear hown1 hgrow1 hat1)
        all_goals
          clear e8
          go_wp2
          go_roundw
          case rel => exact ⟨5, by omega, by go_num, by simpa [be] using HS.out⟩
          case measure => simp [intOf]
      · go_wp2
        obtain ⟨i0, hi, hz0, hz1, hz2⟩ := info_parts info8
        have e8 : IntKind.i64.wrap 16 = 16 := by decide
        go_region_law (refine step_append_lies _ rfl (.tmp 17) (.tmp 23) 30 rfl 0 5 i0 (.int .u8 0) 1 1 Try.underlying30 hi hz0 hz1 hz2 rfl (by decide) v1 _ _ (by simp [Act.eval]) (Hown.out.drew.alloc _) ⟨wr.heap.size, 0, none⟩ 1 1 [.int .u8 (IntKind.u8.wrap (n / 65536))] (by simp [Act.eval]) rfl (World.news_of_block (heap_alloc_new _ _)) (by simp [Value.oneCell']) (by omega) (by unfold maxLen; omega) (by omega) (Nat.zero_le _) _ rfl ?_; intro g cap w1 hown1 hgrow1 hat1 hlt1; have hc1 := cell_of_one (one_kept Hb.out (by decide) Hown.out (fun k hk => ((Upd.refl (fun _ => False) _).drew.alloc _).block k hk id) (by simp) hgrow1); have hf1 := free_of_one (one_kept Hb.out (by decide) Hown.out (fun k hk => ((Upd.refl (fun _ => False) _).drew.alloc _).block k hk id) (by simp) hgrow1); have HS := Lib.hid (Grew.then Hu.out Ho.out (step (c := byteAt n 2) Hb.out Hown.out (byteV n 2 h0) hown1 hgrow1 hat1)); clear hown1 hgrow1 hat1)
        all_goals
          clear e8
          go_wp2
          go_roundw
          case rel => exact ⟨6, by omega, by go_num, by simpa [be] using HS.out⟩
          case measure => simp [intOf]
      · go_wp2
        obtain ⟨i0, hi, hz0, hz1, hz2⟩ := info_parts info8
        have e8 : IntKind.i64.wrap 8 = 8 := by decide
        go_region_law (refine step_append_lies _ rfl (.tmp 17) (.tmp 23) 30 rfl 0 5 i0 (.int .u8 0) 1 1 Try.underlying30 hi hz0 hz1 hz2 rfl (by decide) v1 _ _ (by simp [Act.eval]) (Hown.out.drew.alloc _) ⟨wr.heap.size, 0, none⟩ 1 1 [.int .u8 (IntKind.u8.wrap (n / 256))] (by simp [Act.eval]) rfl (World.news_of_block (heap_alloc_new _ _)) (by simp [Value.oneCell']) (by omega) (by unfold maxLen; omega) (by omega) (Nat.zero_le _) _ rfl ?_; intro g cap w1 hown1 hgrow1 hat1 hlt1; have hc1 := cell_of_one (one_kept Hb.out (by decide) Hown.out (fun k hk => ((Upd.refl (fun _ => False) _).drew.alloc _).block k hk id) (by simp) hgrow1); have hf1 := free_of_one (one_kept Hb.out (by decide) Hown.out (fun k hk => ((Upd.refl (fun _ => False) _).drew.alloc _).block k hk id) (by simp) hgrow1); have HS := Lib.hid (Grew.then Hu.out Ho.out (step (c := byteAt n 1) Hb.out Hown.out (byteV n 1 h0) hown1 hgrow1 hat1)); clear hown1 hgrow1 hat1)
        all_goals
          clear e8
          go_wp2
          go_roundw
          case rel => exact ⟨7, by omega, by go_num, by simpa [be] using HS.out⟩
          case measure => simp [intOf]
      · go_wp2
        obtain ⟨i0, hi, hz0, hz1, hz2⟩ := info_parts info8
        have e8 : IntKind.i64.wrap 0 = 0 := by decide
        go_region_law (refine step_append_lies _ rfl (.tmp 17) (.tmp 23) 30 rfl 0 5 i0 (.int .u8 0) 1 1 Try.underlying30 hi hz0 hz1 hz2 rfl (by decide) v1 _ _ (by simp [Act.eval]) (Hown.out.drew.alloc _) ⟨wr.heap.size, 0, none⟩ 1 1 [.int .u8 (IntKind.u8.wrap (n))] (by simp [Act.eval]) rfl (World.news_of_block (heap_alloc_new _ _)) (by simp [Value.oneCell']) (by omega) (by unfold maxLen; omega) (by omega) (Nat.zero_le _) _ rfl ?_; intro g cap w1 hown1 hgrow1 hat1 hlt1; have hc1 := cell_of_one (one_kept Hb.out (by decide) Hown.out (fun k hk => ((Upd.refl (fun _ => False) _).drew.alloc _).block k hk id) (by simp) hgrow1); have hf1 := free_of_one (one_kept Hb.out (by decide) Hown.out (fun k hk => ((Upd.refl (fun _ => False) _).drew.alloc _).block k hk id) (by simp) hgrow1); have HS := Lib.hid (Grew.then Hu.out Ho.out (step (c := byteAt n 0) Hb.out Hown.out (byteV0 h0) hown1 hgrow1 hat1)); clear hown1 hgrow1 hat1)
        all_goals
          clear e8
          go_wp2
          go_roundw
          case rel => exact ⟨8, by omega, by go_num, by simpa [be] using HS.out⟩
          case measure => simp [intOf]
    · have Hg := Lib.hid (show Grew b v l (be n 8) w wr by rw [List.take_of_length_le (by simp [be]; omega)] at hg; exact hg)
      clear hg
      go_wp2
      go_end0
      exact ⟨rfl, Hg.out⟩
end Go.Proofs.Ytcdgimapkbaboaa.PutW
