/-
  Texts put together: WidthW, PutW, Put64W, WriterW, RawB.
-/
import Derived.Test.YtiglaeipbcmlnaaDoorRows
import Derived.WalkKit
import Derived.ProofKit
import Derived.Outline
import Derived.WalkSpells
import Derived.Lib.Hide
import Derived.Test.YtiglaeipbcmlnaaDoorMem
import Derived.Deep.RegionLaw
import Derived.Deep.RegionHeld3
import Derived.Deep.Cut
import Derived.Deep.CutRange
import Derived.Deep.LoopGhost
import Derived.Lib.SliceRun
import Derived.Test.YtiglaeipbcmlnaaDoorBookW
import Derived.Maps.AppendAt
import Derived.Laws.AppendOwnNone

/-
  octet.width at the four kinds of numbers: 1, 2, 4, 8 bytes.
-/
namespace Go.Proofs.YtiglaeipbcmlnaaDoor.Width
open Go.RowKit
set_option linter.unusedVariables false

set_option maxHeartbeats 1000000 in
theorem width8 (w : World) : Calls Tryd.prog 81 #[] w fun e w' => e = .returned (.int .i64 1) ∧ w = w' := by
  go_enter Tryd.func81, Tryd.ntmps81
  go_wp2
  refine wp_loop_rounds 2 ?_
  iterate 2 (rw [rounds_succ]; go_wp2)
  go_ret
  exact ⟨rfl, rfl⟩
set_option maxHeartbeats 1000000 in
theorem width64 (w : World) : Calls Tryd.prog 80 #[] w fun e w' => e = .returned (.int .i64 8) ∧ w = w' := by
  go_enter Tryd.func80, Tryd.ntmps80
  go_wp2
  refine wp_loop_rounds 9 ?_
  iterate 9 (rw [rounds_succ]; go_wp2)
  go_ret
  exact ⟨rfl, rfl⟩
end Go.Proofs.YtiglaeipbcmlnaaDoor.Width

/-
  octet.Put at the five types of numbers: it lays the number's bytes, the highest first, behind what the Writer holds.
-/
namespace Go.Proofs.YtiglaeipbcmlnaaDoor.PutW
open Go.RowKit Mem Width
set_option linter.unusedVariables false

/-- byte k (from the right) of a number -/
def byteAt (n : Int) (k : Nat) : UInt8 := UInt8.ofNat (n.toNat / 256 ^ k % 256)
/-- a number's k lowest bytes, the highest first -/
def be (n : Int) : Nat → List UInt8
  | 0 => []
  | k + 1 => byteAt n k :: be n k

/-- The Writer at b held l; now it holds news behind it. -/
def Grew (b : Nat) (v : Value) (l news : List UInt8) (w w' : World) : Prop :=
  ∃ v', Wr w' b v' (l ++ news) ∧ Upd (fun k => k = b ∨ own v k) w w' ∧ ∀ k, own v' k → own v k ∨ w.heap.size ≤ k

theorem Grew.refl {b : Nat} {v : Value} {l : List UInt8} {w : World} (h : Wr w b v l) : Grew b v l [] w w :=
  ⟨v, by simpa using h, Upd.refl _ _, fun k hk => .inl hk⟩

theorem Grew.then {b : Nat} {v v1 : Value} {l xs ys : List UInt8} {w w1 w2 : World} (hu1 : Upd (fun k => k = b ∨ own v k) w w1) (ho1 : ∀ k, own v1 k → own v k ∨ w.heap.size ≤ k)
    (k : Grew b v1 (l ++ xs) ys w1 w2) : Grew b v l (xs ++ ys) w w2 := by
  obtain ⟨v2, hw2, hu2, ho2⟩ := k
  refine ⟨v2, by simpa using hw2, hu1.trans (hu2.mono fun i _ hi => ?_), fun i hi => ?_⟩
  · rcases hi with hi | hi
    · exact .inl (.inl hi)
    · rcases ho1 i hi with hi | hi
      · exact .inl (.inr hi)
      · exact .inr hi
  · rcases ho2 i hi with hi | hi
    · exact ho1 i hi
    · exact .inr (Nat.le_trans hu1.size hi)
theorem Grew.trans {b : Nat} {v : Value} {l xs ys : List UInt8} {w w1 w2 : World} (h : Grew b v l xs w w1) (k : ∀ v1, Wr w1 b v1 (l ++ xs) → Grew b v1 (l ++ xs) ys w1 w2) : Grew b v l (xs ++ ys) w w2 := by
  obtain ⟨v1, hw1, hu1, ho1⟩ := h
  exact Grew.then hu1 ho1 (k v1 hw1)

/-- One byte is appended and the slice stored back. -/
theorem step {wr w1 : World} {b g cap : Nat} {v1 x : Value} {l : List UInt8} {c : UInt8} {o : Obj} (hb : wr.heap[b]? = some (.cells #[v1] 108 (0, 0))) (hown : wr.ownsRow 0 5 1 v1 l.length (l.map u8))
    (hx : x = u8 c) (hown1 : w1.ownsRow 0 5 1 (.slice (some ⟨g, 0, none⟩) (l.length + 1) cap) (l.length + 1) (l.map u8 ++ [x])) (hg : (wr.drew.alloc o).grownBy w1 v1.ownBlock)
    (hat : v1.ownBlock = some g ∨ g = (wr.drew.alloc o).heap.size) : Grew b v1 l [c] wr (w1.setCell ⟨b, 0, none⟩ (.slice (some ⟨g, 0, none⟩) (l.length + 1) cap)) := by
  have hu : Upd (fun _ => False) wr (wr.drew.alloc o) := (Upd.refl _ _).drew.alloc o
  have hb1 : w1.heap[b]? = some (.cells #[v1] 108 (0, 0)) := one_kept hb (by decide) hown (fun k hk => hu.block k hk id) hu.size hg
  refine ⟨_, ⟨one_setCell hb1, ?_⟩, upd_append (e := 5) (n := 0) (s := 1) (xs := []) hb hu hg, fun k hk => ?_⟩
  · have := row_stored (wr := wr) (nv := .slice (some ⟨g, 0, none⟩) (l.length + 1) cap) hb1 (by decide) hown1
    subst hx
    simpa using this
  · simp [own, Value.ownBlock] at hk
    subst hk
    rcases hat with h | h
    · exact .inl h
    · right; rw [h]; simp

theorem ret_u {a b : Value} (h : a = b) : Ending.returned a = .returned b := by rw [h]

theorem byteV (n : Int) (k : Nat) (h0 : 0 ≤ n) : Value.int .u8 (IntKind.u8.wrap (n / 256 ^ k)) = u8 (byteAt n k) := by
  obtain ⟨m, rfl⟩ := Int.eq_ofNat_of_zero_le h0
  simp only [u8, byteAt, Int.toNat_natCast, UInt8.toNat_ofNat']
  congr 1
  simp only [IntKind.wrap, IntKind.bits, IntKind.signed]
  have h := Int.natCast_ediv m (256 ^ k)
  simp at h ⊢
theorem byteV0 {n : Int} (h0 : 0 ≤ n) : Value.int .u8 (IntKind.u8.wrap n) = u8 (byteAt n 0) := by simpa using byteV n 0 h0
theorem byteV8 {n : Int} (h0 : 0 ≤ n) (h : (Lit.int .u8 n).wf = true) : Value.int .u8 n = u8 (byteAt n 0) := by
  have hx : 0 ≤ n ∧ n ≤ 255 := by simpa [Lit.wf, IntKind.min, IntKind.max, IntKind.signed, IntKind.bits] using h
  rw [← byteV0 h0]
  simp only [IntKind.wrap, IntKind.bits, IntKind.signed]
  congr 1
  simp
  omega

set_option maxHeartbeats 4000000 in
theorem put8 (b : Nat) (v : Value) (l : List UInt8) (n : Int) (w : World) (h0 : 0 ≤ n) (h1 : (Lit.int .u8 n).wf = true) (hw : Wr w b v l) (hl : l.length ≤ 140737488355300) :
    Calls Tryd.prog 72 #[.pointer (some ⟨b, 0, none⟩), .int .u8 n] w fun e w' => e = .returned (.tuple #[]) ∧ Grew b v l (be n 1) w w' := by
  have H1 := Lib.hid h1
  clear h1
  go_enter Tryd.func72, Tryd.ntmps72
  go_wp2_with (go_at_call 81; refine (width8 _).mono ?_; rintro e w' ⟨rfl, rfl⟩)
  go_loopw [4] (fun i wr => ∃ j : Nat, j ≤ 1 ∧ i = .int .i64 (0 - j) ∧ Grew b v l ((be n 1).take j) w wr) (fun i _ => (intOf i + 1).toNat)
  case atStart => exact ⟨0, by omega, rfl, by simpa using Grew.refl hw⟩
  case round =>
    obtain ⟨j, hj, rfl, hg⟩ := hrel
    clear hw
    by_cases hlt : j < 1
    · obtain ⟨v1, ⟨hb, hown⟩, hu1, ho1⟩ := hg
      have hc : wr.cell? ⟨b, 0, none⟩ = some v1 := cell_of_one hb
      have hblt := lt_of_block hb
      have hln : (l ++ (be n 1).take j).length ≤ 140737488355300 + 1 := by simp [be]; omega
      have Hb := Lib.hid hb
      have Hown := Lib.hid hown
      have Hu := Lib.hid hu1
      have Ho := Lib.hid ho1
      clear hb hown hu1 ho1
      have hjs : j = 0 := by omega
      rcases hjs with rfl
      · go_wp2
        obtain ⟨i0, hi, hz0, hz1, hz2⟩ := info_parts info8
        have e8 : IntKind.i64.wrap 0 = 0 := by decide
        go_region_law (refine step_append_lies _ rfl (.tmp 17) (.tmp 22) 25 rfl 0 5 i0 (.int .u8 0) 1 1 Tryd.underlying25 hi hz0 hz1 hz2 rfl (by decide) v1 _ _ (by simp [Act.eval]) (Hown.out.drew.alloc _) ⟨wr.heap.size, 0, none⟩ 1 1 [.int .u8 n] (by simp [Act.eval]) rfl (World.news_of_block (heap_alloc_new _ _)) (by simp [Value.oneCell']) (by omega) (by unfold maxLen; omega) (by omega) (Nat.zero_le _) _ rfl ?_; intro g cap w1 hown1 hgrow1 hat1 hlt1; have hc1 := cell_of_one (one_kept Hb.out (by decide) Hown.out (fun k hk => ((Upd.refl (fun _ => False) _).drew.alloc _).block k hk id) (by simp) hgrow1); have hf1 := free_of_one (one_kept Hb.out (by decide) Hown.out (fun k hk => ((Upd.refl (fun _ => False) _).drew.alloc _).block k hk id) (by simp) hgrow1); have HS := Lib.hid (Grew.then Hu.out Ho.out (step (c := byteAt n 0) Hb.out Hown.out (byteV8 h0 H1.out) hown1 hgrow1 hat1)); clear hown1 hgrow1 hat1)
        all_goals
          clear e8
          go_wp2
          go_roundw
          case rel => exact ⟨1, by omega, by go_num, by simpa [be] using HS.out⟩
          case measure => simp [intOf]
    · have Hg := Lib.hid (show Grew b v l (be n 1) w wr by rw [List.take_of_length_le (by simp [be]; omega)] at hg; exact hg)
      clear hg
      go_wp2
      go_end0
      exact ⟨rfl, Hg.out⟩



end Go.Proofs.YtiglaeipbcmlnaaDoor.PutW

/-
  octet.Put of 8 bytes.
-/
namespace Go.Proofs.YtiglaeipbcmlnaaDoor.PutW
open Go.RowKit Mem Width
set_option linter.unusedVariables false

set_option maxHeartbeats 4000000 in
theorem put64 (b : Nat) (v : Value) (l : List UInt8) (n : Int) (w : World) (h0 : 0 ≤ n) (h1 : (Lit.int .u64 n).wf = true) (hw : Wr w b v l) (hl : l.length ≤ 140737488355300) :
    Calls Tryd.prog 68 #[.pointer (some ⟨b, 0, none⟩), .int .u64 n] w fun e w' => e = .returned (.tuple #[]) ∧ Grew b v l (be n 8) w w' := by
  have H1 := Lib.hid h1
  clear h1
  go_enter Tryd.func68, Tryd.ntmps68
  go_wp2_with (go_at_call 80; refine (width64 _).mono ?_; rintro e w' ⟨rfl, rfl⟩)
  go_loopw [4] (fun i wr => ∃ j : Nat, j ≤ 8 ∧ i = .int .i64 (7 - j) ∧ Grew b v l ((be n 8).take j) w wr) (fun i _ => (intOf i + 1).toNat)
  case atStart => exact ⟨0, by omega, rfl, by simpa using Grew.refl hw⟩
  case round =>
    obtain ⟨j, hj, rfl, hg⟩ := hrel
    clear hw
    by_cases hlt : j < 8
    · obtain ⟨v1, ⟨hb, hown⟩, hu1, ho1⟩ := hg
      have hc : wr.cell? ⟨b, 0, none⟩ = some v1 := cell_of_one hb
      have hblt := lt_of_block hb
      have hln : (l ++ (be n 8).take j).length ≤ 140737488355300 + 8 := by simp [be]; omega
      have Hb := Lib.hid hb
      have Hown := Lib.hid hown
      have Hu := Lib.hid hu1
      have Ho := Lib.hid ho1
      clear hb hown hu1 ho1
      have hjs : j = 0 ∨ j = 1 ∨ j = 2 ∨ j = 3 ∨ j = 4 ∨ j = 5 ∨ j = 6 ∨ j = 7 := by omega
      rcases hjs with rfl | rfl | rfl | rfl | rfl | rfl | rfl | rfl
      · go_wp2
        obtain ⟨i0, hi, hz0, hz1, hz2⟩ := info_parts info8
        have e8 : IntKind.i64.wrap 56 = 56 := by decide
        go_region_law (refine step_append_lies _ rfl (.tmp 17) (.tmp 23) 25 rfl 0 5 i0 (.int .u8 0) 1 1 Tryd.underlying25 hi hz0 hz1 hz2 rfl (by decide) v1 _ _ (by simp [Act.eval]) (Hown.out.drew.alloc _) ⟨wr.heap.size, 0, none⟩ 1 1 [.int .u8 (IntKind.u8.wrap (n / 72057594037927936))] (by simp [Act.eval]) rfl (World.news_of_block (heap_alloc_new _ _)) (by simp [Value.oneCell']) (by omega) (by unfold maxLen; omega) (by omega) (Nat.zero_le _) _ rfl ?_; intro g cap w1 hown1 hgrow1 hat1 hlt1; have hc1 := cell_of_one (one_kept Hb.out (by decide) Hown.out (fun k hk => ((Upd.refl (fun _ => False) _).drew.alloc _).block k hk id) (by simp) hgrow1); have hf1 := free_of_one (one_kept Hb.out (by decide) Hown.out (fun k hk => ((Upd.refl (fun _ => False) _).drew.alloc _).block k hk id) (by simp) hgrow1); have HS := Lib.hid (Grew.then Hu.out Ho.out (step (c := byteAt n 7) Hb.out Hown.out (byteV n 7 h0) hown1 hgrow1 hat1)); clear hown1 hgrow1 hat1)
        all_goals
          clear e8
          go_wp2
          go_roundw
          case rel => exact ⟨1, by omega, by go_num, by simpa [be] using HS.out⟩
          case measure => simp [intOf]
      · go_wp2
        obtain ⟨i0, hi, hz0, hz1, hz2⟩ := info_parts info8
        have e8 : IntKind.i64.wrap 48 = 48 := by decide
        go_region_law (refine step_append_lies _ rfl (.tmp 17) (.tmp 23) 25 rfl 0 5 i0 (.int .u8 0) 1 1 Tryd.underlying25 hi hz0 hz1 hz2 rfl (by decide) v1 _ _ (by simp [Act.eval]) (Hown.out.drew.alloc _) ⟨wr.heap.size, 0, none⟩ 1 1 [.int .u8 (IntKind.u8.wrap (n / 281474976710656))] (by simp [Act.eval]) rfl (World.news_of_block (heap_alloc_new _ _)) (by simp [Value.oneCell']) (by omega) (by unfold maxLen; omega) (by omega) (Nat.zero_le _) _ rfl ?_; intro g cap w1 hown1 hgrow1 hat1 hlt1; have hc1 := cell_of_one (one_kept Hb.out (by decide) Hown.out (fun k hk => ((Upd.refl (fun _ => False) _).drew.alloc _).block k hk id) (by simp) hgrow1); have hf1 := free_of_one (one_kept Hb.out (by decide) Hown.out (fun k hk => ((Upd.refl (fun _ => False) _).drew.alloc _).block k hk id) (by simp) hgrow1); have HS := Lib.hid (Grew.then Hu.out Ho.out (step (c := byteAt n 6) Hb.out Hown.out (byteV n 6 h0) hown1 hgrow1 hat1)); clear hown1 hgrow1 hat1)
        all_goals
          clear e8
          go_wp2
          go_roundw
          case rel => exact ⟨2, by omega, by go_num, by simpa [be] using HS.out⟩
          case measure => simp [intOf]
      · go_wp2
        obtain ⟨i0, hi, hz0, hz1, hz2⟩ := info_parts info8
        have e8 : IntKind.i64.wrap 40 = 40 := by decide
        go_region_law (refine step_append_lies _ rfl (.tmp 17) (.tmp 23) 25 rfl 0 5 i0 (.int .u8 0) 1 1 Tryd.underlying25 hi hz0 hz1 hz2 rfl (by decide) v1 _ _ (by simp [Act.eval]) (Hown.out.drew.alloc _) ⟨wr.heap.size, 0, none⟩ 1 1 [.int .u8 (IntKind.u8.wrap (n / 1099511627776))] (by simp [Act.eval]) rfl (World.news_of_block (heap_alloc_new _ _)) (by simp [Value.oneCell']) (by omega) (by unfold maxLen; omega) (by omega) (Nat.zero_le _) _ rfl ?_; intro g cap w1 hown1 hgrow1 hat1 hlt1; have hc1 := cell_of_one (one_kept Hb.out (by decide) Hown.out (fun k hk => ((Upd.refl (fun _ => False) _).drew.alloc _).block k hk id) (by simp) hgrow1); have hf1 := free_of_one (one_kept Hb.out (by decide) Hown.out (fun k hk => ((Upd.refl (fun _ => False) _).drew.alloc _).block k hk id) (by simp) hgrow1); have HS := Lib.hid (Grew.then Hu.out Ho.out (step (c := byteAt n 5) Hb.out Hown.out (byteV n 5 h0) hown1 hgrow1 hat1)); clear hown1 hgrow1 hat1)
        all_goals
          clear e8
          go_wp2
          go_roundw
          case rel => exact ⟨3, by omega, by go_num, by simpa [be] using HS.out⟩
          case measure => simp [intOf]
      · go_wp2
        obtain ⟨i0, hi, hz0, hz1, hz2⟩ := info_parts info8
        have e8 : IntKind.i64.wrap 32 = 32 := by decide
        go_region_law (refine step_append_lies _ rfl (.tmp 17) (.tmp 23) 25 rfl 0 5 i0 (.int .u8 0) 1 1 Tryd.underlying25 hi hz0 hz1 hz2 rfl (by decide) v1 _ _ (by simp [Act.eval]) (Hown.out.drew.alloc _) ⟨wr.heap.size, 0, none⟩ 1 1 [.int .u8 (IntKind.u8.wrap (n / 4294967296))] (by simp [Act.eval]) rfl (World.news_of_block (heap_alloc_new _ _)) (by simp [Value.oneCell']) (by omega) (by unfold maxLen; omega) (by omega) (Nat.zero_le _) _ rfl ?_; intro g cap w1 hown1 hgrow1 hat1 hlt1; have hc1 := cell_of_one (one_kept Hb.out (by decide) Hown.out (fun k hk => ((Upd.refl (fun _ => False) _).drew.alloc _).block k hk id) (by simp) hgrow1); have hf1 := free_of_one (one_kept Hb.out (by decide) Hown.out (fun k hk => ((Upd.refl (fun _ => False) _).drew.alloc _).block k hk id) (by simp) hgrow1); have HS := Lib.hid (Grew.then Hu.out Ho.out (step (c := byteAt n 4) Hb.out Hown.out (byteV n 4 h0) hown1 hgrow1 hat1)); clear hown1 hgrow1 hat1)
        all_goals
          clear e8
          go_wp2
          go_roundw
          case rel => exact ⟨4, by omega, by go_num, by simpa [be] using HS.out⟩
          case measure => simp [intOf]
      · go_wp2
        obtain ⟨i0, hi, hz0, hz1, hz2⟩ := info_parts info8
        have e8 : IntKind.i64.wrap 24 = 24 := by decide
        go_region_law (refine step_append_lies _ rfl (.tmp 17) (.tmp 23) 25 rfl 0 5 i0 (.int .u8 0) 1 1 Tryd.underlying25 hi hz0 hz1 hz2 rfl (by decide) v1 _ _ (by simp [Act.eval]) (Hown.out.drew.alloc _) ⟨wr.heap.size, 0, none⟩ 1 1 [.int .u8 (IntKind.u8.wrap (n / 16777216))] (by simp [Act.eval]) rfl (World.news_of_block (heap_alloc_new _ _)) (by simp [Value.oneCell']) (by omega) (by unfold maxLen; omega) (by omega) (Nat.zero_le _) _ rfl ?_; intro g cap w1 hown1 hgrow1 hat1 hlt1; have hc1 := cell_of_one (one_kept Hb.out (by decide) Hown.out (fun k hk => ((Upd.refl (fun _ => False) _).drew.alloc _).block k hk id) (by simp) hgrow1); have hf1 := free_of_one (one_kept Hb.out (by decide) Hown.out (fun k hk => ((Upd.refl (fun _ => False) _).drew.alloc _).block k hk id) (by simp) hgrow1); have HS := Lib.hid (Grew.then Hu.out Ho.out (step (c := byteAt n 3) Hb.out Hown.out (byteV n 3 h0) hown1 hgrow1 hat1)); clear hown1 hgrow1 hat1)
        all_goals
          clear e8
          go_wp2
          go_roundw
          case rel => exact ⟨5, by omega, by go_num, by simpa [be] using HS.out⟩
          case measure => simp [intOf]
      · go_wp2
        obtain ⟨i0, hi, hz0, hz1, hz2⟩ := info_parts info8
        have e8 : IntKind.i64.wrap 16 = 16 := by decide
        go_region_law (refine step_append_lies _ rfl (.tmp 17) (.tmp 23) 25 rfl 0 5 i0 (.int .u8 0) 1 1 Tryd.underlying25 hi hz0 hz1 hz2 rfl (by decide) v1 _ _ (by simp [Act.eval]) (Hown.out.drew.alloc _) ⟨wr.heap.size, 0, none⟩ 1 1 [.int .u8 (IntKind.u8.wrap (n / 65536))] (by simp [Act.eval]) rfl (World.news_of_block (heap_alloc_new _ _)) (by simp [Value.oneCell']) (by omega) (by unfold maxLen; omega) (by omega) (Nat.zero_le _) _ rfl ?_; intro g cap w1 hown1 hgrow1 hat1 hlt1; have hc1 := cell_of_one (one_kept Hb.out (by decide) Hown.out (fun k hk => ((Upd.refl (fun _ => False) _).drew.alloc _).block k hk id) (by simp) hgrow1); have hf1 := free_of_one (one_kept Hb.out (by decide) Hown.out (fun k hk => ((Upd.refl (fun _ => False) _).drew.alloc _).block k hk id) (by simp) hgrow1); have HS := Lib.hid (Grew.then Hu.out Ho.out (step (c := byteAt n 2) Hb.out Hown.out (byteV n 2 h0) hown1 hgrow1 hat1)); clear hown1 hgrow1 hat1)
        all_goals
          clear e8
          go_wp2
          go_roundw
          case rel => exact ⟨6, by omega, by go_num, by simpa [be] using HS.out⟩
          case measure => simp [intOf]
      · go_wp2
        obtain ⟨i0, hi, hz0, hz1, hz2⟩ := info_parts info8
        have e8 : IntKind.i64.wrap 8 = 8 := by decide
        go_region_law (refine step_append_lies _ rfl (.tmp 17) (.tmp 23) 25 rfl 0 5 i0 (.int .u8 0) 1 1 Tryd.underlying25 hi hz0 hz1 hz2 rfl (by decide) v1 _ _ (by simp [Act.eval]) (Hown.out.drew.alloc _) ⟨wr.heap.size, 0, none⟩ 1 1 [.int .u8 (IntKind.u8.wrap (n / 256))] (by simp [Act.eval]) rfl (World.news_of_block (heap_alloc_new _ _)) (by simp [Value.oneCell']) (by omega) (by unfold maxLen; omega) (by omega) (Nat.zero_le _) _ rfl ?_; intro g cap w1 hown1 hgrow1 hat1 hlt1; have hc1 := cell_of_one (one_kept Hb.out (by decide) Hown.out (fun k hk => ((Upd.refl (fun _ => False) _).drew.alloc _).block k hk id) (by simp) hgrow1); have hf1 := free_of_one (one_kept Hb.out (by decide) Hown.out (fun k hk => ((Upd.refl (fun _ => False) _).drew.alloc _).block k hk id) (by simp) hgrow1); have HS := Lib.hid (Grew.then Hu.out Ho.out (step (c := byteAt n 1) Hb.out Hown.out (byteV n 1 h0) hown1 hgrow1 hat1)); clear hown1 hgrow1 hat1)
        all_goals
          clear e8
          go_wp2
          go_roundw
          case rel => exact ⟨7, by omega, by go_num, by simpa [be] using HS.out⟩
          case measure => simp [intOf]
      · go_wp2
        obtain ⟨i0, hi, hz0, hz1, hz2⟩ := info_parts info8
        have e8 : IntKind.i64.wrap 0 = 0 := by decide
        go_region_law (refine step_append_lies _ rfl (.tmp 17) (.tmp 23) 25 rfl 0 5 i0 (.int .u8 0) 1 1 Tryd.underlying25 hi hz0 hz1 hz2 rfl (by decide) v1 _ _ (by simp [Act.eval]) (Hown.out.drew.alloc _) ⟨wr.heap.size, 0, none⟩ 1 1 [.int .u8 (IntKind.u8.wrap (n))] (by simp [Act.eval]) rfl (World.news_of_block (heap_alloc_new _ _)) (by simp [Value.oneCell']) (by omega) (by unfold maxLen; omega) (by omega) (Nat.zero_le _) _ rfl ?_; intro g cap w1 hown1 hgrow1 hat1 hlt1; have hc1 := cell_of_one (one_kept Hb.out (by decide) Hown.out (fun k hk => ((Upd.refl (fun _ => False) _).drew.alloc _).block k hk id) (by simp) hgrow1); have hf1 := free_of_one (one_kept Hb.out (by decide) Hown.out (fun k hk => ((Upd.refl (fun _ => False) _).drew.alloc _).block k hk id) (by simp) hgrow1); have HS := Lib.hid (Grew.then Hu.out Ho.out (step (c := byteAt n 0) Hb.out Hown.out (byteV0 h0) hown1 hgrow1 hat1)); clear hown1 hgrow1 hat1)
        all_goals
          clear e8
          go_wp2
          go_roundw
          case rel => exact ⟨8, by omega, by go_num, by simpa [be] using HS.out⟩
          case measure => simp [intOf]
    · have Hg := Lib.hid (show Grew b v l (be n 8) w wr by rw [List.take_of_length_le (by simp [be]; omega)] at hg; exact hg)
      clear hg
      go_wp2
      go_end0
      exact ⟨rfl, Hg.out⟩
end Go.Proofs.YtiglaeipbcmlnaaDoor.PutW

/-
  bytes.Clone; octet.New, Len, All.
-/
namespace Go.Proofs.YtiglaeipbcmlnaaDoor.WriterW
open Go.RowKit Mem Width PutW
set_option linter.unusedVariables false

theorem Sl.of_row {w : World} {base : Nat} {v : Value} {l : List UInt8} (h : w.ownsRow base 5 1 v l.length (l.map u8)) : Sl w v l := by
  rcases h.2 with ⟨rfl, h0⟩ | ⟨g, cap, cur, rfl, hg, hh, hl, hm, hs, ht⟩
  · refine ⟨none, 0, by rw [h0], by omega, by unfold maxLen; omega, fun _ => rfl, (fun a ha => nomatch ha)⟩
  · refine ⟨some ⟨g, 0, none⟩, cap, rfl, hl, hm, (fun e => nomatch e), fun a ha => ?_⟩
    cases ha
    refine ⟨rfl, fun i hi => ?_⟩
    have hc := h.cells (g := g) rfl i (u8 (l.getD i 0)) (by simp [List.getD, hi])
    exact hc

/-- a new row of bytes, or nil, is returned -/
def Fresh (l : List UInt8) (w : World) (e : Ending) (w' : World) : Prop :=
  ∃ v', e = .returned v' ∧ w'.ownsRow w.heap.size 5 1 v' l.length (l.map u8) ∧ Upd (fun _ => False) w w'

set_option maxHeartbeats 400000 in
theorem clone_any (v : Value) (l : List UInt8) (w : World) (hs : Sl w v l) (hl : l.length ≤ 140737488355328) :
    Calls Tryd.prog 76 #[v] w (Fresh l w) := by
  obtain ⟨ao, cap, rfl, h1, h2, h3, h4⟩ := hs
  cases ao with
  | none =>
    obtain rfl := h3 rfl
    have h0 : l = [] := List.eq_nil_of_length_eq_zero (by omega)
    subst h0
    go_enter Tryd.func76, Tryd.ntmps76
    have hq := fun (w : World) => Lib.run_eql_slice_nil (P := Tryd.prog) w 25 5 none 0 0 0 0 Tryd.underlying25
    go_wp2
    go_ret
    exact ⟨_, rfl, World.ownsRow_nil _ _ _ _, Upd.refl _ _⟩
  | some a =>
    obtain ⟨hsp, hcell⟩ := h4 a rfl
    obtain ⟨bk, off, sp⟩ := a
    obtain rfl : sp = none := hsp
    have Hc := Lib.hid hcell
    have H2 := Lib.hid h2
    clear hcell h4 h3 h2
    have hq := fun (w : World) => Lib.run_eql_slice_nil (P := Tryd.prog) w 25 5 (some ⟨bk, off, none⟩) l.length cap 0 0 Tryd.underlying25
    go_enter Tryd.func76, Tryd.ntmps76
    have Hn := Lib.hid (show ∀ j u, (l.map u8)[j]? = some u → (w.alloc (.cells #[] 5)).cell? ((⟨bk, off, none⟩ : Addr).add j) = some u from fun j u hu => by
      have hj : j < l.length := by have := (List.getElem?_eq_some_iff.1 hu).1; simpa using this
      have e : u = u8 (l.getD j 0) := by simp [hj] at hu; simp [List.getD, hj, hu]
      rw [e]
      exact ((Upd.refl (fun _ => False) w).alloc _).cell (Hc.out j hj) id)
    have Ho := Lib.hid (World.ownsRow_made (base := w.heap.size) (size := 1) (e := 5) w #[] 0 (Nat.le_refl _) (by unfold maxLen; omega) (by simp))
    have H1 := Lib.hid (show ∀ u ∈ l.map u8, u.oneCell' = true from fun u hu => by obtain ⟨x, _, rfl⟩ := List.mem_map.1 hu; rfl)
    have Hm := Lib.hid (show 0 + l.length ≤ maxLen from by unfold maxLen; omega)
    have Hi := Lib.hid (info_parts info8)
    clear Hc H2
    go_wp2_with (at_builtin; obtain ⟨i0, hi, hz0, hz1, hz2⟩ := Hi.out; refine wpList_append_own _ rfl _ _ 25 rfl w.heap.size 5 i0 (.int .u8 0) 1 1 Tryd.underlying25 hi hz0 hz1 hz2 rfl (by decide) _ 0 [] rfl Ho.out ⟨bk, off, none⟩ l.length cap (l.map u8) rfl (by simp) Hn.out H1.out Hm.out (by omega) (by simp) ?_; clear hi hz0 hz1 hz2; intro v' w1 hown hgrow _; have Hown := Lib.hid hown; have Hgrow := Lib.hid hgrow; clear hown hgrow)
    go_ret
    refine ⟨_, rfl, by simpa using Hown.out, ((Upd.refl _ _).alloc _).trans (Upd.grown Hgrow.out fun k hk => ?_)⟩
    cases hk
    exact .inr (Nat.le_refl _)

theorem new_any (w : World) : Calls Tryd.prog 67 #[] w fun e w' => e = .returned (.pointer (some ⟨w.heap.size, 0, none⟩)) ∧ Wr w' w.heap.size (.slice none 0 0) [] ∧ Upd (fun _ => False) w w' := by
  go_enter Tryd.func67, Tryd.ntmps67
  go_wp2
  go_ret
  exact ⟨rfl, ⟨heap_alloc_new _ _, World.ownsRow_nil _ _ _ _⟩, (Upd.refl _ _).alloc _⟩


theorem all_any (b : Nat) (v : Value) (l : List UInt8) (w : World) (hw : Wr w b v l) (hl : l.length ≤ 140737488355328) :
    Calls Tryd.prog 69 #[.pointer (some ⟨b, 0, none⟩)] w (Fresh l w) := by
  obtain ⟨hb, hown⟩ := hw
  have hc := cell_of_one hb
  have Hs := Lib.hid (Sl.of_row hown)
  clear hb hown
  go_enter Tryd.func69, Tryd.ntmps69
  go_wp2_with fail
  refine (clone_any _ _ _ Hs.out hl).mono ?_
  rintro e w' ⟨v', rfl, hown, hu⟩
  have Hown := Lib.hid hown
  have Hu := Lib.hid hu
  clear hown hu
  go_wp2
  go_ret
  exact ⟨_, rfl, Hown.out, Hu.out⟩

/-- One row of bytes is appended and the slice stored back. -/
theorem step' {wr W w1 : World} {b g cap n : Nat} {v1 : Value} {l news : List UInt8} (hb : wr.heap[b]? = some (.cells #[v1] 108 (0, 0))) (hown : wr.ownsRow 0 5 1 v1 l.length (l.map u8))
    (hn : n = l.length + news.length) (hu : Upd (fun _ => False) wr W) (hown1 : w1.ownsRow 0 5 1 (.slice (some ⟨g, 0, none⟩) n cap) n (l.map u8 ++ news.map u8)) (hg : W.grownBy w1 v1.ownBlock)
    (hat : v1.ownBlock = some g ∨ wr.heap.size ≤ g) : Grew b v1 l news wr (w1.setCell ⟨b, 0, none⟩ (.slice (some ⟨g, 0, none⟩) n cap)) := by
  subst hn
  have hb1 : w1.heap[b]? = some (.cells #[v1] 108 (0, 0)) := one_kept hb (by decide) hown (fun k hk => hu.block k hk id) hu.size hg
  refine ⟨_, ⟨one_setCell hb1, ?_⟩, upd_append (e := 5) (n := 0) (s := 1) (xs := []) hb hu hg, fun k hk => ?_⟩
  · have := row_stored (wr := wr) (nv := .slice (some ⟨g, 0, none⟩) (l.length + news.length) cap) hb1 (by decide) hown1
    simpa using this
  · simp [own, Value.ownBlock] at hk
    subst hk
    exact hat

end Go.Proofs.YtiglaeipbcmlnaaDoor.WriterW

/-
  octet.Writer.Raw: a row of byte slices.
-/
namespace Go.Proofs.YtiglaeipbcmlnaaDoor.RawB
open Go.RowKit Sha Mem Width PutW WriterW RowW CopyW BookW
set_option linter.unusedVariables false

theorem Sl.form {w : World} {v : Value} {l : List UInt8} (h : Sl w v l) : ∃ ao cap, v = .slice ao l.length cap := by
  obtain ⟨ao, cap, rfl, _⟩ := h
  exact ⟨ao, cap, rfl⟩

/-- A slice value stored back behind an append of any kind. -/
theorem back {wr W w1 : World} {b : Nat} {v1 nv : Value} {l news : List UInt8} {n : Nat} (hb : wr.heap[b]? = some (.cells #[v1] 108 (0, 0))) (hown : wr.ownsRow 0 5 1 v1 l.length (l.map u8))
    (hn : n = l.length + news.length) (hu : Upd (fun _ => False) wr W) (hown1 : w1.ownsRow 0 5 1 nv n (l.map u8 ++ news.map u8)) (hg : W.grownBy w1 v1.ownBlock)
    (hat : nv.ownBlock = v1.ownBlock ∨ nv.ownBlock = some W.heap.size) : Grew b v1 l news wr (w1.setCell ⟨b, 0, none⟩ nv) := by
  subst hn
  have hb1 : w1.heap[b]? = some (.cells #[v1] 108 (0, 0)) := one_kept hb (by decide) hown (fun k hk => hu.block k hk id) hu.size hg
  refine ⟨_, ⟨one_setCell hb1, ?_⟩, upd_append (e := 5) (n := 0) (s := 1) (xs := []) hb hu hg, fun k hk => ?_⟩
  · have := ownsRow_setCell_other hown1 (a := ⟨b, 0, none⟩) (rowNe hb1 (by decide) hown1) nv
    simpa using this
  · rcases hat with h | h
    · left; unfold own at hk ⊢; rw [← h]; exact hk
    · right
      unfold own at hk
      rw [h] at hk
      cases hk
      exact hu.size

theorem row_form {w : World} {base n : Nat} {v : Value} {xs : List Value} (h : w.ownsRow base 5 1 v n xs) : ∃ ao cap, v = .slice ao n cap := by
  rcases h.2 with ⟨rfl, rfl⟩ | ⟨g, cap, cur, rfl, _⟩
  · exact ⟨_, _, rfl⟩
  · exact ⟨_, _, rfl⟩

/-- append(w.b, p...): p any slice of bytes, nil too -/
theorem wpList_append_sl (w : World) {ops : Array Oper} {rest : List Oper} {o : Oper} {a : Act} {Q : Exit → Act → World → Prop} (hgd : o.guard = none) (sl x : Operand)
    (ho : o.op = .call { callee := .builtin .append, args := #[sl, x], argTypes := #[25, 25] })
    (base : Nat) (v : Value) (l t : List UInt8) (hs : a.eval sl = v) (hown : w.ownsRow base 5 1 v l.length (l.map u8)) (sv : Value) (hx : a.eval x = sv) (hsl : Sl w sv t)
    (h63 : l.length + t.length ≤ maxLen) (hbytes : l.length + t.length ≤ 140737488355328) (hbase : base ≤ w.heap.size)
    (h : ∀ v' w', w'.ownsRow base 5 1 v' (l.length + t.length) (l.map u8 ++ t.map u8) → w.grownBy w' v.ownBlock → (v'.ownBlock = v.ownBlock ∨ v'.ownBlock = some w.heap.size) → wpList Tryd.prog ops Q rest (a.put o.dst v') w') :
    wpList Tryd.prog ops Q (o :: rest) a w := by
  obtain ⟨i0, hi, hz0, hz1, hz2⟩ := info_parts info8
  obtain ⟨ao, cap, rfl, h1, h2, h3, h4⟩ := hsl
  cases ao with
  | none =>
    obtain rfl := h3 rfl
    have h0 : t = [] := List.eq_nil_of_length_eq_zero (by omega)
    subst h0
    exact wpList_append_own_none hgd sl x 25 ho base 5 i0 1 Tryd.underlying25 hi v _ _ hs hown hx (h v w (by simpa using hown) (World.grownBy.refl _ _) (.inl rfl))
  | some ad =>
    obtain ⟨hsp, hcell⟩ := h4 ad rfl
    refine wpList_append_own_at w hgd sl x 25 ho base 5 i0 (.int .u8 0) 1 1 Tryd.underlying25 hi hz0 hz1 hz2 rfl (by decide) v _ _ hs hown ad t.length cap (t.map u8) hx (by simp) (fun j u hu => ?_) (fun u hu => ?_) h63 (by omega) hbase (fun v' w' a1 a2 _ a4 => h v' w' a1 a2 a4)
    · have hj : j < t.length := by have := (List.getElem?_eq_some_iff.1 hu).1; simpa using this
      have e : u = u8 (t.getD j 0) := by simp [hj] at hu; simp [List.getD, hj, hu]
      rw [e]
      exact hcell j hj
    · obtain ⟨_, _, rfl⟩ := List.mem_map.1 hu
      rfl

theorem be_length (n : Int) (k : Nat) : (be n k).length = k := by
  induction k with
  | zero => rfl
  | succ k ih => simp [be, ih]

/-- v is a slice of slices that read as ts; O: the blocks that they lie in -/
def SlL (w : World) (v : Value) (ts : List (List UInt8)) (O : Nat → Prop) : Prop :=
  ∃ ao cap, ∃ pv : Nat → Value, v = .slice ao ts.length cap ∧ (ao = none → ts.length = 0) ∧ (∀ k, own v k → O k) ∧
    ∀ a, ao = some a → a.spot = none ∧ ∀ i, i < ts.length → w.cell? (a.add i) = some (pv i) ∧ Sl w (pv i) (ts.getD i []) ∧ ∀ k, own (pv i) k → O k

theorem SlL.upd {S O : Nat → Prop} {w w' : World} {v : Value} {ts : List (List UInt8)} (h : SlL w v ts O) (hu : Upd S w w') (hd : ∀ k, O k → ¬ S k) : SlL w' v ts O := by
  obtain ⟨ao, cap, pv, rfl, h3, ho, h4⟩ := h
  refine ⟨ao, cap, pv, rfl, h3, ho, fun a ha => ⟨(h4 a ha).1, fun i hi => ?_⟩⟩
  subst ha
  obtain ⟨hc, hs, hp⟩ := (h4 a rfl).2 i hi
  refine ⟨hu.cell hc (hd _ (ho _ ?_)), hs.upd hu (fun k hk => hd k (hp k hk)), hp⟩
  simp [own, Value.ownBlock, Addr.add]
  split <;> rfl

/-- the parts, one behind the other -/
def cat (ts : List (List UInt8)) : List UInt8 := List.flatten ts
theorem cat_append (a b : List (List UInt8)) : cat (a ++ b) = cat a ++ cat b := by simp [cat]
theorem flat_take {ts : List (List UInt8)} {k : Nat} (h : k < ts.length) : cat (ts.take (k + 1)) = cat (ts.take k) ++ ts.getD k [] := by
  rw [List.take_succ_eq_append_getElem h, cat_append]
  simp [cat, List.getD, h]
theorem flat_take_le (ts : List (List UInt8)) (k : Nat) : (cat (ts.take k)).length ≤ (cat ts).length := by
  have h := cat_append (ts.take k) (ts.drop k)
  rw [List.take_append_drop] at h
  rw [h, List.length_append]
  omega
theorem flat_le {ts : List (List UInt8)} {k : Nat} (h : k < ts.length) : (cat (ts.take k)).length + (ts.getD k []).length ≤ (cat ts).length := by
  have := flat_take_le ts (k + 1)
  rw [flat_take h] at this
  simpa using this

set_option maxHeartbeats 1000000 in
theorem Raw_any (b : Nat) (v p : Value) (l : List UInt8) (ts : List (List UInt8)) (O : Nat → Prop) (w : World) (hw : Wr w b v l) (hs : SlL w p ts O) (hO : ∀ k, O k → k < w.heap.size ∧ k ≠ b ∧ ¬ own v k) (hl : l.length + (cat ts).length ≤ 140737488355328) (hn : ts.length ≤ 70368744177660) :
    Calls Tryd.prog 73 #[.pointer (some ⟨b, 0, none⟩), p] w fun e w' => e = .returned (.tuple #[]) ∧ Grew b v l (cat ts) w w' := by
  have Hw := Lib.hid hw
  have Hs := Lib.hid hs
  obtain ⟨ao, cap, pv, rfl, h3, ho, h4⟩ := hs
  have Hl := Lib.hid hl
  clear hw hl ho h4
  go_enter Tryd.func73, Tryd.ntmps73
  go_wp2
  go_loopw [5, 8] (fun _ i wr => ∃ k : Nat, k ≤ ts.length ∧ i = .int .i64 k ∧ Grew b v l (cat (ts.take k)) w wr) (fun _ i _ => ts.length - (intOf i).toNat)
  case atStart => exact ⟨0, Nat.zero_le _, rfl, by simpa [cat] using Grew.refl Hw.out⟩
  case round =>
    obtain ⟨k, hk, rfl, hg⟩ := hrel
    by_cases hlt : k < ts.length
    · obtain ⟨v1, ⟨hb, hown⟩, hu1, ho1⟩ := hg
      have hsl := Hs.out.upd hu1 (fun j hj h => h.elim (hO j hj).2.1 (hO j hj).2.2)
      obtain ⟨ao', cap', pv', he, h3', ho', h4'⟩ := hsl
      cases he
      obtain ⟨ad, rfl⟩ : ∃ ad, ao = some ad := by
        cases ao with
        | some ad => exact ⟨ad, rfl⟩
        | none => have := h3 rfl; omega
      obtain ⟨hsp, h4'⟩ := h4' ad rfl
      obtain ⟨g, off, sp⟩ := ad
      obtain rfl : sp = none := hsp
      obtain ⟨hc, hsl1, hown1⟩ := h4' k hlt
      rw [show (⟨g, off, none⟩ : Addr).add k = ⟨g, off + k, none⟩ by unfold Addr.add; split <;> simp_all] at hc
      have hcb : wr.cell? ⟨b, 0, none⟩ = some v1 := cell_of_one hb
      have hblt := lt_of_block hb
      obtain ⟨ao3, cap3, hpv⟩ := Sl.form hsl1
      rw [hpv] at hc hsl1
      have Hb := Lib.hid hb
      have Hown := Lib.hid hown
      have Hu := Lib.hid hu1
      have Ho := Lib.hid ho1
      have Hsl := Lib.hid hsl1
      have hfl := flat_le hlt
      have Hlm := Lib.hid (show (l ++ (cat (ts.take k))).length + (ts.getD k []).length ≤ maxLen from by have := Hl.out; rw [List.length_append]; unfold maxLen; omega)
      have Hlb := Lib.hid (show (l ++ (cat (ts.take k))).length + (ts.getD k []).length ≤ 140737488355328 from by have := Hl.out; rw [List.length_append]; omega)
      have Hft := Lib.hid (flat_take hlt)
      clear hb hown hu1 ho1 hsl1 h3' ho' h4' hown1 hpv hfl
      obtain ⟨t, ht⟩ : ∃ t, t = ts.getD k [] := ⟨_, rfl⟩
      rw [← ht] at hc Hsl Hlm Hlb Hft
      clear ht
      go_wp2_with (at_builtin; refine wpList_append_sl _ rfl _ _ rfl 0 v1 _ t rfl Hown.out _ rfl Hsl.out Hlm.out Hlb.out (Nat.zero_le _) ?_; intro v2 w2 hown2 hgrow2 hat2; obtain ⟨ao2, cap2, rfl⟩ := row_form hown2; have hc2 := cell_of_one (one_kept Hb.out (by decide) Hown.out (fun k hk => rfl) (Nat.le_refl _) hgrow2); have hf2 := free_of_one (one_kept Hb.out (by decide) Hown.out (fun k hk => rfl) (Nat.le_refl _) hgrow2); have Hown2 := Lib.hid hown2; have Hgrow2 := Lib.hid hgrow2; have Hat2 := Lib.hid hat2; clear hown2 hgrow2 hat2)
      go_roundw
      case rel =>
        refine ⟨k + 1, by omega, by go_num, ?_⟩
        rw [Hft.out]
        have HG := Grew.then Hu.out Ho.out (back (news := t) Hb.out Hown.out rfl (Upd.refl _ _) Hown2.out Hgrow2.out Hat2.out)
        simp only [List.length_append] at HG ⊢
        exact HG
      case measure => simp [intOf]; omega
    · have Hg := Lib.hid (show Grew b v l (cat ts) w wr by rw [List.take_of_length_le (by omega)] at hg; exact hg)
      clear hg
      go_wp2
      go_end0
      exact ⟨rfl, Hg.out⟩
end Go.Proofs.YtiglaeipbcmlnaaDoor.RawB
