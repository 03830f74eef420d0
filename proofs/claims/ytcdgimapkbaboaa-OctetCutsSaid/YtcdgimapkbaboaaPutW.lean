/-
  octet.Put at the five types of numbers: it lays the number's bytes, the highest first, behind what the Writer holds.
-/
import Derived.Test.YtcdgimapkbaboaaMem
import Derived.Test.YtcdgimapkbaboaaWidthW
import Derived.Outline
import Derived.WalkSpells
import Derived.Deep.RegionLaw
import Derived.Deep.RegionHeld3
import Derived.Deep.Cut
import Derived.Deep.CutRange
import Derived.Deep.LoopGhost
namespace Go.Proofs.Ytcdgimapkbaboaa.PutW
open Go.RowKit Mem Width
set_option linter.unusedVariables false

/-- byte k (from the right) of a number -/
def byteAt (n : Int) (k : Nat) : UInt8 := UInt8.ofNat (n.toNat / 256 ^ k % 256)
/-- a number's k lowest bytes, the highest first -/
def be (n : Int) : Nat → List UInt8
  | 0 => []
  | k + 1 => byteAt n k :: be n k

/-- The Writer at b held l; now it holds news behind it. -/
def Grew (b : Nat) (v : Value) (l news : List UInt8) (w w' : World) : Prop :=
  ∃ v', Wr w' b v' (l ++ news) ∧ Upd (fun k => k = b ∨ own v k) w w' ∧ ∀ k, own v' k → own v k ∨ w.heap.size ≤ k

theorem Grew.refl {b : Nat} {v : Value} {l : List UInt8} {w : World} (h : Wr w b v l) : Grew b v l [] w w :=
  ⟨v, by simpa using h, Upd.refl _ _, fun k hk => .inl hk⟩

theorem Grew.then {b : Nat} {v v1 : Value} {l xs ys : List UInt8} {w w1 w2 : World} (hu1 : Upd (fun k => k = b ∨ own v k) w w1) (ho1 : ∀ k, own v1 k → own v k ∨ w.heap.size ≤ k)
    (k : Grew b v1 (l ++ xs) ys w1 w2) : Grew b v l (xs ++ ys) w w2 := by
  obtain ⟨v2, hw2, hu2, ho2⟩ := k
  refine ⟨v2, by simpa using hw2, hu1.trans (hu2.mono fun i _ hi => ?_), fun i hi => ?_⟩
  · rcases hi with hi | hi
    · exact .inl (.inl hi)
    · rcases ho1 i hi with hi | hi
      · exact .inl (.inr hi)
      · exact .inr hi
  · rcases ho2 i hi with hi | hi
    · exact ho1 i hi
    · exact .inr (Nat.le_trans hu1.size hi)
theorem Grew.trans {b : Nat} {v : Value} {l xs ys : List UInt8} {w w1 w2 : World} (h : Grew b v l xs w w1) (k : ∀ v1, Wr w1 b v1 (l ++ xs) → Grew b v1 (l ++ xs) ys w1 w2) : Grew b v l (xs ++ ys) w w2 := by
  obtain ⟨v1, hw1, hu1, ho1⟩ := h
  exact Grew.then hu1 ho1 (k v1 hw1)

/-- One byte is appended and the slice stored back. -/
theorem step {wr w1 : World} {b g cap : Nat} {v1 x : Value} {l : List UInt8} {c : UInt8} {o : Obj} (hb : wr.heap[b]? = some (.cells #[v1] 85 (0, 0))) (hown : wr.ownsRow 0 5 1 v1 l.length (l.map u8))
    (hx : x = u8 c) (hown1 : w1.ownsRow 0 5 1 (.slice (some ⟨g, 0, none⟩) (l.length + 1) cap) (l.length + 1) (l.map u8 ++ [x])) (hg : (wr.drew.alloc o).grownBy w1 v1.ownBlock)
    (hat : v1.ownBlock = some g ∨ g = (wr.drew.alloc o).heap.size) : Grew b v1 l [c] wr (w1.setCell ⟨b, 0, none⟩ (.slice (some ⟨g, 0, none⟩) (l.length + 1) cap)) := by
  have hu : Upd (fun _ => False) wr (wr.drew.alloc o) := (Upd.refl _ _).drew.alloc o
  have hb1 : w1.heap[b]? = some (.cells #[v1] 85 (0, 0)) := one_kept hb (by decide) hown (fun k hk => hu.block k hk id) hu.size hg
  refine ⟨_, ⟨one_setCell hb1, ?_⟩, upd_append (e := 5) (n := 0) (s := 1) (xs := []) hb hu hg, fun k hk => ?_⟩
  · have := row_stored (wr := wr) (nv := .slice (some ⟨g, 0, none⟩) (l.length + 1) cap) hb1 (by decide) hown1
    subst hx
    simpa using this
  · simp [own, Value.ownBlock] at hk
    subst hk
    rcases hat with h | h
    · exact .inl h
    · right; rw [h]; simp

theorem ret_u {a b : Value} (h : a = b) : Ending.returned a = .returned b := by rw [h]

theorem byteV (n : Int) (k : Nat) (h0 : 0 ≤ n) : Value.int .u8 (IntKind.u8.wrap (n / 256 ^ k)) = u8 (byteAt n k) := by
  obtain ⟨m, rfl⟩ := Int.eq_ofNat_of_zero_le h0
  simp only [u8, byteAt, Int.toNat_natCast, UInt8.toNat_ofNat']
  congr 1
  simp only [IntKind.wrap, IntKind.bits, IntKind.signed]
  have h := Int.natCast_ediv m (256 ^ k)
  simp at h ⊢
theorem byteV0 {n : Int} (h0 : 0 ≤ n) : Value.int .u8 (IntKind.u8.wrap n) = u8 (byteAt n 0) := by simpa using byteV n 0 h0
theorem byteV8 {n : Int} (h0 : 0 ≤ n) (h : (Lit.int .u8 n).wf = true) : Value.int .u8 n = u8 (byteAt n 0) := by
  have hx : 0 ≤ n ∧ n ≤ 255 := by simpa [Lit.wf, IntKind.min, IntKind.max, IntKind.signed, IntKind.bits] using h
  rw [← byteV0 h0]
  simp only [IntKind.wrap, IntKind.bits, IntKind.signed]
  congr 1
  simp
  omega

set_option maxHeartbeats 4000000 in
theorem put8 (b : Nat) (v : Value) (l : List UInt8) (n : Int) (w : World) (h0 : 0 ≤ n) (h1 : (Lit.int .u8 n).wf = true) (hw : Wr w b v l) (hl : l.length ≤ 140737488355300) :
    Calls Try.prog 10 #[.pointer (some ⟨b, 0, none⟩), .int .u8 n] w fun e w' => e = .returned (.tuple #[]) ∧ Grew b v l (be n 1) w w' := by
  have H1 := Lib.hid h1
  clear h1
  go_enter Try.func10, Try.ntmps10
  go_wp2_with (go_at_call 44; refine (width8 _).mono ?_; rintro e w' ⟨rfl, rfl⟩)
  go_loopw [4] (fun i wr => ∃ j : Nat, j ≤ 1 ∧ i = .int .i64 (0 - j) ∧ Grew b v l ((be n 1).take j) w wr) (fun i _ => (intOf i + 1).toNat)
  case atStart => exact ⟨0, by omega, rfl, by simpa using Grew.refl hw⟩
  case round =>
    obtain ⟨j, hj, rfl, hg⟩ := hrel
    clear hw
    by_cases hlt : j < 1
    · obtain ⟨v1, ⟨hb, hown⟩, hu1, ho1⟩ := hg
      have hc : wr.cell? ⟨b, 0, none⟩ = some v1 := cell_of_one hb
      have hblt := lt_of_block hb
      have hln : (l ++ (be n 1).take j).length ≤ 140737488355300 + 1 := by simp [be]; omega
      have Hb := Lib.hid hb
      have Hown := Lib.hid hown
      have Hu := Lib.hid hu1
      have Ho := Lib.hid ho1
      clear hb hown hu1 ho1
      have hjs : j = 0 := by omega
      rcases hjs with rfl
      · go_wp2
        obtain ⟨i0, hi, hz0, hz1, hz2⟩ := info_parts info8
        have e8 : IntKind.i64.wrap 0 = 0 := by decide
        go_region_law (refine step_append_lies _ rfl (.tmp 17) (.tmp 22) 30 rfl 0 5 i0 (.int .u8 0) 1 1 Try.underlying30 hi hz0 hz1 hz2 rfl (by decide) v1 _ _ (by simp [Act.eval]) (Hown.out.drew.alloc _) ⟨wr.heap.size, 0, none⟩ 1 1 [.int .u8 n] (by simp [Act.eval]) rfl (World.news_of_block (heap_alloc_new _ _)) (by simp [Value.oneCell']) (by omega) (by unfold maxLen; omega) (by omega) (Nat.zero_le _) _ rfl ?_; intro g cap w1 hown1 hgrow1 hat1 hlt1; have hc1 := cell_of_one (one_kept Hb.out (by decide) Hown.out (fun k hk => ((Upd.refl (fun _ => False) _).drew.alloc _).block k hk id) (by simp) hgrow1); have hf1 := free_of_one (one_kept Hb.out (by decide) Hown.out (fun k hk => ((Upd.refl (fun _ => False) _).drew.alloc _).block k hk id) (by simp) hgrow1); have HS := Lib.hid (Grew.then Hu.out Ho.out (step (c := byteAt n 0) Hb.out Hown.out (byteV8 h0 H1.out) hown1 hgrow1 hat1)); clear hown1 hgrow1 hat1)
        all_goals
          clear e8
          go_wp2
          go_roundw
          case rel => exact ⟨1, by omega, by go_num, by simpa [be] using HS.out⟩
          case measure => simp [intOf]
    · have Hg := Lib.hid (show Grew b v l (be n 1) w wr by rw [List.take_of_length_le (by simp [be]; omega)] at hg; exact hg)
      clear hg
      go_wp2
      go_end0
      exact ⟨rfl, Hg.out⟩

set_option maxHeartbeats 4000000 in
theorem put16 (b : Nat) (v : Value) (l : List UInt8) (n : Int) (w : World) (h0 : 0 ≤ n) (h1 : (Lit.int .u16 n).wf = true) (hw : Wr w b v l) (hl : l.length ≤ 140737488355300) :
    Calls Try.prog 17 #[.pointer (some ⟨b, 0, none⟩), .int .u16 n] w fun e w' => e = .returned (.tuple #[]) ∧ Grew b v l (be n 2) w w' := by
  have H1 := Lib.hid h1
  clear h1
  go_enter Try.func17, Try.ntmps17
  go_wp2_with (go_at_call 48; refine (width16 _).mono ?_; rintro e w' ⟨rfl, rfl⟩)
  go_loopw [4] (fun i wr => ∃ j : Nat, j ≤ 2 ∧ i = .int .i64 (1 - j) ∧ Grew b v l ((be n 2).take j) w wr) (fun i _ => (intOf i + 1).toNat)
  case atStart => exact ⟨0, by omega, rfl, by simpa using Grew.refl hw⟩
  case round =>
    obtain ⟨j, hj, rfl, hg⟩ := hrel
    clear hw
    by_cases hlt : j < 2
    · obtain ⟨v1, ⟨hb, hown⟩, hu1, ho1⟩ := hg
      have hc : wr.cell? ⟨b, 0, none⟩ = some v1 := cell_of_one hb
      have hblt := lt_of_block hb
      have hln : (l ++ (be n 2).take j).length ≤ 140737488355300 + 2 := by simp [be]; omega
      have Hb := Lib.hid hb
      have Hown := Lib.hid hown
      have Hu := Lib.hid hu1
      have Ho := Lib.hid ho1
      clear hb hown hu1 ho1
      have hjs : j = 0 ∨ j = 1 := by omega
      rcases hjs with rfl | rfl
      · go_wp2
        obtain ⟨i0, hi, hz0, hz1, hz2⟩ := info_parts info8
        have e8 : IntKind.i64.wrap 8 = 8 := by decide
        go_region_law (refine step_append_lies _ rfl (.tmp 17) (.tmp 23) 30 rfl 0 5 i0 (.int .u8 0) 1 1 Try.underlying30 hi hz0 hz1 hz2 rfl (by decide) v1 _ _ (by simp [Act.eval]) (Hown.out.drew.alloc _) ⟨wr.heap.size, 0, none⟩ 1 1 [.int .u8 (IntKind.u8.wrap (n / 256))] (by simp [Act.eval]) rfl (World.news_of_block (heap_alloc_new _ _)) (by simp [Value.oneCell']) (by omega) (by unfold maxLen; omega) (by omega) (Nat.zero_le _) _ rfl ?_; intro g cap w1 hown1 hgrow1 hat1 hlt1; have hc1 := cell_of_one (one_kept Hb.out (by decide) Hown.out (fun k hk => ((Upd.refl (fun _ => False) _).drew.alloc _).block k hk id) (by simp) hgrow1); have hf1 := free_of_one (one_kept Hb.out (by decide) Hown.out (fun k hk => ((Upd.refl (fun _ => False) _).drew.alloc _).block k hk id) (by simp) hgrow1); have HS := Lib.hid (Grew.then Hu.out Ho.out (step (c := byteAt n 1) Hb.out Hown.out (byteV n 1 h0) hown1 hgrow1 hat1)); clear hown1 hgrow1 hat1)
        all_goals
          clear e8
          go_wp2
          go_roundw
          case rel => exact ⟨1, by omega, by go_num, by simpa [be] using HS.out⟩
          case measure => simp [intOf]
      · go_wp2
        obtain ⟨i0, hi, hz0, hz1, hz2⟩ := info_parts info8
        have e8 : IntKind.i64.wrap 0 = 0 := by decide
        go_region_law (refine step_append_lies _ rfl (.tmp 17) (.tmp 23) 30 rfl 0 5 i0 (.int .u8 0) 1 1 Try.underlying30 hi hz0 hz1 hz2 rfl (by decide) v1 _ _ (by simp [Act.eval]) (Hown.out.drew.alloc _) ⟨wr.heap.size, 0, none⟩ 1 1 [.int .u8 (IntKind.u8.wrap (n))] (by simp [Act.eval]) rfl (World.news_of_block (heap_alloc_new _ _)) (by simp [Value.oneCell']) (by omega) (by unfold maxLen; omega) (by omega) (Nat.zero_le _) _ rfl ?_; intro g cap w1 hown1 hgrow1 hat1 hlt1; have hc1 := cell_of_one (one_kept Hb.out (by decide) Hown.out (fun k hk => ((Upd.refl (fun _ => False) _).drew.alloc _).block k hk id) (by simp) hgrow1); have hf1 := free_of_one (one_kept Hb.out (by decide) Hown.out (fun k hk => ((Upd.refl (fun _ => False) _).drew.alloc _).block k hk id) (by simp) hgrow1); have HS := Lib.hid (Grew.then Hu.out Ho.out (step (c := byteAt n 0) Hb.out Hown.out (byteV0 h0) hown1 hgrow1 hat1)); clear hown1 hgrow1 hat1)
        all_goals
          clear e8
          go_wp2
          go_roundw
          case rel => exact ⟨2, by omega, by go_num, by simpa [be] using HS.out⟩
          case measure => simp [intOf]
    · have Hg := Lib.hid (show Grew b v l (be n 2) w wr by rw [List.take_of_length_le (by simp [be]; omega)] at hg; exact hg)
      clear hg
      go_wp2
      go_end0
      exact ⟨rfl, Hg.out⟩

set_option maxHeartbeats 4000000 in
theorem put32 (b : Nat) (v : Value) (l : List UInt8) (n : Int) (w : World) (h0 : 0 ≤ n) (h1 : (Lit.int .u32 n).wf = true) (hw : Wr w b v l) (hl : l.length ≤ 140737488355300) :
    Calls Try.prog 64 #[.pointer (some ⟨b, 0, none⟩), .int .u32 n] w fun e w' => e = .returned (.tuple #[]) ∧ Grew b v l (be n 4) w w' := by
  have H1 := Lib.hid h1
  clear h1
  go_enter Try.func64, Try.ntmps64
  go_wp2_with (go_at_call 99; refine (width32 _).mono ?_; rintro e w' ⟨rfl, rfl⟩)
  go_loopw [4] (fun i wr => ∃ j : Nat, j ≤ 4 ∧ i = .int .i64 (3 - j) ∧ Grew b v l ((be n 4).take j) w wr) (fun i _ => (intOf i + 1).toNat)
  case atStart => exact ⟨0, by omega, rfl, by simpa using Grew.refl hw⟩
  case round =>
    obtain ⟨j, hj, rfl, hg⟩ := hrel
    clear hw
    by_cases hlt : j < 4
    · obtain ⟨v1, ⟨hb, hown⟩, hu1, ho1⟩ := hg
      have hc : wr.cell? ⟨b, 0, none⟩ = some v1 := cell_of_one hb
      have hblt := lt_of_block hb
      have hln : (l ++ (be n 4).take j).length ≤ 140737488355300 + 4 := by simp [be]; omega
      have Hb := Lib.hid hb
      have Hown := Lib.hid hown
      have Hu := Lib.hid hu1
      have Ho := Lib.hid ho1
      clear hb hown hu1 ho1
      have hjs : j = 0 ∨ j = 1 ∨ j = 2 ∨ j = 3 := by omega
      rcases hjs with rfl | rfl | rfl | rfl
      · go_wp2
        obtain ⟨i0, hi, hz0, hz1, hz2⟩ := info_parts info8
        have e8 : IntKind.i64.wrap 24 = 24 := by decide
        go_region_law (refine step_append_lies _ rfl (.tmp 17) (.tmp 23) 30 rfl 0 5 i0 (.int .u8 0) 1 1 Try.underlying30 hi hz0 hz1 hz2 rfl (by decide) v1 _ _ (by simp [Act.eval]) (Hown.out.drew.alloc _) ⟨wr.heap.size, 0, none⟩ 1 1 [.int .u8 (IntKind.u8.wrap (n / 16777216))] (by simp [Act.eval]) rfl (World.news_of_block (heap_alloc_new _ _)) (by simp [Value.oneCell']) (by omega) (by unfold maxLen; omega) (by omega) (Nat.zero_le _) _ rfl ?_; intro g cap w1 hown1 hgrow1 hat1 hlt1; have hc1 := cell_of_one (one_kept Hb.out (by decide) Hown.out (fun k hk => ((Upd.refl (fun _ => False) _).drew.alloc _).block k hk id) (by simp) hgrow1); have hf1 := free_of_one (one_kept Hb.out (by decide) Hown.out (fun k hk => ((Upd.refl (fun _ => False) _).drew.alloc _).block k hk id) (by simp) hgrow1); have HS := Lib.hid (Grew.then Hu.out Ho.out (step (c := byteAt n 3) Hb.out Hown.out (byteV n 3 h0) hown1 hgrow1 hat1)); clear hown1 hgrow1 hat1)
        all_goals
          clear e8
          go_wp2
          go_roundw
          case rel => exact ⟨1, by omega, by go_num, by simpa [be] using HS.out⟩
          case measure => simp [intOf]
      · go_wp2
        obtain ⟨i0, hi, hz0, hz1, hz2⟩ := info_parts info8
        have e8 : IntKind.i64.wrap 16 = 16 := by decide
        go_region_law (refine step_append_lies _ rfl (.tmp 17) (.tmp 23) 30 rfl 0 5 i0 (.int .u8 0) 1 1 Try.underlying30 hi hz0 hz1 hz2 rfl (by decide) v1 _ _ (by simp [Act.eval]) (Hown.out.drew.alloc _) ⟨wr.heap.size, 0, none⟩ 1 1 [.int .u8 (IntKind.u8.wrap (n / 65536))] (by simp [Act.eval]) rfl (World.news_of_block (heap_alloc_new _ _)) (by simp [Value.oneCell']) (by omega) (by unfold maxLen; omega) (by omega) (Nat.zero_le _) _ rfl ?_; intro g cap w1 hown1 hgrow1 hat1 hlt1; have hc1 := cell_of_one (one_kept Hb.out (by decide) Hown.out (fun k hk => ((Upd.refl (fun _ => False) _).drew.alloc _).block k hk id) (by simp) hgrow1); have hf1 := free_of_one (one_kept Hb.out (by decide) Hown.out (fun k hk => ((Upd.refl (fun _ => False) _).drew.alloc _).block k hk id) (by simp) hgrow1); have HS := Lib.hid (Grew.then Hu.out Ho.out (step (c := byteAt n 2) Hb.out Hown.out (byteV n 2 h0) hown1 hgrow1 hat1)); clear hown1 hgrow1 hat1)
        all_goals
          clear e8
          go_wp2
          go_roundw
          case rel => exact ⟨2, by omega, by go_num, by simpa [be] using HS.out⟩
          case measure => simp [intOf]
      · go_wp2
        obtain ⟨i0, hi, hz0, hz1, hz2⟩ := info_parts info8
        have e8 : IntKind.i64.wrap 8 = 8 := by decide
        go_region_law (refine step_append_lies _ rfl (.tmp 17) (.tmp 23) 30 rfl 0 5 i0 (.int .u8 0) 1 1 Try.underlying30 hi hz0 hz1 hz2 rfl (by decide) v1 _ _ (by simp [Act.eval]) (Hown.out.drew.alloc _) ⟨wr.heap.size, 0, none⟩ 1 1 [.int .u8 (IntKind.u8.wrap (n / 256))] (by simp [Act.eval]) rfl (World.news_of_block (heap_alloc_new _ _)) (by simp [Value.oneCell']) (by omega) (by unfold maxLen; omega) (by omega) (Nat.zero_le _) _ rfl ?_; intro g cap w1 hown1 hgrow1 hat1 hlt1; have hc1 := cell_of_one (one_kept Hb.out (by decide) Hown.out (fun k hk => ((Upd.refl (fun _ => False) _).drew.alloc _).block k hk id) (by simp) hgrow1); have hf1 := free_of_one (one_kept Hb.out (by decide) Hown.out (fun k hk => ((Upd.refl (fun _ => False) _).drew.alloc _).block k hk id) (by simp) hgrow1); have HS := Lib.hid (Grew.then Hu.out Ho.out (step (c := byteAt n 1) Hb.out Hown.out (byteV n 1 h0) hown1 hgrow1 hat1)); clear hown1 hgrow1 hat1)
        all_goals
          clear e8
          go_wp2
          go_roundw
          case rel => exact ⟨3, by omega, by go_num, by simpa [be] using HS.out⟩
          case measure => simp [intOf]
      · go_wp2
        obtain ⟨i0, hi, hz0, hz1, hz2⟩ := info_parts info8
        have e8 : IntKind.i64.wrap 0 = 0 := by decide
        go_region_law (refine step_append_lies _ rfl (.tmp 17) (.tmp 23) 30 rfl 0 5 i0 (.int .u8 0) 1 1 Try.underlying30 hi hz0 hz1 hz2 rfl (by decide) v1 _ _ (by simp [Act.eval]) (Hown.out.drew.alloc _) ⟨wr.heap.size, 0, none⟩ 1 1 [.int .u8 (IntKind.u8.wrap (n))] (by simp [Act.eval]) rfl (World.news_of_block (heap_alloc_new _ _)) (by simp [Value.oneCell']) (by omega) (by unfold maxLen; omega) (by omega) (Nat.zero_le _) _ rfl ?_; intro g cap w1 hown1 hgrow1 hat1 hlt1; have hc1 := cell_of_one (one_kept Hb.out (by decide) Hown.out (fun k hk => ((Upd.refl (fun _ => False) _).drew.alloc _).block k hk id) (by simp) hgrow1); have hf1 := free_of_one (one_kept Hb.out (by decide) Hown.out (fun k hk => ((Upd.refl (fun _ => False) _).drew.alloc _).block k hk id) (by simp) hgrow1); have HS := Lib.hid (Grew.then Hu.out Ho.out (step (c := byteAt n 0) Hb.out Hown.out (byteV0 h0) hown1 hgrow1 hat1)); clear hown1 hgrow1 hat1)
        all_goals
          clear e8
          go_wp2
          go_roundw
          case rel => exact ⟨4, by omega, by go_num, by simpa [be] using HS.out⟩
          case measure => simp [intOf]
    · have Hg := Lib.hid (show Grew b v l (be n 4) w wr by rw [List.take_of_length_le (by simp [be]; omega)] at hg; exact hg)
      clear hg
      go_wp2
      go_end0
      exact ⟨rfl, Hg.out⟩

set_option maxHeartbeats 4000000 in
theorem putMine (b : Nat) (v : Value) (l : List UInt8) (n : Int) (w : World) (h0 : 0 ≤ n) (h1 : (Lit.int .u16 n).wf = true) (hw : Wr w b v l) (hl : l.length ≤ 140737488355300) :
    Calls Try.prog 105 #[.pointer (some ⟨b, 0, none⟩), .int .u16 n] w fun e w' => e = .returned (.tuple #[]) ∧ Grew b v l (be n 2) w w' := by
  have H1 := Lib.hid h1
  clear h1
  go_enter Try.func105, Try.ntmps105
  go_wp2_with (go_at_call 106; refine (widthMine _).mono ?_; rintro e w' ⟨rfl, rfl⟩)
  go_loopw [4] (fun i wr => ∃ j : Nat, j ≤ 2 ∧ i = .int .i64 (1 - j) ∧ Grew b v l ((be n 2).take j) w wr) (fun i _ => (intOf i + 1).toNat)
  case atStart => exact ⟨0, by omega, rfl, by simpa using Grew.refl hw⟩
  case round =>
    obtain ⟨j, hj, rfl, hg⟩ := hrel
    clear hw
    by_cases hlt : j < 2
    · obtain ⟨v1, ⟨hb, hown⟩, hu1, ho1⟩ := hg
      have hc : wr.cell? ⟨b, 0, none⟩ = some v1 := cell_of_one hb
      have hblt := lt_of_block hb
      have hln : (l ++ (be n 2).take j).length ≤ 140737488355300 + 2 := by simp [be]; omega
      have Hb := Lib.hid hb
      have Hown := Lib.hid hown
      have Hu := Lib.hid hu1
      have Ho := Lib.hid ho1
      clear hb hown hu1 ho1
      have hjs : j = 0 ∨ j = 1 := by omega
      rcases hjs with rfl | rfl
      · go_wp2
        obtain ⟨i0, hi, hz0, hz1, hz2⟩ := info_parts info8
        have e8 : IntKind.i64.wrap 8 = 8 := by decide
        go_region_law (refine step_append_lies _ rfl (.tmp 17) (.tmp 23) 30 rfl 0 5 i0 (.int .u8 0) 1 1 Try.underlying30 hi hz0 hz1 hz2 rfl (by decide) v1 _ _ (by simp [Act.eval]) (Hown.out.drew.alloc _) ⟨wr.heap.size, 0, none⟩ 1 1 [.int .u8 (IntKind.u8.wrap (n / 256))] (by simp [Act.eval]) rfl (World.news_of_block (heap_alloc_new _ _)) (by simp [Value.oneCell']) (by omega) (by unfold maxLen; omega) (by omega) (Nat.zero_le _) _ rfl ?_; intro g cap w1 hown1 hgrow1 hat1 hlt1; have hc1 := cell_of_one (one_kept Hb.out (by decide) Hown.out (fun k hk => ((Upd.refl (fun _ => False) _).drew.alloc _).block k hk id) (by simp) hgrow1); have hf1 := free_of_one (one_kept Hb.out (by decide) Hown.out (fun k hk => ((Upd.refl (fun _ => False) _).drew.alloc _).block k hk id) (by simp) hgrow1); have HS := Lib.hid (Grew.then Hu.out Ho.out (step (c := byteAt n 1) Hb.out Hown.out (byteV n 1 h0) hown1 hgrow1 hat1)); clear hown1 hgrow1 hat1)
        all_goals
          clear e8
          go_wp2
          go_roundw
          case rel => exact ⟨1, by omega, by go_num, by simpa [be] using HS.out⟩
          case measure => simp [intOf]
      · go_wp2
        obtain ⟨i0, hi, hz0, hz1, hz2⟩ := info_parts info8
        have e8 : IntKind.i64.wrap 0 = 0 := by decide
        go_region_law (refine step_append_lies _ rfl (.tmp 17) (.tmp 23) 30 rfl 0 5 i0 (.int .u8 0) 1 1 Try.underlying30 hi hz0 hz1 hz2 rfl (by decide) v1 _ _ (by simp [Act.eval]) (Hown.out.drew.alloc _) ⟨wr.heap.size, 0, none⟩ 1 1 [.int .u8 (IntKind.u8.wrap (n))] (by simp [Act.eval]) rfl (World.news_of_block (heap_alloc_new _ _)) (by simp [Value.oneCell']) (by omega) (by unfold maxLen; omega) (by omega) (Nat.zero_le _) _ rfl ?_; intro g cap w1 hown1 hgrow1 hat1 hlt1; have hc1 := cell_of_one (one_kept Hb.out (by decide) Hown.out (fun k hk => ((Upd.refl (fun _ => False) _).drew.alloc _).block k hk id) (by simp) hgrow1); have hf1 := free_of_one (one_kept Hb.out (by decide) Hown.out (fun k hk => ((Upd.refl (fun _ => False) _).drew.alloc _).block k hk id) (by simp) hgrow1); have HS := Lib.hid (Grew.then Hu.out Ho.out (step (c := byteAt n 0) Hb.out Hown.out (byteV0 h0) hown1 hgrow1 hat1)); clear hown1 hgrow1 hat1)
        all_goals
          clear e8
          go_wp2
          go_roundw
          case rel => exact ⟨2, by omega, by go_num, by simpa [be] using HS.out⟩
          case measure => simp [intOf]
    · have Hg := Lib.hid (show Grew b v l (be n 2) w wr by rw [List.take_of_length_le (by simp [be]; omega)] at hg; exact hg)
      clear hg
      go_wp2
      go_end0
      exact ⟨rfl, Hg.out⟩
end Go.Proofs.Ytcdgimapkbaboaa.PutW
