/-
  docketlaw1.lays: a step is laid by the writer.
-/
import Derived.Test.YtcdgimapkbaboaaForthL
import Derived.Test.YtcdgimapkbaboaaWrFlag
import Derived.Test.YtcdgimapkbaboaaPut64W
import Derived.Test.YtcdgimapkbaboaaOpenOp
namespace Go.Proofs.Ytcdgimapkbaboaa.LaysW
open Go.RowKit Mem PutW TakeW FlagW ReadB ReadT ReadG StrW RawW TextsW DigW ForthL
set_option linter.unusedVariables false
set_option linter.unusedSimpArgs false

theorem grew_alloc {b : Nat} {v : Value} {l news : List UInt8} {w w1 w' : World} (h : Grew b v l news w1 w') (hu : Upd (fun _ => False) w w1) : Grew b v l news w w' := by
  obtain ⟨v', hw, hu', ho⟩ := h
  exact ⟨v', hw, (hu.mono (fun _ _ e => e.elim)).trans (hu'.mono (fun k _ e => .inl e)), fun k hk => (ho k hk).imp id fun h => Nat.le_trans hu.size h⟩
theorem wr_alloc {b : Nat} {v : Value} {l : List UInt8} {w : World} (h : Wr w b v l) (o : Obj) : Wr (w.alloc o) b v l := NamesW.Wr.upd h ((Upd.refl (fun _ => False) w).alloc o) id (fun _ _ => id)
/-- v is a slice of just one slice -/
theorem slL_one (w : World) (g : Nat) (p : Value) (xs : List UInt8) (hs : Sl w p xs) (hg : w.heap[g]? = some (.cells #[p] 30 (0, 0))) : RawW.SlL w (.slice (some ⟨g, 0, none⟩) 1 1) [xs] (fun k => k = g ∨ own p k) := by
  refine ⟨_, 1, fun _ => p, rfl, by simp, fun k hk => .inl ?_, fun a ha => ?_⟩
  · simp [own, Value.ownBlock] at hk; exact hk.symm
  · injection ha with ha
    subst ha
    refine ⟨rfl, fun i hi => ?_⟩
    have : i = 0 := by simp at hi; omega
    subst this
    refine ⟨?_, hs, fun k hk => .inr hk⟩
    have h1 : (⟨g, 0, none⟩ : Addr).add 0 = ⟨g, 0, none⟩ := by unfold Addr.add; simp
    rw [h1, cell_of_row _ _ _ _ _ _ hg]; rfl

set_option maxHeartbeats 4000000 in
set_option maxRecDepth 100000 in
theorem lays_1 (b : Nat) (v : Value) (l : List UInt8) (n : Nat) (x1 x3 x4 x5 x6 x7 x8 x9 x10 x11 : Value) (w : World) (hw : Wr w b v l) (hn : n < 256 ^ 1) (hl : l.length ≤ 140737488355300) :
    Calls Try.prog 37 #[.pointer (some ⟨b, 0, none⟩), .agg #[.int .i64 1, x1, .int .u64 (n : Int), x3, x4, x5, x6, x7, x8, x9, x10, x11]] w fun e w' => e = .returned (.bool true) ∧ Grew b v l (be (n : Int) 1) w w' := by
  obtain ⟨w1, hw1⟩ : ∃ x, x = w.alloc (.cells #[.int .i64 1, x1, .int .u64 (n : Int), x3, x4, x5, x6, x7, x8, x9, x10, x11] 54) := ⟨_, rfl⟩
  have hu1 : Upd (fun _ => False) w w1 := by rw [hw1]; exact (Upd.refl _ w).alloc _
  have hwr : Wr w1 b v l := NamesW.Wr.upd hw hu1 id (fun _ _ => id)
  have hs1 : w1.heap.size = w.heap.size + 1 := by rw [hw1]; simp
  have hn' : (n : Int) < 256 := by omega
  have hwp : IntKind.u8.wrap (n : Int) = (n : Int) := by simp [IntKind.wrap, IntKind.bits, IntKind.signed]; omega
  have HC := Lib.hid (put8 b v l (n : Int) w1 (by omega) (by simp [Lit.wf, IntKind.min, IntKind.max, IntKind.signed, IntKind.bits]; omega) hwr hl)
  have HU1 := Lib.hid hu1
  subst hw1
  clear hu1 hwr hs1 hw hl hn
  go_enter Try.func37, Try.ntmps37
  go_wp2_with fail
  refine HC.out.mono ?_
  rintro e w2 ⟨rfl, hg⟩
  have HG := Lib.hid (grew_alloc hg HU1.out)
  clear hg
  go_wp2
  go_ret
  exact ⟨rfl, HG.out⟩

set_option maxHeartbeats 4000000 in
set_option maxRecDepth 100000 in
theorem lays_2 (b : Nat) (v : Value) (l : List UInt8) (n : Nat) (x1 x3 x4 x5 x6 x7 x8 x9 x10 x11 : Value) (w : World) (hw : Wr w b v l) (hn : n < 256 ^ 2) (hl : l.length ≤ 140737488355300) :
    Calls Try.prog 37 #[.pointer (some ⟨b, 0, none⟩), .agg #[.int .i64 2, x1, .int .u64 (n : Int), x3, x4, x5, x6, x7, x8, x9, x10, x11]] w fun e w' => e = .returned (.bool true) ∧ Grew b v l (be (n : Int) 2) w w' := by
  obtain ⟨w1, hw1⟩ : ∃ x, x = w.alloc (.cells #[.int .i64 2, x1, .int .u64 (n : Int), x3, x4, x5, x6, x7, x8, x9, x10, x11] 54) := ⟨_, rfl⟩
  have hu1 : Upd (fun _ => False) w w1 := by rw [hw1]; exact (Upd.refl _ w).alloc _
  have hwr : Wr w1 b v l := NamesW.Wr.upd hw hu1 id (fun _ _ => id)
  have hs1 : w1.heap.size = w.heap.size + 1 := by rw [hw1]; simp
  have hn' : (n : Int) < 65536 := by omega
  have hwp : IntKind.u16.wrap (n : Int) = (n : Int) := by simp [IntKind.wrap, IntKind.bits, IntKind.signed]; omega
  have HC := Lib.hid (put16 b v l (n : Int) w1 (by omega) (by simp [Lit.wf, IntKind.min, IntKind.max, IntKind.signed, IntKind.bits]; omega) hwr hl)
  have HU1 := Lib.hid hu1
  subst hw1
  clear hu1 hwr hs1 hw hl hn
  go_enter Try.func37, Try.ntmps37
  go_wp2_with fail
  refine HC.out.mono ?_
  rintro e w2 ⟨rfl, hg⟩
  have HG := Lib.hid (grew_alloc hg HU1.out)
  clear hg
  go_wp2
  go_ret
  exact ⟨rfl, HG.out⟩

set_option maxHeartbeats 4000000 in
set_option maxRecDepth 100000 in
theorem lays_3 (b : Nat) (v : Value) (l : List UInt8) (n : Nat) (x1 x3 x4 x5 x6 x7 x8 x9 x10 x11 : Value) (w : World) (hw : Wr w b v l) (hn : n < 256 ^ 4) (hl : l.length ≤ 140737488355300) :
    Calls Try.prog 37 #[.pointer (some ⟨b, 0, none⟩), .agg #[.int .i64 3, x1, .int .u64 (n : Int), x3, x4, x5, x6, x7, x8, x9, x10, x11]] w fun e w' => e = .returned (.bool true) ∧ Grew b v l (be (n : Int) 4) w w' := by
  obtain ⟨w1, hw1⟩ : ∃ x, x = w.alloc (.cells #[.int .i64 3, x1, .int .u64 (n : Int), x3, x4, x5, x6, x7, x8, x9, x10, x11] 54) := ⟨_, rfl⟩
  have hu1 : Upd (fun _ => False) w w1 := by rw [hw1]; exact (Upd.refl _ w).alloc _
  have hwr : Wr w1 b v l := NamesW.Wr.upd hw hu1 id (fun _ _ => id)
  have hs1 : w1.heap.size = w.heap.size + 1 := by rw [hw1]; simp
  have hn' : (n : Int) < 4294967296 := by omega
  have hwp : IntKind.u32.wrap (n : Int) = (n : Int) := by simp [IntKind.wrap, IntKind.bits, IntKind.signed]; omega
  have HC := Lib.hid (put32 b v l (n : Int) w1 (by omega) (by simp [Lit.wf, IntKind.min, IntKind.max, IntKind.signed, IntKind.bits]; omega) hwr hl)
  have HU1 := Lib.hid hu1
  subst hw1
  clear hu1 hwr hs1 hw hl hn
  go_enter Try.func37, Try.ntmps37
  go_wp2_with fail
  refine HC.out.mono ?_
  rintro e w2 ⟨rfl, hg⟩
  have HG := Lib.hid (grew_alloc hg HU1.out)
  clear hg
  go_wp2
  go_ret
  exact ⟨rfl, HG.out⟩

set_option maxHeartbeats 4000000 in
set_option maxRecDepth 100000 in
theorem lays_4 (b : Nat) (v : Value) (l : List UInt8) (n : Nat) (x1 x3 x4 x5 x6 x7 x8 x9 x10 x11 : Value) (w : World) (hw : Wr w b v l) (hn : n < 256 ^ 8) (hl : l.length ≤ 140737488355300) :
    Calls Try.prog 37 #[.pointer (some ⟨b, 0, none⟩), .agg #[.int .i64 4, x1, .int .u64 (n : Int), x3, x4, x5, x6, x7, x8, x9, x10, x11]] w fun e w' => e = .returned (.bool true) ∧ Grew b v l (be (n : Int) 8) w w' := by
  obtain ⟨w1, hw1⟩ : ∃ x, x = w.alloc (.cells #[.int .i64 4, x1, .int .u64 (n : Int), x3, x4, x5, x6, x7, x8, x9, x10, x11] 54) := ⟨_, rfl⟩
  have hu1 : Upd (fun _ => False) w w1 := by rw [hw1]; exact (Upd.refl _ w).alloc _
  have hwr : Wr w1 b v l := NamesW.Wr.upd hw hu1 id (fun _ _ => id)
  have hs1 : w1.heap.size = w.heap.size + 1 := by rw [hw1]; simp
  have hn' : (n : Int) < 18446744073709551616 := by omega
  have hwp : IntKind.u64.wrap (n : Int) = (n : Int) := by simp [IntKind.wrap, IntKind.bits, IntKind.signed]; omega
  have HC := Lib.hid (put64 b v l (n : Int) w1 (by omega) (by simp [Lit.wf, IntKind.min, IntKind.max, IntKind.signed, IntKind.bits]; omega) hwr hl)
  have HU1 := Lib.hid hu1
  subst hw1
  clear hu1 hwr hs1 hw hl hn
  go_enter Try.func37, Try.ntmps37
  go_wp2_with fail
  refine HC.out.mono ?_
  rintro e w2 ⟨rfl, hg⟩
  have HG := Lib.hid (grew_alloc hg HU1.out)
  clear hg
  go_wp2
  go_ret
  exact ⟨rfl, HG.out⟩

set_option maxHeartbeats 4000000 in
set_option maxRecDepth 100000 in
theorem lays_5 (b : Nat) (v : Value) (l : List UInt8) (y : Bool) (x1 x2 x3 x5 x6 x7 x8 x9 x10 x11 : Value) (w : World) (hw : Wr w b v l) (hl : l.length ≤ 140737488355300) :
    Calls Try.prog 37 #[.pointer (some ⟨b, 0, none⟩), .agg #[.int .i64 5, x1, x2, x3, .bool y, x5, x6, x7, x8, x9, x10, x11]] w fun e w' => e = .returned (.bool true) ∧ Grew b v l [if y then 1 else 0] w w' := by
  obtain ⟨w1, hw1⟩ : ∃ x, x = w.alloc (.cells #[.int .i64 5, x1, x2, x3, .bool y, x5, x6, x7, x8, x9, x10, x11] 54) := ⟨_, rfl⟩
  have hu1 : Upd (fun _ => False) w w1 := by rw [hw1]; exact (Upd.refl _ w).alloc _
  have hwr : Wr w1 b v l := NamesW.Wr.upd hw hu1 id (fun _ _ => id)
  have hs1 : w1.heap.size = w.heap.size + 1 := by rw [hw1]; simp
  have HC := Lib.hid (WriterW.flag_any y b v l w1 hwr hl)
  obtain ⟨nw, hnw⟩ : ∃ n, n = [if y = true then (1 : UInt8) else 0] := ⟨_, rfl⟩
  rw [← hnw] at HC ⊢
  clear hnw
  have HU1 := Lib.hid hu1
  subst hw1
  clear hu1 hwr hs1 hw hl
  go_enter Try.func37, Try.ntmps37
  go_wp2_with fail
  refine HC.out.mono ?_
  rintro e w2 ⟨rfl, hg⟩
  have HG := Lib.hid (grew_alloc hg HU1.out)
  clear hg
  go_wp2
  go_ret
  exact ⟨rfl, HG.out⟩

set_option maxHeartbeats 4000000 in
set_option maxRecDepth 100000 in
theorem lays_6 (b : Nat) (v : Value) (l : List UInt8) (ao : Option Addr) (n cap : Nat) (ds : List (List UInt8)) (O : Nat → Prop) (x1 x2 x3 x4 x6 x7 x8 x9 x10 x11 : Value) (w : World) (hw : Wr w b v l) (hs : DgL w (.slice ao n cap) ds O) (hO : ∀ k, O k → k < w.heap.size ∧ k ≠ b ∧ ¬ own v k) (hl : l.length + 32 * ds.length ≤ 140737488355300) :
    Calls Try.prog 37 #[.pointer (some ⟨b, 0, none⟩), .agg #[.int .i64 6, x1, x2, x3, x4, .slice ao n cap, x6, x7, x8, x9, x10, x11]] w fun e w' => e = .returned (.bool true) ∧ Grew b v l (cat ds) w w' := by
  obtain ⟨w1, hw1⟩ : ∃ x, x = w.alloc (.cells #[.int .i64 6, x1, x2, x3, x4, .slice ao n cap, x6, x7, x8, x9, x10, x11] 54) := ⟨_, rfl⟩
  have hu1 : Upd (fun _ => False) w w1 := by rw [hw1]; exact (Upd.refl _ w).alloc _
  have hwr : Wr w1 b v l := NamesW.Wr.upd hw hu1 id (fun _ _ => id)
  have hs1 : w1.heap.size = w.heap.size + 1 := by rw [hw1]; simp
  have HC := Lib.hid (wdigests_any b v (.slice ao n cap) l ds O w1 hwr (hs.upd hu1 (fun _ _ => id)) (fun k h => ⟨by have := (hO k h).1; omega, (hO k h).2⟩) hl)
  have HU1 := Lib.hid hu1
  subst hw1
  clear hu1 hwr hs1 hw hl hs hO
  go_enter Try.func37, Try.ntmps37
  go_wp2_with fail
  refine HC.out.mono ?_
  rintro e w2 ⟨rfl, hg⟩
  have HG := Lib.hid (grew_alloc hg HU1.out)
  clear hg
  go_wp2
  go_ret
  exact ⟨rfl, HG.out⟩

set_option maxHeartbeats 4000000 in
set_option maxRecDepth 100000 in
theorem lays_7 (b : Nat) (v : Value) (l : List UInt8) (ao : Option Addr) (n cap : Nat) (xs : List UInt8) (x1 x2 x3 x4 x5 x6 x8 x9 x10 x11 : Value) (w : World) (hw : Wr w b v l) (hs : Sl w (.slice ao n cap) xs) (hO : ∀ k, own (.slice ao n cap) k → k < w.heap.size ∧ k ≠ b ∧ ¬ own v k) (hv : ∀ k, own v k → k < w.heap.size) (hl : l.length + xs.length ≤ 140737488355300) :
    Calls Try.prog 37 #[.pointer (some ⟨b, 0, none⟩), .agg #[.int .i64 7, x1, x2, x3, x4, x5, x6, .slice ao n cap, x8, x9, x10, x11]] w fun e w' => e = .returned (.bool true) ∧ Grew b v l xs w w' := by
  obtain ⟨w1, hw1⟩ : ∃ x, x = w.alloc (.cells #[.int .i64 7, x1, x2, x3, x4, x5, x6, .slice ao n cap, x8, x9, x10, x11] 54) := ⟨_, rfl⟩
  have hu1 : Upd (fun _ => False) w w1 := by rw [hw1]; exact (Upd.refl _ w).alloc _
  have hwr : Wr w1 b v l := NamesW.Wr.upd hw hu1 id (fun _ _ => id)
  have hs1 : w1.heap.size = w.heap.size + 1 := by rw [hw1]; simp
  obtain ⟨w2, hw2⟩ : ∃ x, x = w1.alloc (.cells #[.slice ao n cap] 30) := ⟨_, rfl⟩
  have hu2 : Upd (fun _ => False) w1 w2 := by rw [hw2]; exact (Upd.refl _ w1).alloc _
  have hnew : w2.heap[w1.heap.size]? = some (.cells #[.slice ao n cap] 30 (0, 0)) := by rw [hw2]; exact heap_alloc_new w1 _
  have hs2 : w2.heap.size = w1.heap.size + 1 := by rw [hw2]; simp
  have hblt := lt_of_block hw.1
  have HC := Lib.hid (RawW.Raw_any b v _ l [xs] _ w2 (NamesW.Wr.upd hwr hu2 id (fun _ _ => id)) (slL_one w2 w1.heap.size _ xs ((hs.upd hu1 (fun _ _ => id)).upd hu2 (fun _ _ => id)) hnew) (fun k hk => by
    rcases hk with rfl | hk
    · exact ⟨by omega, by omega, fun h => by have := hv _ h; omega⟩
    · have h := hO k hk
      exact ⟨by omega, h.2⟩) (by simpa [cat] using hl) (by simp))
  have hce : cat [xs] = xs := by simp [cat]
  rw [hce, hs1] at HC
  have HU1 : Hid (Upd (fun _ => False) w w2) := hu1.trans (hu2.mono (fun _ _ e => e.elim))
  subst hw2
  subst hw1
  clear hu1 hwr hs1 hw hl hs hO hv hu2 hnew hs2 hblt hce
  go_enter Try.func37, Try.ntmps37
  go_wp2_with fail
  refine HC.out.mono ?_
  rintro e w2 ⟨rfl, hg⟩
  have HG := Lib.hid (grew_alloc hg HU1.out)
  clear hg
  go_wp2
  go_ret
  exact ⟨rfl, HG.out⟩

set_option maxHeartbeats 4000000 in
set_option maxRecDepth 100000 in
theorem lays_8 (b : Nat) (v : Value) (l : List UInt8) (t : List UInt8) (most : Int) (x1 x2 x3 x4 x5 x6 x7 x9 x11 : Value) (w : World) (hw : Wr w b v l) (he : terr t.length most 65535 = 0) (hl : l.length + t.length ≤ 140737488355300) :
    Calls Try.prog 37 #[.pointer (some ⟨b, 0, none⟩), .agg #[.int .i64 8, x1, x2, x3, x4, x5, x6, x7, .string ⟨t.toArray⟩, x9, .int .i64 most, x11]] w fun e w' => e = .returned (.bool true) ∧ Grew b v l (be t.length 2 ++ t) w w' := by
  obtain ⟨w1, hw1⟩ : ∃ x, x = w.alloc (.cells #[.int .i64 8, x1, x2, x3, x4, x5, x6, x7, .string ⟨t.toArray⟩, x9, .int .i64 most, x11] 54) := ⟨_, rfl⟩
  have hu1 : Upd (fun _ => False) w w1 := by rw [hw1]; exact (Upd.refl _ w).alloc _
  have hwr : Wr w1 b v l := NamesW.Wr.upd hw hu1 id (fun _ _ => id)
  have hs1 : w1.heap.size = w.heap.size + 1 := by rw [hw1]; simp
  have HC := Lib.hid (Text_any b v l t most w1 hwr hl (by show t.toArray.size ≤ _; unfold maxLen; simp; omega))
  have HU1 := Lib.hid hu1
  have HE := Lib.hid he
  subst hw1
  clear hu1 hwr hs1 hw hl he
  go_enter Try.func37, Try.ntmps37
  go_wp2_with fail
  refine HC.out.mono ?_
  rintro e w2 ⟨rfl, hg⟩
  rw [HE.out]
  rw [HE.out, if_pos rfl] at hg
  have HG := Lib.hid (grew_alloc hg HU1.out)
  clear hg
  go_wp2
  go_ret
  exact ⟨rfl, HG.out⟩

set_option maxHeartbeats 4000000 in
set_option maxRecDepth 100000 in
theorem lays_9 (b : Nat) (v : Value) (l : List UInt8) (ao : Option Addr) (n cap : Nat) (t : List UInt8) (most : Int) (x1 x2 x3 x4 x5 x6 x8 x9 x11 : Value) (w : World) (hw : Wr w b v l) (hs : Sl w (.slice ao n cap) t) (hoff : Off (.slice ao n cap) v b) (he : terr t.length most 2147483647 = 0) (hl : l.length + t.length ≤ 140737488355300) :
    Calls Try.prog 37 #[.pointer (some ⟨b, 0, none⟩), .agg #[.int .i64 9, x1, x2, x3, x4, x5, x6, .slice ao n cap, x8, x9, .int .i64 most, x11]] w fun e w' => e = .returned (.bool true) ∧ Grew b v l (be t.length 4 ++ t) w w' := by
  obtain ⟨w1, hw1⟩ : ∃ x, x = w.alloc (.cells #[.int .i64 9, x1, x2, x3, x4, x5, x6, .slice ao n cap, x8, x9, .int .i64 most, x11] 54) := ⟨_, rfl⟩
  have hu1 : Upd (fun _ => False) w w1 := by rw [hw1]; exact (Upd.refl _ w).alloc _
  have hwr : Wr w1 b v l := NamesW.Wr.upd hw hu1 id (fun _ _ => id)
  have hs1 : w1.heap.size = w.heap.size + 1 := by rw [hw1]; simp
  have HC := Lib.hid (Bytes_any b v (.slice ao n cap) l t most w1 hwr (hs.upd hu1 (fun _ _ => id)) hoff hl)
  have HU1 := Lib.hid hu1
  have HE := Lib.hid he
  subst hw1
  clear hu1 hwr hs1 hw hl he hs hoff
  go_enter Try.func37, Try.ntmps37
  go_wp2_with fail
  refine HC.out.mono ?_
  rintro e w2 ⟨rfl, hg⟩
  rw [HE.out]
  rw [HE.out, if_pos rfl] at hg
  have HG := Lib.hid (grew_alloc hg HU1.out)
  clear hg
  go_wp2
  go_ret
  exact ⟨rfl, HG.out⟩

set_option maxHeartbeats 4000000 in
set_option maxRecDepth 100000 in
theorem lays_10 (b : Nat) (v : Value) (l : List UInt8) (ao : Option Addr) (n cap : Nat) (ss : List ByteArray) (most each : Int) (x1 x2 x3 x4 x5 x6 x7 x8 : Value) (w : World) (hw : Wr w b v l) (hs : StrL w (.slice ao n cap) ss) (hoff : ∀ k, own (.slice ao n cap) k → k < w.heap.size ∧ k ≠ b ∧ ¬ own v k) (he : tsErr ss most each = 0) (hl : l.length + (cat (ss.map form)).length ≤ 140737488355000) (hn : ss.length ≤ 70368744177660) :
    Calls Try.prog 37 #[.pointer (some ⟨b, 0, none⟩), .agg #[.int .i64 10, x1, x2, x3, x4, x5, x6, x7, x8, .slice ao n cap, .int .i64 most, .int .i64 each]] w fun e w' => e = .returned (.bool true) ∧ Grew b v l (forms ss) w w' := by
  obtain ⟨w1, hw1⟩ : ∃ x, x = w.alloc (.cells #[.int .i64 10, x1, x2, x3, x4, x5, x6, x7, x8, .slice ao n cap, .int .i64 most, .int .i64 each] 54) := ⟨_, rfl⟩
  have hu1 : Upd (fun _ => False) w w1 := by rw [hw1]; exact (Upd.refl _ w).alloc _
  have hwr : Wr w1 b v l := NamesW.Wr.upd hw hu1 id (fun _ _ => id)
  have hs1 : w1.heap.size = w.heap.size + 1 := by rw [hw1]; simp
  have HC := Lib.hid (Texts_any b v (.slice ao n cap) l ss most each w1 hwr (hs.upd hu1 (fun _ _ => id)) (fun k h => ⟨by have := (hoff k h).1; omega, (hoff k h).2⟩) hl hn)
  have HU1 := Lib.hid hu1
  have HE := Lib.hid he
  subst hw1
  clear hu1 hwr hs1 hw hl he hs hoff hn
  go_enter Try.func37, Try.ntmps37
  go_wp2_with fail
  refine HC.out.mono ?_
  rintro e w2 ⟨rfl, hg⟩
  rw [HE.out]
  rw [HE.out, if_pos rfl] at hg
  have HG := Lib.hid (grew_alloc hg HU1.out)
  clear hg
  go_wp2
  go_ret
  exact ⟨rfl, HG.out⟩

set_option maxHeartbeats 4000000 in
set_option maxRecDepth 100000 in
theorem lays_other (b : Nat) (v : Value) (l : List UInt8) (kind : Int) (x1 x2 x3 x4 x5 x6 x7 x8 x9 x10 x11 : Value) (w : World) (hw : Wr w b v l) (hk : ∀ i : Int, 1 ≤ i → i ≤ 10 → kind ≠ i) :
    Calls Try.prog 37 #[.pointer (some ⟨b, 0, none⟩), .agg #[.int .i64 kind, x1, x2, x3, x4, x5, x6, x7, x8, x9, x10, x11]] w fun e w' => e = .returned (.bool true) ∧ Grew b v l [] w w' := by
  obtain ⟨w1, hw1⟩ : ∃ x, x = w.alloc (.cells #[.int .i64 kind, x1, x2, x3, x4, x5, x6, x7, x8, x9, x10, x11] 54) := ⟨_, rfl⟩
  have hu1 : Upd (fun _ => False) w w1 := by rw [hw1]; exact (Upd.refl _ w).alloc _
  have hwr : Wr w1 b v l := NamesW.Wr.upd hw hu1 id (fun _ _ => id)
  have hs1 : w1.heap.size = w.heap.size + 1 := by rw [hw1]; simp
  have HG : Hid (Grew b v l [] w w1) := grew_alloc (Grew.refl hwr) hu1
  have h1 : ¬ kind = 1 := hk 1 (by decide) (by decide)
  have h2 : ¬ kind = 2 := hk 2 (by decide) (by decide)
  have h3 : ¬ kind = 3 := hk 3 (by decide) (by decide)
  have h4 : ¬ kind = 4 := hk 4 (by decide) (by decide)
  have h5 : ¬ kind = 5 := hk 5 (by decide) (by decide)
  have h6 : ¬ kind = 6 := hk 6 (by decide) (by decide)
  have h7 : ¬ kind = 7 := hk 7 (by decide) (by decide)
  have h8 : ¬ kind = 8 := hk 8 (by decide) (by decide)
  have h9 : ¬ kind = 9 := hk 9 (by decide) (by decide)
  have h10 : ¬ kind = 10 := hk 10 (by decide) (by decide)
  subst hw1
  clear hu1 hwr hs1 hw hk
  go_enter Try.func37, Try.ntmps37
  go_wp2
  go_ret
  exact ⟨rfl, HG.out⟩
end Go.Proofs.Ytcdgimapkbaboaa.LaysW
