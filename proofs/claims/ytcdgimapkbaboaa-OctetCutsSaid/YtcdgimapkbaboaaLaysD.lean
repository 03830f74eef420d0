/-
  docketlaw1.lays: a step that came in is laid, or refused.
-/
import Derived.Test.YtcdgimapkbaboaaLaysW
import Derived.Test.YtcdgimapkbaboaaRawE
namespace Go.Proofs.Ytcdgimapkbaboaa.LaysD
open Go.RowKit Mem PutW TakeW FlagW ReadB ReadT ReadG StrW RawW TextsW DigW ForthL LaysW ListsB RawE
set_option linter.unusedVariables false
set_option linter.unusedSimpArgs false

/-- what a step bears -/
structure OpD where
  k : Int
  n : Nat
  many : Int
  y : Bool
  ds : List (List UInt8)
  xs : List UInt8
  st : List UInt8
  ss : List ByteArray
  most : Int
  each : Int
/-- a slice of digests, of strings, that may be empty wherever it points -/
def DgE (w : World) (v : Value) (ds : List (List UInt8)) (O : Nat → Prop) : Prop := ∃ ao cap, v = .slice ao ds.length cap ∧ (ds ≠ [] → DgL w v ds O)
def StE (w : World) (v : Value) (ss : List ByteArray) (O : Nat → Prop) : Prop := ∃ ao cap, v = .slice ao ss.length cap ∧ (ss ≠ [] → StrL w v ss ∧ ∀ k, own v k → O k)
/-- these cells are that step's -/
structure OpH (w : World) (cs : List Value) (o : OpD) (O : Nat → Prop) : Prop where
  cells : ∃ x1 dv x6 pv lv, cs = [.int .i64 o.k, x1, .int .u64 (o.n : Int), .int .i64 o.many, .bool o.y, dv, x6, pv, .string ⟨o.st.toArray⟩, lv, .int .i64 o.most, .int .i64 o.each] ∧
    DgE w dv o.ds O ∧ El w pv o.xs ∧ (o.xs ≠ [] → ∀ k, own pv k → O k) ∧ StE w lv o.ss O
  n64 : o.n < 18446744073709551616
def newsD (o : OpD) : List UInt8 :=
  if o.k = 1 then be ((o.n % 256 : Nat) : Int) 1 else if o.k = 2 then be ((o.n % 65536 : Nat) : Int) 2 else if o.k = 3 then be ((o.n % 4294967296 : Nat) : Int) 4 else if o.k = 4 then be (o.n : Int) 8 else
  if o.k = 5 then [if o.y = true then 1 else 0] else if o.k = 6 then cat o.ds else if o.k = 7 then o.xs else if o.k = 8 then be o.st.length 2 ++ o.st else if o.k = 9 then be o.xs.length 4 ++ o.xs else
  if o.k = 10 then forms o.ss else []
def errD (o : OpD) : Int :=
  if o.k = 8 then terr o.st.length o.most 65535 else if o.k = 9 then terr o.xs.length o.most 2147483647 else if o.k = 10 then tsErr o.ss o.most o.each else 0

theorem cat_len32 : ∀ (ds : List (List UInt8)), (∀ d ∈ ds, d.length = 32) → (cat ds).length = 32 * ds.length
  | [], _ => rfl
  | d :: ds, h => by
    have h1 := cat_len32 ds (fun x hx => h x (List.mem_cons_of_mem _ hx))
    have h2 := h d (List.mem_cons_self ..)
    show (d ++ cat ds).length = 32 * (ds.length + 1)
    rw [List.length_append, h1, h2]
    omega
theorem digests_empty (b : Nat) (v : Value) (l : List UInt8) (ao : Option Addr) (cap : Nat) (w : World) (hw : Wr w b v l) :
    Calls Try.prog 65 #[.pointer (some ⟨b, 0, none⟩), .slice ao 0 cap] w fun e w' => e = .returned (.tuple #[]) ∧ Grew b v l [] w w' := by
  have HG := Lib.hid (Grew.refl hw)
  clear hw
  go_enter Try.func65, Try.ntmps65
  go_wp2
  refine wp_loop_rounds 1 ?_
  rw [rounds_succ]
  go_wp2
  go_end0
  exact ⟨rfl, HG.out⟩
theorem texts_empty (b : Nat) (v : Value) (l : List UInt8) (ao : Option Addr) (cap : Nat) (most each : Int) (w : World) (hw : Wr w b v l) (hl : l.length ≤ 140737488355000) :
    Calls Try.prog 69 #[.pointer (some ⟨b, 0, none⟩), .slice ao 0 cap, .int .i64 most, .int .i64 each] w (Lays b v l (forms []) (tsErr [] most each) w) := by
  have Hw := Lib.hid hw
  have hb0 := bnd_pos most 65535
  have hne : ¬ bnd most 65535 < (0 : Int) := by omega
  have HE : Hid (tsErr [] most each = 0) := by show _ = _; unfold tsErr; rw [if_neg (by simpa using hne)]; rfl
  have HFm : Hid (forms [] = be 0 2) := by show _ = _; unfold forms; simp [cat]
  have HPt := fun w' => Lib.hid (put16 b v l 0 w' (by decide) (by decide))
  clear hw
  generalize hbn : bnd most 65535 = bn at *
  have Hbn := Lib.hid hbn
  clear hbn
  go_enter Try.func69, Try.ntmps69
  go_wp2_with fail
  refine (bound_any _ _ _).mono ?_
  rintro e w' ⟨rfl, rfl⟩
  rw [Hbn.out]
  go_wp2_with fail
  refine wp_loop_rounds 1 ?_
  rw [rounds_succ]
  go_wp2_with fail
  refine (put16 b v l 0 w (by decide) (by decide) Hw.out (by omega)).mono ?_
  rintro e w2 ⟨rfl, hg⟩
  have HG : Hid (Grew b v l (forms []) w w2) := by show Grew _ _ _ _ _ _; rw [HFm.out]; exact hg
  clear hg
  go_wp2_with fail
  refine wp_loop_rounds 1 ?_
  rw [rounds_succ]
  go_wp2_with fail
  go_ret
  exact ⟨by rw [HE.out]; rfl, by rw [HE.out]; exact HG.out⟩

set_option maxHeartbeats 4000000 in
set_option maxRecDepth 100000 in
theorem laysd_1 (b : Nat) (v : Value) (l : List UInt8) (n : Nat) (x1 x3 x4 x5 x6 x7 x8 x9 x10 x11 : Value) (w : World) (hw : Wr w b v l) (hn : n < 18446744073709551616) (hl : l.length ≤ 140737488355300) :
    Calls Try.prog 37 #[.pointer (some ⟨b, 0, none⟩), .agg #[.int .i64 1, x1, .int .u64 (n : Int), x3, x4, x5, x6, x7, x8, x9, x10, x11]] w fun e w' => e = .returned (.bool true) ∧ Grew b v l (be ((n % 256 : Nat) : Int) 1) w w' := by
  obtain ⟨w1, hw1⟩ : ∃ x, x = w.alloc (.cells #[.int .i64 1, x1, .int .u64 (n : Int), x3, x4, x5, x6, x7, x8, x9, x10, x11] 54) := ⟨_, rfl⟩
  have hu1 : Upd (fun _ => False) w w1 := by rw [hw1]; exact (Upd.refl _ w).alloc _
  have hwr : Wr w1 b v l := NamesW.Wr.upd hw hu1 id (fun _ _ => id)
  have hs1 : w1.heap.size = w.heap.size + 1 := by rw [hw1]; simp
  have hwp : IntKind.u8.wrap (n : Int) = ((n % 256 : Nat) : Int) := by simp [IntKind.wrap, IntKind.bits, IntKind.signed]
  have HC := Lib.hid (put8 b v l ((n % 256 : Nat) : Int) w1 (by omega) (by simp [Lit.wf, IntKind.min, IntKind.max, IntKind.signed, IntKind.bits]; omega) hwr hl)
  have HU1 := Lib.hid hu1
  subst hw1
  clear hu1 hwr hs1 hw hl hn
  go_enter Try.func37, Try.ntmps37
  go_wp2_with fail
  refine HC.out.mono ?_
  rintro e w2 ⟨rfl, hg⟩
  have HG := Lib.hid (grew_alloc hg HU1.out)
  clear hg
  go_wp2
  go_ret
  exact ⟨rfl, HG.out⟩

set_option maxHeartbeats 4000000 in
set_option maxRecDepth 100000 in
theorem laysd_2 (b : Nat) (v : Value) (l : List UInt8) (n : Nat) (x1 x3 x4 x5 x6 x7 x8 x9 x10 x11 : Value) (w : World) (hw : Wr w b v l) (hn : n < 18446744073709551616) (hl : l.length ≤ 140737488355300) :
    Calls Try.prog 37 #[.pointer (some ⟨b, 0, none⟩), .agg #[.int .i64 2, x1, .int .u64 (n : Int), x3, x4, x5, x6, x7, x8, x9, x10, x11]] w fun e w' => e = .returned (.bool true) ∧ Grew b v l (be ((n % 65536 : Nat) : Int) 2) w w' := by
  obtain ⟨w1, hw1⟩ : ∃ x, x = w.alloc (.cells #[.int .i64 2, x1, .int .u64 (n : Int), x3, x4, x5, x6, x7, x8, x9, x10, x11] 54) := ⟨_, rfl⟩
  have hu1 : Upd (fun _ => False) w w1 := by rw [hw1]; exact (Upd.refl _ w).alloc _
  have hwr : Wr w1 b v l := NamesW.Wr.upd hw hu1 id (fun _ _ => id)
  have hs1 : w1.heap.size = w.heap.size + 1 := by rw [hw1]; simp
  have hwp : IntKind.u16.wrap (n : Int) = ((n % 65536 : Nat) : Int) := by simp [IntKind.wrap, IntKind.bits, IntKind.signed]
  have HC := Lib.hid (put16 b v l ((n % 65536 : Nat) : Int) w1 (by omega) (by simp [Lit.wf, IntKind.min, IntKind.max, IntKind.signed, IntKind.bits]; omega) hwr hl)
  have HU1 := Lib.hid hu1
  subst hw1
  clear hu1 hwr hs1 hw hl hn
  go_enter Try.func37, Try.ntmps37
  go_wp2_with fail
  refine HC.out.mono ?_
  rintro e w2 ⟨rfl, hg⟩
  have HG := Lib.hid (grew_alloc hg HU1.out)
  clear hg
  go_wp2
  go_ret
  exact ⟨rfl, HG.out⟩

set_option maxHeartbeats 4000000 in
set_option maxRecDepth 100000 in
theorem laysd_3 (b : Nat) (v : Value) (l : List UInt8) (n : Nat) (x1 x3 x4 x5 x6 x7 x8 x9 x10 x11 : Value) (w : World) (hw : Wr w b v l) (hn : n < 18446744073709551616) (hl : l.length ≤ 140737488355300) :
    Calls Try.prog 37 #[.pointer (some ⟨b, 0, none⟩), .agg #[.int .i64 3, x1, .int .u64 (n : Int), x3, x4, x5, x6, x7, x8, x9, x10, x11]] w fun e w' => e = .returned (.bool true) ∧ Grew b v l (be ((n % 4294967296 : Nat) : Int) 4) w w' := by
  obtain ⟨w1, hw1⟩ : ∃ x, x = w.alloc (.cells #[.int .i64 3, x1, .int .u64 (n : Int), x3, x4, x5, x6, x7, x8, x9, x10, x11] 54) := ⟨_, rfl⟩
  have hu1 : Upd (fun _ => False) w w1 := by rw [hw1]; exact (Upd.refl _ w).alloc _
  have hwr : Wr w1 b v l := NamesW.Wr.upd hw hu1 id (fun _ _ => id)
  have hs1 : w1.heap.size = w.heap.size + 1 := by rw [hw1]; simp
  have hwp : IntKind.u32.wrap (n : Int) = ((n % 4294967296 : Nat) : Int) := by simp [IntKind.wrap, IntKind.bits, IntKind.signed]
  have HC := Lib.hid (put32 b v l ((n % 4294967296 : Nat) : Int) w1 (by omega) (by simp [Lit.wf, IntKind.min, IntKind.max, IntKind.signed, IntKind.bits]; omega) hwr hl)
  have HU1 := Lib.hid hu1
  subst hw1
  clear hu1 hwr hs1 hw hl hn
  go_enter Try.func37, Try.ntmps37
  go_wp2_with fail
  refine HC.out.mono ?_
  rintro e w2 ⟨rfl, hg⟩
  have HG := Lib.hid (grew_alloc hg HU1.out)
  clear hg
  go_wp2
  go_ret
  exact ⟨rfl, HG.out⟩

set_option maxHeartbeats 4000000 in
set_option maxRecDepth 100000 in
theorem laysd_6 (b : Nat) (v : Value) (l : List UInt8) (ao : Option Addr) (cap : Nat) (x1 x2 x3 x4 x6 x7 x8 x9 x10 x11 : Value) (w : World) (hw : Wr w b v l) :
    Calls Try.prog 37 #[.pointer (some ⟨b, 0, none⟩), .agg #[.int .i64 6, x1, x2, x3, x4, .slice ao 0 cap, x6, x7, x8, x9, x10, x11]] w fun e w' => e = .returned (.bool true) ∧ Grew b v l [] w w' := by
  obtain ⟨w1, hw1⟩ : ∃ x, x = w.alloc (.cells #[.int .i64 6, x1, x2, x3, x4, .slice ao 0 cap, x6, x7, x8, x9, x10, x11] 54) := ⟨_, rfl⟩
  have hu1 : Upd (fun _ => False) w w1 := by rw [hw1]; exact (Upd.refl _ w).alloc _
  have hwr : Wr w1 b v l := NamesW.Wr.upd hw hu1 id (fun _ _ => id)
  have hs1 : w1.heap.size = w.heap.size + 1 := by rw [hw1]; simp
  have HC := Lib.hid (digests_empty b v l ao cap w1 hwr)
  have HU1 := Lib.hid hu1
  subst hw1
  clear hu1 hwr hs1 hw
  go_enter Try.func37, Try.ntmps37
  go_wp2_with fail
  refine HC.out.mono ?_
  rintro e w2 ⟨rfl, hg⟩
  have HG := Lib.hid (grew_alloc hg HU1.out)
  clear hg
  go_wp2
  go_ret
  exact ⟨rfl, HG.out⟩

set_option maxHeartbeats 4000000 in
set_option maxRecDepth 100000 in
theorem laysd_7 (b : Nat) (v : Value) (l : List UInt8) (ao : Option Addr) (n cap : Nat) (xs : List UInt8) (x1 x2 x3 x4 x5 x6 x8 x9 x10 x11 : Value) (w : World) (hw : Wr w b v l) (hs : El w (.slice ao n cap) xs) (hO : xs ≠ [] → ∀ k, own (.slice ao n cap) k → k < w.heap.size ∧ k ≠ b ∧ ¬ own v k) (hv : ∀ k, own v k → k < w.heap.size) (hl : l.length + xs.length ≤ 140737488355300) :
    Calls Try.prog 37 #[.pointer (some ⟨b, 0, none⟩), .agg #[.int .i64 7, x1, x2, x3, x4, x5, x6, .slice ao n cap, x8, x9, x10, x11]] w fun e w' => e = .returned (.bool true) ∧ Grew b v l xs w w' := by
  obtain ⟨w1, hw1⟩ : ∃ x, x = w.alloc (.cells #[.int .i64 7, x1, x2, x3, x4, x5, x6, .slice ao n cap, x8, x9, x10, x11] 54) := ⟨_, rfl⟩
  have hu1 : Upd (fun _ => False) w w1 := by rw [hw1]; exact (Upd.refl _ w).alloc _
  have hwr : Wr w1 b v l := NamesW.Wr.upd hw hu1 id (fun _ _ => id)
  have hs1 : w1.heap.size = w.heap.size + 1 := by rw [hw1]; simp
  obtain ⟨w2, hw2⟩ : ∃ x, x = w1.alloc (.cells #[.slice ao n cap] 30) := ⟨_, rfl⟩
  have hu2 : Upd (fun _ => False) w1 w2 := by rw [hw2]; exact (Upd.refl _ w1).alloc _
  have hnew : w2.heap[w1.heap.size]? = some (.cells #[.slice ao n cap] 30 (0, 0)) := by rw [hw2]; exact heap_alloc_new w1 _
  have hs2 : w2.heap.size = w1.heap.size + 1 := by rw [hw2]; simp
  have hblt := lt_of_block hw.1
  have HC := Lib.hid (RawE.Raw_el b v _ l [xs] (fun k => k = w1.heap.size ∨ (xs ≠ [] ∧ own (.slice ao n cap) k)) w2 (NamesW.Wr.upd hwr hu2 id (fun _ _ => id)) (slE_one w2 w1.heap.size _ xs _ hnew ((hs.upd hu1 (fun _ _ _ => id)).upd hu2 (fun _ _ _ => id)) (fun hne k hk => .inr ⟨hne, hk⟩) (.inl rfl)) (fun k hk => by
    rcases hk with rfl | ⟨hne, hk⟩
    · exact ⟨by omega, by omega, fun h => by have := hv _ h; omega⟩
    · have h := hO hne k hk
      exact ⟨by omega, h.2⟩) (by simpa [cat] using hl) (by simp))
  have hce : cat [xs] = xs := by simp [cat]
  rw [hce, hs1] at HC
  have HU1 : Hid (Upd (fun _ => False) w w2) := hu1.trans (hu2.mono (fun _ _ e => e.elim))
  subst hw2
  subst hw1
  clear hu1 hwr hs1 hw hl hs hO hv hu2 hnew hs2 hblt hce
  go_enter Try.func37, Try.ntmps37
  go_wp2_with fail
  refine HC.out.mono ?_
  rintro e w2 ⟨rfl, hg⟩
  have HG := Lib.hid (grew_alloc hg HU1.out)
  clear hg
  go_wp2
  go_ret
  exact ⟨rfl, HG.out⟩

set_option maxHeartbeats 4000000 in
set_option maxRecDepth 100000 in
theorem laysd_8 (b : Nat) (v : Value) (l : List UInt8) (t : List UInt8) (most : Int) (x1 x2 x3 x4 x5 x6 x7 x9 x11 : Value) (w : World) (hw : Wr w b v l) (hl : l.length + t.length ≤ 140737488355300) :
    Calls Try.prog 37 #[.pointer (some ⟨b, 0, none⟩), .agg #[.int .i64 8, x1, x2, x3, x4, x5, x6, x7, .string ⟨t.toArray⟩, x9, .int .i64 most, x11]] w fun e w' => e = .returned (.bool (terr t.length most 65535 == 0)) ∧ Grew b v l (if terr t.length most 65535 = 0 then (be t.length 2 ++ t) else []) w w' := by
  obtain ⟨w1, hw1⟩ : ∃ x, x = w.alloc (.cells #[.int .i64 8, x1, x2, x3, x4, x5, x6, x7, .string ⟨t.toArray⟩, x9, .int .i64 most, x11] 54) := ⟨_, rfl⟩
  have hu1 : Upd (fun _ => False) w w1 := by rw [hw1]; exact (Upd.refl _ w).alloc _
  have hwr : Wr w1 b v l := NamesW.Wr.upd hw hu1 id (fun _ _ => id)
  have hs1 : w1.heap.size = w.heap.size + 1 := by rw [hw1]; simp
  have HC := Lib.hid (Text_any b v l t most w1 hwr hl (by show t.toArray.size ≤ _; unfold maxLen; simp; omega))
  have HU1 := Lib.hid hu1
  unfold Lays at HC
  subst hw1
  clear hu1 hwr hs1 hw hl
  obtain ⟨y, hy⟩ : ∃ y, y = terr t.length most 65535 := ⟨_, rfl⟩
  rw [← hy] at HC ⊢
  clear hy
  by_cases hy0 : y = 0
  · subst hy0
    go_enter Try.func37, Try.ntmps37
    go_wp2_with fail
    refine HC.out.mono ?_
    rintro e w2 ⟨rfl, hg⟩
    have HG := Lib.hid (grew_alloc hg HU1.out)
    clear hg
    go_wp2
    go_ret
    exact ⟨rfl, HG.out⟩
  · have hyb : (y == 0) = false := by simpa using hy0
    rw [if_neg hy0, hyb]
    go_enter Try.func37, Try.ntmps37
    go_wp2_with fail
    refine HC.out.mono ?_
    rintro e w2 ⟨rfl, hg⟩
    rw [if_neg hy0] at hg
    have HG := Lib.hid (grew_alloc hg HU1.out)
    clear hg
    go_wp2
    go_ret
    exact ⟨rfl, HG.out⟩

set_option maxHeartbeats 4000000 in
set_option maxRecDepth 100000 in
theorem laysd_9 (b : Nat) (v : Value) (l : List UInt8) (ao : Option Addr) (n cap : Nat) (t : List UInt8) (most : Int) (x1 x2 x3 x4 x5 x6 x8 x9 x11 : Value) (w : World) (hw : Wr w b v l) (hs : El w (.slice ao n cap) t) (hoff : t ≠ [] → Off (.slice ao n cap) v b) (hl : l.length + t.length ≤ 140737488355300) :
    Calls Try.prog 37 #[.pointer (some ⟨b, 0, none⟩), .agg #[.int .i64 9, x1, x2, x3, x4, x5, x6, .slice ao n cap, x8, x9, .int .i64 most, x11]] w fun e w' => e = .returned (.bool (terr t.length most 2147483647 == 0)) ∧ Grew b v l (if terr t.length most 2147483647 = 0 then (be t.length 4 ++ t) else []) w w' := by
  obtain ⟨w1, hw1⟩ : ∃ x, x = w.alloc (.cells #[.int .i64 9, x1, x2, x3, x4, x5, x6, .slice ao n cap, x8, x9, .int .i64 most, x11] 54) := ⟨_, rfl⟩
  have hu1 : Upd (fun _ => False) w w1 := by rw [hw1]; exact (Upd.refl _ w).alloc _
  have hwr : Wr w1 b v l := NamesW.Wr.upd hw hu1 id (fun _ _ => id)
  have hs1 : w1.heap.size = w.heap.size + 1 := by rw [hw1]; simp
  have HC := Lib.hid (Bytes_el b v (.slice ao n cap) l t most w1 hwr (hs.upd hu1 (fun _ _ _ => id)) hoff hl)
  have HU1 := Lib.hid hu1
  unfold Lays at HC
  subst hw1
  clear hu1 hwr hs1 hw hl hs hoff
  obtain ⟨y, hy⟩ : ∃ y, y = terr t.length most 2147483647 := ⟨_, rfl⟩
  rw [← hy] at HC ⊢
  clear hy
  by_cases hy0 : y = 0
  · subst hy0
    go_enter Try.func37, Try.ntmps37
    go_wp2_with fail
    refine HC.out.mono ?_
    rintro e w2 ⟨rfl, hg⟩
    have HG := Lib.hid (grew_alloc hg HU1.out)
    clear hg
    go_wp2
    go_ret
    exact ⟨rfl, HG.out⟩
  · have hyb : (y == 0) = false := by simpa using hy0
    rw [if_neg hy0, hyb]
    go_enter Try.func37, Try.ntmps37
    go_wp2_with fail
    refine HC.out.mono ?_
    rintro e w2 ⟨rfl, hg⟩
    rw [if_neg hy0] at hg
    have HG := Lib.hid (grew_alloc hg HU1.out)
    clear hg
    go_wp2
    go_ret
    exact ⟨rfl, HG.out⟩

set_option maxHeartbeats 4000000 in
set_option maxRecDepth 100000 in
theorem laysd_10 (b : Nat) (v : Value) (l : List UInt8) (ao : Option Addr) (n cap : Nat) (ss : List ByteArray) (most each : Int) (x1 x2 x3 x4 x5 x6 x7 x8 : Value) (w : World) (hw : Wr w b v l) (hn0 : n = ss.length) (hs : ss ≠ [] → StrL w (.slice ao n cap) ss) (hoff : ss ≠ [] → ∀ k, own (.slice ao n cap) k → k < w.heap.size ∧ k ≠ b ∧ ¬ own v k) (hl : l.length + (cat (ss.map form)).length ≤ 140737488355000) (hn : ss.length ≤ 70368744177660) :
    Calls Try.prog 37 #[.pointer (some ⟨b, 0, none⟩), .agg #[.int .i64 10, x1, x2, x3, x4, x5, x6, x7, x8, .slice ao n cap, .int .i64 most, .int .i64 each]] w fun e w' => e = .returned (.bool (tsErr ss most each == 0)) ∧ Grew b v l (if tsErr ss most each = 0 then (forms ss) else []) w w' := by
  obtain ⟨w1, hw1⟩ : ∃ x, x = w.alloc (.cells #[.int .i64 10, x1, x2, x3, x4, x5, x6, x7, x8, .slice ao n cap, .int .i64 most, .int .i64 each] 54) := ⟨_, rfl⟩
  have hu1 : Upd (fun _ => False) w w1 := by rw [hw1]; exact (Upd.refl _ w).alloc _
  have hwr : Wr w1 b v l := NamesW.Wr.upd hw hu1 id (fun _ _ => id)
  have hs1 : w1.heap.size = w.heap.size + 1 := by rw [hw1]; simp
  have HC : Hid (Calls Try.prog 69 #[.pointer (some ⟨b, 0, none⟩), .slice ao n cap, .int .i64 most, .int .i64 each] w1 (Lays b v l (forms ss) (tsErr ss most each) w1)) := by
    by_cases he : ss = []
    · subst he
      subst hn0
      exact texts_empty b v l ao cap most each w1 hwr (by simpa [cat] using hl)
    · exact Texts_any b v (.slice ao n cap) l ss most each w1 hwr ((hs he).upd hu1 (fun _ _ => id)) (fun k h => ⟨by have := (hoff he k h).1; omega, (hoff he k h).2⟩) hl hn
  have HU1 := Lib.hid hu1
  unfold Lays at HC
  subst hw1
  clear hu1 hwr hs1 hw hl hs hoff hn hn0
  obtain ⟨y, hy⟩ : ∃ y, y = tsErr ss most each := ⟨_, rfl⟩
  rw [← hy] at HC ⊢
  clear hy
  by_cases hy0 : y = 0
  · subst hy0
    go_enter Try.func37, Try.ntmps37
    go_wp2_with fail
    refine HC.out.mono ?_
    rintro e w2 ⟨rfl, hg⟩
    have HG := Lib.hid (grew_alloc hg HU1.out)
    clear hg
    go_wp2
    go_ret
    exact ⟨rfl, HG.out⟩
  · have hyb : (y == 0) = false := by simpa using hy0
    rw [if_neg hy0, hyb]
    go_enter Try.func37, Try.ntmps37
    go_wp2_with fail
    refine HC.out.mono ?_
    rintro e w2 ⟨rfl, hg⟩
    rw [if_neg hy0] at hg
    have HG := Lib.hid (grew_alloc hg HU1.out)
    clear hg
    go_wp2
    go_ret
    exact ⟨rfl, HG.out⟩

theorem laysd_any (b : Nat) (v : Value) (l : List UInt8) (cs : List Value) (o : OpD) (O : Nat → Prop) (w : World) (hw : Wr w b v l) (hh : OpH w cs o O) (hO : ∀ k, O k → k < w.heap.size ∧ k ≠ b ∧ ¬ own v k) (hl : l.length + (newsD o).length ≤ 140737488355000)
    (hss : o.ss.length ≤ 70368744177660) (h8 : o.k = 8 → l.length + o.st.length ≤ 140737488355000) (h9 : o.k = 9 → l.length + o.xs.length ≤ 140737488355000) :
    Calls Try.prog 37 #[.pointer (some ⟨b, 0, none⟩), .agg cs.toArray] w fun e w' => e = .returned (.bool (errD o == 0)) ∧ Grew b v l (if errD o = 0 then newsD o else []) w w' := by
  obtain ⟨⟨x1, dv, x6, pv, lv, rfl, hd, hp, hpo, hs⟩, hn⟩ := hh
  obtain ⟨k, n, many, y, ds, xs, st, ss, most, each⟩ := o
  have hv : ∀ k, own v k → k < w.heap.size := fun j hj => (hw.2.lt j hj).2
  obtain ⟨dao, dcap, rfl, hd⟩ := hd
  obtain ⟨pao, pcap, rfl, _⟩ := id hp
  obtain ⟨lao, lcap, rfl, hs⟩ := hs
  simp only at hd hp hpo hs hl hss h8 h9 hn ⊢
  by_cases hk : ∀ i : Int, 1 ≤ i → i ≤ 10 → k ≠ i
  · have e : errD ⟨k, n, many, y, ds, xs, st, ss, most, each⟩ = 0 := by
      have h1 := hk 8 (by decide) (by decide)
      have h2 := hk 9 (by decide) (by decide)
      have h3 := hk 10 (by decide) (by decide)
      simp [errD, h1, h2, h3]
    have f : newsD ⟨k, n, many, y, ds, xs, st, ss, most, each⟩ = [] := by
      have h := fun i h1 h2 => hk i h1 h2
      have a1 := h 1 (by decide) (by decide)
      have a2 := h 2 (by decide) (by decide)
      have a3 := h 3 (by decide) (by decide)
      have a4 := h 4 (by decide) (by decide)
      have a5 := h 5 (by decide) (by decide)
      have a6 := h 6 (by decide) (by decide)
      have a7 := h 7 (by decide) (by decide)
      have a8 := h 8 (by decide) (by decide)
      have a9 := h 9 (by decide) (by decide)
      have a10 := h 10 (by decide) (by decide)
      simp [newsD, a1, a2, a3, a4, a5, a6, a7, a8, a9, a10]
    rw [e, if_pos rfl, f]
    exact lays_other b v l k _ _ _ _ _ _ _ _ _ _ _ w hw hk
  · have h : k = 1 ∨ k = 2 ∨ k = 3 ∨ k = 4 ∨ k = 5 ∨ k = 6 ∨ k = 7 ∨ k = 8 ∨ k = 9 ∨ k = 10 := by
      have h2 : ¬ (k < 1 ∨ 10 < k) := fun h => hk fun i h1 h2 e => by omega
      omega
    clear hk
    rcases h with rfl | rfl | rfl | rfl | rfl | rfl | rfl | rfl | rfl | rfl
    · exact laysd_1 b v l n _ _ _ _ _ _ _ _ _ _ w hw hn (by omega)
    · exact laysd_2 b v l n _ _ _ _ _ _ _ _ _ _ w hw hn (by omega)
    · exact laysd_3 b v l n _ _ _ _ _ _ _ _ _ _ w hw hn (by omega)
    · exact lays_4 b v l n _ _ _ _ _ _ _ _ _ _ w hw (by omega) (by omega)
    · exact lays_5 b v l y _ _ _ _ _ _ _ _ _ _ w hw (by omega)
    · by_cases he : ds = []
      · subst he
        exact laysd_6 b v l dao dcap _ _ _ _ _ _ _ _ _ _ w hw
      · have h := hd he
        have hcl : (cat ds).length = 32 * ds.length := by
          obtain ⟨_, _, _, _, _, h32, _⟩ := h
          exact cat_len32 ds h32
        have hl' : l.length + (cat ds).length ≤ 140737488355000 := hl
        exact lays_6 b v l dao ds.length dcap ds O _ _ _ _ _ _ _ _ _ _ w hw h hO (by omega)
    · have hl' : l.length + xs.length ≤ 140737488355000 := hl
      exact laysd_7 b v l pao xs.length pcap xs _ _ _ _ _ _ _ _ _ _ w hw hp (fun hne k hk => hO k (hpo hne k hk)) hv (by omega)
    · exact laysd_8 b v l st most _ _ _ _ _ _ _ _ _ w hw (by have := h8 rfl; omega)
    · exact laysd_9 b v l pao xs.length pcap xs most _ _ _ _ _ _ _ _ _ w hw hp (fun hne k hk => (hO k (hpo hne k hk)).2) (by have := h9 rfl; omega)
    · have hl' : l.length + (forms ss).length ≤ 140737488355000 := hl
      unfold forms at hl'
      rw [List.length_append] at hl'
      exact laysd_10 b v l lao ss.length lcap ss most each _ _ _ _ _ _ _ _ w hw rfl (fun he => (hs he).1) (fun he k hk => hO k ((hs he).2 k hk)) (by omega) hss
end Go.Proofs.Ytcdgimapkbaboaa.LaysD
