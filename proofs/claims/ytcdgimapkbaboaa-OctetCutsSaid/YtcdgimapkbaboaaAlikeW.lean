/-
  docketlaw1.alike of two steps that bear the same thing.
-/
import Derived.Test.YtcdgimapkbaboaaSameE
import Derived.Test.YtcdgimapkbaboaaConvS
import Derived.Laws.BitsAllLaws
namespace Go.Proofs.Ytcdgimapkbaboaa.AlikeW
open Go.RowKit Mem PutW StrW RawW TextsW DigW ListsB LaysD SameE
set_option linter.unusedVariables false
set_option linter.unusedSimpArgs false

theorem conv_el {w : World} {ao : Option Addr} {n cap : Nat} {l : List UInt8} (h : El w (.slice ao n cap) l) :
    (convert 30 9 (.slice ao n cap)).run Try.prog w = .ok (.string ⟨l.toArray⟩) w := by
  obtain ⟨ao', cap', he, h1, h2, h3, h4⟩ := h
  by_cases hl : l = []
  · subst hl
    clear h1 h2 h3 h4
    cases he
    cases ao with
    | none => exact run_convert_bytes_nil w 30 5 Try.underlying30 Try.underlying5 _ _ _ Try.underlying9
    | some a =>
      have hl := run_loadCells_list (P := Try.prog) w a [] (by simp)
      rw [run_convert_bytes_string w 30 9 5 _ _ _ Try.underlying30 Try.underlying5 Try.underlying9]
      exact run_bytesToString w a 0 cap [] hl
  · exact ConvS.conv_sl (h4 hl)
theorem and_mask (n m : Nat) (hn : n < 18446744073709551616) (hm : m ≤ 64) : bits .and .u64 (n : Int) ((2 ^ m - 1 : Nat) : Int) = ((n % 2 ^ m : Nat) : Int) := by
  have h2 : 2 ^ m ≤ 2 ^ 64 := Nat.pow_le_pow_right (by decide) hm
  rw [u64_and_nat n (2 ^ m - 1) hn (by have : (2 : Nat) ^ 64 = 18446744073709551616 := by decide
                                       omega), Nat.and_two_pow_sub_one_eq_mod]

set_option maxHeartbeats 4000000 in
set_option maxRecDepth 100000 in
theorem alike_1 (n : Nat) (x1 x3 x4 x5 x6 x7 x8 x9 x10 x11 y0 y1 y3 y4 y5 y6 y7 y8 y9 y10 y11 : Value) (w : World) (hn : n < 18446744073709551616) :
    Calls Try.prog 38 #[.agg #[.int .i64 1, x1, .int .u64 (n : Int), x3, x4, x5, x6, x7, x8, x9, x10, x11], .agg #[y0, y1, .int .u64 ((n % 256 : Nat) : Int), y3, y4, y5, y6, y7, y8, y9, y10, y11]] w fun e w' => e = .returned (.bool true) ∧ Upd (fun _ => False) w w' := by
  obtain ⟨w1, hw1⟩ : ∃ q, q = (w.alloc (.cells #[.int .i64 1, x1, .int .u64 (n : Int), x3, x4, x5, x6, x7, x8, x9, x10, x11] 54)).alloc (.cells #[y0, y1, .int .u64 ((n % 256 : Nat) : Int), y3, y4, y5, y6, y7, y8, y9, y10, y11] 54) := ⟨_, rfl⟩
  have hu1 : Upd (fun _ => False) w w1 := by rw [hw1]; exact ((Upd.refl _ w).alloc _).alloc _
  have HU1 := Lib.hid hu1
  obtain ⟨q, hq⟩ : ∃ q, q = n % 256 := ⟨_, rfl⟩
  have hand : bits .and .u64 (n : Int) 255 = (q : Int) := by rw [hq]; exact and_mask n 8 hn (by decide)
  rw [← hq] at hw1 ⊢
  clear hq
  subst hw1
  clear hu1
  go_enter Try.func38, Try.ntmps38
  go_wp2
  go_ret
  exact ⟨rfl, HU1.out⟩

set_option maxHeartbeats 4000000 in
set_option maxRecDepth 100000 in
theorem alike_2 (n : Nat) (x1 x3 x4 x5 x6 x7 x8 x9 x10 x11 y0 y1 y3 y4 y5 y6 y7 y8 y9 y10 y11 : Value) (w : World) (hn : n < 18446744073709551616) :
    Calls Try.prog 38 #[.agg #[.int .i64 2, x1, .int .u64 (n : Int), x3, x4, x5, x6, x7, x8, x9, x10, x11], .agg #[y0, y1, .int .u64 ((n % 65536 : Nat) : Int), y3, y4, y5, y6, y7, y8, y9, y10, y11]] w fun e w' => e = .returned (.bool true) ∧ Upd (fun _ => False) w w' := by
  obtain ⟨w1, hw1⟩ : ∃ q, q = (w.alloc (.cells #[.int .i64 2, x1, .int .u64 (n : Int), x3, x4, x5, x6, x7, x8, x9, x10, x11] 54)).alloc (.cells #[y0, y1, .int .u64 ((n % 65536 : Nat) : Int), y3, y4, y5, y6, y7, y8, y9, y10, y11] 54) := ⟨_, rfl⟩
  have hu1 : Upd (fun _ => False) w w1 := by rw [hw1]; exact ((Upd.refl _ w).alloc _).alloc _
  have HU1 := Lib.hid hu1
  obtain ⟨q, hq⟩ : ∃ q, q = n % 65536 := ⟨_, rfl⟩
  have hand : bits .and .u64 (n : Int) 65535 = (q : Int) := by rw [hq]; exact and_mask n 16 hn (by decide)
  rw [← hq] at hw1 ⊢
  clear hq
  subst hw1
  clear hu1
  go_enter Try.func38, Try.ntmps38
  go_wp2
  go_ret
  exact ⟨rfl, HU1.out⟩

set_option maxHeartbeats 4000000 in
set_option maxRecDepth 100000 in
theorem alike_3 (n : Nat) (x1 x3 x4 x5 x6 x7 x8 x9 x10 x11 y0 y1 y3 y4 y5 y6 y7 y8 y9 y10 y11 : Value) (w : World) (hn : n < 18446744073709551616) :
    Calls Try.prog 38 #[.agg #[.int .i64 3, x1, .int .u64 (n : Int), x3, x4, x5, x6, x7, x8, x9, x10, x11], .agg #[y0, y1, .int .u64 ((n % 4294967296 : Nat) : Int), y3, y4, y5, y6, y7, y8, y9, y10, y11]] w fun e w' => e = .returned (.bool true) ∧ Upd (fun _ => False) w w' := by
  obtain ⟨w1, hw1⟩ : ∃ q, q = (w.alloc (.cells #[.int .i64 3, x1, .int .u64 (n : Int), x3, x4, x5, x6, x7, x8, x9, x10, x11] 54)).alloc (.cells #[y0, y1, .int .u64 ((n % 4294967296 : Nat) : Int), y3, y4, y5, y6, y7, y8, y9, y10, y11] 54) := ⟨_, rfl⟩
  have hu1 : Upd (fun _ => False) w w1 := by rw [hw1]; exact ((Upd.refl _ w).alloc _).alloc _
  have HU1 := Lib.hid hu1
  obtain ⟨q, hq⟩ : ∃ q, q = n % 4294967296 := ⟨_, rfl⟩
  have hand : bits .and .u64 (n : Int) 4294967295 = (q : Int) := by rw [hq]; exact and_mask n 32 hn (by decide)
  rw [← hq] at hw1 ⊢
  clear hq
  subst hw1
  clear hu1
  go_enter Try.func38, Try.ntmps38
  go_wp2
  go_ret
  exact ⟨rfl, HU1.out⟩

set_option maxHeartbeats 4000000 in
set_option maxRecDepth 100000 in
theorem alike_4 (n : Nat) (x1 x3 x4 x5 x6 x7 x8 x9 x10 x11 y0 y1 y3 y4 y5 y6 y7 y8 y9 y10 y11 : Value) (w : World) :
    Calls Try.prog 38 #[.agg #[.int .i64 4, x1, .int .u64 (n : Int), x3, x4, x5, x6, x7, x8, x9, x10, x11], .agg #[y0, y1, .int .u64 (n : Int), y3, y4, y5, y6, y7, y8, y9, y10, y11]] w fun e w' => e = .returned (.bool true) ∧ Upd (fun _ => False) w w' := by
  obtain ⟨w1, hw1⟩ : ∃ q, q = (w.alloc (.cells #[.int .i64 4, x1, .int .u64 (n : Int), x3, x4, x5, x6, x7, x8, x9, x10, x11] 54)).alloc (.cells #[y0, y1, .int .u64 (n : Int), y3, y4, y5, y6, y7, y8, y9, y10, y11] 54) := ⟨_, rfl⟩
  have hu1 : Upd (fun _ => False) w w1 := by rw [hw1]; exact ((Upd.refl _ w).alloc _).alloc _
  have HU1 := Lib.hid hu1
  subst hw1
  clear hu1
  go_enter Try.func38, Try.ntmps38
  go_wp2
  go_ret
  exact ⟨rfl, HU1.out⟩

set_option maxHeartbeats 4000000 in
set_option maxRecDepth 100000 in
theorem alike_5 (z : Bool) (x1 x2 x3 x5 x6 x7 x8 x9 x10 x11 y0 y1 y2 y3 y5 y6 y7 y8 y9 y10 y11 : Value) (w : World) :
    Calls Try.prog 38 #[.agg #[.int .i64 5, x1, x2, x3, .bool z, x5, x6, x7, x8, x9, x10, x11], .agg #[y0, y1, y2, y3, .bool z, y5, y6, y7, y8, y9, y10, y11]] w fun e w' => e = .returned (.bool true) ∧ Upd (fun _ => False) w w' := by
  obtain ⟨w1, hw1⟩ : ∃ q, q = (w.alloc (.cells #[.int .i64 5, x1, x2, x3, .bool z, x5, x6, x7, x8, x9, x10, x11] 54)).alloc (.cells #[y0, y1, y2, y3, .bool z, y5, y6, y7, y8, y9, y10, y11] 54) := ⟨_, rfl⟩
  have hu1 : Upd (fun _ => False) w w1 := by rw [hw1]; exact ((Upd.refl _ w).alloc _).alloc _
  have HU1 := Lib.hid hu1
  have hzz : (z == z) = true := by simp
  subst hw1
  clear hu1
  go_enter Try.func38, Try.ntmps38
  go_wp2
  go_ret
  exact ⟨rfl, HU1.out⟩

set_option maxHeartbeats 4000000 in
set_option maxRecDepth 100000 in
theorem alike_6 (aa ab : Option Addr) (n ca cb : Nat) (ds : List (List UInt8)) (Oa Ob : Nat → Prop) (x1 x2 x3 x4 x6 x7 x8 x9 x10 x11 y0 y1 y2 y3 y4 y6 y7 y8 y9 y10 y11 : Value) (w : World) (hn : n = ds.length) (ha : ds ≠ [] → DgL w (.slice aa n ca) ds Oa) (hb : ds ≠ [] → DgL w (.slice ab n cb) ds Ob) (hr : n ≤ 140737488355328) :
    Calls Try.prog 38 #[.agg #[.int .i64 6, x1, x2, x3, x4, .slice aa n ca, x6, x7, x8, x9, x10, x11], .agg #[y0, y1, y2, y3, y4, .slice ab n cb, y6, y7, y8, y9, y10, y11]] w fun e w' => e = .returned (.bool true) ∧ Upd (fun _ => False) w w' := by
  obtain ⟨w1, hw1⟩ : ∃ q, q = (w.alloc (.cells #[.int .i64 6, x1, x2, x3, x4, .slice aa n ca, x6, x7, x8, x9, x10, x11] 54)).alloc (.cells #[y0, y1, y2, y3, y4, .slice ab n cb, y6, y7, y8, y9, y10, y11] 54) := ⟨_, rfl⟩
  have hu1 : Upd (fun _ => False) w w1 := by rw [hw1]; exact ((Upd.refl _ w).alloc _).alloc _
  have HU1 := Lib.hid hu1
  have HC := Lib.hid (same_dig aa ab n ca cb ds Oa Ob w1 hn (fun h => (ha h).upd hu1 (fun _ _ => id)) (fun h => (hb h).upd hu1 (fun _ _ => id)) hr)
  clear hn ha hb hr
  subst hw1
  clear hu1
  go_enter Try.func38, Try.ntmps38
  go_wp2_with fail
  refine HC.out.mono ?_
  rintro e w2 ⟨rfl, hu_⟩
  have HU2 : Hid (Upd (fun _ => False) w w2) := HU1.out.trans (hu_.mono (fun _ _ e => e.elim))
  clear hu_
  go_wp2
  go_ret
  exact ⟨rfl, HU2.out⟩

set_option maxHeartbeats 4000000 in
set_option maxRecDepth 100000 in
theorem alike_10 (aa ab : Option Addr) (n ca cb : Nat) (ss : List ByteArray) (x1 x2 x3 x4 x5 x6 x7 x8 x10 x11 y0 y1 y2 y3 y4 y5 y6 y7 y8 y10 y11 : Value) (w : World) (hn : n = ss.length) (ha : ss ≠ [] → StrL w (.slice aa n ca) ss) (hb : ss ≠ [] → StrL w (.slice ab n cb) ss) (hr : n ≤ 140737488355328) :
    Calls Try.prog 38 #[.agg #[.int .i64 10, x1, x2, x3, x4, x5, x6, x7, x8, .slice aa n ca, x10, x11], .agg #[y0, y1, y2, y3, y4, y5, y6, y7, y8, .slice ab n cb, y10, y11]] w fun e w' => e = .returned (.bool true) ∧ Upd (fun _ => False) w w' := by
  obtain ⟨w1, hw1⟩ : ∃ q, q = (w.alloc (.cells #[.int .i64 10, x1, x2, x3, x4, x5, x6, x7, x8, .slice aa n ca, x10, x11] 54)).alloc (.cells #[y0, y1, y2, y3, y4, y5, y6, y7, y8, .slice ab n cb, y10, y11] 54) := ⟨_, rfl⟩
  have hu1 : Upd (fun _ => False) w w1 := by rw [hw1]; exact ((Upd.refl _ w).alloc _).alloc _
  have HU1 := Lib.hid hu1
  have HC := Lib.hid (same_str aa ab n ca cb ss w1 hn (fun h => (ha h).upd hu1 (fun _ _ => id)) (fun h => (hb h).upd hu1 (fun _ _ => id)) hr)
  clear hn ha hb hr
  subst hw1
  clear hu1
  go_enter Try.func38, Try.ntmps38
  go_wp2_with fail
  refine HC.out.mono ?_
  rintro e w2 ⟨rfl, hu_⟩
  have HU2 : Hid (Upd (fun _ => False) w w2) := HU1.out.trans (hu_.mono (fun _ _ e => e.elim))
  clear hu_
  go_wp2
  go_ret
  exact ⟨rfl, HU2.out⟩

set_option maxHeartbeats 4000000 in
set_option maxRecDepth 100000 in
theorem alike_7 (aa ab : Option Addr) (n ca cb : Nat) (xs : List UInt8) (x1 x2 x3 x4 x5 x6 x8 x9 x10 x11 y0 y1 y2 y3 y4 y5 y6 y8 y9 y10 y11 : Value) (w : World) (ha : El w (.slice aa n ca) xs) (hb : El w (.slice ab n cb) xs) :
    Calls Try.prog 38 #[.agg #[.int .i64 7, x1, x2, x3, x4, x5, x6, .slice aa n ca, x8, x9, x10, x11], .agg #[y0, y1, y2, y3, y4, y5, y6, .slice ab n cb, y8, y9, y10, y11]] w fun e w' => e = .returned (.bool true) ∧ Upd (fun _ => False) w w' := by
  obtain ⟨w1, hw1⟩ : ∃ q, q = (w.alloc (.cells #[.int .i64 7, x1, x2, x3, x4, x5, x6, .slice aa n ca, x8, x9, x10, x11] 54)).alloc (.cells #[y0, y1, y2, y3, y4, y5, y6, .slice ab n cb, y8, y9, y10, y11] 54) := ⟨_, rfl⟩
  have hu1 : Upd (fun _ => False) w w1 := by rw [hw1]; exact ((Upd.refl _ w).alloc _).alloc _
  have HU1 := Lib.hid hu1
  obtain ⟨st, hst⟩ : ∃ s : ByteArray, s = ⟨xs.toArray⟩ := ⟨_, rfl⟩
  have k1 : (convert 30 9 (.slice aa n ca)).run Try.prog w1 = .ok (.string st) w1 := by rw [hst]; exact conv_el (ha.upd hu1 (fun _ _ _ => id))
  have k2 : (convert 30 9 (.slice ab n cb)).run Try.prog w1 = .ok (.string st) w1 := by rw [hst]; exact conv_el (hb.upd hu1 (fun _ _ _ => id))
  have hxx : (st.toList == st.toList) = true := by simp
  clear hst ha hb
  subst hw1
  clear hu1
  go_enter Try.func38, Try.ntmps38
  go_wp2
  go_ret
  exact ⟨rfl, HU1.out⟩

set_option maxHeartbeats 4000000 in
set_option maxRecDepth 100000 in
theorem alike_9 (aa ab : Option Addr) (n ca cb : Nat) (xs : List UInt8) (x1 x2 x3 x4 x5 x6 x8 x9 x10 x11 y0 y1 y2 y3 y4 y5 y6 y8 y9 y10 y11 : Value) (w : World) (ha : El w (.slice aa n ca) xs) (hb : El w (.slice ab n cb) xs) :
    Calls Try.prog 38 #[.agg #[.int .i64 9, x1, x2, x3, x4, x5, x6, .slice aa n ca, x8, x9, x10, x11], .agg #[y0, y1, y2, y3, y4, y5, y6, .slice ab n cb, y8, y9, y10, y11]] w fun e w' => e = .returned (.bool true) ∧ Upd (fun _ => False) w w' := by
  obtain ⟨w1, hw1⟩ : ∃ q, q = (w.alloc (.cells #[.int .i64 9, x1, x2, x3, x4, x5, x6, .slice aa n ca, x8, x9, x10, x11] 54)).alloc (.cells #[y0, y1, y2, y3, y4, y5, y6, .slice ab n cb, y8, y9, y10, y11] 54) := ⟨_, rfl⟩
  have hu1 : Upd (fun _ => False) w w1 := by rw [hw1]; exact ((Upd.refl _ w).alloc _).alloc _
  have HU1 := Lib.hid hu1
  obtain ⟨st, hst⟩ : ∃ s : ByteArray, s = ⟨xs.toArray⟩ := ⟨_, rfl⟩
  have k1 : (convert 30 9 (.slice aa n ca)).run Try.prog w1 = .ok (.string st) w1 := by rw [hst]; exact conv_el (ha.upd hu1 (fun _ _ _ => id))
  have k2 : (convert 30 9 (.slice ab n cb)).run Try.prog w1 = .ok (.string st) w1 := by rw [hst]; exact conv_el (hb.upd hu1 (fun _ _ _ => id))
  have hxx : (st.toList == st.toList) = true := by simp
  clear hst ha hb
  subst hw1
  clear hu1
  go_enter Try.func38, Try.ntmps38
  go_wp2
  go_ret
  exact ⟨rfl, HU1.out⟩

set_option maxHeartbeats 4000000 in
set_option maxRecDepth 100000 in
theorem alike_8 (st : ByteArray) (x1 x2 x3 x4 x5 x6 x7 x9 x10 x11 y0 y1 y2 y3 y4 y5 y6 y7 y9 y10 y11 : Value) (w : World) :
    Calls Try.prog 38 #[.agg #[.int .i64 8, x1, x2, x3, x4, x5, x6, x7, .string st, x9, x10, x11], .agg #[y0, y1, y2, y3, y4, y5, y6, y7, .string st, y9, y10, y11]] w fun e w' => e = .returned (.bool true) ∧ Upd (fun _ => False) w w' := by
  obtain ⟨w1, hw1⟩ : ∃ q, q = (w.alloc (.cells #[.int .i64 8, x1, x2, x3, x4, x5, x6, x7, .string st, x9, x10, x11] 54)).alloc (.cells #[y0, y1, y2, y3, y4, y5, y6, y7, .string st, y9, y10, y11] 54) := ⟨_, rfl⟩
  have hu1 : Upd (fun _ => False) w w1 := by rw [hw1]; exact ((Upd.refl _ w).alloc _).alloc _
  have HU1 := Lib.hid hu1
  have hxx : (st.toList == st.toList) = true := by simp
  subst hw1
  clear hu1
  go_enter Try.func38, Try.ntmps38
  go_wp2
  go_ret
  exact ⟨rfl, HU1.out⟩

set_option maxHeartbeats 4000000 in
set_option maxRecDepth 100000 in
theorem alike_other (kind : Int) (x1 x2 x3 x4 x5 x6 x7 x8 x9 x10 x11 y0 y1 y2 y3 y4 y5 y6 y7 y8 y9 y10 y11 : Value) (w : World) (hk : ∀ i : Int, 1 ≤ i → i ≤ 10 → kind ≠ i) :
    Calls Try.prog 38 #[.agg #[.int .i64 kind, x1, x2, x3, x4, x5, x6, x7, x8, x9, x10, x11], .agg #[y0, y1, y2, y3, y4, y5, y6, y7, y8, y9, y10, y11]] w fun e w' => e = .returned (.bool true) ∧ Upd (fun _ => False) w w' := by
  obtain ⟨w1, hw1⟩ : ∃ q, q = (w.alloc (.cells #[.int .i64 kind, x1, x2, x3, x4, x5, x6, x7, x8, x9, x10, x11] 54)).alloc (.cells #[y0, y1, y2, y3, y4, y5, y6, y7, y8, y9, y10, y11] 54) := ⟨_, rfl⟩
  have hu1 : Upd (fun _ => False) w w1 := by rw [hw1]; exact ((Upd.refl _ w).alloc _).alloc _
  have HU1 := Lib.hid hu1
  have h1 : ¬ kind = 1 := hk 1 (by decide) (by decide)
  have h2 : ¬ kind = 2 := hk 2 (by decide) (by decide)
  have h3 : ¬ kind = 3 := hk 3 (by decide) (by decide)
  have h4 : ¬ kind = 4 := hk 4 (by decide) (by decide)
  have h5 : ¬ kind = 5 := hk 5 (by decide) (by decide)
  have h6 : ¬ kind = 6 := hk 6 (by decide) (by decide)
  have h7 : ¬ kind = 7 := hk 7 (by decide) (by decide)
  have h8 : ¬ kind = 8 := hk 8 (by decide) (by decide)
  have h9 : ¬ kind = 9 := hk 9 (by decide) (by decide)
  have h10 : ¬ kind = 10 := hk 10 (by decide) (by decide)
  clear hk
  subst hw1
  clear hu1
  go_enter Try.func38, Try.ntmps38
  go_wp2
  go_ret
  exact ⟨rfl, HU1.out⟩
end Go.Proofs.Ytcdgimapkbaboaa.AlikeW
