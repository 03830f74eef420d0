/-
  octet.Read; octet.Take at the five types of numbers.
-/
import Derived.Test.YtcdgimapkbaboaaReaderW
import Derived.Lib.EndianBits
namespace Go.Proofs.Ytcdgimapkbaboaa.TakeW
open Go.RowKit Mem Width PutW WriterW ReaderW
set_option linter.unusedVariables false

def Made (l : List UInt8) (w : World) (e : Ending) (w' : World) : Prop :=
  ∃ b v, e = .returned (.pointer (some ⟨b, 0, none⟩)) ∧ Rd w' b v l (0, 0) ∧ Upd (fun _ => False) w w' ∧ w.heap.size ≤ b ∧ ∀ k, own v k → w.heap.size ≤ k

theorem read_any (v : Value) (l : List UInt8) (w : World) (hs : Sl w v l) (hl : l.length ≤ 140737488355328) :
    Calls Try.prog 19 #[v] w (Made l w) := by
  go_enter Try.func19, Try.ntmps19
  go_wp2_with fail
  refine (clone_any _ _ _ hs hl).mono ?_
  rintro e w1 ⟨v', rfl, hown, hu⟩
  obtain ⟨ao, cap, hv, _⟩ := Sl.of_row hown
  have Hown := Lib.hid hown
  have Hu := Lib.hid hu
  clear hown hu hs
  subst hv
  go_wp2
  go_ret
  refine ⟨_, _, rfl, ⟨heap_alloc_new _ _, ?_, Nat.zero_le _⟩, Hu.out.alloc _, Hu.out.size, fun k hk => (Hown.out.lt k hk).1⟩
  obtain ⟨h1, h2⟩ := Hown.out.alloc (.cells #[.slice ao l.length cap, .int .i64 0, .int .i64 0] 90)
  refine ⟨h1, h2.imp id ?_⟩
  rintro ⟨g, cap, cur, hv, hg, hh, r⟩
  exact ⟨g, cap, cur, hv, Nat.zero_le _, hh, r⟩

def val (l : List UInt8) : Nat := l.foldl (fun n c => n * 256 + c.toNat) 0
theorem val_snoc (l : List UInt8) (c : UInt8) : val (l ++ [c]) = val l * 256 + c.toNat := by simp [val]
theorem val_lt (l : List UInt8) : val l < 256 ^ l.length := by
  suffices h : ∀ (m : List UInt8), val m.reverse < 256 ^ m.length by simpa using h l.reverse
  intro m
  induction m with
  | nil => simp [val]
  | cons c m ih =>
    rw [List.reverse_cons, val_snoc, List.length_cons, Nat.pow_succ]
    have := c.toNat_lt
    omega

/-- what Take answers, and where the Reader stands behind it -/
def takeM (W : Nat) (l : List UInt8) (s : Nat × Int) : Nat × (Nat × Int) :=
  if s.2 = 0 then (if s.1 + W ≤ l.length then (val ((l.drop s.1).take W), (s.1 + W, 0)) else (0, (s.1, 8))) else (0, s)

theorem takeM_refused {W : Nat} {l : List UInt8} {s : Nat × Int} (h : s.2 ≠ 0) : takeM W l s = (0, s) := by simp [takeM, h]
theorem takeM_short {W : Nat} {l : List UInt8} {a : Nat} (h : l.length < a + W) : takeM W l (a, 0) = (0, (a, 8)) := by simp [takeM]; omega
theorem takeM_ok {W : Nat} {l : List UInt8} {a : Nat} (h : a + W ≤ l.length) : takeM W l (a, 0) = (val ((l.drop a).take W), (a + W, 0)) := by simp [takeM, h]

def Took (W : Nat) (k : IntKind) (b : Nat) (v : Value) (l : List UInt8) (s : Nat × Int) (w : World) (e : Ending) (w' : World) : Prop :=
  e = .returned (.int k (takeM W l s).1) ∧ Rd w' b v l (takeM W l s).2 ∧ Upd (fun k => k = b) w w'

theorem joined (k : IntKind) (j : Nat) (hj : j ≤ k.bits) (hk : ∀ n : Int, 0 ≤ n → n < 2 ^ j → k.wrap n = n) (x c : Nat) (hx : (x : Int) * 256 + 255 < 2 ^ j) (hc : c < 256) :
    bits .or k (k.wrap (k.wrap ((x : Int) * 16) * 16)) (k.wrap (c : Int)) = ((x * 256 + c : Nat) : Int) := by
  have h1 : k.wrap ((x : Int) * 16) = (x : Int) * 16 := hk _ (by omega) (by omega)
  have h2 : k.wrap ((x : Int) * 16 * 16) = (x : Int) * 16 * 16 := hk _ (by omega) (by omega)
  have h3 : k.wrap (c : Int) = (c : Int) := hk _ (by omega) (by omega)
  rw [h1, h2, h3, bits_join k j hj hk 8 _ _ (by omega) (by omega) (by omega) (by omega) (by omega) (by omega)]
  omega
theorem val_take {xs : List UInt8} {k : Nat} (h : k < xs.length) : val (xs.take (k + 1)) = val (xs.take k) * 256 + (xs.getD k 0).toNat := by
  rw [List.take_succ_eq_append_getElem h, val_snoc]
  simp [List.getD, h]
theorem val_take_lt {xs : List UInt8} {k : Nat} (h : k < xs.length) : val (xs.take k) < 256 ^ k := by
  have := val_lt (xs.take k)
  rwa [List.length_take, Nat.min_eq_left (by omega)] at this
theorem wraps_u8 (n : Int) (h₀ : 0 ≤ n) (h₁ : n < 2 ^ 8) : IntKind.u8.wrap n = n := by simp [IntKind.wrap, IntKind.bits, IntKind.signed]; omega
theorem num_u8 {xs : List UInt8} (hl : xs.length = 1) (k : Nat) (hk : k < 1) : bits .or .u8 (IntKind.u8.wrap (IntKind.u8.wrap ((val (xs.take k) : Nat) * 16) * 16)) ((xs.getD k 0).toNat : Int) = ((val (xs.take (k + 1)) : Nat) : Int) := by
  have h := joined .u8 8 (by decide) wraps_u8 (val (xs.take k)) (xs.getD k 0).toNat (by obtain rfl : k = 0 := (by omega); simp [val]) (by have := (xs.getD k 0).toNat_lt; omega)
  rw [wraps_u8 ((xs.getD k 0).toNat : Int) (by omega) (by have := (xs.getD k 0).toNat_lt; omega)] at h
  rw [h, val_take (by omega)]
theorem num_u16 {xs : List UInt8} (hl : xs.length = 2) (k : Nat) (hk : k < 2) : bits .or .u16 (IntKind.u16.wrap (IntKind.u16.wrap ((val (xs.take k) : Nat) * 16) * 16)) (IntKind.u16.wrap ((xs.getD k 0).toNat : Int)) = ((val (xs.take (k + 1)) : Nat) : Int) := by
  rw [val_take (by omega)]
  have hjs : k = 0 ∨ k = 1 := by omega
  rcases hjs with rfl | rfl
  · exact joined .u16 16 (by decide) wraps_u16 _ _ (by have := val_take_lt (xs := xs) (k := 0) (by omega); omega) (by have := (xs.getD 0 0).toNat_lt; omega)
  · exact joined .u16 16 (by decide) wraps_u16 _ _ (by have := val_take_lt (xs := xs) (k := 1) (by omega); omega) (by have := (xs.getD 1 0).toNat_lt; omega)
theorem num_u32 {xs : List UInt8} (hl : xs.length = 4) (k : Nat) (hk : k < 4) : bits .or .u32 (IntKind.u32.wrap (IntKind.u32.wrap ((val (xs.take k) : Nat) * 16) * 16)) (IntKind.u32.wrap ((xs.getD k 0).toNat : Int)) = ((val (xs.take (k + 1)) : Nat) : Int) := by
  rw [val_take (by omega)]
  have hjs : k = 0 ∨ k = 1 ∨ k = 2 ∨ k = 3 := by omega
  rcases hjs with rfl | rfl | rfl | rfl
  · exact joined .u32 32 (by decide) wraps_u32 _ _ (by have := val_take_lt (xs := xs) (k := 0) (by omega); omega) (by have := (xs.getD 0 0).toNat_lt; omega)
  · exact joined .u32 32 (by decide) wraps_u32 _ _ (by have := val_take_lt (xs := xs) (k := 1) (by omega); omega) (by have := (xs.getD 1 0).toNat_lt; omega)
  · exact joined .u32 32 (by decide) wraps_u32 _ _ (by have := val_take_lt (xs := xs) (k := 2) (by omega); omega) (by have := (xs.getD 2 0).toNat_lt; omega)
  · exact joined .u32 32 (by decide) wraps_u32 _ _ (by have := val_take_lt (xs := xs) (k := 3) (by omega); omega) (by have := (xs.getD 3 0).toNat_lt; omega)
theorem num_u64 {xs : List UInt8} (hl : xs.length = 8) (k : Nat) (hk : k < 8) : bits .or .u64 (IntKind.u64.wrap (IntKind.u64.wrap ((val (xs.take k) : Nat) * 16) * 16)) (IntKind.u64.wrap ((xs.getD k 0).toNat : Int)) = ((val (xs.take (k + 1)) : Nat) : Int) := by
  rw [val_take (by omega)]
  have hjs : k = 0 ∨ k = 1 ∨ k = 2 ∨ k = 3 ∨ k = 4 ∨ k = 5 ∨ k = 6 ∨ k = 7 := by omega
  rcases hjs with rfl | rfl | rfl | rfl | rfl | rfl | rfl | rfl
  · exact joined .u64 64 (by decide) wraps_u64 _ _ (by have := val_take_lt (xs := xs) (k := 0) (by omega); omega) (by have := (xs.getD 0 0).toNat_lt; omega)
  · exact joined .u64 64 (by decide) wraps_u64 _ _ (by have := val_take_lt (xs := xs) (k := 1) (by omega); omega) (by have := (xs.getD 1 0).toNat_lt; omega)
  · exact joined .u64 64 (by decide) wraps_u64 _ _ (by have := val_take_lt (xs := xs) (k := 2) (by omega); omega) (by have := (xs.getD 2 0).toNat_lt; omega)
  · exact joined .u64 64 (by decide) wraps_u64 _ _ (by have := val_take_lt (xs := xs) (k := 3) (by omega); omega) (by have := (xs.getD 3 0).toNat_lt; omega)
  · exact joined .u64 64 (by decide) wraps_u64 _ _ (by have := val_take_lt (xs := xs) (k := 4) (by omega); omega) (by have := (xs.getD 4 0).toNat_lt; omega)
  · exact joined .u64 64 (by decide) wraps_u64 _ _ (by have := val_take_lt (xs := xs) (k := 5) (by omega); omega) (by have := (xs.getD 5 0).toNat_lt; omega)
  · exact joined .u64 64 (by decide) wraps_u64 _ _ (by have := val_take_lt (xs := xs) (k := 6) (by omega); omega) (by have := (xs.getD 6 0).toNat_lt; omega)
  · exact joined .u64 64 (by decide) wraps_u64 _ _ (by have := val_take_lt (xs := xs) (k := 7) (by omega); omega) (by have := (xs.getD 7 0).toNat_lt; omega)

set_option maxHeartbeats 1000000 in
theorem take8 (b : Nat) (v : Value) (l : List UInt8) (s : Nat × Int) (w : World) (hr : Rd w b v l s) (hl : l.length ≤ 140737488355328) :
    Calls Try.prog 12 #[.pointer (some ⟨b, 0, none⟩)] w (Took 1 .u8 b v l s w) := by
  have Hr := Lib.hid hr
  have hp := hr.2.2
  clear hr
  by_cases hy : s.2 = 0
  · obtain ⟨a, y⟩ := s
    simp only at hy hp
    subst hy
    by_cases hs : a + 1 ≤ l.length
    · go_enter Try.func12, Try.ntmps12
      go_wp2_with (go_at_call 44; refine (width8 _).mono ?_; rintro e w' ⟨rfl, rfl⟩)
      refine (next_lends b v l a 1 _ Hr.out hl hs).mono ?_
      rintro e w1 ⟨sv, rfl, ⟨ao, cap, rfl, g1, g2, g3, g4⟩, hr1, hu1, ho1⟩
      have hlen : ((l.drop a).take 1).length = 1 := by simp; omega
      obtain ⟨xs, hxs⟩ : ∃ xs, xs = (l.drop a).take 1 := ⟨_, rfl⟩
      rw [← hxs] at g1 g4 hlen ⊢
      obtain ⟨ad, rfl⟩ : ∃ ad, ao = some ad := by
        cases ao with
        | some ad => exact ⟨ad, rfl⟩
        | none => have := g3 rfl; omega
      obtain ⟨hsp, hcell⟩ := g4 ad rfl
      obtain ⟨g, off, sp⟩ := ad
      obtain rfl : sp = none := hsp
      have Hxs := Lib.hid hxs
      have Hr1 := Lib.hid hr1
      have Hu1 := Lib.hid hu1
      have Hcell := Lib.hid hcell
      clear hxs hr1 hu1 ho1 g2 g3 g4 hcell g1
      rw [hlen]
      have Hlen := Lib.hid hlen
      clear hlen
      go_wp2
      go_loop [3, 5, 13] (fun n _ i => ∃ k : Nat, k ≤ 1 ∧ i = .int .i64 k ∧ n = .int .u8 (val (xs.take k))) (fun _ _ i => 1 - (intOf i).toNat)
      case atStart => exact ⟨0, by omega, rfl, rfl⟩
      case round =>
        obtain ⟨k, hk, rfl, rfl⟩ := hrel
        by_cases hlt : k < 1
        · have hc := Hcell.out k (by rw [Hlen.out]; exact hlt)
          rw [show (⟨g, off, none⟩ : Addr).add k = ⟨g, off + k, none⟩ by unfold Addr.add; split <;> simp_all] at hc
          unfold u8 at hc
          have hn := Lib.hid (num_u8 Hlen.out k hlt)
          go_wp2
          go_roundw
          case rel => exact ⟨k + 1, by omega, by go_num, by rw [← hn.out]; simp [IntKind.wrap_u8]⟩
          case measure => simp [intOf]; omega
        · obtain rfl : k = 1 := by omega
          have Hm := Lib.hid (takeM_ok hs)
          rw [← Hxs.out] at Hm
          have ht : List.take 1 xs = xs := List.take_of_length_le (by rw [Hlen.out]; exact Nat.le_refl _)
          go_wp2
          go_ret
          refine ⟨?_, ?_, Hu1.out⟩
          · rw [Hm.out]; rfl
          · rw [Hm.out]; exact Hr1.out
    · have Hm := Lib.hid (takeM_short (W := 1) (l := l) (a := a) (by omega))
      go_enter Try.func12, Try.ntmps12
      go_wp2_with (go_at_call 44; refine (width8 _).mono ?_; rintro e w' ⟨rfl, rfl⟩)
      refine (next_short b v l a 1 _ Hr.out hl (.inr (by omega))).mono ?_
      rintro e w1 ⟨rfl, hr1, hu1⟩
      have Hr1 := Lib.hid hr1
      have Hu1 := Lib.hid hu1
      clear hr1 hu1
      go_wp2
      refine wp_loop_rounds 1 ?_
      rw [rounds_succ]
      go_wp2
      go_ret
      refine ⟨?_, ?_, Hu1.out⟩
      · rw [Hm.out]; rfl
      · rw [Hm.out]; exact Hr1.out
  · have Hm := Lib.hid (takeM_refused (W := 1) (l := l) hy)
    go_enter Try.func12, Try.ntmps12
    go_wp2_with (go_at_call 44; refine (width8 _).mono ?_; rintro e w' ⟨rfl, rfl⟩)
    refine (next_refused b v l s 1 _ Hr.out hy).mono ?_
    rintro e w1 ⟨rfl, rfl⟩
    clear hy
    go_wp2
    refine wp_loop_rounds 1 ?_
    rw [rounds_succ]
    go_wp2
    go_ret
    refine ⟨?_, ?_, Upd.refl _ _⟩
    · rw [Hm.out]; rfl
    · rw [Hm.out]; exact Hr.out

set_option maxHeartbeats 1000000 in
theorem take16 (b : Nat) (v : Value) (l : List UInt8) (s : Nat × Int) (w : World) (hr : Rd w b v l s) (hl : l.length ≤ 140737488355328) :
    Calls Try.prog 20 #[.pointer (some ⟨b, 0, none⟩)] w (Took 2 .u16 b v l s w) := by
  have Hr := Lib.hid hr
  have hp := hr.2.2
  clear hr
  by_cases hy : s.2 = 0
  · obtain ⟨a, y⟩ := s
    simp only at hy hp
    subst hy
    by_cases hs : a + 2 ≤ l.length
    · go_enter Try.func20, Try.ntmps20
      go_wp2_with (go_at_call 48; refine (width16 _).mono ?_; rintro e w' ⟨rfl, rfl⟩)
      refine (next_lends b v l a 2 _ Hr.out hl hs).mono ?_
      rintro e w1 ⟨sv, rfl, ⟨ao, cap, rfl, g1, g2, g3, g4⟩, hr1, hu1, ho1⟩
      have hlen : ((l.drop a).take 2).length = 2 := by simp; omega
      obtain ⟨xs, hxs⟩ : ∃ xs, xs = (l.drop a).take 2 := ⟨_, rfl⟩
      rw [← hxs] at g1 g4 hlen ⊢
      obtain ⟨ad, rfl⟩ : ∃ ad, ao = some ad := by
        cases ao with
        | some ad => exact ⟨ad, rfl⟩
        | none => have := g3 rfl; omega
      obtain ⟨hsp, hcell⟩ := g4 ad rfl
      obtain ⟨g, off, sp⟩ := ad
      obtain rfl : sp = none := hsp
      have Hxs := Lib.hid hxs
      have Hr1 := Lib.hid hr1
      have Hu1 := Lib.hid hu1
      have Hcell := Lib.hid hcell
      clear hxs hr1 hu1 ho1 g2 g3 g4 hcell g1
      rw [hlen]
      have Hlen := Lib.hid hlen
      clear hlen
      go_wp2
      go_loop [3, 5, 13] (fun n _ i => ∃ k : Nat, k ≤ 2 ∧ i = .int .i64 k ∧ n = .int .u16 (val (xs.take k))) (fun _ _ i => 2 - (intOf i).toNat)
      case atStart => exact ⟨0, by omega, rfl, rfl⟩
      case round =>
        obtain ⟨k, hk, rfl, rfl⟩ := hrel
        by_cases hlt : k < 2
        · have hc := Hcell.out k (by rw [Hlen.out]; exact hlt)
          rw [show (⟨g, off, none⟩ : Addr).add k = ⟨g, off + k, none⟩ by unfold Addr.add; split <;> simp_all] at hc
          unfold u8 at hc
          have hn := Lib.hid (num_u16 Hlen.out k hlt)
          go_wp2
          go_roundw
          case rel => exact ⟨k + 1, by omega, by go_num, by rw [← hn.out]; simp⟩
          case measure => simp [intOf]; omega
        · obtain rfl : k = 2 := by omega
          have Hm := Lib.hid (takeM_ok hs)
          rw [← Hxs.out] at Hm
          have ht : List.take 2 xs = xs := List.take_of_length_le (by rw [Hlen.out]; exact Nat.le_refl _)
          go_wp2
          go_ret
          refine ⟨?_, ?_, Hu1.out⟩
          · rw [Hm.out]; rfl
          · rw [Hm.out]; exact Hr1.out
    · have Hm := Lib.hid (takeM_short (W := 2) (l := l) (a := a) (by omega))
      go_enter Try.func20, Try.ntmps20
      go_wp2_with (go_at_call 48; refine (width16 _).mono ?_; rintro e w' ⟨rfl, rfl⟩)
      refine (next_short b v l a 2 _ Hr.out hl (.inr (by omega))).mono ?_
      rintro e w1 ⟨rfl, hr1, hu1⟩
      have Hr1 := Lib.hid hr1
      have Hu1 := Lib.hid hu1
      clear hr1 hu1
      go_wp2
      refine wp_loop_rounds 1 ?_
      rw [rounds_succ]
      go_wp2
      go_ret
      refine ⟨?_, ?_, Hu1.out⟩
      · rw [Hm.out]; rfl
      · rw [Hm.out]; exact Hr1.out
  · have Hm := Lib.hid (takeM_refused (W := 2) (l := l) hy)
    go_enter Try.func20, Try.ntmps20
    go_wp2_with (go_at_call 48; refine (width16 _).mono ?_; rintro e w' ⟨rfl, rfl⟩)
    refine (next_refused b v l s 2 _ Hr.out hy).mono ?_
    rintro e w1 ⟨rfl, rfl⟩
    clear hy
    go_wp2
    refine wp_loop_rounds 1 ?_
    rw [rounds_succ]
    go_wp2
    go_ret
    refine ⟨?_, ?_, Upd.refl _ _⟩
    · rw [Hm.out]; rfl
    · rw [Hm.out]; exact Hr.out

set_option maxHeartbeats 1000000 in
theorem take32 (b : Nat) (v : Value) (l : List UInt8) (s : Nat × Int) (w : World) (hr : Rd w b v l s) (hl : l.length ≤ 140737488355328) :
    Calls Try.prog 72 #[.pointer (some ⟨b, 0, none⟩)] w (Took 4 .u32 b v l s w) := by
  have Hr := Lib.hid hr
  have hp := hr.2.2
  clear hr
  by_cases hy : s.2 = 0
  · obtain ⟨a, y⟩ := s
    simp only at hy hp
    subst hy
    by_cases hs : a + 4 ≤ l.length
    · go_enter Try.func72, Try.ntmps72
      go_wp2_with (go_at_call 99; refine (width32 _).mono ?_; rintro e w' ⟨rfl, rfl⟩)
      refine (next_lends b v l a 4 _ Hr.out hl hs).mono ?_
      rintro e w1 ⟨sv, rfl, ⟨ao, cap, rfl, g1, g2, g3, g4⟩, hr1, hu1, ho1⟩
      have hlen : ((l.drop a).take 4).length = 4 := by simp; omega
      obtain ⟨xs, hxs⟩ : ∃ xs, xs = (l.drop a).take 4 := ⟨_, rfl⟩
      rw [← hxs] at g1 g4 hlen ⊢
      obtain ⟨ad, rfl⟩ : ∃ ad, ao = some ad := by
        cases ao with
        | some ad => exact ⟨ad, rfl⟩
        | none => have := g3 rfl; omega
      obtain ⟨hsp, hcell⟩ := g4 ad rfl
      obtain ⟨g, off, sp⟩ := ad
      obtain rfl : sp = none := hsp
      have Hxs := Lib.hid hxs
      have Hr1 := Lib.hid hr1
      have Hu1 := Lib.hid hu1
      have Hcell := Lib.hid hcell
      clear hxs hr1 hu1 ho1 g2 g3 g4 hcell g1
      rw [hlen]
      have Hlen := Lib.hid hlen
      clear hlen
      go_wp2
      go_loop [3, 5, 13] (fun n _ i => ∃ k : Nat, k ≤ 4 ∧ i = .int .i64 k ∧ n = .int .u32 (val (xs.take k))) (fun _ _ i => 4 - (intOf i).toNat)
      case atStart => exact ⟨0, by omega, rfl, rfl⟩
      case round =>
        obtain ⟨k, hk, rfl, rfl⟩ := hrel
        by_cases hlt : k < 4
        · have hc := Hcell.out k (by rw [Hlen.out]; exact hlt)
          rw [show (⟨g, off, none⟩ : Addr).add k = ⟨g, off + k, none⟩ by unfold Addr.add; split <;> simp_all] at hc
          unfold u8 at hc
          have hn := Lib.hid (num_u32 Hlen.out k hlt)
          go_wp2
          go_roundw
          case rel => exact ⟨k + 1, by omega, by go_num, by rw [← hn.out]; simp [IntKind.wrap_u32]⟩
          case measure => simp [intOf]; omega
        · obtain rfl : k = 4 := by omega
          have Hm := Lib.hid (takeM_ok hs)
          rw [← Hxs.out] at Hm
          have ht : List.take 4 xs = xs := List.take_of_length_le (by rw [Hlen.out]; exact Nat.le_refl _)
          go_wp2
          go_ret
          refine ⟨?_, ?_, Hu1.out⟩
          · rw [Hm.out]; rfl
          · rw [Hm.out]; exact Hr1.out
    · have Hm := Lib.hid (takeM_short (W := 4) (l := l) (a := a) (by omega))
      go_enter Try.func72, Try.ntmps72
      go_wp2_with (go_at_call 99; refine (width32 _).mono ?_; rintro e w' ⟨rfl, rfl⟩)
      refine (next_short b v l a 4 _ Hr.out hl (.inr (by omega))).mono ?_
      rintro e w1 ⟨rfl, hr1, hu1⟩
      have Hr1 := Lib.hid hr1
      have Hu1 := Lib.hid hu1
      clear hr1 hu1
      go_wp2
      refine wp_loop_rounds 1 ?_
      rw [rounds_succ]
      go_wp2
      go_ret
      refine ⟨?_, ?_, Hu1.out⟩
      · rw [Hm.out]; rfl
      · rw [Hm.out]; exact Hr1.out
  · have Hm := Lib.hid (takeM_refused (W := 4) (l := l) hy)
    go_enter Try.func72, Try.ntmps72
    go_wp2_with (go_at_call 99; refine (width32 _).mono ?_; rintro e w' ⟨rfl, rfl⟩)
    refine (next_refused b v l s 4 _ Hr.out hy).mono ?_
    rintro e w1 ⟨rfl, rfl⟩
    clear hy
    go_wp2
    refine wp_loop_rounds 1 ?_
    rw [rounds_succ]
    go_wp2
    go_ret
    refine ⟨?_, ?_, Upd.refl _ _⟩
    · rw [Hm.out]; rfl
    · rw [Hm.out]; exact Hr.out

set_option maxHeartbeats 1000000 in
theorem take64 (b : Nat) (v : Value) (l : List UInt8) (s : Nat × Int) (w : World) (hr : Rd w b v l s) (hl : l.length ≤ 140737488355328) :
    Calls Try.prog 13 #[.pointer (some ⟨b, 0, none⟩)] w (Took 8 .u64 b v l s w) := by
  have Hr := Lib.hid hr
  have hp := hr.2.2
  clear hr
  by_cases hy : s.2 = 0
  · obtain ⟨a, y⟩ := s
    simp only at hy hp
    subst hy
    by_cases hs : a + 8 ≤ l.length
    · go_enter Try.func13, Try.ntmps13
      go_wp2_with (go_at_call 45; refine (width64 _).mono ?_; rintro e w' ⟨rfl, rfl⟩)
      refine (next_lends b v l a 8 _ Hr.out hl hs).mono ?_
      rintro e w1 ⟨sv, rfl, ⟨ao, cap, rfl, g1, g2, g3, g4⟩, hr1, hu1, ho1⟩
      have hlen : ((l.drop a).take 8).length = 8 := by simp; omega
      obtain ⟨xs, hxs⟩ : ∃ xs, xs = (l.drop a).take 8 := ⟨_, rfl⟩
      rw [← hxs] at g1 g4 hlen ⊢
      obtain ⟨ad, rfl⟩ : ∃ ad, ao = some ad := by
        cases ao with
        | some ad => exact ⟨ad, rfl⟩
        | none => have := g3 rfl; omega
      obtain ⟨hsp, hcell⟩ := g4 ad rfl
      obtain ⟨g, off, sp⟩ := ad
      obtain rfl : sp = none := hsp
      have Hxs := Lib.hid hxs
      have Hr1 := Lib.hid hr1
      have Hu1 := Lib.hid hu1
      have Hcell := Lib.hid hcell
      clear hxs hr1 hu1 ho1 g2 g3 g4 hcell g1
      rw [hlen]
      have Hlen := Lib.hid hlen
      clear hlen
      go_wp2
      go_loop [3, 5, 13] (fun n _ i => ∃ k : Nat, k ≤ 8 ∧ i = .int .i64 k ∧ n = .int .u64 (val (xs.take k))) (fun _ _ i => 8 - (intOf i).toNat)
      case atStart => exact ⟨0, by omega, rfl, rfl⟩
      case round =>
        obtain ⟨k, hk, rfl, rfl⟩ := hrel
        by_cases hlt : k < 8
        · have hc := Hcell.out k (by rw [Hlen.out]; exact hlt)
          rw [show (⟨g, off, none⟩ : Addr).add k = ⟨g, off + k, none⟩ by unfold Addr.add; split <;> simp_all] at hc
          unfold u8 at hc
          have hn := Lib.hid (num_u64 Hlen.out k hlt)
          go_wp2
          go_roundw
          case rel => exact ⟨k + 1, by omega, by go_num, by rw [← hn.out]; simp⟩
          case measure => simp [intOf]; omega
        · obtain rfl : k = 8 := by omega
          have Hm := Lib.hid (takeM_ok hs)
          rw [← Hxs.out] at Hm
          have ht : List.take 8 xs = xs := List.take_of_length_le (by rw [Hlen.out]; exact Nat.le_refl _)
          go_wp2
          go_ret
          refine ⟨?_, ?_, Hu1.out⟩
          · rw [Hm.out]; rfl
          · rw [Hm.out]; exact Hr1.out
    · have Hm := Lib.hid (takeM_short (W := 8) (l := l) (a := a) (by omega))
      go_enter Try.func13, Try.ntmps13
      go_wp2_with (go_at_call 45; refine (width64 _).mono ?_; rintro e w' ⟨rfl, rfl⟩)
      refine (next_short b v l a 8 _ Hr.out hl (.inr (by omega))).mono ?_
      rintro e w1 ⟨rfl, hr1, hu1⟩
      have Hr1 := Lib.hid hr1
      have Hu1 := Lib.hid hu1
      clear hr1 hu1
      go_wp2
      refine wp_loop_rounds 1 ?_
      rw [rounds_succ]
      go_wp2
      go_ret
      refine ⟨?_, ?_, Hu1.out⟩
      · rw [Hm.out]; rfl
      · rw [Hm.out]; exact Hr1.out
  · have Hm := Lib.hid (takeM_refused (W := 8) (l := l) hy)
    go_enter Try.func13, Try.ntmps13
    go_wp2_with (go_at_call 45; refine (width64 _).mono ?_; rintro e w' ⟨rfl, rfl⟩)
    refine (next_refused b v l s 8 _ Hr.out hy).mono ?_
    rintro e w1 ⟨rfl, rfl⟩
    clear hy
    go_wp2
    refine wp_loop_rounds 1 ?_
    rw [rounds_succ]
    go_wp2
    go_ret
    refine ⟨?_, ?_, Upd.refl _ _⟩
    · rw [Hm.out]; rfl
    · rw [Hm.out]; exact Hr.out

set_option maxHeartbeats 1000000 in
theorem takeMine (b : Nat) (v : Value) (l : List UInt8) (s : Nat × Int) (w : World) (hr : Rd w b v l s) (hl : l.length ≤ 140737488355328) :
    Calls Try.prog 89 #[.pointer (some ⟨b, 0, none⟩)] w (Took 2 .u16 b v l s w) := by
  have Hr := Lib.hid hr
  have hp := hr.2.2
  clear hr
  by_cases hy : s.2 = 0
  · obtain ⟨a, y⟩ := s
    simp only at hy hp
    subst hy
    by_cases hs : a + 2 ≤ l.length
    · go_enter Try.func89, Try.ntmps89
      go_wp2_with (go_at_call 106; refine (widthMine _).mono ?_; rintro e w' ⟨rfl, rfl⟩)
      refine (next_lends b v l a 2 _ Hr.out hl hs).mono ?_
      rintro e w1 ⟨sv, rfl, ⟨ao, cap, rfl, g1, g2, g3, g4⟩, hr1, hu1, ho1⟩
      have hlen : ((l.drop a).take 2).length = 2 := by simp; omega
      obtain ⟨xs, hxs⟩ : ∃ xs, xs = (l.drop a).take 2 := ⟨_, rfl⟩
      rw [← hxs] at g1 g4 hlen ⊢
      obtain ⟨ad, rfl⟩ : ∃ ad, ao = some ad := by
        cases ao with
        | some ad => exact ⟨ad, rfl⟩
        | none => have := g3 rfl; omega
      obtain ⟨hsp, hcell⟩ := g4 ad rfl
      obtain ⟨g, off, sp⟩ := ad
      obtain rfl : sp = none := hsp
      have Hxs := Lib.hid hxs
      have Hr1 := Lib.hid hr1
      have Hu1 := Lib.hid hu1
      have Hcell := Lib.hid hcell
      clear hxs hr1 hu1 ho1 g2 g3 g4 hcell g1
      rw [hlen]
      have Hlen := Lib.hid hlen
      clear hlen
      go_wp2
      go_loop [3, 5, 13] (fun n _ i => ∃ k : Nat, k ≤ 2 ∧ i = .int .i64 k ∧ n = .int .u16 (val (xs.take k))) (fun _ _ i => 2 - (intOf i).toNat)
      case atStart => exact ⟨0, by omega, rfl, rfl⟩
      case round =>
        obtain ⟨k, hk, rfl, rfl⟩ := hrel
        by_cases hlt : k < 2
        · have hc := Hcell.out k (by rw [Hlen.out]; exact hlt)
          rw [show (⟨g, off, none⟩ : Addr).add k = ⟨g, off + k, none⟩ by unfold Addr.add; split <;> simp_all] at hc
          unfold u8 at hc
          have hn := Lib.hid (num_u16 Hlen.out k hlt)
          go_wp2
          go_roundw
          case rel => exact ⟨k + 1, by omega, by go_num, by rw [← hn.out]; simp⟩
          case measure => simp [intOf]; omega
        · obtain rfl : k = 2 := by omega
          have Hm := Lib.hid (takeM_ok hs)
          rw [← Hxs.out] at Hm
          have ht : List.take 2 xs = xs := List.take_of_length_le (by rw [Hlen.out]; exact Nat.le_refl _)
          go_wp2
          go_ret
          refine ⟨?_, ?_, Hu1.out⟩
          · rw [Hm.out]; rfl
          · rw [Hm.out]; exact Hr1.out
    · have Hm := Lib.hid (takeM_short (W := 2) (l := l) (a := a) (by omega))
      go_enter Try.func89, Try.ntmps89
      go_wp2_with (go_at_call 106; refine (widthMine _).mono ?_; rintro e w' ⟨rfl, rfl⟩)
      refine (next_short b v l a 2 _ Hr.out hl (.inr (by omega))).mono ?_
      rintro e w1 ⟨rfl, hr1, hu1⟩
      have Hr1 := Lib.hid hr1
      have Hu1 := Lib.hid hu1
      clear hr1 hu1
      go_wp2
      refine wp_loop_rounds 1 ?_
      rw [rounds_succ]
      go_wp2
      go_ret
      refine ⟨?_, ?_, Hu1.out⟩
      · rw [Hm.out]; rfl
      · rw [Hm.out]; exact Hr1.out
  · have Hm := Lib.hid (takeM_refused (W := 2) (l := l) hy)
    go_enter Try.func89, Try.ntmps89
    go_wp2_with (go_at_call 106; refine (widthMine _).mono ?_; rintro e w' ⟨rfl, rfl⟩)
    refine (next_refused b v l s 2 _ Hr.out hy).mono ?_
    rintro e w1 ⟨rfl, rfl⟩
    clear hy
    go_wp2
    refine wp_loop_rounds 1 ?_
    rw [rounds_succ]
    go_wp2
    go_ret
    refine ⟨?_, ?_, Upd.refl _ _⟩
    · rw [Hm.out]; rfl
    · rw [Hm.out]; exact Hr.out
end Go.Proofs.Ytcdgimapkbaboaa.TakeW
