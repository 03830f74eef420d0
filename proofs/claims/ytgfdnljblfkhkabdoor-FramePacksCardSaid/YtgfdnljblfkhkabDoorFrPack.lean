/-
  frame.Pack.
-/
import Derived.Test.YtgfdnljblfkhkabDoorFrEnd
import Derived.Test.YtgfdnljblfkhkabDoorRawB
namespace Go.Proofs.YtgfdnljblfkhkabDoor.FrPack
open Go.RowKit Sha Mem Width PutW WriterW RowW CopyW BookW RawB Crc FrTurn FrScan FrFits FrBegin FrOne FrWalk FrEnd
set_option linter.unusedVariables false
set_option linter.unusedSimpArgs false

/-- a frame's first five bytes -/
def opening (L : Nat) : List UInt8 := be 209 1 ++ be L 4
/-- the frame of a record -/
def frame (n : Int) (p : List UInt8) : List UInt8 := ((opening p.length ++ be (U (crc (opening p.length))) 4) ++ p) ++ be (U (~~~ overc (nreg n) p)) 4
theorem opening_len (L : Nat) : (opening L).length = 5 := rfl
theorem frame_len (n : Int) (p : List UInt8) : (frame n p).length = p.length + 13 := by
  unfold frame
  simp only [List.length_append, be_len, opening_len]
  omega
/-- what Pack tells -/
def PackAt (n : Int) (p : List UInt8) (w : World) (e : Ending) (w' : World) : Prop :=
  (nok n = true ∧ p.length ≤ 65536 ∧ ∃ v, e = .returned (.tuple #[v, .int .i64 0]) ∧ w'.ownsRow w.heap.size 5 1 v (frame n p).length ((frame n p).map u8) ∧ Upd (fun _ => False) w w') ∨
  (nok n = false ∧ e = .returned (.tuple #[.slice none 0 0, .int .i64 1]) ∧ w = w') ∨
  (nok n = true ∧ 65536 < p.length ∧ e = .returned (.tuple #[.slice none 0 0, .int .i64 6]) ∧ w = w')

theorem wf32 (n : Int) (h0 : 0 ≤ n) (h1 : n < 4294967296) : (Lit.int .u32 n).wf = true := by
  have hmin : IntKind.u32.min = 0 := rfl
  have hmax : IntKind.u32.max = 4294967295 := rfl
  simp only [Lit.wf, Bool.and_eq_true, decide_eq_true_eq]
  omega
theorem slL_one (w : World) (g : Nat) (v : Value) (xs : List UInt8) (O : Nat → Prop) (hg : w.heap[g]? = some (.cells #[v] 22 (0, 0))) (hs : Sl w v xs) (ho : ∀ k, own v k → O k) (hO : O g) :
    SlL w (.slice (some ⟨g, 0, none⟩) 1 1) [xs] O := by
  refine ⟨_, 1, fun _ => v, rfl, by simp, fun k hk => ?_, fun a ha => ?_⟩
  · simp [own, Value.ownBlock] at hk
    exact hk ▸ hO
  · injection ha with ha
    subst ha
    refine ⟨rfl, fun i hi => ?_⟩
    obtain rfl : i = 0 := by simpa using hi
    exact ⟨by rw [add_none, cell_of_row _ _ _ _ _ _ hg]; rfl, hs, ho⟩

theorem pack_number (n : Int) (ao : Option Addr) (m cap : Nat) (p : List UInt8) (w : World) (hk : nok n = false) :
    Calls Tryd.prog 11 #[.int .i64 n, .slice ao m cap] w (PackAt n p w) := by
  have HN := numbers_any n w
  rw [hk] at HN
  have H := Lib.hid HN
  have Hk := Lib.hid hk
  clear HN hk
  go_enter Tryd.func11, Tryd.ntmps11
  go_wp2_with (go_at_call 28; refine H.out.mono ?_; rintro e w2 ⟨rfl, rfl⟩)
  go_ret2
  exact .inr (.inl ⟨Hk.out, rfl, rfl⟩)
theorem pack_long (n : Int) (ao : Option Addr) (m cap : Nat) (p : List UInt8) (w : World) (hk : nok n = true) (hp : p.length = m) (hm : 65536 < m) :
    Calls Tryd.prog 11 #[.int .i64 n, .slice ao m cap] w (PackAt n p w) := by
  have HN := numbers_any n w
  rw [hk] at HN
  have H := Lib.hid HN
  have Hk := Lib.hid hk
  have Hp := Lib.hid hp
  have hmI : (65536 : Int) < (m : Int) := by omega
  clear HN hk hp
  go_enter Tryd.func11, Tryd.ntmps11
  go_wp2_with (go_at_call 28; refine H.out.mono ?_; rintro e w2 ⟨rfl, rfl⟩)
  go_ret2
  exact .inr (.inr ⟨Hk.out, by rw [Hp.out]; exact hm, rfl, rfl⟩)

/-- what is known of the Writer while a frame is laid: it lies above what was there -/
structure Wk (w0 w : World) (b : Nat) (v : Value) (l : List UInt8) : Prop where
  wr : Wr w b v l
  hb : w0.heap.size ≤ b
  hv : ∀ k, own v k → w0.heap.size ≤ k
  upd : Upd (fun _ => False) w0 w
theorem Wk.grew {w0 w w' : World} {b : Nat} {v : Value} {l news : List UInt8} (h : Wk w0 w b v l) (g : Grew b v l news w w') : ∃ v', Wk w0 w' b v' (l ++ news) := by
  obtain ⟨v', hw, hu, ho⟩ := g
  refine ⟨v', hw, h.hb, fun k hk => ?_, h.upd.trans (hu.mono fun k _ e => ?_)⟩
  · rcases ho k hk with h1 | h1
    · exact h.hv k h1
    · have := h.upd.size; omega
  · rcases e with rfl | e
    · exact .inr h.hb
    · exact .inr (h.hv k e)
theorem Wk.upd' {w0 w w' : World} {b : Nat} {v : Value} {l : List UInt8} (h : Wk w0 w b v l) (hu : Upd (fun _ => False) w w') : Wk w0 w' b v l := by
  refine ⟨⟨(hu.block b (lt_of_block h.wr.1) id).trans h.wr.1, ?_⟩, h.hb, h.hv, h.upd.trans (hu.mono fun _ _ e => e.elim)⟩
  refine ⟨h.wr.2.1, ?_⟩
  rcases h.wr.2.2 with h2 | ⟨g, cap, cur, rfl, hg, hh, r⟩
  · exact .inl h2
  · exact .inr ⟨g, cap, cur, rfl, hg, (hu.block g (lt_of_block hh) id).trans hh, r⟩

set_option maxHeartbeats 4000000 in
theorem pack_some (n : Int) (ao : Option Addr) (m cap : Nat) (p : List UInt8) (w : World) (hk : nok n = true) (hm : m ≤ 65536) (hs : Sl w (.slice ao m cap) p) (ho : ∀ k, own (.slice ao m cap) k → k < w.heap.size) (ht : Tw w) :
    Calls Tryd.prog 11 #[.int .i64 n, .slice ao m cap] w (PackAt n p w) := by
  have hml : m = p.length := by obtain ⟨_, _, h, _⟩ := hs; injection h
  have HN := numbers_any n w
  rw [hk] at HN
  have H := Lib.hid HN
  have hn := (nok_iff _).1 hk
  obtain ⟨hn0, hn1⟩ := hn
  have Hk := Lib.hid hk
  have Hml := Lib.hid hml
  have Hs := Lib.hid hs
  have Ho := Lib.hid ho
  have Ht := Lib.hid ht
  have hmI : ¬ (65536 : Int) < (m : Int) := by omega
  have hdI : decide ((65536 : Int) < (m : Int)) = false := by simpa using hmI
  have e32 : IntKind.u32.wrap (m : Int) = (m : Int) := by rw [IntKind.wrap_u32']; omega
  clear HN hk hml hs ho ht
  go_enter Tryd.func11, Tryd.ntmps11
  go_wp2_with (go_at_call 28; refine H.out.mono ?_; rintro e w2 ⟨rfl, rfl⟩)
  refine (new_any _).mono ?_
  rintro e w1 ⟨rfl, hw1, hu1⟩
  obtain ⟨b, hb⟩ : ∃ b, b = w.heap.size := ⟨_, rfl⟩
  rw [← hb] at hw1 ⊢
  have K1 : Hid (Wk w w1 b (.slice none 0 0) []) := ⟨hw1, by omega, fun k h => by simp [own, Value.ownBlock] at h, hu1⟩
  have Hb := Lib.hid hb
  clear hw1 hu1 hb
  go_wp2_with fail
  refine (put8 b _ _ 209 w1 (by decide) (by decide) K1.out.wr (by simp)).mono ?_
  rintro e w2 ⟨rfl, hg⟩
  obtain ⟨v2, hk2⟩ := K1.out.grew hg
  have K2 := Lib.hid hk2
  clear hg hk2
  go_wp2_with fail
  refine (put32 b v2 _ (m : Int) w2 (by omega) (wf32 _ (by omega) (by omega)) K2.out.wr (by simp [be])).mono ?_
  rintro e w3 ⟨rfl, hg⟩
  obtain ⟨v3, hk3⟩ := K2.out.grew hg
  have e3 : [] ++ be 209 1 ++ be (m : Int) 4 = opening m := rfl
  rw [e3] at hk3
  have K3 := Lib.hid hk3
  clear hg hk3 e3
  go_wp2_with fail
  refine (all_any b v3 _ w3 K3.out.wr (by rw [opening_len]; omega)).mono ?_
  rintro e w4 ⟨v4, rfl, hown4, hu4⟩
  have K4 := Lib.hid (K3.out.upd' hu4)
  have hsl4 := Sl.of_row hown4
  obtain ⟨ao4, cap4, rfl, hrest⟩ := hsl4
  have HC := crc_any ao4 _ cap4 (opening m) w4 ⟨ao4, cap4, rfl, hrest⟩ (Ht.out.upd K4.out.upd id) (by rw [opening_len]; omega)
  obtain ⟨x, hx⟩ : ∃ x, x = crc (opening m) := ⟨_, rfl⟩
  rw [← hx] at HC
  have HC' := Lib.hid HC
  have Hx := Lib.hid hx
  clear hown4 hu4 hrest HC hx
  go_wp2_with fail
  refine HC'.out.mono ?_
  rintro e w5 ⟨rfl, rfl⟩
  go_wp2_with fail
  refine (put32 b v3 _ (U x) w4 (U_lo x) (wf32 _ (U_lo x) (U_hi x)) K4.out.wr (by rw [opening_len]; omega)).mono ?_
  rintro e w6 ⟨rfl, hg⟩
  obtain ⟨v6, hk6⟩ := K4.out.grew hg
  have K6 := Lib.hid hk6
  clear hg hk6
  go_wp2_with fail
  obtain ⟨w7, hw7⟩ : ∃ x, x = w6.alloc (.cells #[.slice ao m cap] 22) := ⟨_, rfl⟩
  obtain ⟨g7, hg7⟩ : ∃ x, x = w6.heap.size := ⟨_, rfl⟩
  have hb7 : w7.heap[g7]? = some (.cells #[.slice ao m cap] 22 (0, 0)) := by rw [hw7, hg7]; exact heap_alloc_new _ _
  have hs7 : w7.heap.size = g7 + 1 := by rw [hw7, hg7]; simp
  have hk7 := K6.out.upd' (w' := w7) (by rw [hw7]; exact (Upd.refl _ _).alloc _)
  have hsz : w.heap.size ≤ g7 := by rw [hg7]; exact K6.out.upd.size
  have hbl : b < g7 := by rw [hg7]; exact lt_of_block K6.out.wr.1
  have hvl : ∀ k, own v6 k → k < g7 := fun k h => by rw [hg7]; exact (K6.out.wr.2.lt k h).2
  have hsl7 := slL_one w7 g7 (.slice ao m cap) p (fun k => k < w.heap.size ∨ k = g7) hb7 (Hs.out.upd hk7.upd (fun _ _ => id)) (fun k h => .inl (Ho.out k h)) (.inr rfl)
  have HRw := Lib.hid (Raw_any b v6 _ _ [p] _ w7 hk7.wr hsl7 (by
    intro k hk
    rcases hk with hk | rfl
    · exact ⟨by omega, by have := Hb.out; omega, fun h => by have := hk7.hv k h; omega⟩
    · exact ⟨by omega, by omega, fun h => by have := hvl _ h; omega⟩) (by have := Hml.out; simp only [List.length_append, opening_len, be_len, cat, List.flatten_cons, List.flatten_nil, List.append_nil]; omega) (by simp))
  have K7 := Lib.hid hk7
  rw [← hw7, ← hg7]
  clear hw7 hg7 hb7 hk7 hvl hsl7
  refine HRw.out.mono ?_
  rintro e w8 ⟨rfl, hg⟩
  obtain ⟨v8, hk8⟩ := K7.out.grew hg
  have ec : cat [p] = p := by simp [cat]
  rw [ec] at hk8
  have K8 := Lib.hid hk8
  clear hg hk8 ec HRw
  go_wp2_with fail
  refine (numbered_any n w8 hn0 hn1 (Ht.out.upd K8.out.upd id)).mono ?_
  rintro e w9 ⟨rfl, hu9⟩
  have K9 := Lib.hid (K8.out.upd' hu9)
  have HO := over_any (nreg n) ao m cap p w9 (Hs.out.upd K9.out.upd (fun _ _ => id)) (Ht.out.upd K9.out.upd id) (by omega)
  obtain ⟨y, hy⟩ : ∃ y, y = overc (nreg n) p := ⟨_, rfl⟩
  obtain ⟨z, hz⟩ : ∃ z, z = nreg n := ⟨_, rfl⟩
  rw [← hy] at HO
  rw [← hz] at HO ⊢
  have HO' := Lib.hid HO
  have Hy := Lib.hid hy
  have Hz := Lib.hid hz
  clear hu9 HO hy hz
  go_wp2_with fail
  refine HO'.out.mono ?_
  rintro e w10 ⟨rfl, rfl⟩
  go_wp2_with fail
  refine (sum_any y w9).mono ?_
  rintro e w10 ⟨rfl, rfl⟩
  go_wp2_with fail
  refine (put32 b v8 _ (U (~~~ y)) w9 (U_lo _) (wf32 _ (U_lo _) (U_hi _)) K9.out.wr (by have := Hml.out; simp only [List.length_append, opening_len, be_len]; omega)).mono ?_
  rintro e w11 ⟨rfl, hg⟩
  obtain ⟨v11, hk11⟩ := K9.out.grew hg
  have ef : opening m ++ be (U x) 4 ++ p ++ be (U (~~~ y)) 4 = frame n p := by rw [Hx.out, Hy.out, Hml.out]; rfl
  rw [ef] at hk11
  have K11 := Lib.hid hk11
  clear hg hk11 ef
  go_wp2_with fail
  refine (all_any b v11 _ w11 K11.out.wr (by rw [frame_len]; have := Hml.out; omega)).mono ?_
  rintro e w12 ⟨v12, rfl, hown12, hu12⟩
  have HP : Hid (PackAt n p w (.returned (.tuple #[v12, .int .i64 0])) w12) := by
    refine .inl ⟨Hk.out, by have := Hml.out; omega, v12, rfl, World.ownsRow.mono hown12 K11.out.upd.size, K11.out.upd.trans (hu12.mono fun _ _ e => e.elim)⟩
  clear hown12 hu12
  go_wp2
  go_ret2
  exact HP.out

theorem pack_any (n : Int) (ao : Option Addr) (m cap : Nat) (p : List UInt8) (w : World) (hs : Sl w (.slice ao m cap) p) (ho : ∀ k, own (.slice ao m cap) k → k < w.heap.size) (ht : Tw w) :
    Calls Tryd.prog 11 #[.int .i64 n, .slice ao m cap] w (PackAt n p w) := by
  have hml : m = p.length := by obtain ⟨_, _, h, _⟩ := hs; injection h
  by_cases hk : nok n = true
  · by_cases hm : m ≤ 65536
    · exact pack_some n ao m cap p w hk hm hs ho ht
    · exact pack_long n ao m cap p w hk hml.symm (by omega)
  · exact pack_number n ao m cap p w (by simpa using hk)
end Go.Proofs.YtgfdnljblfkhkabDoor.FrPack
