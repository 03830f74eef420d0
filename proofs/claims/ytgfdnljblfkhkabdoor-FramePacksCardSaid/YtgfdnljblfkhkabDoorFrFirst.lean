/-
  docketlaw4.first, eight; docketbook.Within.
-/
import Derived.Test.YtgfdnljblfkhkabDoorFrLaw3
import Derived.Test.YtgfdnljblfkhkabDoorConvS
namespace Go.Proofs.YtgfdnljblfkhkabDoor.FrFirst
open Go.RowKit Sha Mem Width PutW WriterW RowW CopyW BookW RawB Crc FrTurn FrScan FrFits FrBegin FrOne FrWalk FrEnd FrPack FrLaw ConvS
set_option linter.unusedVariables false
set_option linter.unusedSimpArgs false

theorem rec_frame (n : Int) (p t : List UInt8) (hp : p.length ≤ 65536) : rec n (frame n p ++ t) = p := by
  unfold rec
  rw [one_frame n p t hp, Nat.add_sub_cancel]
  have hl : (opening p.length ++ be (U (crc (opening p.length))) 4).length = 9 := by rw [List.length_append, opening_len, be_len]
  unfold frame
  rw [List.append_assoc, List.append_assoc, ← hl, List.drop_left, List.take_left]
theorem nil_of_own {w : World} {v : Value} {l : List UInt8} {base : Nat} (h : w.ownsRow base 5 1 v l.length (l.map u8)) : ∃ ao cap, v = .slice ao l.length cap ∧ Sl w (.slice ao l.length cap) l := by
  have h2 := Sl.of_row h
  obtain ⟨ao, cap, rfl, hr⟩ := id h2
  exact ⟨ao, cap, rfl, h2⟩
theorem nok3 : nok 3 = true := by decide

set_option maxHeartbeats 2000000 in
set_option maxRecDepth 100000 in
theorem first_any (w : World) (ht : Tw w) : Calls Tryd.prog 8 #[] w fun e w' => e = .returned (.bool true) ∧ Upd (fun _ => False) w w' := by
  have Ht := Lib.hid ht
  have hf15 : (frame 3 [97, 98]).length = 15 := frame_len 3 [97, 98]
  have ho : one 3 (frame 3 [97, 98]) = 15 := by have := one_frame 3 [97, 98] [] (by simp); rwa [List.append_nil] at this
  have hr : rec 3 (frame 3 [97, 98]) = [97, 98] := by have := rec_frame 3 [97, 98] [] (by simp); rwa [List.append_nil] at this
  obtain ⟨F, hF⟩ : ∃ F, F = frame 3 [97, 98] := ⟨_, rfl⟩
  rw [← hF] at hf15 ho hr
  have HF := Lib.hid hF
  have Ho := Lib.hid ho
  have Hr := Lib.hid hr
  have H15 := Lib.hid hf15
  clear ht hF ho hr hf15
  have kc := fun (w : World) (C : Array Value) (n c : Nat) => Lib.run_convert_bytes_const (P := Tryd.prog) w 22 5 C n c Tryd.underlying22 Tryd.underlying5
  go_enter Tryd.func8, Tryd.ntmps8
  go_wp2_with fail
  obtain ⟨w1, hw1⟩ : ∃ x, x = w.alloc (.cells #[.int .u8 97, .int .u8 98] 5 (2, 3)) := ⟨_, rfl⟩
  have hb1 : w1.heap[w.heap.size]? = some (.cells (([97, 98] : List UInt8).map u8).toArray 5 (2, 3)) := by rw [hw1]; exact heap_alloc_new _ _
  have hu1 : Upd (fun _ => False) w w1 := by rw [hw1]; exact (Upd.refl _ _).alloc _
  have hs1 : w.heap.size < w1.heap.size := by rw [hw1]; simp
  rw [← hw1]
  have HU1 := Lib.hid hu1
  have HP := pack_any 3 (some ⟨w.heap.size, 0, none⟩) 2 2 [97, 98] w1 (sl_row _ _ 5 _ (2, 3) 2 rfl (by unfold maxLen; simp) hb1) (fun k hk => by simp [own, Value.ownBlock] at hk; omega) (Ht.out.upd hu1 id)
  clear hw1 hb1 hu1 kc
  refine HP.mono ?_
  rintro e w2 (⟨_, _, v, rfl, hown, hu2⟩ | ⟨h, _⟩ | ⟨_, h, _⟩)
  · rw [← HF.out] at hown
    obtain ⟨ao, cap, rfl, hsl⟩ := nil_of_own hown
    have HU2 : Hid (Upd (fun _ => False) w w2) := HU1.out.trans (hu2.mono fun _ _ e => e.elim)
    have HSl := Lib.hid hsl
    have HUn := unpack_any 3 ao F.length cap F w2 hsl (by have := H15.out; omega) (Ht.out.upd HU2.out id)
    rw [H15.out] at HUn
    rw [H15.out]
    clear hown hu2 hsl HP
    go_wp2_with fail
    refine HUn.mono ?_
    rintro e w3 (⟨_, _, v3, rfl, hown3, hu3⟩ | ⟨y, hy, _⟩)
    · rw [Hr.out] at hown3
      obtain ⟨ao3, cap3, rfl, hsl3⟩ := nil_of_own hown3
      have HU3 : Hid (Upd (fun _ => False) w w3) := HU2.out.trans (hu3.mono fun _ _ e => e.elim)
      have hcv := conv_sl (show Sl w3 (.slice ao3 2 cap3) [97, 98] from hsl3)
      rw [Ho.out]
      clear hown3 hu3 hsl3 HUn
      go_wp2
      trace_state
      go_ret
      exact ⟨rfl, HU3.out⟩
    · rcases hy with ⟨h, _⟩ | ⟨_, h, _⟩ | ⟨_, h, _⟩
      · rw [nok3] at h; cases h
      · rw [Ho.out] at h; cases h
      · rw [Ho.out] at h; cases h
  · rw [nok3] at h; cases h
  · simp at h

/-- a number brought into 0 .. hi -/
def WithinAt (hi : Int) (w : World) (e : Ending) (w' : World) : Prop := ∃ x : Int, e = .returned (.int .i64 x) ∧ 0 ≤ x ∧ x ≤ hi ∧ w = w'
theorem within_any (n hi : Int) (w : World) (hn : -9223372036854775808 ≤ n ∧ n ≤ 9223372036854775807) (h0 : 0 ≤ hi) (h1 : hi ≤ 4611686018427387904) :
    Calls Tryd.prog 22 #[.int .i64 n, .int .i64 0, .int .i64 hi] w (WithinAt hi w) := by
  have hr1 : n.tmod (hi + 1) < hi + 1 := Int.tmod_lt_of_pos _ (by omega)
  have hr2 : -(hi + 1) < n.tmod (hi + 1) := by
    have := Int.tmod_lt_of_pos (-n) (show 0 < hi + 1 by omega)
    rw [Int.neg_tmod] at this
    omega
  have hz : ((hi + 1 : Int) == 0) = false := by rw [beq_eq_false_iff_ne]; omega
  obtain ⟨hn1, hn2⟩ := hn
  by_cases hs : n.tmod (hi + 1) < 0
  · go_enter Tryd.func22, Tryd.ntmps22
    go_wp2
    go_ret
    exact ⟨_, rfl, by omega, by omega, rfl⟩
  · go_enter Tryd.func22, Tryd.ntmps22
    go_wp2
    go_ret
    exact ⟨_, rfl, by omega, by omega, rfl⟩
end Go.Proofs.YtgfdnljblfkhkabDoor.FrFirst
