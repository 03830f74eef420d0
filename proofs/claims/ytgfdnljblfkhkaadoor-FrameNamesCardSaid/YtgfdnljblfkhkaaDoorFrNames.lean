/-
  docketlaw4.FrameNames, walked.
-/
import Derived.Test.YtgfdnljblfkhkaaDoorFrLaw3
import Derived.Test.YtgfdnljblfkhkaaDoorConvS
namespace Go.Proofs.YtgfdnljblfkhkaaDoor.FrNames
open Go.RowKit Sha Mem Width PutW WriterW RowW CopyW BookW RawB Crc FrTurn FrScan FrFits FrBegin FrOne FrWalk FrEnd FrPack FrLaw ConvS
set_option linter.unusedVariables false
set_option linter.unusedSimpArgs false

theorem crc_case : crc [99, 97, 115, 101, 32, 49, 50] = 1624758277 := by decide +kernel
theorem crc_none : crc [] = 0 := by decide +kernel
theorem nok0 : nok 0 = true := by decide
theorem len0 : (frame 0 []).length = 13 := frame_len 0 []
theorem one0 : one 0 (frame 0 []) = 13 := by have := one_frame 0 [] [] (by simp); rwa [List.append_nil] at this
theorem first0 : (frame 0 []).getD 0 0 = 209 := by
  unfold frame
  rw [form0 _ _ _ _ (opening_len _) (be_len _ _) 0 (by decide), op0]
theorem end0 {k p : Nat} {y : Int} (h : EndIs 0 (frame 0 []) k p y) : k = 1 ∧ p = 13 ∧ y = 0 := by
  have h1 : pos 0 (frame 0 []) 1 = some 13 := by
    have h0 : pos 0 (frame 0 []) 0 = some 0 := rfl
    have h2 := pos_succ h0 (by rw [len0]; decide) (by simpa using nok0) (by simpa using Nat.le_of_eq one0.symm)
    simpa [one0] using h2
  exact EndIs.unique h ⟨h1, .inl ⟨by rw [len0]; exact Nat.le_refl _, rfl⟩⟩

set_option maxHeartbeats 2000000 in
set_option maxRecDepth 100000 in
theorem walk (w : World) (ht : Tw w) : Calls Tryd.prog 12 #[] w fun e w' => e = .returned (.bool true) ∧ Upd (fun _ => False) w w' := by
  have Ht := Lib.hid ht
  clear ht
  have kc := fun (w : World) (C : Array Value) (n c : Nat) => Lib.run_convert_bytes_const (P := Tryd.prog) w 25 5 C n c Tryd.underlying25 Tryd.underlying5
  go_enter Tryd.func12, Tryd.ntmps12
  go_wp2_with fail
  obtain ⟨w1, hw1⟩ : ∃ x, x = w.alloc (.cells #[.int .u8 99, .int .u8 97, .int .u8 115, .int .u8 101, .int .u8 32, .int .u8 49, .int .u8 50] 5 (7, 8)) := ⟨_, rfl⟩
  have hb1 : w1.heap[w.heap.size]? = some (.cells (([99, 97, 115, 101, 32, 49, 50] : List UInt8).map u8).toArray 5 (7, 8)) := by rw [hw1]; exact heap_alloc_new _ _
  have hu1 : Upd (fun _ => False) w w1 := by rw [hw1]; exact (Upd.refl _ _).alloc _
  rw [← hw1]
  have HU1 := Lib.hid hu1
  have hlit := crc_any (some ⟨w.heap.size, 0, none⟩) 7 7 [99, 97, 115, 101, 32, 49, 50] w1 (sl_row _ _ 5 _ (7, 8) 7 rfl (by unfold maxLen; simp) hb1) (Ht.out.upd hu1 id) (by omega)
  rw [crc_case] at hlit
  clear hw1 hb1 hu1 kc
  refine hlit.mono ?_
  rintro e w2 ⟨rfl, rfl⟩
  have e0 : U 1624758277 = 1624758277 := rfl
  rw [e0]
  clear e0 hlit
  go_wp2_with fail
  have hnil : Sl w1 (.slice none 0 0) [] := ⟨none, 0, rfl, Nat.le_refl _, Nat.zero_le _, fun _ => rfl, fun a ha => by cases ha⟩
  have hc0 := crc_any none 0 0 [] w1 hnil (Ht.out.upd HU1.out id) (by omega)
  rw [crc_none] at hc0
  refine hc0.mono ?_
  rintro e w2 ⟨rfl, rfl⟩
  have e0 : U 0 = 0 := rfl
  rw [e0]
  clear e0 hc0
  go_wp2_with fail
  have HP := pack_any 0 none 0 0 [] w1 hnil (fun k hk => by simp [own, Value.ownBlock] at hk) (Ht.out.upd HU1.out id)
  refine HP.mono ?_
  rintro e w2 (⟨_, _, v, rfl, hown, hu2⟩ | ⟨h, _⟩ | ⟨_, h, _⟩)
  · have hform := hown.form (by rw [len0]; decide)
    obtain ⟨g, cap, rfl, _⟩ := hform
    have HU2 : Hid (Upd (fun _ => False) w w2) := HU1.out.trans (hu2.mono fun _ _ e => e.elim)
    have hsl := Sl.of_row hown
    have hc := sl_cell hsl 0 (by rw [len0]; decide)
    rw [first0] at hc
    rw [len0] at hsl ⊢
    have HSl := Lib.hid hsl
    have Hc := Lib.hid hc
    have HE := end_any 0 (some ⟨g, 0, none⟩) 13 cap (frame 0 []) w2 (by decide) hsl (by omega) (Ht.out.upd HU2.out id)
    clear hown hu2 hsl hnil HP hc
    go_wp2_with fail
    refine HE.mono ?_
    rintro e w3 ⟨k, p, y, he, rfl, hu3⟩
    obtain ⟨rfl, rfl, rfl⟩ := end0 he
    have HU3 : Hid (Upd (fun _ => False) w w3) := HU2.out.trans (hu3.mono fun _ _ e => e.elim)
    have c0 : w3.cell? ⟨g, 0, none⟩ = some (.int .u8 209) := hu3.cell Hc.out id
    clear he hu3 HE
    go_wp2
    go_ret
    exact ⟨rfl, HU3.out⟩
  · rw [nok0] at h; cases h
  · simp at h
end Go.Proofs.YtgfdnljblfkhkaaDoor.FrNames
