/-
  docketlaw2.turned, and where its copy ends.
-/
import Derived.Test.YtmjadoicapfoeaaDoorRefMac
namespace Go.Proofs.YtmjadoicapfoeaaDoor.TurnX
open Go.RowKit Sha Mem RowW CopyW BookW
set_option linter.unusedVariables false

def TurnIn (w : World) (g n : Nat) (L : List UInt8) (e : Ending) (w' : World) : Prop :=
  ∃ v, e = .returned v ∧ Sl w' v ((tsub L n).take n) ∧ (∀ k, own v k → w.heap.size ≤ k) ∧ (∀ k, own v k → k < w'.heap.size) ∧ Row w' g 5 ((tsub L n).map u8) ∧ Upd (fun k => k = g) w w'

set_option maxHeartbeats 2000000 in
set_option maxRecDepth 100000 in
theorem turned_in (g n cap : Nat) (L : List UInt8) (w : World) (hrow : Row w g 5 (L.map u8)) (hn : n ≤ L.length) (hc : n ≤ cap) (hm : cap ≤ maxLen) (hr : n ≤ 140737488355328) :
    Calls Tryd.prog 21 #[.slice (some ⟨g, 0, none⟩) n cap] w (TurnIn w g n L) := by
  have Hrow := Lib.hid hrow
  have Hm := Lib.hid hm
  clear hrow hm
  go_enter Tryd.func21, Tryd.ntmps21
  go_wp2
  go_loopw [3] (fun i wr => LT g L n w i wr) (fun i _ => (n - (intOf i).toNat))
  case atStart => exact ⟨0, Nat.zero_le _, rfl, by rw [tsub_zero]; exact Hrow.out, Upd.refl _ _⟩
  case round =>
    obtain ⟨j, hj, rfl, hr1, hu⟩ := hrel
    have HR := Lib.hid hr1
    have HU := Lib.hid hu
    clear hr1 hu
    by_cases hlt : j < n
    · have hltI : (j : Int) < (n : Int) := by omega
      obtain ⟨c, hc'⟩ : ∃ c, c = L.getD j 0 := ⟨_, rfl⟩
      have c0 : wr.cell? ⟨g, j, none⟩ = some (.int .u8 (c.toNat : Int)) := by
        rw [HR.out.cell, List.getElem?_map, tsub_at L j (by omega), ← hc']
        rfl
      have f0 := HR.out.frozen j
      have HC := Lib.hid hc'
      have vx := v_xor255 c
      clear hc'
      go_wp2
      go_roundw
      case rel =>
        refine ⟨j + 1, by omega, by go_num, ?_, HU.out.put _ _ (.inl rfl) _⟩
        rw [← tsub_set L j (by omega), List.map_set, ← HC.out]
        exact HR.out.set j _
      case measure => simp [intOf]; omega
    · obtain rfl : j = n := by omega
      have HSl := Lib.hid (Sl.of_row (n := j) (cap := cap) HR.out (by rw [tsub_len]; omega) hc Hm.out)
      have HO := Lib.hid (own_nil wr)
      have Hl := Lib.hid (show ([] : List UInt8).length + ((tsub L j).take j).length ≤ maxLen by rw [List.length_take]; unfold maxLen; simp; omega)
      have Hl2 := Lib.hid (show ([] : List UInt8).length + ((tsub L j).take j).length ≤ 140737488355328 by rw [List.length_take]; simp; omega)
      go_wp2_with (at_builtin; refine wpList_append_bytes _ rfl _ _ rfl 0 (.slice none 0 0) [] _ rfl HO.out _ rfl HSl.out Hl.out Hl2.out (Nat.zero_le _) ?_; intro v2 w2 Hown2 Hgrow2 Hat2)
      go_ret
      have h2 := Sl.of_own Hown2.out
      have hu2 : Upd (fun _ => False) wr w2 := Upd.grown Hgrow2.out (fun k hk => by simp [Value.ownBlock] at hk)
      refine ⟨v2, rfl, by simpa using h2, fun k hk => ?_, fun k hk => RefMac.own_lt Hown2.out k hk, HR.out.upd hu2 id, HU.out.trans (hu2.mono (fun _ _ h => h.elim))⟩
      rcases Hat2.out with h | h
      · unfold own at hk; rw [h] at hk; simp [Value.ownBlock] at hk
      · unfold own at hk; rw [h] at hk; cases hk; exact HU.out.size
end Go.Proofs.YtmjadoicapfoeaaDoor.TurnX
