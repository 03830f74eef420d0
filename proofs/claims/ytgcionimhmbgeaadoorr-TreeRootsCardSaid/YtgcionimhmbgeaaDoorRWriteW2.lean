/-
  (*digest.Hasher).Write.
-/
import Derived.Test.YtgcionimhmbgeaaDoorRMixW
import Derived.Test.YtgcionimhmbgeaaDoorRHashM
import Derived.Test.YtgcionimhmbgeaaDoorRCopyW
import Derived.Deep.CutRange
import Derived.Test.YtgcionimhmbgeaaDoorRWriteW
namespace Go.Proofs.YtgcionimhmbgeaaDoorR.WriteW2
open Go.RowKit Sha TurnW Mem RowW SpreadW MixW HashM CopyW WriteW
set_option linter.unusedVariables false


set_option maxHeartbeats 4000000 in
set_option maxRecDepth 100000 in
theorem write_short (b c o cap : Nat) (q t blk p : List UInt8) (w : World) (hq : q.length % 64 = 0) (ht : t.length < 64) (hbt : blk.take t.length = t) (hQ : HQ w b q blk (q ++ t).length) (hp : Sl w (.slice (some ⟨c, o, none⟩) p.length cap) p)
    (hcb : c ≠ b) (hb : b ≠ 2) (hk : Kw w) (hlen : q.length + t.length + p.length < 1152921504606846976) (h0 : 0 < t.length) (hs : t.length + p.length < 64) :
    Calls Tryd.prog 89 #[.pointer (some ⟨b, 0, none⟩), .slice (some ⟨c, o, none⟩) p.length cap] w fun e w' => e = .returned (.tuple #[]) ∧ Hs w' b ((q ++ t) ++ p) ∧ Upd (fun k => k = b) w w' := by
  obtain ⟨L, hL⟩ : ∃ L, L = (q ++ t) ++ p := ⟨_, rfl⟩
  have c72 : w.cell? ⟨b, 72, none⟩ = some (.int .u64 ((q.length : Int) + (t.length : Int))) := by rw [hQ.2.cell, hcells_72 _ _ _ hQ.1, List.length_append]; rfl
  have f72 := hQ.2.frozen 72
  have e1 : IntKind.u64.wrap (((q.length : Int) + (t.length : Int)) + (p.length : Int)) = (q.length : Int) + (t.length : Int) + (p.length : Int) := by rw [IntKind.wrap_u64]; omega
  have e2 : IntKind.u64.wrap (p.length : Int) = p.length := by rw [IntKind.wrap_u64]; omega
  have e3 : ((q.length : Int) + (t.length : Int)) % 64 = (t.length : Int) := by omega
  have e4 : ((q.length : Int) + (t.length : Int)).tmod 64 = (t.length : Int) := by rw [Int.tmod_eq_emod_of_nonneg (by omega)]; exact e3
  have e5 : IntKind.i64.wrap (t.length : Int) = t.length := IntWalk.i64_in _ (by omega)
  have e6 : IntKind.u64.wrap (t.length : Int) = t.length := by rw [IntKind.wrap_u64]; omega
  have Hq := Lib.hid hq
  have Hbt := Lib.hid hbt
  have HQ0 := Lib.hid hQ
  have Hp := Lib.hid hp
  have Hcb := Lib.hid hcb
  have Hb := Lib.hid hb
  have Hk := Lib.hid hk
  have HL0 := Lib.hid hL
  have hLl : Hid (L.length = q.length + t.length + p.length) := by show _ = _; rw [hL, List.length_append, List.length_append]
  have hcap := (cap_of hp).2.1
  have hcap' := (cap_of hp).2.2
  rw [← hL]
  have Hlen := Lib.hid hlen
  clear hq hbt hQ hp hcb hb hk hL hlen
  obtain ⟨w0, hw0⟩ : ∃ w0, w0 = w.setCell ⟨b, 72, none⟩ (.int .u64 ((q.length : Int) + (t.length : Int) + (p.length : Int))) := ⟨_, rfl⟩
  have hu0 : Upd (fun k => k = b) w w0 := by rw [hw0]; exact Upd.put (S := fun k => k = b) (Upd.refl _ _) b 72 (.inl rfl) _
  have HR0 : Hid (Row w0 b 135 (hcells (stq q) blk L.length)) := by
    show Row _ _ _ _
    rw [hLl.out, hw0, ← hcells_set _ _ (q ++ t).length _ HQ0.out.1]
    exact HQ0.out.2.set 72 _
  have Hp0 : Hid (Sl w0 (.slice (some ⟨c, o, none⟩) p.length cap) p) := Hp.out.upd hu0 (fun k hk e => Hcb.out (by rw [← own_at hk, e]))
  have Hk0 : Hid (Kw w0) := Hk.out.upd hu0 (fun e => Hb.out e.symm)
  have Hu0 := Lib.hid hu0
  clear hu0
  subst hw0
  have ht0 : 0 < t.length := h0
  have ht0' : (0 : Int) < (t.length : Int) := by omega
  have ht64 : (t.length : Int) < 64 := by omega
  have ht64' : (t.length : Int) ≤ 64 := by omega
  have Hsrc := Lib.hid (src_of Hp0.out (Nat.le_refl p.length))
  have Hc0 : Hid (Nat.min p.length (64 - t.length) = p.length) := by show _ = _; simp only [Nat.min_def]; split <;> omega
  have hs' : (t.length : Int) + (p.length : Int) < 64 := by omega
  have hlp : Hid (((p.take p.length).map u8).length = p.length) := by show _ = _; simp
  go_enter Tryd.func89, Tryd.ntmps89
  go_wp2_with ((with_reducible refine wpList_copy_new (o := ⟨some 30, _, _, _, _, _⟩) ?_ (.tmp 28) (.tmp 29) 25 25 ?_ 5 Tryd.underlying25 info8s (some ⟨b, 8 + t.length, none⟩) (some ⟨c, o, none⟩) (64 - t.length) (64 - t.length) p.length cap ?_ ?_ b (8 + t.length) _ _ HR0.out ((p.take p.length).map u8) ?_ ?_ ?_ (one_of _) ?_); rfl; rfl; rfl; rfl; (rw [Hsrc.out.1, Hc0.out]); (exact fun hp => ⟨rfl, Hsrc.out.2 hp⟩); (rw [hcells_len _ _ _ HQ0.out.1, Hsrc.out.1]; omega); intro w1 HR1 HU1)
  refine bodyPost_ret (results_none rfl _ _ _) rfl ?_
  have hk : t.length + (p.take p.length).length ≤ 64 := by rw [List.length_take]; omega
  have HR3 : Row w1 b 135 (hcells (stq q) (splice blk t.length (p.take p.length)) L.length) := by
    rw [← hcells_splice _ _ _ _ _ HQ0.out.1 hk]
    exact HR1.out
  refine ⟨rfl, ⟨q, t ++ p, splice blk t.length (p.take p.length), by rw [HL0.out, List.append_assoc], Hq.out, by rw [List.length_append]; omega, ?_, splice_len _ _ _ HQ0.out.1 hk, HR3⟩, Hu0.out.trans (HU1.out.mono (fun _ _ h => .inl h))⟩
  have := splice_take blk (p.take p.length) t.length HQ0.out.1 hk
  rw [List.take_length] at this ⊢
  rw [List.length_append, this, Hbt.out]
end Go.Proofs.YtgcionimhmbgeaaDoorR.WriteW2
