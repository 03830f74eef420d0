/-
  (*digest.Hasher).Write.
-/
import Derived.Test.YtgcionimhmbgeaaDoorRMixW
import Derived.Test.YtgcionimhmbgeaaDoorRHashM
import Derived.Test.YtgcionimhmbgeaaDoorRCopyW
import Derived.Deep.CutRange
namespace Go.Proofs.YtgcionimhmbgeaaDoorR.WriteW
open Go.RowKit Sha TurnW Mem RowW SpreadW MixW HashM CopyW
set_option linter.unusedVariables false

theorem info8s : (Tryd.prog.info? 5).map (·.size) = some 1 := by kernel_rfl
def LW (b c : Nat) (w0 : World) (blk L : List UInt8) (v : Value) (wr : World) : Prop :=
  ∃ q r o cap, v = .slice (some ⟨c, o, none⟩) r.length cap ∧ q ++ r = L ∧ q.length % 64 = 0 ∧ HQ wr b q blk L.length ∧ Sl wr v r ∧ Kw wr ∧ Upd (fun k => k = b) w0 wr
theorem own_at {c o n cap k : Nat} (h : own (.slice (some ⟨c, o, none⟩) n cap) k) : k = c := by
  simp [own, Value.ownBlock] at h
  exact h.symm
theorem cap_of {w : World} {ao : Option Addr} {n cap : Nat} {l : List UInt8} (h : Sl w (.slice ao n cap) l) : n = l.length ∧ l.length ≤ cap ∧ cap ≤ 9223372036854775807 := by
  obtain ⟨ao', cap', h1, h2, h3, h4, h5⟩ := h
  injection h1 with e1 e2 e3
  subst e1 e3
  exact ⟨e2, h2, h3⟩
theorem cells_of {w : World} {c o n cap : Nat} {l : List UInt8} (h : Sl w (.slice (some ⟨c, o, none⟩) n cap) l) (n' : Nat) (hn : n' = l.length) : Sl w (.slice (some ⟨c, o, none⟩) n' cap) l := by
  have := (cap_of h).1
  subst this hn
  exact h

set_option maxHeartbeats 4000000 in
set_option maxRecDepth 100000 in
theorem write_fresh (b c o cap : Nat) (q blk p : List UInt8) (w : World) (hq : q.length % 64 = 0) (hQ : HQ w b q blk q.length) (hp : Sl w (.slice (some ⟨c, o, none⟩) p.length cap) p)
    (hcb : c ≠ b) (hb : b ≠ 2) (hk : Kw w) (hlen : q.length + p.length < 1152921504606846976) :
    Calls Tryd.prog 89 #[.pointer (some ⟨b, 0, none⟩), .slice (some ⟨c, o, none⟩) p.length cap] w fun e w' => e = .returned (.tuple #[]) ∧ Hs w' b (q ++ p) ∧ Upd (fun k => k = b) w w' := by
  obtain ⟨L, hL⟩ : ∃ L, L = q ++ p := ⟨_, rfl⟩
  have c72 : w.cell? ⟨b, 72, none⟩ = some (.int .u64 (q.length : Int)) := by rw [hQ.2.cell, hcells_72 _ _ _ hQ.1]
  have f72 := hQ.2.frozen 72
  have e1 : IntKind.u64.wrap ((q.length : Int) + (p.length : Int)) = ((q.length + p.length : Nat) : Int) := by rw [IntKind.wrap_u64]; omega
  have e2 : IntKind.u64.wrap (p.length : Int) = p.length := by rw [IntKind.wrap_u64]; omega
  have e3 : (q.length : Int) % 64 = 0 := by omega
  have e4 : (q.length : Int).tmod 64 = 0 := by rw [Int.tmod_eq_emod_of_nonneg (by omega)]; exact e3
  have Hq := Lib.hid hq
  have HQ0 := Lib.hid hQ
  have Hp := Lib.hid hp
  have Hcb := Lib.hid hcb
  have Hb := Lib.hid hb
  have Hk := Lib.hid hk
  have HL0 := Lib.hid hL
  have hLl : Hid (L.length = q.length + p.length) := by show _ = _; rw [hL]; simp
  have hcap := (cap_of hp).2.1
  have hcap' := (cap_of hp).2.2
  rw [← hL]
  have Hlen := Lib.hid hlen
  clear hq hQ hp hcb hb hk hL hlen
  have HS : Hid (LW b c w blk L (.slice (some ⟨c, o, none⟩) p.length cap) (w.setCell ⟨b, 72, none⟩ (.int .u64 ((q.length : Int) + (p.length : Int))))) := by
    have hu : Upd (fun k => k = b) w (w.setCell ⟨b, 72, none⟩ (.int .u64 ((q.length : Int) + (p.length : Int)))) := Upd.put (S := fun k => k = b) (Upd.refl _ _) b 72 (.inl rfl) _
    refine ⟨q, p, o, cap, rfl, HL0.out.symm, Hq.out, ⟨HQ0.out.1, ?_⟩, ?_, ?_, hu⟩
    · rw [hLl.out, ← hcells_set _ _ q.length _ HQ0.out.1]
      exact HQ0.out.2.set 72 _
    · exact Hp.out.upd hu (fun k hk e => Hcb.out (by rw [← own_at hk, e]))
    · exact Hk.out.upd hu (fun e => Hb.out e.symm)
  go_enter Tryd.func89, Tryd.ntmps89
  go_wp2
  clear c72 f72 e1 e2 e3 e4 hcap hcap'
  go_loopw [1] (fun v wr => LW b c w blk L v wr) (fun v _ => match v with | .slice _ n _ => n | _ => 0)
  case atStart => exact HS.out
  case round =>
    clear HS
    obtain ⟨q1, r, o1, cap1, rfl, hL, hq, hQ, hr, hk, hu⟩ := hrel
    have HL := Lib.hid hL
    have Hq := Lib.hid hq
    have HQ' := Lib.hid hQ
    have Hr := Lib.hid hr
    have Hk := Lib.hid hk
    have Hu := Lib.hid hu
    clear hL hq hQ hr hk hu
    have hcap := (cap_of Hr.out).2.1
    have hcap' := (cap_of Hr.out).2.2
    by_cases hlt : 64 ≤ r.length
    · have hlt' : (64 : Int) ≤ r.length := by omega
      have hlt'' : 64 ≤ cap1 := by omega
      have hcI : (64 : Int) ≤ (cap1 : Int) := by omega
      have HT : Hid (Sl wr (.slice (some ⟨c, o1, none⟩) 64 cap1) (r.take 64)) := Sl.take Hr.out hlt
      have HTl : Hid ((r.take 64).length = 64) := by show _ = _; simp; omega
      by_cases hc64 : cap1 = 64
      · subst hc64
        go_wp2
        go_still_tail 5, (by kernel_rfl)
        change wpList _ _ _ _ _ wr.drew
        have HM := Lib.hid (mix_any b _ (stq q1) _ c o1 64 (r.take 64) wr.drew HQ'.out.2.drew (HT.out.upd (Upd.refl (fun _ => False) _).drew (fun _ _ => id)) HTl.out Hk.out Hb.out)
        go_wp2_with (go_at_call 101; refine HM.out.mono ?_; rintro e w2 ⟨rfl, hr2, hu2⟩; have HR2 := Lib.hid hr2; have HU2 := Lib.hid (show Upd (fun k => k = b) wr w2 from ((Upd.refl _ wr).drew).trans (hu2.mono (fun _ _ h => .inl h))); clear hr2 hu2)
        go_roundw
        case rel =>
          have HQ2 : HQ w2 b (q1 ++ r.take 64) blk L.length := ⟨HQ'.out.1, by rw [stq_snoc q1 _ Hq.out HTl.out]; exact HR2.out⟩
          have HS2 := (Sl.drop Hr.out hlt).upd HU2.out (fun k hk e => Hcb.out (by rw [← own_at hk, e]))
          have hl2 : (r.drop 64).length = r.length - 64 := by simp
          have hd : (q1 ++ r.take 64) ++ r.drop 64 = L := by rw [List.append_assoc, List.take_append_drop, HL.out]
          have hm : (q1 ++ r.take 64).length % 64 = 0 := by rw [List.length_append, HTl.out]; have := Hq.out; omega
          have hk2 : Kw w2 := Hk.out.upd HU2.out (fun e => Hb.out e.symm)
          have hu3 : Upd (fun k => k = b) w w2 := Hu.out.trans (HU2.out.mono (fun _ _ h => .inl h))
          have h0 : r.length = 64 := by omega
          have h00 : r.drop 64 = [] := List.drop_eq_nil_of_le (by omega)
          rw [h00] at hd HS2
          refine ⟨_, [], o1, 0, by simp, hd, hm, HQ2, ?_, hk2, hu3⟩
          refine ⟨_, 0, by simp; rfl, by simp, by unfold maxLen; omega, by simp, fun a ha => ⟨?_, fun i hi => absurd hi (by simp)⟩⟩
          injection ha with ha
          rw [← ha]
        case measure => simp; omega
      · skip
        go_wp2
        go_still_tail 5, (by kernel_rfl)
        change wpList _ _ _ _ _ wr.drew
        have HM := Lib.hid (mix_any b _ (stq q1) _ c o1 cap1 (r.take 64) wr.drew HQ'.out.2.drew (HT.out.upd (Upd.refl (fun _ => False) _).drew (fun _ _ => id)) HTl.out Hk.out Hb.out)
        go_wp2_with (go_at_call 101; refine HM.out.mono ?_; rintro e w2 ⟨rfl, hr2, hu2⟩; have HR2 := Lib.hid hr2; have HU2 := Lib.hid (show Upd (fun k => k = b) wr w2 from ((Upd.refl _ wr).drew).trans (hu2.mono (fun _ _ h => .inl h))); clear hr2 hu2)
        go_roundw
        case rel =>
          have HQ2 : HQ w2 b (q1 ++ r.take 64) blk L.length := ⟨HQ'.out.1, by rw [stq_snoc q1 _ Hq.out HTl.out]; exact HR2.out⟩
          have HS2 := (Sl.drop Hr.out hlt).upd HU2.out (fun k hk e => Hcb.out (by rw [← own_at hk, e]))
          have hl2 : (r.drop 64).length = r.length - 64 := by simp
          have hd : (q1 ++ r.take 64) ++ r.drop 64 = L := by rw [List.append_assoc, List.take_append_drop, HL.out]
          have hm : (q1 ++ r.take 64).length % 64 = 0 := by rw [List.length_append, HTl.out]; have := Hq.out; omega
          have hk2 : Kw w2 := Hk.out.upd HU2.out (fun e => Hb.out e.symm)
          have hu3 : Upd (fun k => k = b) w w2 := Hu.out.trans (HU2.out.mono (fun _ _ h => .inl h))
          refine ⟨_, r.drop 64, o1 + 64, cap1 - 64, ?_, hd, hm, HQ2, ?_, hk2, hu3⟩
          · rw [hl2]
          · exact HS2
        case measure => simp; omega
    · have hc0 : Nat.min r.length 64 = r.length := by simp only [Nat.min_def]; split <;> omega
      have Hsrc := Lib.hid (src_of Hr.out (Nat.le_refl r.length))
      rw [List.take_length] at Hsrc
      have Hc0 := Lib.hid hc0
      have HQr := Lib.hid HQ'.out.2
      clear hc0
      go_wp2_with ((with_reducible refine wpList_copy_new (o := ⟨some 62, _, _, _, _, _⟩) ?_ (.tmp 60) (.tmp 61) 25 25 ?_ 5 Tryd.underlying25 info8s (some ⟨b, 8, none⟩) (some ⟨c, o1, none⟩) 64 64 r.length cap1 ?_ ?_ b 8 _ _ HQr.out (r.map u8) ?_ ?_ ?_ (one_of r) ?_); rfl; rfl; rfl; rfl; (rw [Hsrc.out.1, Hc0.out]); (exact fun hp => ⟨rfl, Hsrc.out.2 hp⟩); (rw [hcells_len _ _ _ HQ'.out.1, List.length_map]; omega); intro w2 HR2 HU2)
      go_end0
      have h64 : 0 + r.length ≤ 64 := by omega
      have HR3 : Row w2 b 135 (hcells (stq q1) (splice blk 0 r) L.length) := by
        rw [← hcells_splice _ _ _ 0 r HQ'.out.1 h64]
        exact HR2.out
      refine ⟨rfl, ⟨q1, r, splice blk 0 r, HL.out.symm, Hq.out, by omega, ?_, splice_len _ _ _ HQ'.out.1 h64, HR3⟩, Hu.out.trans (HU2.out.mono (fun _ _ h => .inl h))⟩
      have := splice_take blk r 0 HQ'.out.1 h64
      simpa using this
end Go.Proofs.YtgcionimhmbgeaaDoorR.WriteW
