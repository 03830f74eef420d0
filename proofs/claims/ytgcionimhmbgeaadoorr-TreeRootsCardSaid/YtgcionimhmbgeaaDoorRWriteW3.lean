/-
  (*digest.Hasher).Write.
-/
import Derived.Test.YtgcionimhmbgeaaDoorRMixW
import Derived.Test.YtgcionimhmbgeaaDoorRHashM
import Derived.Test.YtgcionimhmbgeaaDoorRCopyW
import Derived.Deep.CutRange
import Derived.Test.YtgcionimhmbgeaaDoorRWriteW
namespace Go.Proofs.YtgcionimhmbgeaaDoorR.WriteW3
open Go.RowKit Sha TurnW Mem RowW SpreadW MixW HashM CopyW WriteW
set_option linter.unusedVariables false


set_option maxHeartbeats 4000000 in
set_option maxRecDepth 100000 in
theorem write_fill (b c o cap : Nat) (q t blk p : List UInt8) (w : World) (hq : q.length % 64 = 0) (ht : t.length < 64) (hbt : blk.take t.length = t) (hQ : HQ w b q blk (q ++ t).length) (hp : Sl w (.slice (some ⟨c, o, none⟩) p.length cap) p)
    (hcb : c ≠ b) (hb : b ≠ 2) (hk : Kw w) (hlen : q.length + t.length + p.length < 1152921504606846976) (h0 : 0 < t.length) (hs : 64 ≤ t.length + p.length) :
    Calls Tryd.prog 89 #[.pointer (some ⟨b, 0, none⟩), .slice (some ⟨c, o, none⟩) p.length cap] w fun e w' => e = .returned (.tuple #[]) ∧ Hs w' b ((q ++ t) ++ p) ∧ Upd (fun k => k = b) w w' := by
  obtain ⟨L, hL⟩ : ∃ L, L = (q ++ t) ++ p := ⟨_, rfl⟩
  have c72 : w.cell? ⟨b, 72, none⟩ = some (.int .u64 ((q.length : Int) + (t.length : Int))) := by rw [hQ.2.cell, hcells_72 _ _ _ hQ.1, List.length_append]; rfl
  have f72 := hQ.2.frozen 72
  have e1 : IntKind.u64.wrap (((q.length : Int) + (t.length : Int)) + (p.length : Int)) = (q.length : Int) + (t.length : Int) + (p.length : Int) := by rw [IntKind.wrap_u64]; omega
  have e2 : IntKind.u64.wrap (p.length : Int) = p.length := by rw [IntKind.wrap_u64]; omega
  have e3 : ((q.length : Int) + (t.length : Int)) % 64 = (t.length : Int) := by omega
  have e4 : ((q.length : Int) + (t.length : Int)).tmod 64 = (t.length : Int) := by rw [Int.tmod_eq_emod_of_nonneg (by omega)]; exact e3
  have e5 : IntKind.i64.wrap (t.length : Int) = t.length := IntWalk.i64_in _ (by omega)
  have e6 : IntKind.u64.wrap (t.length : Int) = t.length := by rw [IntKind.wrap_u64]; omega
  have Hq := Lib.hid hq
  have Hbt := Lib.hid hbt
  have HQ0 := Lib.hid hQ
  have Hp := Lib.hid hp
  have Hcb := Lib.hid hcb
  have Hb := Lib.hid hb
  have Hk := Lib.hid hk
  have HL0 := Lib.hid hL
  have hLl : Hid (L.length = q.length + t.length + p.length) := by show _ = _; rw [hL, List.length_append, List.length_append]
  have hcap := (cap_of hp).2.1
  have hcap' := (cap_of hp).2.2
  rw [← hL]
  have Hlen := Lib.hid hlen
  clear hq hbt hQ hp hcb hb hk hL hlen
  obtain ⟨w0, hw0⟩ : ∃ w0, w0 = w.setCell ⟨b, 72, none⟩ (.int .u64 ((q.length : Int) + (t.length : Int) + (p.length : Int))) := ⟨_, rfl⟩
  have hu0 : Upd (fun k => k = b) w w0 := by rw [hw0]; exact Upd.put (S := fun k => k = b) (Upd.refl _ _) b 72 (.inl rfl) _
  have HR0 : Hid (Row w0 b 135 (hcells (stq q) blk L.length)) := by
    show Row _ _ _ _
    rw [hLl.out, hw0, ← hcells_set _ _ (q ++ t).length _ HQ0.out.1]
    exact HQ0.out.2.set 72 _
  have Hp0 : Hid (Sl w0 (.slice (some ⟨c, o, none⟩) p.length cap) p) := Hp.out.upd hu0 (fun k hk e => Hcb.out (by rw [← own_at hk, e]))
  have Hk0 : Hid (Kw w0) := Hk.out.upd hu0 (fun e => Hb.out e.symm)
  have Hu0 := Lib.hid hu0
  clear hu0
  subst hw0
  have ht0 : 0 < t.length := h0
  have ht0' : (0 : Int) < (t.length : Int) := by omega
  have ht64 : (t.length : Int) < 64 := by omega
  have ht64' : (t.length : Int) ≤ 64 := by omega
  obtain ⟨k, hk0⟩ : ∃ k, k = 64 - t.length := ⟨_, rfl⟩
  have hk1 : k ≤ p.length := by omega
  have hk2 : k ≤ 64 := by omega
  have hk3 : 0 < k := by omega
  have hsum : (t.length : Int) + (k : Int) = 64 := by omega
  have hmin : min k p.length = k := by omega
  have hkk : 64 - t.length = k := hk0.symm
  have hk64 : k + t.length = 64 := by omega
  have Hk64 := Lib.hid hk64
  clear hk0 hk64
  have Hsrc := Lib.hid (src_of Hp0.out hk1)
  have Hc0 : Hid (Nat.min p.length k = k) := by show _ = _; simp only [Nat.min_def]; split <;> omega
  go_enter Tryd.func89, Tryd.ntmps89
  go_wp2_with ((with_reducible refine wpList_copy_new (o := ⟨some 30, _, _, _, _, _⟩) ?_ (.tmp 28) (.tmp 29) 25 25 ?_ 5 Tryd.underlying25 info8s (some ⟨b, 8 + t.length, none⟩) (some ⟨c, o, none⟩) k k p.length cap ?_ ?_ b (8 + t.length) _ _ HR0.out ((p.take k).map u8) ?_ ?_ ?_ (one_of _) ?_); rfl; rfl; rfl; rfl; (rw [Hsrc.out.1, Hc0.out]); (exact fun hp => ⟨rfl, Hsrc.out.2 hp⟩); (rw [hcells_len _ _ _ HQ0.out.1, Hsrc.out.1]; omega); intro w1 HR1 HU1)
  have hkl : (p.take k).length = k := by rw [List.length_take]; omega
  have hk5 : t.length + (p.take k).length ≤ 64 := by omega
  obtain ⟨blk1, hb1⟩ : ∃ x, x = splice blk t.length (p.take k) := ⟨_, rfl⟩
  have HB1l : Hid (blk1.length = 64) := by rw [hb1]; exact splice_len _ _ _ HQ0.out.1 hk5
  have HB1 : Hid (blk1 = t ++ p.take k) := by
    show _ = _
    have h := splice_take blk (p.take k) t.length HQ0.out.1 hk5
    rw [← hb1, Hbt.out, List.take_of_length_le (by have h1 := HB1l.out; have h2 := Hk64.out; omega)] at h
    exact h
  have HR2 : Hid (Row w1 b 135 (hcells (stq q) blk1 L.length)) := by
    show Row _ _ _ _
    rw [hb1, ← hcells_splice _ _ _ _ _ HQ0.out.1 hk5]
    exact HR1.out
  have HSb : Hid (Sl w1 (.slice (some ⟨b, 8, none⟩) 64 64) blk1) := by
    refine ⟨_, 64, by rw [HB1l.out], by rw [HB1l.out]; omega, by unfold maxLen; omega, by simp, fun a ha => ?_⟩
    injection ha with ha
    subst ha
    refine ⟨rfl, fun i hi => ?_⟩
    rw [add_none, HR2.out.cell, hcells_blk _ _ _ _ HB1l.out (by rw [HB1l.out] at hi; exact hi)]
  have HU1' : Hid (Upd (fun k => k = b) w w1) := Hu0.out.trans (HU1.out.mono (fun _ _ h => .inl h))
  have HK1 : Hid (Kw w1) := Hk.out.upd HU1'.out (fun e => Hb.out e.symm)
  clear hb1 HR1 HU1 hk5 hkl
  have HM := Lib.hid (mix_any b _ (stq q) _ b 8 64 blk1 w1.drew HR2.out.drew (HSb.out.upd (Upd.refl (fun _ => False) _).drew (fun _ _ => id)) HB1l.out HK1.out Hb.out)
  go_still_tail 7, (by kernel_rfl)
  change wpList _ _ _ _ _ w1.drew
  have hcI : (k : Int) ≤ (cap : Int) := by omega
  have hpI : (k : Int) ≤ (p.length : Int) := by omega
  by_cases hck : cap = k
  · have hpk : p.length = k := by omega
    have Hpk := Lib.hid hpk
    subst hck
    clear hpk
    go_wp2_with (go_at_call 101; refine HM.out.mono ?_; rintro e w2 ⟨rfl, hr2, hu2⟩; have HR3 := Lib.hid hr2; have HU2 := Lib.hid (show Upd (fun k => k = b) w1 w2 from ((Upd.refl _ w1).drew).trans (hu2.mono (fun _ _ h => .inl h))); clear hr2 hu2)
    have HQ3 : HQ w2 b (q ++ blk1) blk1 L.length := ⟨HB1l.out, by rw [stq_snoc q _ Hq.out HB1l.out]; exact HR3.out⟩
    have hm3 : (q ++ blk1).length % 64 = 0 := by rw [List.length_append, HB1l.out]; have := Hq.out; omega
    have hu3 : Upd (fun k => k = b) w w2 := HU1'.out.trans (HU2.out.mono (fun _ _ h => .inl h))
    have hk3' : Kw w2 := HK1.out.upd HU2.out (fun e => Hb.out e.symm)
    have hp3 : Sl w2 (.slice (some ⟨c, o, none⟩) p.length cap) p := Hp.out.upd hu3 (fun k hk e => Hcb.out (by rw [← own_at hk, e]))
    have hd3 : (q ++ blk1) ++ p.drop cap = L := by rw [HL0.out, HB1.out, List.append_assoc, List.append_assoc, List.take_append_drop, List.append_assoc]
    have h00 : p.drop cap = [] := List.drop_eq_nil_of_le (by have := Hpk.out; omega)
    rw [h00] at hd3
    have HS : Hid (LW b c w blk1 L (.slice (some ⟨c, o, none⟩) 0 0) w2) := by
      refine ⟨_, [], o, 0, rfl, hd3, hm3, HQ3, ?_, hk3', hu3⟩
      refine ⟨_, 0, rfl, by simp, by unfold maxLen; omega, by simp, fun a ha => ⟨?_, fun i hi => absurd hi (by simp)⟩⟩
      injection ha with ha
      rw [← ha]
    clear h00
    clear HQ3 hm3 hu3 hk3' hp3 hd3 hmin hkk hsum e5 e6 hcI hpI ht64 ht64' ht0 ht0' hs h0 ht hk1 hk2 hk3
    clear c72 f72 e1 e2 e3 e4 hcap hcap'
    go_loopw [1] (fun v wr => LW b c w blk1 L v wr) (fun v _ => match v with | .slice _ n _ => n | _ => 0)
    case atStart => exact HS.out
    case round =>
      clear HS
      obtain ⟨q1, r, o1, cap1, rfl, hL, hq, hQ, hr, hk, hu⟩ := hrel
      have HL := Lib.hid hL
      have Hq := Lib.hid hq
      have HQ' := Lib.hid hQ
      have Hr := Lib.hid hr
      have Hk := Lib.hid hk
      have Hu := Lib.hid hu
      clear hL hq hQ hr hk hu
      have hcap := (cap_of Hr.out).2.1
      have hcap' := (cap_of Hr.out).2.2
      by_cases hlt : 64 ≤ r.length
      · have hlt' : (64 : Int) ≤ r.length := by omega
        have hlt'' : 64 ≤ cap1 := by omega
        have hcI : (64 : Int) ≤ (cap1 : Int) := by omega
        have HT : Hid (Sl wr (.slice (some ⟨c, o1, none⟩) 64 cap1) (r.take 64)) := Sl.take Hr.out hlt
        have HTl : Hid ((r.take 64).length = 64) := by show _ = _; simp; omega
        by_cases hc64 : cap1 = 64
        · subst hc64
          go_wp2
          go_still_tail 5, (by kernel_rfl)
          change wpList _ _ _ _ _ wr.drew
          have HM := Lib.hid (mix_any b _ (stq q1) _ c o1 64 (r.take 64) wr.drew HQ'.out.2.drew (HT.out.upd (Upd.refl (fun _ => False) _).drew (fun _ _ => id)) HTl.out Hk.out Hb.out)
          go_wp2_with (go_at_call 101; refine HM.out.mono ?_; rintro e w2 ⟨rfl, hr2, hu2⟩; have HR2 := Lib.hid hr2; have HU2 := Lib.hid (show Upd (fun k => k = b) wr w2 from ((Upd.refl _ wr).drew).trans (hu2.mono (fun _ _ h => .inl h))); clear hr2 hu2)
          go_roundw
          case rel =>
            have HQ2 : HQ w2 b (q1 ++ r.take 64) blk1 L.length := ⟨HQ'.out.1, by rw [stq_snoc q1 _ Hq.out HTl.out]; exact HR2.out⟩
            have HS2 := (Sl.drop Hr.out hlt).upd HU2.out (fun k hk e => Hcb.out (by rw [← own_at hk, e]))
            have hl2 : (r.drop 64).length = r.length - 64 := by simp
            have hd : (q1 ++ r.take 64) ++ r.drop 64 = L := by rw [List.append_assoc, List.take_append_drop, HL.out]
            have hm : (q1 ++ r.take 64).length % 64 = 0 := by rw [List.length_append, HTl.out]; have := Hq.out; omega
            have hk2 : Kw w2 := Hk.out.upd HU2.out (fun e => Hb.out e.symm)
            have hu3 : Upd (fun k => k = b) w w2 := Hu.out.trans (HU2.out.mono (fun _ _ h => .inl h))
            have h0 : r.length = 64 := by omega
            have h00 : r.drop 64 = [] := List.drop_eq_nil_of_le (by omega)
            rw [h00] at hd HS2
            refine ⟨_, [], o1, 0, by simp, hd, hm, HQ2, ?_, hk2, hu3⟩
            refine ⟨_, 0, by simp; rfl, by simp, by unfold maxLen; omega, by simp, fun a ha => ⟨?_, fun i hi => absurd hi (by simp)⟩⟩
            injection ha with ha
            rw [← ha]
          case measure => simp; omega
        · skip
          go_wp2
          go_still_tail 5, (by kernel_rfl)
          change wpList _ _ _ _ _ wr.drew
          have HM := Lib.hid (mix_any b _ (stq q1) _ c o1 cap1 (r.take 64) wr.drew HQ'.out.2.drew (HT.out.upd (Upd.refl (fun _ => False) _).drew (fun _ _ => id)) HTl.out Hk.out Hb.out)
          go_wp2_with (go_at_call 101; refine HM.out.mono ?_; rintro e w2 ⟨rfl, hr2, hu2⟩; have HR2 := Lib.hid hr2; have HU2 := Lib.hid (show Upd (fun k => k = b) wr w2 from ((Upd.refl _ wr).drew).trans (hu2.mono (fun _ _ h => .inl h))); clear hr2 hu2)
          go_roundw
          case rel =>
            have HQ2 : HQ w2 b (q1 ++ r.take 64) blk1 L.length := ⟨HQ'.out.1, by rw [stq_snoc q1 _ Hq.out HTl.out]; exact HR2.out⟩
            have HS2 := (Sl.drop Hr.out hlt).upd HU2.out (fun k hk e => Hcb.out (by rw [← own_at hk, e]))
            have hl2 : (r.drop 64).length = r.length - 64 := by simp
            have hd : (q1 ++ r.take 64) ++ r.drop 64 = L := by rw [List.append_assoc, List.take_append_drop, HL.out]
            have hm : (q1 ++ r.take 64).length % 64 = 0 := by rw [List.length_append, HTl.out]; have := Hq.out; omega
            have hk2 : Kw w2 := Hk.out.upd HU2.out (fun e => Hb.out e.symm)
            have hu3 : Upd (fun k => k = b) w w2 := Hu.out.trans (HU2.out.mono (fun _ _ h => .inl h))
            refine ⟨_, r.drop 64, o1 + 64, cap1 - 64, ?_, hd, hm, HQ2, ?_, hk2, hu3⟩
            · rw [hl2]
            · exact HS2
          case measure => simp; omega
      · have hc0 : Nat.min r.length 64 = r.length := by simp only [Nat.min_def]; split <;> omega
        have Hsrc := Lib.hid (src_of Hr.out (Nat.le_refl r.length))
        rw [List.take_length] at Hsrc
        have Hc0 := Lib.hid hc0
        have HQr := Lib.hid HQ'.out.2
        clear hc0
        go_wp2_with ((with_reducible refine wpList_copy_new (o := ⟨some 62, _, _, _, _, _⟩) ?_ (.tmp 60) (.tmp 61) 25 25 ?_ 5 Tryd.underlying25 info8s (some ⟨b, 8, none⟩) (some ⟨c, o1, none⟩) 64 64 r.length cap1 ?_ ?_ b 8 _ _ HQr.out (r.map u8) ?_ ?_ ?_ (one_of r) ?_); rfl; rfl; rfl; rfl; (rw [Hsrc.out.1, Hc0.out]); (exact fun hp => ⟨rfl, Hsrc.out.2 hp⟩); (rw [hcells_len _ _ _ HQ'.out.1, List.length_map]; omega); intro w2 HR2 HU2)
        go_end0
        have h64 : 0 + r.length ≤ 64 := by omega
        have HR3 : Row w2 b 135 (hcells (stq q1) (splice blk1 0 r) L.length) := by
          rw [← hcells_splice _ _ _ 0 r HQ'.out.1 h64]
          exact HR2.out
        refine ⟨rfl, ⟨q1, r, splice blk1 0 r, HL.out.symm, Hq.out, by omega, ?_, splice_len _ _ _ HQ'.out.1 h64, HR3⟩, Hu.out.trans (HU2.out.mono (fun _ _ h => .inl h))⟩
        have := splice_take blk1 r 0 HQ'.out.1 h64
        simpa using this
  · skip
    go_wp2_with (go_at_call 101; refine HM.out.mono ?_; rintro e w2 ⟨rfl, hr2, hu2⟩; have HR3 := Lib.hid hr2; have HU2 := Lib.hid (show Upd (fun k => k = b) w1 w2 from ((Upd.refl _ w1).drew).trans (hu2.mono (fun _ _ h => .inl h))); clear hr2 hu2)
    have HQ3 : HQ w2 b (q ++ blk1) blk1 L.length := ⟨HB1l.out, by rw [stq_snoc q _ Hq.out HB1l.out]; exact HR3.out⟩
    have hm3 : (q ++ blk1).length % 64 = 0 := by rw [List.length_append, HB1l.out]; have := Hq.out; omega
    have hu3 : Upd (fun k => k = b) w w2 := HU1'.out.trans (HU2.out.mono (fun _ _ h => .inl h))
    have hk3' : Kw w2 := HK1.out.upd HU2.out (fun e => Hb.out e.symm)
    have hp3 : Sl w2 (.slice (some ⟨c, o, none⟩) p.length cap) p := Hp.out.upd hu3 (fun k hk e => Hcb.out (by rw [← own_at hk, e]))
    have hd3 : (q ++ blk1) ++ p.drop k = L := by rw [HL0.out, HB1.out, List.append_assoc, List.append_assoc, List.take_append_drop, List.append_assoc]
    have HS : Hid (LW b c w blk1 L (.slice (some ⟨c, o + k, none⟩) (p.length - k) (cap - k)) w2) :=
      ⟨_, p.drop k, o + k, cap - k, by rw [List.length_drop], hd3, hm3, HQ3, Sl.drop hp3 hk1, hk3', hu3⟩
    clear HQ3 hm3 hu3 hk3' hp3 hd3 hmin hkk hsum e5 e6 hcI hpI ht64 ht64' ht0 ht0' hs h0 ht hk1 hk2 hk3
    clear c72 f72 e1 e2 e3 e4 hcap hcap'
    go_loopw [1] (fun v wr => LW b c w blk1 L v wr) (fun v _ => match v with | .slice _ n _ => n | _ => 0)
    case atStart => exact HS.out
    case round =>
      clear HS
      obtain ⟨q1, r, o1, cap1, rfl, hL, hq, hQ, hr, hk, hu⟩ := hrel
      have HL := Lib.hid hL
      have Hq := Lib.hid hq
      have HQ' := Lib.hid hQ
      have Hr := Lib.hid hr
      have Hk := Lib.hid hk
      have Hu := Lib.hid hu
      clear hL hq hQ hr hk hu
      have hcap := (cap_of Hr.out).2.1
      have hcap' := (cap_of Hr.out).2.2
      by_cases hlt : 64 ≤ r.length
      · have hlt' : (64 : Int) ≤ r.length := by omega
        have hlt'' : 64 ≤ cap1 := by omega
        have hcI : (64 : Int) ≤ (cap1 : Int) := by omega
        have HT : Hid (Sl wr (.slice (some ⟨c, o1, none⟩) 64 cap1) (r.take 64)) := Sl.take Hr.out hlt
        have HTl : Hid ((r.take 64).length = 64) := by show _ = _; simp; omega
        by_cases hc64 : cap1 = 64
        · subst hc64
          go_wp2
          go_still_tail 5, (by kernel_rfl)
          change wpList _ _ _ _ _ wr.drew
          have HM := Lib.hid (mix_any b _ (stq q1) _ c o1 64 (r.take 64) wr.drew HQ'.out.2.drew (HT.out.upd (Upd.refl (fun _ => False) _).drew (fun _ _ => id)) HTl.out Hk.out Hb.out)
          go_wp2_with (go_at_call 101; refine HM.out.mono ?_; rintro e w2 ⟨rfl, hr2, hu2⟩; have HR2 := Lib.hid hr2; have HU2 := Lib.hid (show Upd (fun k => k = b) wr w2 from ((Upd.refl _ wr).drew).trans (hu2.mono (fun _ _ h => .inl h))); clear hr2 hu2)
          go_roundw
          case rel =>
            have HQ2 : HQ w2 b (q1 ++ r.take 64) blk1 L.length := ⟨HQ'.out.1, by rw [stq_snoc q1 _ Hq.out HTl.out]; exact HR2.out⟩
            have HS2 := (Sl.drop Hr.out hlt).upd HU2.out (fun k hk e => Hcb.out (by rw [← own_at hk, e]))
            have hl2 : (r.drop 64).length = r.length - 64 := by simp
            have hd : (q1 ++ r.take 64) ++ r.drop 64 = L := by rw [List.append_assoc, List.take_append_drop, HL.out]
            have hm : (q1 ++ r.take 64).length % 64 = 0 := by rw [List.length_append, HTl.out]; have := Hq.out; omega
            have hk2 : Kw w2 := Hk.out.upd HU2.out (fun e => Hb.out e.symm)
            have hu3 : Upd (fun k => k = b) w w2 := Hu.out.trans (HU2.out.mono (fun _ _ h => .inl h))
            have h0 : r.length = 64 := by omega
            have h00 : r.drop 64 = [] := List.drop_eq_nil_of_le (by omega)
            rw [h00] at hd HS2
            refine ⟨_, [], o1, 0, by simp, hd, hm, HQ2, ?_, hk2, hu3⟩
            refine ⟨_, 0, by simp; rfl, by simp, by unfold maxLen; omega, by simp, fun a ha => ⟨?_, fun i hi => absurd hi (by simp)⟩⟩
            injection ha with ha
            rw [← ha]
          case measure => simp; omega
        · skip
          go_wp2
          go_still_tail 5, (by kernel_rfl)
          change wpList _ _ _ _ _ wr.drew
          have HM := Lib.hid (mix_any b _ (stq q1) _ c o1 cap1 (r.take 64) wr.drew HQ'.out.2.drew (HT.out.upd (Upd.refl (fun _ => False) _).drew (fun _ _ => id)) HTl.out Hk.out Hb.out)
          go_wp2_with (go_at_call 101; refine HM.out.mono ?_; rintro e w2 ⟨rfl, hr2, hu2⟩; have HR2 := Lib.hid hr2; have HU2 := Lib.hid (show Upd (fun k => k = b) wr w2 from ((Upd.refl _ wr).drew).trans (hu2.mono (fun _ _ h => .inl h))); clear hr2 hu2)
          go_roundw
          case rel =>
            have HQ2 : HQ w2 b (q1 ++ r.take 64) blk1 L.length := ⟨HQ'.out.1, by rw [stq_snoc q1 _ Hq.out HTl.out]; exact HR2.out⟩
            have HS2 := (Sl.drop Hr.out hlt).upd HU2.out (fun k hk e => Hcb.out (by rw [← own_at hk, e]))
            have hl2 : (r.drop 64).length = r.length - 64 := by simp
            have hd : (q1 ++ r.take 64) ++ r.drop 64 = L := by rw [List.append_assoc, List.take_append_drop, HL.out]
            have hm : (q1 ++ r.take 64).length % 64 = 0 := by rw [List.length_append, HTl.out]; have := Hq.out; omega
            have hk2 : Kw w2 := Hk.out.upd HU2.out (fun e => Hb.out e.symm)
            have hu3 : Upd (fun k => k = b) w w2 := Hu.out.trans (HU2.out.mono (fun _ _ h => .inl h))
            refine ⟨_, r.drop 64, o1 + 64, cap1 - 64, ?_, hd, hm, HQ2, ?_, hk2, hu3⟩
            · rw [hl2]
            · exact HS2
          case measure => simp; omega
      · have hc0 : Nat.min r.length 64 = r.length := by simp only [Nat.min_def]; split <;> omega
        have Hsrc := Lib.hid (src_of Hr.out (Nat.le_refl r.length))
        rw [List.take_length] at Hsrc
        have Hc0 := Lib.hid hc0
        have HQr := Lib.hid HQ'.out.2
        clear hc0
        go_wp2_with ((with_reducible refine wpList_copy_new (o := ⟨some 62, _, _, _, _, _⟩) ?_ (.tmp 60) (.tmp 61) 25 25 ?_ 5 Tryd.underlying25 info8s (some ⟨b, 8, none⟩) (some ⟨c, o1, none⟩) 64 64 r.length cap1 ?_ ?_ b 8 _ _ HQr.out (r.map u8) ?_ ?_ ?_ (one_of r) ?_); rfl; rfl; rfl; rfl; (rw [Hsrc.out.1, Hc0.out]); (exact fun hp => ⟨rfl, Hsrc.out.2 hp⟩); (rw [hcells_len _ _ _ HQ'.out.1, List.length_map]; omega); intro w2 HR2 HU2)
        go_end0
        have h64 : 0 + r.length ≤ 64 := by omega
        have HR3 : Row w2 b 135 (hcells (stq q1) (splice blk1 0 r) L.length) := by
          rw [← hcells_splice _ _ _ 0 r HQ'.out.1 h64]
          exact HR2.out
        refine ⟨rfl, ⟨q1, r, splice blk1 0 r, HL.out.symm, Hq.out, by omega, ?_, splice_len _ _ _ HQ'.out.1 h64, HR3⟩, Hu.out.trans (HU2.out.mono (fun _ _ h => .inl h))⟩
        have := splice_take blk1 r 0 HQ'.out.1 h64
        simpa using this
end Go.Proofs.YtgcionimhmbgeaaDoorR.WriteW3
