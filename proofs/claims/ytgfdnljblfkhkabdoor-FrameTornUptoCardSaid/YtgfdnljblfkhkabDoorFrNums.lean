/-
  docketlaw4.FrameNumbers, walked.
-/
import Derived.Test.YtgfdnljblfkhkabDoorFrEight
import Derived.Deep.DeepCutAuto
namespace Go.Proofs.YtgfdnljblfkhkabDoor.FrNums
open Go.RowKit Sha Mem Width PutW WriterW RowW CopyW BookW RawB Crc FrTurn FrScan FrFits FrBegin FrOne FrWalk FrEnd FrPack FrLaw ConvS FrFirst FrEight
set_option linter.unusedVariables false
set_option linter.unusedSimpArgs false

theorem crc_num (n : Int) (p : List UInt8) : crc (be n 8 ++ p) = ~~~ overc (nreg n) p := by
  unfold crc overc nreg overc
  rw [List.foldl_append]
theorem be_inj (x y : UInt32) (h : be (U x) 4 = be (U y) 4) : x = y := by
  apply UInt32.toNat_inj.1
  have h' : [byteAt (x.toNat : Int) 3, byteAt (x.toNat : Int) 2, byteAt (x.toNat : Int) 1, byteAt (x.toNat : Int) 0] = [byteAt (y.toNat : Int) 3, byteAt (y.toNat : Int) 2, byteAt (y.toNat : Int) 1, byteAt (y.toNat : Int) 0] := h
  injection h' with h3 h'
  injection h' with h2 h'
  injection h' with h1 h'
  injection h' with h0 h'
  have a3 := congrArg UInt8.toNat h3
  have a2 := congrArg UInt8.toNat h2
  have a1 := congrArg UInt8.toNat h1
  have a0 := congrArg UInt8.toNat h0
  simp only [byteAt_nat] at a3 a2 a1 a0
  have := x.toNat_lt
  have := y.toNat_lt
  omega
theorem frame_meet {x y : Int} {p : List UInt8} (h : crc (be x 8 ++ p) = crc (be y 8 ++ p)) : frame x p = frame y p := by
  rw [crc_num, crc_num] at h
  unfold frame
  rw [h]
theorem one_apart {x y : Int} {p : List UInt8} (hp : p.length ≤ 65536) (h : ¬ crc (be x 8 ++ p) = crc (be y 8 ++ p)) : one y (frame x p) = 1 := by
  obtain ⟨_, hlen⟩ := fits_frame x p hp
  have hfl := frame_len x p
  rcases one_cases y (frame x p) with h0 | h1 | h13
  · have ht := torn_frame y _ h0
    have hl := hlen (frame x p).length (by omega)
    rw [List.take_length] at hl
    have := ht.1
    rw [padded_len, hl] at this
    omega
  · exact h1
  · exfalso
    have hone : one y (frame x p) = 13 + p.length := by
      rcases trace y (frame x p) (frame x p).length (Nat.le_refl _) with ⟨h2, _⟩ | ⟨_, _, _, _, _, h2⟩ | ⟨i, hi, _, hL, ho⟩
      · rw [h2.torn (Nat.le_refl _)] at h13; omega
      · omega
      · by_cases h5 : 5 ≤ i + 1
        · rw [hlen _ h5] at hL; omega
        · omega
    obtain ⟨hw, _⟩ := whole_frame y _ h13
    rw [hone, List.take_of_length_le (by omega)] at hw
    have hr : rec y (frame x p) = p := by
      have h2 := rec_frame x p [] hp
      rw [List.append_nil] at h2
      have h1 := one_frame x p [] hp
      rw [List.append_nil] at h1
      unfold rec at h2 ⊢
      rw [hone, show 13 + p.length - 13 = p.length by omega]
      rw [h1, Nat.add_sub_cancel] at h2
      exact h2
    rw [hr] at hw
    apply h
    rw [crc_num, crc_num]
    unfold frame at hw
    have h3 := List.append_cancel_left hw
    exact be_inj _ _ h3

theorem sl_take' {w : World} {ao : Option Addr} {n cap k : Nat} {l : List UInt8} (h : Sl w (.slice ao n cap) l) (hk : k ≤ l.length) : Sl w (.slice ao k cap) (l.take k) := by
  obtain ⟨ao', cap', h1, h2, h3, h4, h5⟩ := h
  injection h1 with e1 e2 e3
  subst e1 e3
  have hl : (l.take k).length = k := by simp; omega
  refine ⟨ao, cap, by rw [hl], by omega, h3, h4, fun a ha => ⟨(h5 a ha).1, fun i hi => ?_⟩⟩
  rw [hl] at hi
  rw [(h5 a ha).2 i (by omega)]
  congr 2
  rw [List.getD_eq_getElem?_getD, List.getD_eq_getElem?_getD, List.getElem?_take_of_lt hi]
def CP (w : World) (s2 : Value) (wx : World) : Prop :=
  ∃ ao M cap pl, s2 = .slice ao M cap ∧ Sl wx (.slice ao M cap) pl ∧ M ≤ 65536 ∧ (∀ k, own (.slice ao M cap) k → k < w.heap.size) ∧ Upd (fun _ => False) w wx

set_option maxHeartbeats 4000000 in
set_option maxRecDepth 100000 in
theorem walk (a b : Int) (ao : Option Addr) (m cap : Nat) (p : List UInt8) (w : World) (ha : -9223372036854775808 ≤ a ∧ a ≤ 9223372036854775807) (hb : -9223372036854775808 ≤ b ∧ b ≤ 9223372036854775807)
    (hs : Sl w (.slice ao m cap) p) (ho : ∀ k, own (.slice ao m cap) k → k < w.heap.size) (ht : Tw w) :
    Calls Tryd.prog 7 #[.int .i64 a, .int .i64 b, .slice ao m cap] w fun e w' => e = .returned (.bool true) ∧ Upd (fun _ => False) w w' := by
  have hml : m = p.length := by obtain ⟨_, _, h, _⟩ := hs; injection h
  have hcap : m ≤ cap := by obtain ⟨_, _, h, h1, _⟩ := hs; injection h with _ _ e3; omega
  have hcm : cap ≤ 9223372036854775807 := by obtain ⟨_, _, h, _, h1, _⟩ := hs; injection h with _ _ e3; unfold maxLen at h1; omega
  have Ha := Lib.hid ha
  have Hb := Lib.hid hb
  have Hs := Lib.hid hs
  have Ho := Lib.hid ho
  have Ht := Lib.hid ht
  have Hml := Lib.hid hml
  clear ha hb hs ho ht hml
  go_enter Tryd.func7, Tryd.ntmps7
  go_wp2_with fail
  refine (first_any w Ht.out).mono ?_
  rintro e w1 ⟨rfl, hu1⟩
  have HU1 := Lib.hid hu1
  clear hu1
  go_upto_if 17 with (fail)
  go_cut [2] (fun s2 wx => CP w s2 wx)
  case first =>
    by_cases hl : m ≤ 65536
    · have hd : decide ((65536 : Int) < (m : Int)) = false := by simp; omega
      go_wp2
      go_meet
      exact ⟨ao, m, cap, p, rfl, Hs.out.upd HU1.out (fun _ _ => id), hl, Ho.out, HU1.out⟩
    · have hd : (65536 : Int) < (m : Int) := by omega
      have hc : (65536 : Int) ≤ (cap : Int) := by omega
      go_wp2
      go_meet
      exact ⟨ao, 65536, cap, p.take 65536, rfl, sl_take' (Hs.out.upd HU1.out (fun _ _ => id)) (by have := Hml.out; omega), Nat.le_refl _, fun k hk => by cases ao <;> exact Ho.out k hk, HU1.out⟩
  case rest =>
    obtain ⟨ao, M, cap, pl, rfl, hs, hM, ho, hu⟩ := hcut
    have hMl : M = pl.length := by obtain ⟨_, _, h, _⟩ := hs; injection h
    clear Hs Ho Hml HU1 hcap hcm
    have Hs := Lib.hid hs
    have HU := Lib.hid hu
    have Ho := Lib.hid ho
    have Hml := Lib.hid hMl
    clear hs hu ho hMl
    go_wp2_with fail
    refine (within_any a 1099511627775 wc Ha.out (by decide) (by decide)).mono ?_
    rintro e w2 ⟨x, rfl, hx0, hx1, rfl⟩
    go_wp2_with fail
    refine (within_any b 1099511627775 wc Hb.out (by decide) (by decide)).mono ?_
    rintro e w2 ⟨y, rfl, hy0, hy1, rfl⟩
    go_wp2_with fail
    have hx2 : nok x = true := (nok_iff x).2 ⟨hx0, by omega⟩
    have hy2 : nok y = true := (nok_iff y).2 ⟨hy0, by omega⟩
    refine (pack_any x ao M cap pl wc Hs.out (fun k hk => by have := Ho.out k hk; have := HU.out.size; omega) (Ht.out.upd HU.out id)).mono ?_
    rintro e w2 (⟨_, _, v, rfl, hown, hu2⟩ | ⟨h, _⟩ | ⟨_, h, _⟩)
    · have hp6 : pl.length ≤ 65536 := by have := Hml.out; omega
      obtain ⟨ao2, cap2, rfl, hsl2⟩ := nil_of_own hown
      obtain ⟨fl, hfl⟩ : ∃ z, z = (frame x pl).length := ⟨_, rfl⟩
      have hflv : fl = pl.length + 13 := by rw [hfl, frame_len]
      rw [← hfl] at hsl2 ⊢
      have Hfl := Lib.hid hflv
      have HSl2 := Lib.hid hsl2
      have HU2 : Hid (Upd (fun _ => False) w w2) := HU.out.trans (hu2.mono fun _ _ e => e.elim)
      have HSp := Lib.hid (Hs.out.upd hu2 (fun _ _ => id))
      clear hown hu2 hsl2 hfl hflv
      have hfl9 : fl ≤ 65549 := by have := Hfl.out; omega
      go_wp2_with fail
      have HUn := unpack_any y ao2 fl cap2 (frame x pl) w2 HSl2.out (by omega) (Ht.out.upd HU2.out id)
      by_cases hc : crc (be x 8 ++ pl) = crc (be y 8 ++ pl)
      · have hone : one y (frame x pl) = fl := by
          rw [frame_meet hc]
          have h1 := one_frame y pl [] hp6
          rw [List.append_nil] at h1
          rw [h1, Hfl.out]
        have hrec : rec y (frame x pl) = pl := by
          rw [frame_meet hc]
          have h1 := rec_frame y pl [] hp6
          rwa [List.append_nil] at h1
        have Hc := Lib.hid hc
        clear hc
        refine HUn.mono ?_
        rintro e w3 (⟨_, _, v3, rfl, hown3, hu3⟩ | ⟨z, hz, _⟩)
        · rw [hrec] at hown3
          rw [hone]
          obtain ⟨ao3, cap3, rfl, hsl3⟩ := nil_of_own hown3
          rw [← Hml.out] at hsl3 ⊢
          have HSl3 := Lib.hid hsl3
          have HU3 : Hid (Upd (fun _ => False) w w3) := HU2.out.trans (hu3.mono fun _ _ e => e.elim)
          have HSp3 := Lib.hid (HSp.out.upd hu3 (fun _ _ => id))
          clear hown3 hu3 hsl3 HUn hone hrec
          go_wp2_with fail
          refine (eight_any x w3 (by omega) (by omega)).mono ?_
          rintro e w4 ⟨g4, rfl, hown_, hu_⟩
          have hg_g4 : w3.heap.size ≤ g4 := (hown_.lt g4 rfl).1
          have HO_g4 : Hid (w4.ownsRow 0 5 1 (.slice (some ⟨g4, 0, none⟩) 8 8) (be x 8).length ((be x 8).map u8)) := World.ownsRow.mono hown_ (Nat.zero_le _)
          have HU_w4 : Hid (Upd (fun _ => False) w w4) := HU3.out.trans (hu_.mono fun _ _ e => e.elim)
          have HSp_w4 := Lib.hid (HSp3.out.upd hu_ (fun _ _ => id))
          have HX_w4 := Lib.hid hu_
          have hl_w4 : (be x 8).length + pl.length ≤ 140737488355328 := by rw [be_len]; omega
          have hm_w4 : (be x 8).length + pl.length ≤ maxLen := by unfold maxLen; omega
          clear hown_ hu_
          go_wp2_with (at_builtin; refine wpList_append_bytes _ rfl _ _ rfl 0 (.slice (some ⟨g4, 0, none⟩) 8 8) (be x 8) pl rfl HO_g4.out _ rfl HSp_w4.out hm_w4 hl_w4 (Nat.zero_le _) ?_; intro v_ w5 Hown_ Hgrow_ Hat_)
          have hu2_ : Upd (fun k => k = g4) w4 w5 := Upd.grown Hgrow_.out (fun k hk => by simp [Value.ownBlock] at hk; exact hk.symm)
          have HU_w5 : Hid (Upd (fun _ => False) w w5) := HU_w4.out.trans (hu2_.mono fun k _ e => .inr (by have := HU3.out.size; omega))
          have HY_w5 : Hid (Upd (fun _ => False) w3 w5) := HX_w4.out.trans (hu2_.mono fun k _ e => .inr (by omega))
          have HSp_w5 := Lib.hid (HSp3.out.upd HY_w5.out (fun _ _ => id))
          obtain ⟨ao_w5, cap_w5, rfl, hsl_⟩ := nil_of_own Hown_.out
          have hC_ := crc_any ao_w5 _ cap_w5 (be x 8 ++ pl) w5 hsl_ (Ht.out.upd HU_w5.out id) (by rw [List.length_append]; omega)
          obtain ⟨c1, hc1⟩ : ∃ c, c = crc (be x 8 ++ pl) := ⟨_, rfl⟩
          rw [← hc1] at hC_
          have HC1 := Lib.hid hc1
          have HCC1 := Lib.hid hC_
          clear hu2_ Hown_ Hgrow_ Hat_ hsl_ hC_ hc1
          go_wp2_with fail
          refine HCC1.out.mono ?_
          rintro e w_ ⟨rfl, rfl⟩

          go_wp2_with fail
          refine (eight_any y w5 (by omega) (by omega)).mono ?_
          rintro e w6 ⟨g6, rfl, hown_, hu_⟩
          have hg_g6 : w5.heap.size ≤ g6 := (hown_.lt g6 rfl).1
          have HO_g6 : Hid (w6.ownsRow 0 5 1 (.slice (some ⟨g6, 0, none⟩) 8 8) (be y 8).length ((be y 8).map u8)) := World.ownsRow.mono hown_ (Nat.zero_le _)
          have HU_w6 : Hid (Upd (fun _ => False) w w6) := HU_w5.out.trans (hu_.mono fun _ _ e => e.elim)
          have HSp_w6 := Lib.hid (HSp_w5.out.upd hu_ (fun _ _ => id))
          have HX_w6 := Lib.hid hu_
          have hl_w6 : (be y 8).length + pl.length ≤ 140737488355328 := by rw [be_len]; omega
          have hm_w6 : (be y 8).length + pl.length ≤ maxLen := by unfold maxLen; omega
          clear hown_ hu_
          go_wp2_with (at_builtin; refine wpList_append_bytes _ rfl _ _ rfl 0 (.slice (some ⟨g6, 0, none⟩) 8 8) (be y 8) pl rfl HO_g6.out _ rfl HSp_w6.out hm_w6 hl_w6 (Nat.zero_le _) ?_; intro v_ w7 Hown_ Hgrow_ Hat_)
          have hu2_ : Upd (fun k => k = g6) w6 w7 := Upd.grown Hgrow_.out (fun k hk => by simp [Value.ownBlock] at hk; exact hk.symm)
          have HU_w7 : Hid (Upd (fun _ => False) w w7) := HU_w6.out.trans (hu2_.mono fun k _ e => .inr (by have := HU_w5.out.size; omega))
          have HY_w7 : Hid (Upd (fun _ => False) w5 w7) := HX_w6.out.trans (hu2_.mono fun k _ e => .inr (by omega))
          have HSp_w7 := Lib.hid (HSp_w5.out.upd HY_w7.out (fun _ _ => id))
          obtain ⟨ao_w7, cap_w7, rfl, hsl_⟩ := nil_of_own Hown_.out
          have hC_ := crc_any ao_w7 _ cap_w7 (be y 8 ++ pl) w7 hsl_ (Ht.out.upd HU_w7.out id) (by rw [List.length_append]; omega)
          obtain ⟨c2, hc2⟩ : ∃ c, c = crc (be y 8 ++ pl) := ⟨_, rfl⟩
          rw [← hc2] at hC_
          have HC2 := Lib.hid hc2
          have HCC2 := Lib.hid hC_
          clear hu2_ Hown_ Hgrow_ Hat_ hsl_ hC_ hc2
          go_wp2_with fail
          refine HCC2.out.mono ?_
          rintro e w_ ⟨rfl, rfl⟩

          have hc12 : c2 = c1 := by rw [HC1.out, HC2.out, Hc.out]
          rw [hc12]
          clear hc12
          have HY7 : Hid (Upd (fun _ => False) w3 w7) := HY_w5.out.trans (HY_w7.out.mono fun _ _ e => e.elim)
          have k1 := conv_sl (HSl3.out.upd HY7.out (fun _ _ => id))
          have k2 := conv_sl HSp_w7.out
          have hstr : ((⟨pl.toArray⟩ : ByteArray) == ⟨pl.toArray⟩) = true := by rw [str_eq]; simp
          go_wp2
          go_ret
          exact ⟨rfl, HU_w7.out⟩
        · exfalso
          rcases hz with ⟨h, _⟩ | ⟨_, h, _⟩ | ⟨_, h, _⟩
          · rw [hy2] at h; cases h
          · rw [hone] at h; have := Hfl.out; omega
          · rw [hone] at h; have := Hfl.out; omega
      · skip
        have hone := one_apart hp6 hc
        have Hc := Lib.hid hc
        clear hc
        refine HUn.mono ?_
        rintro e w3 (⟨_, h13, _⟩ | ⟨z, hz, rfl, hu3⟩)
        · rw [hone] at h13; omega
        · have hz41 : z = 41 := by
            rcases hz with ⟨h, _⟩ | ⟨_, h, _⟩ | ⟨_, _, h⟩
            · rw [hy2] at h; cases h
            · rw [hone] at h; cases h
            · exact h
          subst hz41
          have HU3 : Hid (Upd (fun _ => False) w w3) := HU2.out.trans (hu3.mono fun _ _ e => e.elim)
          have HSp3 := Lib.hid (HSp.out.upd hu3 (fun _ _ => id))
          clear hu3 hz HUn hone
          go_wp2_with fail
          refine (eight_any x w3 (by omega) (by omega)).mono ?_
          rintro e w4 ⟨g4, rfl, hown_, hu_⟩
          have hg_g4 : w3.heap.size ≤ g4 := (hown_.lt g4 rfl).1
          have HO_g4 : Hid (w4.ownsRow 0 5 1 (.slice (some ⟨g4, 0, none⟩) 8 8) (be x 8).length ((be x 8).map u8)) := World.ownsRow.mono hown_ (Nat.zero_le _)
          have HU_w4 : Hid (Upd (fun _ => False) w w4) := HU3.out.trans (hu_.mono fun _ _ e => e.elim)
          have HSp_w4 := Lib.hid (HSp3.out.upd hu_ (fun _ _ => id))
          have HX_w4 := Lib.hid hu_
          have hl_w4 : (be x 8).length + pl.length ≤ 140737488355328 := by rw [be_len]; omega
          have hm_w4 : (be x 8).length + pl.length ≤ maxLen := by unfold maxLen; omega
          clear hown_ hu_
          go_wp2_with (at_builtin; refine wpList_append_bytes _ rfl _ _ rfl 0 (.slice (some ⟨g4, 0, none⟩) 8 8) (be x 8) pl rfl HO_g4.out _ rfl HSp_w4.out hm_w4 hl_w4 (Nat.zero_le _) ?_; intro v_ w5 Hown_ Hgrow_ Hat_)
          have hu2_ : Upd (fun k => k = g4) w4 w5 := Upd.grown Hgrow_.out (fun k hk => by simp [Value.ownBlock] at hk; exact hk.symm)
          have HU_w5 : Hid (Upd (fun _ => False) w w5) := HU_w4.out.trans (hu2_.mono fun k _ e => .inr (by have := HU3.out.size; omega))
          have HY_w5 : Hid (Upd (fun _ => False) w3 w5) := HX_w4.out.trans (hu2_.mono fun k _ e => .inr (by omega))
          have HSp_w5 := Lib.hid (HSp3.out.upd HY_w5.out (fun _ _ => id))
          obtain ⟨ao_w5, cap_w5, rfl, hsl_⟩ := nil_of_own Hown_.out
          have hC_ := crc_any ao_w5 _ cap_w5 (be x 8 ++ pl) w5 hsl_ (Ht.out.upd HU_w5.out id) (by rw [List.length_append]; omega)
          obtain ⟨c1, hc1⟩ : ∃ c, c = crc (be x 8 ++ pl) := ⟨_, rfl⟩
          rw [← hc1] at hC_
          have HC1 := Lib.hid hc1
          have HCC1 := Lib.hid hC_
          clear hu2_ Hown_ Hgrow_ Hat_ hsl_ hC_ hc1
          go_wp2_with fail
          refine HCC1.out.mono ?_
          rintro e w_ ⟨rfl, rfl⟩

          go_wp2_with fail
          refine (eight_any y w5 (by omega) (by omega)).mono ?_
          rintro e w6 ⟨g6, rfl, hown_, hu_⟩
          have hg_g6 : w5.heap.size ≤ g6 := (hown_.lt g6 rfl).1
          have HO_g6 : Hid (w6.ownsRow 0 5 1 (.slice (some ⟨g6, 0, none⟩) 8 8) (be y 8).length ((be y 8).map u8)) := World.ownsRow.mono hown_ (Nat.zero_le _)
          have HU_w6 : Hid (Upd (fun _ => False) w w6) := HU_w5.out.trans (hu_.mono fun _ _ e => e.elim)
          have HSp_w6 := Lib.hid (HSp_w5.out.upd hu_ (fun _ _ => id))
          have HX_w6 := Lib.hid hu_
          have hl_w6 : (be y 8).length + pl.length ≤ 140737488355328 := by rw [be_len]; omega
          have hm_w6 : (be y 8).length + pl.length ≤ maxLen := by unfold maxLen; omega
          clear hown_ hu_
          go_wp2_with (at_builtin; refine wpList_append_bytes _ rfl _ _ rfl 0 (.slice (some ⟨g6, 0, none⟩) 8 8) (be y 8) pl rfl HO_g6.out _ rfl HSp_w6.out hm_w6 hl_w6 (Nat.zero_le _) ?_; intro v_ w7 Hown_ Hgrow_ Hat_)
          have hu2_ : Upd (fun k => k = g6) w6 w7 := Upd.grown Hgrow_.out (fun k hk => by simp [Value.ownBlock] at hk; exact hk.symm)
          have HU_w7 : Hid (Upd (fun _ => False) w w7) := HU_w6.out.trans (hu2_.mono fun k _ e => .inr (by have := HU_w5.out.size; omega))
          have HY_w7 : Hid (Upd (fun _ => False) w5 w7) := HX_w6.out.trans (hu2_.mono fun k _ e => .inr (by omega))
          have HSp_w7 := Lib.hid (HSp_w5.out.upd HY_w7.out (fun _ _ => id))
          obtain ⟨ao_w7, cap_w7, rfl, hsl_⟩ := nil_of_own Hown_.out
          have hC_ := crc_any ao_w7 _ cap_w7 (be y 8 ++ pl) w7 hsl_ (Ht.out.upd HU_w7.out id) (by rw [List.length_append]; omega)
          obtain ⟨c2, hc2⟩ : ∃ c, c = crc (be y 8 ++ pl) := ⟨_, rfl⟩
          rw [← hc2] at hC_
          have HC2 := Lib.hid hc2
          have HCC2 := Lib.hid hC_
          clear hu2_ Hown_ Hgrow_ Hat_ hsl_ hC_ hc2
          go_wp2_with fail
          refine HCC2.out.mono ?_
          rintro e w_ ⟨rfl, rfl⟩

          have hne : (U c1 == U c2) = false := by
            rw [beq_eq_false_iff_ne]
            intro h
            apply Hc.out
            rw [← HC1.out, ← HC2.out]
            apply UInt32.toNat_inj.1
            unfold U at h
            omega
          go_wp2
          go_ret
          exact ⟨rfl, HU_w7.out⟩
    · rw [hx2] at h; cases h
    · have := Hml.out; omega
end Go.Proofs.YtgfdnljblfkhkabDoor.FrNums
