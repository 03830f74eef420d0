/-
  docketlaw4.FrameCertain, walked.
-/
import Derived.Test.YtgfdnljblfkhkabDoorFrNums
import Derived.BigQuiet
import Derived.Deep.QuietTactic
namespace Go.Proofs.YtgfdnljblfkhkabDoor.FrCert
open Go.RowKit Sha Mem Width PutW WriterW RowW CopyW BookW RawB Crc FrTurn FrScan FrFits FrBegin FrOne FrWalk FrEnd FrPack FrLaw ConvS FrFirst FrNums
set_option linter.unusedVariables false
set_option linter.unusedSimpArgs false

/-- the number that the first bytes tell, as the loop goes -/
def NN (X : List UInt8) : Nat → Nat
  | 0 => 0
  | j + 1 => 256 * NN X j + (X.getD (j + 1) 0).toNat
theorem NN_lt (X : List UInt8) (j : Nat) : NN X j < 256 ^ j := by
  induction j with
  | zero => simp [NN]
  | succ j ih =>
    have := (X.getD (j + 1) 0).toNat_lt
    simp only [NN, Nat.pow_succ]
    omega
theorem NN4 (X : List UInt8) : NN X 4 = lenOf X := by
  simp only [NN, lenOf, grow4, Nat.zero_add, Nat.reduceAdd, Nat.reduceMul, Nat.reduceSub, Nat.reducePow]
  omega
def LN (X : List UInt8) (n i : Value) : Prop := ∃ j : Nat, j ≤ 4 ∧ i = .int .i64 (j + 1 : Nat) ∧ n = .int .i64 (NN X j)
/-- the padded record: what the copy lays -/
def PQ (w : World) (X : List UInt8) (g L : Nat) (s15 : Value) (wx : World) : Prop := s15 = .slice (some ⟨g, 0, none⟩) L L ∧ Row wx g 5 ((padded X).map u8) ∧ Upd (fun _ => False) w wx
theorem padded_short (X : List UInt8) (h : X.length ≤ 9) : padded X = List.replicate (lenOf X) 0 := by
  unfold padded
  rw [List.drop_eq_nil_of_le h, List.nil_append]
  exact List.take_of_length_le (by simp)
theorem padded_splice (X : List UInt8) (k : Nat) (hk : k = Nat.min (X.length - 9) (lenOf X)) : splice ((List.replicate (lenOf X) (0 : UInt8)).map u8) 0 (((X.drop 9).take k).map u8) = (padded X).map u8 := by
  have hk1 : k ≤ lenOf X := by rw [hk]; exact Nat.min_le_right _ _
  have hk2 : k ≤ X.length - 9 := by rw [hk]; exact Nat.min_le_left _ _
  have hl : ((X.drop 9).take k).length = k := by simp; omega
  unfold splice padded
  rw [List.take_zero, List.nil_append, Nat.zero_add, List.length_map, hl, List.map_replicate, List.drop_replicate, ← List.map_replicate, ← List.map_append]
  congr 1
  rcases Nat.le_total (X.length - 9) (lenOf X) with h | h
  · have hkk : k = X.length - 9 := by rw [hk]; exact Nat.min_eq_left h
    rw [List.take_append, List.take_of_length_le (by simp; omega : (X.drop 9).length ≤ lenOf X), List.take_of_length_le (by simp; omega : (X.drop 9).length ≤ k)]
    congr 1
    rw [List.take_replicate]
    congr 1
    simp
    omega
  · have hkk : k = lenOf X := by rw [hk]; exact Nat.min_eq_right h
    rw [hkk, Nat.sub_self, List.replicate_zero, List.append_nil, List.take_append_of_le_length (by simp; omega)]

set_option maxHeartbeats 4000000 in
set_option maxRecDepth 100000 in
theorem walk (n : Int) (ab at_ : Option Addr) (mb cb mt ct : Nat) (X T : List UInt8) (w : World) (hn : -9223372036854775808 ≤ n ∧ n ≤ 9223372036854775807)
    (hb : Sl w (.slice ab mb cb) X) (ht : Sl w (.slice at_ mt ct) T) (hob : ∀ k, own (.slice ab mb cb) k → k < w.heap.size) (hsum : mb + mt ≤ 140737488355328) (htw : Tw w) :
    Calls Tryd.prog 6 #[.int .i64 n, .slice ab mb cb, .slice at_ mt ct] w fun e w' => e = .returned (.bool true) ∧ Upd (fun _ => False) w w' := by
  have hmb : mb = X.length := by obtain ⟨_, _, h, _⟩ := hb; injection h
  have hmt : mt = T.length := by obtain ⟨_, _, h, _⟩ := ht; injection h
  have Hn := Lib.hid hn
  have HB := Lib.hid hb
  have HT := Lib.hid ht
  have HOb := Lib.hid hob
  have Htw := Lib.hid htw
  have Hmb := Lib.hid hmb
  have Hmt := Lib.hid hmt
  clear hn hb ht hob htw hmb hmt
  go_enter Tryd.func6, Tryd.ntmps6
  go_wp2_with fail
  refine (first_any w Htw.out).mono ?_
  rintro e w1 ⟨rfl, hu1⟩
  have HU1 := Lib.hid hu1
  have HB1 := Lib.hid (HB.out.upd hu1 (fun _ _ => id))
  clear hu1
  go_wp2_with fail
  refine (unpack_any n ab mb cb X w1 HB1.out (by omega) (Htw.out.upd HU1.out id)).mono ?_
  rintro e w2 (⟨_, _, v, rfl, hown, hu2⟩ | ⟨y, hy, rfl, hu2⟩)
  · have HU2 : Hid (Upd (fun _ => False) w w2) := HU1.out.trans (hu2.mono fun _ _ e => e.elim)
    clear hown hu2
    go_wp2
    go_ret
    exact ⟨rfl, HU2.out⟩
  · have HU2 : Hid (Upd (fun _ => False) w w2) := HU1.out.trans (hu2.mono fun _ _ e => e.elim)
    have HB2 := Lib.hid (HB.out.upd HU2.out (fun _ _ => id))
    have HT2 := Lib.hid (HT.out.upd HU2.out (fun _ _ => id))
    clear hu2 HB1
    rcases hy with ⟨_, rfl⟩ | ⟨hk, h0, rfl⟩ | ⟨hk, h1, rfl⟩
    · go_wp2
      go_ret
      exact ⟨rfl, HU2.out⟩
    · have hmx : X.length ≤ 140737488355328 := by have := Hmb.out; omega
      obtain ⟨htl, htp, htt⟩ := torn_frame n X h0
      have Hk := Lib.hid hk
      have Htl := Lib.hid htl
      have Htt := Lib.hid htt
      rw [padded_len] at htp
      clear hk h0 htl htt
      go_wp2
      go_loop [13, 14] (fun x i => LN X x i) (fun _ i => (5 - (intOf i).toNat))
      case atStart => exact ⟨0, Nat.zero_le _, rfl, rfl⟩
      case round =>
        obtain ⟨j, hj, rfl, rfl⟩ := hrel
        have hN := NN_lt X j
        by_cases hlt : j < 4
        · have hjI : ((j : Int) + 1) ≤ 4 := by omega
          have hN4 : NN X j < 16777216 := by
            have hs : j = 0 ∨ j = 1 ∨ j = 2 ∨ j = 3 := by omega
            rcases hs with rfl | rfl | rfl | rfl <;> simp at hN <;> omega
          obtain ⟨N, hNv⟩ : ∃ N, N = NN X j := ⟨_, rfl⟩
          have HNv := Lib.hid hNv
          rw [← hNv] at hN4 ⊢
          clear hN hNv
          have ej : (((j + 1 : Nat) : Int)) = (j : Int) + 1 := by omega
          rw [ej]
          clear ej
          by_cases hin : j + 1 < mb
          · have hinI : (j : Int) + 1 < (mb : Int) := by omega
            obtain ⟨ad, rfl⟩ : ∃ ad, ab = some ad := by
              obtain ⟨ao', cap', he, h1, h2, h3, h4⟩ := HB2.out
              injection he with e1 e2 e3
              subst e1 e3
              cases ab with
              | some ad => exact ⟨ad, rfl⟩
              | none => have := h3 rfl; have := Hmb.out; omega
            obtain ⟨pb, ob, sb⟩ := ad
            obtain rfl : sb = none := (Sl.cells HB2.out).1
            obtain ⟨c, hc⟩ : ∃ c, c = X.getD (j + 1) 0 := ⟨_, rfl⟩
            have c0 : w2.cell? ⟨pb, ob + (j + 1), none⟩ = some (.int .u8 (c.toNat : Int)) := by
              rw [sl_cell HB2.out (j + 1) (by have := Hmb.out; omega), ← hc]
              rfl
            have Hc := Lib.hid hc
            have hcl := c.toNat_lt
            clear hc
            go_wp2
            go_round
            case rel => exact ⟨j + 1, by omega, by go_num, by show _ = Value.int .i64 ((256 * NN X j + (X.getD (j + 1) 0).toNat : Nat) : Int); rw [← Hc.out, ← HNv.out]; go_num⟩
            case measure => simp [intOf]; omega
          · have hinI : decide ((j : Int) + 1 < (mb : Int)) = false := by simp; omega
            have hz0 : X.getD (j + 1) 0 = 0 := by
              rw [List.getD_eq_getElem?_getD, List.getElem?_eq_none (by have := Hmb.out; omega)]
              rfl
            have Hz := Lib.hid hz0
            clear hz0
            go_wp2
            go_round
            case rel => exact ⟨j + 1, by omega, by go_num, by show _ = Value.int .i64 ((256 * NN X j + (X.getD (j + 1) 0).toNat : Nat) : Int); rw [Hz.out, ← HNv.out]; go_num⟩
            case measure => simp [intOf]; omega
        · obtain rfl : j = 4 := by omega
          obtain ⟨L, hL⟩ : ∃ L, L = lenOf X := ⟨_, rfl⟩
          rw [NN4, ← hL]
          rw [← hL] at htp
          have HL := Lib.hid hL
          clear hN hlt hj
          obtain ⟨M, hM⟩ : ∃ M, M = madeCells #[Value.int .u8 0] L := ⟨_, rfl⟩
          have hML : M = ((List.replicate L (0 : UInt8)).map u8).toArray := by
            rw [hM]
            apply Array.toList_inj.1
            apply List.ext_getElem?
            intro i
            rw [List.map_replicate, List.getElem?_replicate]
            rcases Nat.lt_or_ge i L with h | h
            · rw [if_pos h]; simp [madeCells, h, Mem.u8, Nat.mod_one]
            · rw [if_neg (by omega)]; simp [madeCells, h]
          have hmk : ∀ w : World, (Instr.makeSlice 22 (.int .i64 (L : Int)) (.int .i64 (L : Int))).run Tryd.prog w = .ok (.slice (some ⟨w.heap.size, 0, none⟩) L L) (w.alloc (.cells M 5)) := by
            intro w
            rw [hM]
            exact run_make_row' 22 5 (.int .u8 0) 1 Tryd.underlying22 info8 rfl .i64 .i64 L (by omega) (by omega) w
          have HW0 : Hid (Row (w2.alloc (.cells M 5)) w2.heap.size 5 ((List.replicate L (0 : UInt8)).map u8)) := by
            show Row _ _ _ _
            rw [hML]; exact Row.new _ _ _
          have HUa : Hid (Upd (fun _ => False) w2 (w2.alloc (.cells M 5))) := (Upd.refl _ w2).alloc _
          have hLd : decide ((65536 : Int) < (L : Int)) = false := by simp; omega
          clear hM hML hL
          go_upto_if 67 with (fail)
          obtain ⟨w3, hw3⟩ : ∃ x, x = w2.alloc (.cells M 5) := ⟨_, rfl⟩
          obtain ⟨g, hg⟩ : ∃ x, x = w2.heap.size := ⟨_, rfl⟩
          rw [← hw3, ← hg] at HW0
          rw [← hw3] at HUa
          rw [← hw3, ← hg]
          have hgs : w.heap.size ≤ g := by rw [hg]; exact HU2.out.size
          have hg3 : g < w3.heap.size := HW0.out.lt
          have Hg2 := Lib.hid hg
          clear hw3 hg hmk
          have HU3 : Hid (Upd (fun _ => False) w w3) := HU2.out.trans (HUa.out.mono fun _ _ e => e.elim)
          have HB3 := Lib.hid (HB2.out.upd HUa.out (fun _ _ => id))
          go_cut [15] (fun s15 wx => PQ w X g L s15 wx)
          case first =>
            by_cases h9 : 9 < mb
            · have h9I : (9 : Int) < (mb : Int) := by omega
              obtain ⟨ao', cap', he, h1, h2, h3, h4⟩ := HB3.out
              injection he with e1 e2 e3
              subst e1 e3
              clear e2
              obtain ⟨ad, rfl⟩ : ∃ ad, ab = some ad := by
                cases ab with
                | some ad => exact ⟨ad, rfl⟩
                | none => have := h3 rfl; have := Hmb.out; omega
              obtain ⟨pb, ob, sb⟩ := ad
              obtain rfl : sb = none := (Sl.cells HB3.out).1
              have hcb : ¬ cb = 9 := by have := Hmb.out; omega
              have hcb9 : (9 : Int) ≤ (mb : Int) := by omega
              have hmcb : mb ≤ cb := by have := Hmb.out; omega
              have hd := CopyW.Sl.drop (k := 9) HB3.out (by have := Hmb.out; omega)
              rw [← Hmb.out] at hd
              obtain ⟨k, hk⟩ : ∃ k, k = Nat.min (mb - 9) L := ⟨_, rfl⟩
              have hk1 : k ≤ mb - 9 := by rw [hk]; exact Nat.min_le_left _ _
              have hk2 : k ≤ L := by rw [hk]; exact Nat.min_le_right _ _
              have Hsrc := Lib.hid (src_of (k := k) hd (by simp; have := Hmb.out; omega))
              have HK := Lib.hid hk
              clear h1 h2 h3 h4 hd hk
              go_wp2_with ((with_reducible refine wpList_copy_new (o := ⟨some 71, _, _, _, _, _⟩) ?_ (.tmp 68) (.tmp 70) 22 22 ?_ 5 Tryd.underlying22 i8s (some ⟨g, 0, none⟩) (some ⟨pb, ob + 9, none⟩) L L (mb - 9) (cb - 9) ?_ ?_ g 0 _ _ HW0.out (((X.drop 9).take k).map Mem.u8) ?_ ?_ ?_ (one_of _) ?_); rfl; rfl; rfl; rfl; (rw [Hsrc.out.1, HK.out]); (exact fun hp => ⟨rfl, Hsrc.out.2 hp⟩); (rw [Hsrc.out.1, List.length_map, List.length_replicate]; omega); intro w4 HR4 HU4)
              go_meet
              refine ⟨rfl, ?_, HU3.out.trans (HU4.out.mono fun k _ e => .inr (by omega))⟩
              have h5 := HR4.out
              rw [HL.out, padded_splice X k (by rw [HK.out, HL.out, Hmb.out])] at h5
              exact h5
            · have h9I : decide ((9 : Int) < (mb : Int)) = false := by simp; omega
              go_wp2
              go_meet
              refine ⟨rfl, ?_, HU3.out⟩
              rw [padded_short X (by have := Hmb.out; omega), ← HL.out]
              exact HW0.out
          case rest =>
            obtain ⟨rfl, hrow, hu⟩ := hcut
            have hpl : (padded X).length = L := by rw [padded_len, HL.out]
            have hslp := Sl.row (cap := L) hrow (by omega) (by unfold maxLen; omega)
            rw [hpl] at hslp
            have HU5 := Lib.hid hu
            have HB5 := Lib.hid (HB.out.upd hu (fun _ _ => id))
            have hPk := pack_any n (some ⟨g, 0, none⟩) L L (padded X) wc hslp (fun k hk => by simp [own, Value.ownBlock] at hk; rw [← hk]; exact hrow.lt) (Htw.out.upd hu id)
            have Hpl := Lib.hid hpl
            clear hrow hu hpl hslp HW0 HUa HU3 HB3
            go_wp2_with fail
            refine hPk.mono ?_
            rintro e w6 (⟨_, _, v6, rfl, hown6, hu6⟩ | ⟨h, _⟩ | ⟨_, h, _⟩)
            · obtain ⟨ao6, cap6, rfl, hsl6⟩ := nil_of_own hown6
              obtain ⟨fl, hfl⟩ : ∃ z, z = (frame n (padded X)).length := ⟨_, rfl⟩
              have hflv : fl = L + 13 := by rw [hfl, frame_len, Hpl.out]
              have hlt6 : mb < fl := by have h8 := Htl.out; rw [Hpl.out] at h8; have := Hmb.out; omega
              have hc6 : fl ≤ cap6 := by obtain ⟨_, _, h, h1, _⟩ := hsl6; injection h with _ _ e3; rw [← hfl] at h1; omega
              have hsl6' := sl_take' hsl6 (k := mb) (by omega)
              rw [Hmb.out, Htt.out, ← Hmb.out] at hsl6'
              rw [← hfl] at hsl6 ⊢
              have HU6 : Hid (Upd (fun _ => False) w w6) := HU5.out.trans (hu6.mono fun _ _ e => e.elim)
              have HB6 := HB5.out.upd hu6 (fun _ _ => id)
              have k1 := fun nq : Nat => conv_sl (hsl6'.upd (RowW.Upd.drewN (Upd.refl (fun _ => False) w6) nq) (fun _ _ => id))
              have k2 := fun nq : Nat => conv_sl (HB6.upd (RowW.Upd.drewN (Upd.refl (fun _ => False) w6) nq) (fun _ _ => id))
              have hstr : ((⟨X.toArray⟩ : ByteArray) == ⟨X.toArray⟩) = true := by rw [str_eq]; simp
              have hltI : (mb : Int) < (fl : Int) := by omega
              have hltI' : (mb : Int) ≤ (cap6 : Int) := by omega
              clear hown6 hu6 hsl6 hsl6' hfl hflv HB6 hPk
              go_wp2
              go_quiet (fail)
              go_wp2
              go_ret
              exact ⟨rfl, RowW.Upd.drewN HU6.out _⟩
            · rw [Hk.out] at h; cases h
            · rw [Hpl.out] at h; omega
    · have Hk := Lib.hid hk
      have H1 := Lib.hid h1
      have HO2 := Lib.hid (own_nil w2)
      have hm1 : ([] : List UInt8).length + X.length ≤ maxLen := by unfold maxLen; simp; have := Hmb.out; omega
      have hl1 : ([] : List UInt8).length + X.length ≤ 140737488355328 := by simp; have := Hmb.out; omega
      have hm2 : X.length + T.length ≤ maxLen := by unfold maxLen; have := Hmb.out; have := Hmt.out; omega
      have hl2 : X.length + T.length ≤ 140737488355328 := by have := Hmb.out; have := Hmt.out; omega
      have Hm1 := Lib.hid hm1
      have Hl1 := Lib.hid hl1
      have Hm2 := Lib.hid hm2
      have Hl2 := Lib.hid hl2
      clear hk h1 hm1 hl1 hm2 hl2
      go_wp2_with (first
        | ((with_reducible refine wpList_append_bytes (o := ⟨some 32, _, _, _, _, _⟩) _ ?_ (.const (.slice none 0 0)) (.tmp 31) ?_ 0 (.slice none 0 0) [] X ?_ HO2.out (.slice ab mb cb) ?_ HB2.out Hm1.out Hl1.out (Nat.zero_le _) ?_); rfl; rfl; rfl; rfl; intro v3 w3 Hown3 Hgrow3 Hat3; have hu3 : Upd (fun _ => False) w2 w3 := Upd.grown Hgrow3.out (fun k hk => by simp [Value.ownBlock] at hk); have HT3 := Lib.hid (HT2.out.upd hu3 (fun _ _ => id)); have HU3 : Hid (Upd (fun _ => False) w w3) := HU2.out.trans (hu3.mono fun _ _ e => e.elim); have h3 := Hown3.out; rw [List.nil_append] at h3; have HO3 := Lib.hid h3; have hv3 : ∀ k, own v3 k → w2.heap.size ≤ k := (fun k hk => by rcases Hat3.out with h | h <;> (unfold own at hk; rw [h] at hk; simp [Value.ownBlock] at hk); omega); have HV3 := Lib.hid hv3; clear hu3 h3 hv3 Hown3 Hgrow3 Hat3)
        | ((with_reducible refine wpList_append_bytes (o := ⟨some 34, _, _, _, _, _⟩) _ ?_ (.tmp 32) (.tmp 33) ?_ 0 v3 X T ?_ HO3.out (.slice at_ mt ct) ?_ HT3.out Hm2.out Hl2.out (Nat.zero_le _) ?_); rfl; rfl; rfl; rfl; intro v4 w4 Hown4 Hgrow4 Hat4))
      have HU4 : Hid (Upd (fun _ => False) w w4) := HU3.out.trans ((Upd.grown (S := own v3) Hgrow4.out (fun k hk => hk)).mono fun k _ e => .inr (by have := HV3.out k e; have := HU2.out.size; omega))
      obtain ⟨ao4, cap4, rfl, hsl4⟩ := nil_of_own Hown4.out
      have HUn := unpack_any n ao4 _ cap4 (X ++ T) w4 hsl4 (by rw [List.length_append]; exact Hl2.out) (Htw.out.upd HU4.out id)
      refine HUn.mono ?_
      have hb1 := one_bad n X T H1.out
      rintro e w5 (⟨_, h13, _⟩ | ⟨z, hz, rfl, hu5⟩)
      · rw [hb1] at h13; omega
      · have hz41 : z = 41 := by
          rcases hz with ⟨h, _⟩ | ⟨_, h, _⟩ | ⟨_, _, h⟩
          · rw [Hk.out] at h; cases h
          · rw [hb1] at h; cases h
          · exact h
        subst hz41
        have HU5 : Hid (Upd (fun _ => False) w w5) := HU4.out.trans (hu5.mono fun _ _ e => e.elim)
        clear hb1 hz hu5 hsl4 HUn
        go_wp2
        go_ret
        exact ⟨rfl, HU5.out⟩
end Go.Proofs.YtgfdnljblfkhkabDoor.FrCert
