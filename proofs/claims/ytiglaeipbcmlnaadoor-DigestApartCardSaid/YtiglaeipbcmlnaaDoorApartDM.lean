/-
  docketlaw2.DigestApart, walked.
-/
import Derived.Test.YtiglaeipbcmlnaaDoorApG
import Derived.Test.YtiglaeipbcmlnaaDoorClG
import Derived.Test.YtiglaeipbcmlnaaDoorSumsW
import Derived.Test.YtiglaeipbcmlnaaDoorTabsG
import Derived.Deep.RegionHeld
import Derived.Deep.MidRow
namespace Go.Proofs.YtiglaeipbcmlnaaDoor.ApartD
open Go.RowKit Sha TurnW Mem RowW SpreadW MixW HashM CopyW SumH NewW EqW BookW SplitL CutW OpenP OfW LeafW BranchW RefOf TabP ApartL ApartT ApartU ClashL ClashW ClashT PutW HeldW
set_option linter.unusedVariables false
set_option linter.unusedSimpArgs false

def WithinAt0 (w : World) (e : Ending) (w' : World) : Prop := ∃ x : Int, e = .returned (.int .i64 x) ∧ 1 ≤ x ∧ x ≤ 8 ∧ w = w'
theorem within0 (n : Int) (w : World) (hn : -9223372036854775808 ≤ n ∧ n ≤ 9223372036854775807) :
    Calls Tryd.prog 54 #[.int .i64 n, .int .i64 1, .int .i64 8] w (WithinAt0 w) := by
  have hr1 : n.tmod 8 < 8 := Int.tmod_lt_of_pos _ (by omega)
  have hr2 : -8 < n.tmod 8 := by
    have := Int.tmod_lt_of_pos (-n) (show (0 : Int) < 8 by omega)
    rw [Int.neg_tmod] at this
    omega
  obtain ⟨hn1, hn2⟩ := hn
  by_cases hs : n.tmod 8 < 0
  · go_enter Tryd.func54, Tryd.ntmps54
    go_wp2
    go_ret
    exact ⟨_, rfl, by omega, by omega, rfl⟩
  · go_enter Tryd.func54, Tryd.ntmps54
    go_wp2
    go_ret
    exact ⟨_, rfl, by omega, by omega, rfl⟩
def WithinAt (w : World) (e : Ending) (w' : World) : Prop := ∃ c : Nat, e = .returned (.int .i64 (c : Int)) ∧ (1 ≤ c ∧ c ≤ 8) ∧ w = w'
theorem within18 (n : Int) (w : World) (hn : -9223372036854775808 ≤ n ∧ n ≤ 9223372036854775807) :
    Calls Tryd.prog 54 #[.int .i64 n, .int .i64 1, .int .i64 8] w (WithinAt w) :=
  (within0 n w hn).mono fun e w' ⟨x, he, h1, h2, hw⟩ => ⟨x.toNat, by rw [he, Int.toNat_of_nonneg (by omega)], by omega, hw⟩
theorem sizeP : (Tryd.prog.info? 39).map (·.size) = some 70 := by kernel_rfl

set_option maxHeartbeats 8000000 in
set_option maxRecDepth 100000 in
theorem walk (a b width : Int) (wd dm ct ht : Int) (A B P : List UInt8) (pao : Option Addr) (pn pcap : Nat) (qv : Value) (wd' dm' ct' ht' : Int) (A' B' P' : List UInt8) (pao' : Option Addr) (pn' pcap' : Nat) (qv' : Value) (w : World)
    (ha : -9223372036854775808 ≤ a ∧ a ≤ 9223372036854775807) (hb : -9223372036854775808 ≤ b ∧ b ≤ 9223372036854775807) (hct : -9223372036854775808 ≤ ct ∧ ct ≤ 9223372036854775807) (hct' : -9223372036854775808 ≤ ct' ∧ ct' ≤ 9223372036854775807)
    (hA : A.length = 32) (hB : B.length = 32) (hA' : A'.length = 32) (hB' : B'.length = 32)
    (hP : Sl w (.slice pao pn pcap) P) (hPo : ∀ k, own (.slice pao pn pcap) k → k < w.heap.size) (hpn : pn = P.length) (hpb : pn ≤ 140737488351232)
    (hP' : Sl w (.slice pao' pn' pcap') P') (hPo' : ∀ k, own (.slice pao' pn' pcap') k → k < w.heap.size) (hpn' : pn' = P'.length) (hpb' : pn' ≤ 140737488351232)
    (hk : Kw w) (hg : 0 < w.heap.size) :
    Calls Tryd.prog 11 #[.int .i64 a, .int .i64 b, .int .i64 width, .agg (pcells wd dm ct ht A B (.slice pao pn pcap) qv).toArray, .agg (pcells wd' dm' ct' ht' A' B' (.slice pao' pn' pcap') qv').toArray] w fun e w' => e = .returned (.bool true) ∧ Upd (fun _ => False) w w' := by
  obtain ⟨XL, hXL⟩ : ∃ L, L = pcells wd dm ct ht A B (.slice pao pn pcap) qv := ⟨_, rfl⟩
  obtain ⟨YL, hYL⟩ : ∃ L, L = pcells wd' dm' ct' ht' A' B' (.slice pao' pn' pcap') qv' := ⟨_, rfl⟩
  obtain ⟨w0, hw0⟩ : ∃ x, x = (w.alloc (.cells XL.toArray 39)).alloc (.cells YL.toArray 39) := ⟨_, rfl⟩
  have hu0 : Upd (fun _ => False) w w0 := by rw [hw0]; exact ((Upd.refl _ w).alloc _).alloc _
  have hs0 : w0.heap.size = w.heap.size + 2 := by rw [hw0]; simp
  have HRX : Hid (Row w0 w.heap.size 39 XL) := by rw [hw0]; exact (Row.new w _ _).alloc _
  have HRY : Hid (Row w0 (w.heap.size + 1) 39 YL) := by
    show Row _ _ _ _
    rw [hw0]
    have h := Row.new (w.alloc (.cells XL.toArray 39)) 39 YL
    simpa using h
  have HXs : Hid ((Tryd.prog.info? 39).map (·.size) = some XL.length) := by show _ = _; rw [sizeP, hXL]; simp [pcells, hA, hB]
  have HYs : Hid ((Tryd.prog.info? 39).map (·.size) = some YL.length) := by show _ = _; rw [sizeP, hYL]; simp [pcells, hA', hB']
  have HG0 : Hid (Kw w0 ∧ 0 < w0.heap.size) := ⟨hk.upd hu0 id, by omega⟩
  have hPw : ∀ w', Upd (fun _ => False) w0 w' → Sl w' (.slice pao pn pcap) P ∧ (∀ k, own (.slice pao pn pcap) k → k < w'.heap.size) := fun w' hu =>
    ⟨(hP.upd hu0 (fun _ _ => id)).upd hu (fun _ _ => id), fun k h => by have := hPo k h; have := hu.size; omega⟩
  have hPw' : ∀ w', Upd (fun _ => False) w0 w' → Sl w' (.slice pao' pn' pcap') P' ∧ (∀ k, own (.slice pao' pn' pcap') k → k < w'.heap.size) := fun w' hu =>
    ⟨(hP'.upd hu0 (fun _ _ => id)).upd hu (fun _ _ => id), fun k h => by have := hPo' k h; have := hu.size; omega⟩
  have HTX : Hid (∀ c, 1 ≤ c ∧ c ≤ 8 → ∀ w', Upd (fun _ => False) w0 w' → Calls Tryd.prog 55 #[.int .i64 ((c : Nat) : Int), .agg XL.toArray] w' (TxtAt (txt c ct A B P) w')) := fun c hc w' hu => by
    rw [hXL]; exact texts_any c hc wd dm ct ht A B P pao pn pcap qv w' hA hB (hPw w' hu).1 (hPw w' hu).2 hpn hpb
  have HTY : Hid (∀ c, 1 ≤ c ∧ c ≤ 8 → ∀ w', Upd (fun _ => False) w0 w' → Calls Tryd.prog 55 #[.int .i64 ((c : Nat) : Int), .agg YL.toArray] w' (TxtAt (txt c ct' A' B' P') w')) := fun c hc w' hu => by
    rw [hYL]; exact texts_any c hc wd' dm' ct' ht' A' B' P' pao' pn' pcap' qv' w' hA' hB' (hPw' w' hu).1 (hPw' w' hu).2 hpn' hpb'
  have HSX : Hid (∀ c, 1 ≤ c ∧ c ≤ 8 → ∀ w', Upd (fun _ => False) w0 w' → Calls Tryd.prog 56 #[.int .i64 ((c : Nat) : Int), .int .i64 width, .agg XL.toArray] w' fun e w'' => e = .returned (.agg ((sumM c width ct A B P).map u8).toArray) ∧ Upd (fun _ => False) w' w'') := fun c hc w' hu => by
    rw [hXL]; exact ApartS.sum_any c hc width wd dm ct ht A B P pao pn pcap qv w' hA hB (hPw w' hu).1 (hPw w' hu).2 hpn hpb (HG0.out.1.upd hu id) (by have := HG0.out.2; have := hu.size; omega)
  have HSY : Hid (∀ c, 1 ≤ c ∧ c ≤ 8 → ∀ w', Upd (fun _ => False) w0 w' → Calls Tryd.prog 56 #[.int .i64 ((c : Nat) : Int), .int .i64 width, .agg YL.toArray] w' fun e w'' => e = .returned (.agg ((sumM c width ct' A' B' P').map u8).toArray) ∧ Upd (fun _ => False) w' w'') := fun c hc w' hu => by
    rw [hYL]; exact ApartS.sum_any c hc width wd' dm' ct' ht' A' B' P' pao' pn' pcap' qv' w' hA' hB' (hPw' w' hu).1 (hPw' w' hu).2 hpn' hpb' (HG0.out.1.upd hu id) (by have := HG0.out.2; have := hu.size; omega)
  have HUn : Hid (∀ c d, 1 ≤ c ∧ c ≤ 8 → 1 ≤ d ∧ d ≤ 8 → ∀ w', Upd (fun _ => False) w0 w' → Calls Tryd.prog 58 #[.int .i64 ((c : Nat) : Int), .int .i64 ((d : Nat) : Int), .agg XL.toArray, .agg YL.toArray] w' fun e w'' => e = .returned (.bool (decide (txt c ct A B P ≠ txt d ct' A' B' P'))) ∧ Upd (fun _ => False) w' w'') := fun c d hc hd w' hu => by
    rw [hXL, hYL, ← unl_txt c d hc hd ct ct' hct hct' A B P A' B' P' hA hA']
    exact unlike_any c d hc hd wd dm ct ht A B P pao pn pcap qv wd' dm' ct' ht' A' B' P' pao' pn' pcap' qv' w' hA hB hA' hB' (hPw w' hu).1 hpn (hPw' w' hu).1 hpn'
  have HleX : Hid (∀ c, (txt c ct A B P).length ≤ 140737488351233) := fun c => txt_le c ct A B P hA hB (by omega)
  have HleY : Hid (∀ c, (txt c ct' A' B' P').length ≤ 140737488351233) := fun c => txt_le c ct' A' B' P' hA' hB' (by omega)
  have HU0 := Lib.hid hu0
  have Hs0 := Lib.hid hs0
  rw [← hXL, ← hYL]
  clear hXL hYL hu0 hs0 hPw hPw' hP hPo hpn hpb hP' hPo' hpn' hpb' hk hg hct hct' hA hB hA' hB'
  go_enter Tryd.func11, Tryd.ntmps11
  go_wp2_with fail
  rw [← hw0]
  clear hw0
  refine (within18 a w0 ha).mono ?_
  rintro e w0' ⟨c, rfl, hc, hw⟩
  subst hw
  have Hc := Lib.hid hc
  clear hc ha
  go_wp2_with fail
  refine (within18 b w0 hb).mono ?_
  rintro e w0' ⟨d, rfl, hd, hw⟩
  subst hw
  have Hd := Lib.hid hd
  clear hd hb
  go_wp2_with (first
    | ((with_reducible refine wpList_load_part (o := ⟨some 22, _, _, _, _, _⟩) ?_ _ (.tmp 8) ?_ (w.heap.size) 0 ?_ XL _ ?_ Tryd.underlying39 ?_ HXs.out ?_); rfl; rfl; rfl; (intro j v hv; rw [Nat.zero_add, (HRX.out).cell]; exact hv); rfl))
  refine (HTX.out c Hc.out w0 (Upd.refl _ _)).mono ?_
  rintro e w1 ⟨sa, sn, sc, rfl, hsn, hso, hsw, hu1⟩
  obtain ⟨S, hS⟩ : ∃ S, S = txt c ct A B P := ⟨_, rfl⟩
  rw [← hS] at hsn hso
  have HSl : Hid (Sl w1 (.slice sa sn sc) S) := by show Sl _ _ _; rw [hsn] at hso ⊢; exact Sl.of_own hso
  have HSo : Hid (∀ k, own (.slice sa sn sc) k → k < w1.heap.size) := TabL.own_size hso
  have HSn := Lib.hid hsn
  have HU1 := Lib.hid hu1
  have HSe := Lib.hid hS
  clear hsn hso hsw hu1 hS
  go_wp2_with (first
    | ((with_reducible refine wpList_load_part (o := ⟨some 25, _, _, _, _, _⟩) ?_ _ (.tmp 9) ?_ (w.heap.size + 1) 0 ?_ YL _ ?_ Tryd.underlying39 ?_ HYs.out ?_); rfl; rfl; rfl; (intro j v hv; rw [Nat.zero_add, (HRY.out.upd HU1.out id).cell]; exact hv); rfl))
  refine (HTY.out d Hd.out w1 HU1.out).mono ?_
  rintro e w2 ⟨ta, tn, tc, rfl, htn, hto, htw, hu2⟩
  obtain ⟨T, hT⟩ : ∃ S, S = txt d ct' A' B' P' := ⟨_, rfl⟩
  rw [← hT] at htn hto
  have HTl : Hid (Sl w2 (.slice ta tn tc) T) := by show Sl _ _ _; rw [htn] at hto ⊢; exact Sl.of_own hto
  have HTo : Hid (∀ k, own (.slice ta tn tc) k → k < w2.heap.size) := TabL.own_size hto
  have HTn := Lib.hid htn
  have HU2 : Hid (Upd (fun _ => False) w0 w2) := HU1.out.trans (hu2.mono (fun _ _ e => e.elim))
  have HSl2 : Hid (Sl w2 (.slice sa sn sc) S) := HSl.out.upd hu2 (fun _ _ => id)
  have HSo2 : Hid (∀ k, own (.slice sa sn sc) k → k < w2.heap.size) := fun k h => by have := HSo.out k h; have := hu2.size; omega
  have HTe := Lib.hid hT
  clear htn hto htw hu2 hT
  obtain ⟨Y1, hY1⟩ : ∃ Y, Y = ((sumM c width ct A B P).map u8).toArray := ⟨_, rfl⟩
  obtain ⟨Y2, hY2⟩ : ∃ Y, Y = ((sumM d width ct' A' B' P').map u8).toArray := ⟨_, rfl⟩
  obtain ⟨Z1, hZ1⟩ : ∃ Y, Y = ((sha S).map u8).toArray := ⟨_, rfl⟩
  obtain ⟨Z2, hZ2⟩ : ∃ Y, Y = ((sha T).map u8).toArray := ⟨_, rfl⟩
  have HX1 : Hid (∀ w', Upd (fun _ => False) w2 w' → Calls Tryd.prog 56 #[.int .i64 (c : Int), .int .i64 width, .agg XL.toArray] w' fun e w'' => e = .returned (.agg Y1) ∧ Upd (fun _ => False) w' w'') := fun w' hu => by rw [hY1]; exact HSX.out c Hc.out w' (HU2.out.trans (hu.mono (fun _ _ e => e.elim)))
  have HX2 : Hid (∀ w', Upd (fun _ => False) w2 w' → Calls Tryd.prog 56 #[.int .i64 (d : Int), .int .i64 width, .agg YL.toArray] w' fun e w'' => e = .returned (.agg Y2) ∧ Upd (fun _ => False) w' w'') := fun w' hu => by rw [hY2]; exact HSY.out d Hd.out w' (HU2.out.trans (hu.mono (fun _ _ e => e.elim)))
  have HM1 : Hid (∀ w', Upd (fun _ => False) w2 w' → Calls Tryd.prog 12 #[.slice sa sn sc] w' fun e w'' => e = .returned (.agg Z1) ∧ Upd (fun _ => False) w' w'') := fun w' hu => by
    rw [hZ1]
    exact sum_text _ S w' (HSl2.out.upd hu (fun _ _ => id)) (HG0.out.1.upd (HU2.out.trans (hu.mono (fun _ _ e => e.elim))) id) (by have := HG0.out.2; have := HU2.out.size; have := hu.size; omega) (fun k h => by have := HSo2.out k h; have := hu.size; omega) (by have := HleX.out c; rw [← HSe.out] at this; omega)
  have HM2 : Hid (∀ w', Upd (fun _ => False) w2 w' → Calls Tryd.prog 12 #[.slice ta tn tc] w' fun e w'' => e = .returned (.agg Z2) ∧ Upd (fun _ => False) w' w'') := fun w' hu => by
    rw [hZ2]
    exact sum_text _ T w' (HTl.out.upd hu (fun _ _ => id)) (HG0.out.1.upd (HU2.out.trans (hu.mono (fun _ _ e => e.elim))) id) (by have := HG0.out.2; have := HU2.out.size; have := hu.size; omega) (fun k h => by have := HTo.out k h; have := hu.size; omega) (by have := HleY.out d; rw [← HTe.out] at this; omega)
  have HC1 : Hid (∀ w', Calls Tryd.prog 57 #[.agg Z1, .int .i64 width] w' fun e w'' => e = .returned (.agg Y1) ∧ Upd (fun _ => False) w' w'') := fun w' => by rw [hZ1, hY1]; unfold sumM; rw [← HSe.out]; exact cut_any (sha S) rfl width w'
  have HC2 : Hid (∀ w', Calls Tryd.prog 57 #[.agg Z2, .int .i64 width] w' fun e w'' => e = .returned (.agg Y2) ∧ Upd (fun _ => False) w' w'') := fun w' => by rw [hZ2, hY2]; unfold sumM; rw [← HTe.out]; exact cut_any (sha T) rfl width w'
  have q1 : ∀ w, (binOp .neq 23 (.agg Y1) (.agg Y1)).run Tryd.prog w = .ok (.bool false) w := fun w => by rw [hY1, neq_digest _ _ (sumM_len _ _ _ _ _ _) (sumM_len _ _ _ _ _ _)]; simp
  have q2 : ∀ w, (binOp .neq 23 (.agg Y2) (.agg Y2)).run Tryd.prog w = .ok (.bool false) w := fun w => by rw [hY2, neq_digest _ _ (sumM_len _ _ _ _ _ _) (sumM_len _ _ _ _ _ _)]; simp
  have HQe : Hid (∀ w, (binOp .eql 23 (.agg Y1) (.agg Y2)).run Tryd.prog w = .ok (.bool (cut (sha S) width == cut (sha T) width)) w) := fun w => by rw [hY1, hY2, eql_digest _ _ (sumM_len _ _ _ _ _ _) (sumM_len _ _ _ _ _ _)]; unfold sumM; rw [← HSe.out, ← HTe.out]
  have HUn2 : Hid (∀ w', Upd (fun _ => False) w2 w' → Calls Tryd.prog 58 #[.int .i64 (c : Int), .int .i64 (d : Int), .agg XL.toArray, .agg YL.toArray] w' fun e w'' => e = .returned (.bool (decide (S ≠ T))) ∧ Upd (fun _ => False) w' w'') := fun w' hu => by rw [HSe.out, HTe.out]; exact HUn.out c d Hc.out Hd.out w' (HU2.out.trans (hu.mono (fun _ _ e => e.elim)))
  have HRX2 : Hid (∀ w', Upd (fun _ => False) w2 w' → Row w' w.heap.size 39 XL) := fun w' hu => (HRX.out.upd HU2.out id).upd hu id
  have HRY2 : Hid (∀ w', Upd (fun _ => False) w2 w' → Row w' (w.heap.size + 1) 39 YL) := fun w' hu => (HRY.out.upd HU2.out id).upd hu id
  have HSle : Hid (S.length ≤ 140737488351233) := by show _ ≤ _; rw [HSe.out]; exact HleX.out c
  have HTle : Hid (T.length ≤ 140737488351233) := by show _ ≤ _; rw [HTe.out]; exact HleY.out d
  clear hY1 hY2 hZ1 hZ2 HSX HSY HUn HTX HTY HSl HSo
  have HUr : Hid (Upd (fun _ => False) w2 w2) := Upd.refl _ _
  go_wp2_with (first
    | ((with_reducible refine wpList_load_part (o := ⟨some 29, _, _, _, _, _⟩) ?_ _ (.tmp 8) ?_ (w.heap.size) 0 ?_ XL _ ?_ Tryd.underlying39 ?_ HXs.out ?_); rfl; rfl; rfl; (intro j v hv; rw [Nat.zero_add, (HRX2.out w2 HUr.out).cell]; exact hv); rfl))
  refine (HX1.out w2 HUr.out).mono ?_
  rintro e w3 ⟨rfl, hu_⟩
  have HU3 : Hid (Upd (fun _ => False) w2 w3) := HUr.out.trans (hu_.mono (fun _ _ e => e.elim))
  clear hu_
  go_wp2_with fail
  refine (HM1.out w3 HU3.out).mono ?_
  rintro e w4 ⟨rfl, hu_⟩
  have HU4 : Hid (Upd (fun _ => False) w2 w4) := HU3.out.trans (hu_.mono (fun _ _ e => e.elim))
  clear hu_
  go_wp2_with fail
  refine (HC1.out w4).mono ?_
  rintro e w5 ⟨rfl, hu_⟩
  have HU5 : Hid (Upd (fun _ => False) w2 w5) := HU4.out.trans (hu_.mono (fun _ _ e => e.elim))
  clear hu_
  go_wp2_with (first
    | ((with_reducible refine wpList_load_partG (o := ⟨some 39, _, _, _, _, _⟩) ?_ _ (.tmp 9) ?_ (w.heap.size + 1) 0 ?_ YL _ ?_ Tryd.underlying39 ?_ HYs.out ?_); (first | rfl | kernel_rfl); rfl; rfl; (intro j v hv; rw [Nat.zero_add, (HRY2.out w5 HU5.out).cell]; exact hv); rfl))
  refine (HX2.out w5 HU5.out).mono ?_
  rintro e w6 ⟨rfl, hu_⟩
  have HU6 : Hid (Upd (fun _ => False) w2 w6) := HU5.out.trans (hu_.mono (fun _ _ e => e.elim))
  clear hu_
  go_wp2_with fail
  refine (HM2.out w6 HU6.out).mono ?_
  rintro e w7 ⟨rfl, hu_⟩
  have HU7 : Hid (Upd (fun _ => False) w2 w7) := HU6.out.trans (hu_.mono (fun _ _ e => e.elim))
  clear hu_
  go_wp2_with fail
  refine (HC2.out w7).mono ?_
  rintro e w8 ⟨rfl, hu_⟩
  have HU8 : Hid (Upd (fun _ => False) w2 w8) := HU7.out.trans (hu_.mono (fun _ _ e => e.elim))
  clear hu_
  clear HM1 HM2 HC1 HC2
  obtain ⟨st, hst⟩ : ∃ s : ByteArray, s = ⟨S.toArray⟩ := ⟨_, rfl⟩
  obtain ⟨su, hsu⟩ : ∃ s : ByteArray, s = ⟨T.toArray⟩ := ⟨_, rfl⟩
  have HK1 : Hid (∀ w', Upd (fun _ => False) w2 w' → (convert 25 9 (.slice sa sn sc)).run Tryd.prog w' = .ok (.string st) w') := fun w' hu => by
    have h := HSl2.out.upd hu (fun _ _ => id)
    rw [hst]
    rw [HSn.out] at h ⊢
    exact conv_sl h
  have HK2 : Hid (∀ w', Upd (fun _ => False) w2 w' → (convert 25 9 (.slice ta tn tc)).run Tryd.prog w' = .ok (.string su) w') := fun w' hu => by
    have h := HTl.out.upd hu (fun _ _ => id)
    rw [hsu]
    rw [HTn.out] at h ⊢
    exact conv_sl h
  obtain ⟨e1, e2⟩ := str_ne hst hsu
  have Hst := Lib.hid hst
  have Hsu := Lib.hid hsu
  clear hst hsu
  go_wp2_with fail
  by_cases hST : S = T
  · have e3 : (S == T) = true := by simp [hST]
    rw [e3] at e1 e2
    clear e3
    have hun : decide (S ≠ T) = false := by simp [hST]
    rw [hun] at HUn2
    clear hun
    have HS_0 : Hid (Upd (fun _ => False) w8 w8.drew) := (Upd.refl _ _).drew
    refine wp_region_held_drew (S := Upd (fun _ => False) w8) (by kernel_rfl) HS_0.out (fun _ => ?_)
    refine wpAnyH_take (i := 0) (oi := ⟨some 47, _, _, _, _, _⟩) (v := .int .i64 (c : Int)) rfl (by kernel_rfl) (by kernel_rfl) (by kernel_rfl) (fun _ _ _ h => h) (Or.inl ⟨by rfl, fun w hS => by go_simp⟩) HS_0.out ?_
    try simp only [Act.put, List.setIfInBounds_toArray, List.set_cons_zero, List.set_cons_succ]
    refine wpAnyH_take (i := 1) (oi := ⟨some 48, _, _, _, _, _⟩) (v := .int .i64 (d : Int)) rfl (by kernel_rfl) (by kernel_rfl) (by kernel_rfl) (fun _ _ _ h => h) (Or.inl ⟨by rfl, fun w hS => by go_simp⟩) HS_0.out ?_
    try simp only [Act.put, List.setIfInBounds_toArray, List.set_cons_zero, List.set_cons_succ]
    refine wpAnyH_take (i := 2) (oi := ⟨some 49, _, _, _, _, _⟩) rfl (by kernel_rfl) (by kernel_rfl) (by kernel_rfl) (fun _ _ _ h => h) (yieldsIf_load_mid (by rfl) _ _ rfl (w.heap.size) 0 rfl XL _ (fun w h => fun j v hv => by rw [Nat.zero_add, (HRX2.out w (HU8.out.trans (h.mono (fun _ _ e => e.elim)))).cell]; exact hv) Tryd.underlying39 rfl HXs.out) HS_0.out ?_
    try simp only [Act.put, List.setIfInBounds_toArray, List.set_cons_zero, List.set_cons_succ]
    refine wpAnyH_take (i := 3) (oi := ⟨some 50, _, _, _, _, _⟩) rfl (by kernel_rfl) (by kernel_rfl) (by kernel_rfl) (fun _ _ _ h => h) (yieldsIf_load_mid (by rfl) _ _ rfl (w.heap.size + 1) 0 rfl YL _ (fun w h => fun j v hv => by rw [Nat.zero_add, (HRY2.out w (HU8.out.trans (h.mono (fun _ _ e => e.elim)))).cell]; exact hv) Tryd.underlying39 rfl HYs.out) HS_0.out ?_
    try simp only [Act.put, List.setIfInBounds_toArray, List.set_cons_zero, List.set_cons_succ]
    refine wpAnyH_take (i := 5) (oi := ⟨some 52, _, _, _, _, _⟩) (v := .slice sa sn sc) rfl (by kernel_rfl) (by kernel_rfl) (by kernel_rfl) (fun _ _ _ h => h) (Or.inl ⟨by rfl, fun w hS => by go_simp⟩) HS_0.out ?_
    try simp only [Act.put, List.setIfInBounds_toArray, List.set_cons_zero, List.set_cons_succ]
    refine wpAnyH_take (i := 6) (oi := ⟨some 53, _, _, _, _, _⟩) (v := .string st) rfl (by kernel_rfl) (by kernel_rfl) (by kernel_rfl) (fun _ _ _ h => h) (Or.inl ⟨by rfl, fun w hS => by have hc := HK1.out w (HU8.out.trans (hS.mono (fun _ _ e => e.elim))); go_simp⟩) HS_0.out ?_
    try simp only [Act.put, List.setIfInBounds_toArray, List.set_cons_zero, List.set_cons_succ]
    refine wpAnyH_take (i := 7) (oi := ⟨some 54, _, _, _, _, _⟩) (v := .slice ta tn tc) rfl (by kernel_rfl) (by kernel_rfl) (by kernel_rfl) (fun _ _ _ h => h) (Or.inl ⟨by rfl, fun w hS => by go_simp⟩) HS_0.out ?_
    try simp only [Act.put, List.setIfInBounds_toArray, List.set_cons_zero, List.set_cons_succ]
    refine wpAnyH_take (i := 8) (oi := ⟨some 55, _, _, _, _, _⟩) (v := .string su) rfl (by kernel_rfl) (by kernel_rfl) (by kernel_rfl) (fun _ _ _ h => h) (Or.inl ⟨by rfl, fun w hS => by have hc := HK2.out w (HU8.out.trans (hS.mono (fun _ _ e => e.elim))); go_simp⟩) HS_0.out ?_
    try simp only [Act.put, List.setIfInBounds_toArray, List.set_cons_zero, List.set_cons_succ]
    refine wpAnyH_take (i := 9) (oi := ⟨some 56, _, _, _, _, _⟩) (v := .bool false) rfl (by kernel_rfl) (by kernel_rfl) (by kernel_rfl) (fun _ _ _ h => h) (Or.inl ⟨by rfl, fun w hS => by go_simp⟩) HS_0.out ?_
    try simp only [Act.put, List.setIfInBounds_toArray, List.set_cons_zero, List.set_cons_succ]
    refine wpAnyH_ready (rs := [4]) (by kernel_rfl) (by simp) ?_
    refine AllReadyH.cons rfl (fun K hK => ?_) AllReadyH.nil
    go_simp
    refine (HUn2.out w8.drew (HU8.out.trans (HS_0.out.mono (fun _ _ e => e.elim)))).mono ?_
    rintro e w9 ⟨rfl, hu_⟩
    have HS_1 : Hid (Upd (fun _ => False) w8 w9) := HS_0.out.trans (hu_.mono (fun _ _ e => e.elim))
    clear hu_
    refine hK.out _ _ HS_1.out (fun hHeld => ?_)
    clear hK K hHeld
    try simp only [Act.put, List.setIfInBounds_toArray, List.set_cons_zero, List.set_cons_succ]
    refine wpAnyH_take (i := 10) (oi := ⟨some 57, _, _, _, _, _⟩) (v := .bool false) rfl (by kernel_rfl) (by kernel_rfl) (by kernel_rfl) (fun _ _ _ h => h) (Or.inl ⟨by rfl, fun w hS => by go_simp⟩) HS_1.out ?_
    try simp only [Act.put, List.setIfInBounds_toArray, List.set_cons_zero, List.set_cons_succ]
    refine wpAnyH_done (by kernel_rfl) ?_ _
    have HU9 : Hid (Upd (fun _ => False) w2 w9) := HU8.out.trans (HS_1.out.mono (fun _ _ e => e.elim))
    clear HS_0 HS_1
    obtain ⟨w10, hw10⟩ : ∃ x, x = w9.alloc (.cells #[.slice sa sn sc, .slice ta tn tc] 25) := ⟨_, rfl⟩
    have hu10 : Upd (fun _ => False) w9 w10 := by rw [hw10]; exact (Upd.refl _ w9).alloc _
    have hn10 : w10.heap[w9.heap.size]? = some (.cells #[.slice sa sn sc, .slice ta tn tc] 25 (0, 0)) := by rw [hw10]; exact heap_alloc_new w9 _
    have hs10 : w10.heap.size = w9.heap.size + 1 := by rw [hw10]; simp
    have HU10 : Hid (Upd (fun _ => False) w2 w10) := HU9.out.trans (hu10.mono (fun _ _ e => e.elim))
    have hz9 := HU9.out.size
    have HCl := Lib.hid (clash_any width (some ⟨w9.heap.size, 0, none⟩) 2 [S, T] (fun k => k < w10.heap.size) w10 (slL_two w10 w9.heap.size _ _ S T _ hn10 (HSl2.out.upd HU10.out (fun _ _ => id)) (HTl.out.upd HU10.out (fun _ _ => id)) (fun k h => by have := HSo2.out k h; omega) (fun k h => by have := HTo.out k h; omega) (by omega)) (fun k h => h) (by simp)
      (HG0.out.1.upd (HU2.out.trans (HU10.out.mono (fun _ _ e => e.elim))) id) (by have := HG0.out.2; have := HU2.out.size; omega) (fun i hi => by
        have : i = 0 ∨ i = 1 := by simp at hi; omega
        rcases this with rfl | rfl
        · have := HSle.out; show S.length ≤ _; omega
        · have := HTle.out; show T.length ≤ _; omega))
    simp only [List.length_cons, List.length_nil, Nat.zero_add] at HCl
    subst hw10
    clear hu10 hn10 hs10 hz9
    go_wp2_with fail
    refine HCl.out.mono ?_
    rintro e w11 hcl
    obtain ⟨ok, p, q, X, Y, rfl, htold, hop, hoq, hpq, hu11⟩ := ClashT.told hcl
    obtain ⟨hok, hno, hyes⟩ := told_two htold
    have HU11 : Hid (Upd (fun _ => False) w2 w11) := HU10.out.trans (hu11.mono (fun _ _ e => e.elim))
    clear HCl hcl htold hpq hu11
    obtain rfl : ok = false := by rw [hok]; simp [hST]
    clear hok
    obtain ⟨rfl, rfl⟩ := hno rfl
    clear hno hyes
    obtain ⟨pa, pc, rfl⟩ := SumsW.own_form hop
    obtain ⟨qa, qc, rfl⟩ := SumsW.own_form hoq
    simp only [List.length_nil] at hop hoq ⊢
    clear hop hoq
    go_wp2_with fail
    have HS_0 : Hid (Upd (fun _ => False) w11 w11.drew) := (Upd.refl _ _).drew
    refine wp_region_held_drew (S := Upd (fun _ => False) w11) (by kernel_rfl) HS_0.out (fun _ => ?_)
    refine wpAnyH_take (i := 0) (oi := ⟨some 67, _, _, _, _, _⟩) (v := .slice sa sn sc) rfl (by kernel_rfl) (by kernel_rfl) (by kernel_rfl) (fun _ _ _ h => h) (Or.inl ⟨by rfl, fun w hS => by go_simp⟩) HS_0.out ?_
    try simp only [Act.put, List.setIfInBounds_toArray, List.set_cons_zero, List.set_cons_succ]
    refine wpAnyH_take (i := 1) (oi := ⟨some 68, _, _, _, _, _⟩) (v := .string st) rfl (by kernel_rfl) (by kernel_rfl) (by kernel_rfl) (fun _ _ _ h => h) (Or.inl ⟨by rfl, fun w hS => by have hc := HK1.out w (HU11.out.trans (hS.mono (fun _ _ e => e.elim))); go_simp⟩) HS_0.out ?_
    try simp only [Act.put, List.setIfInBounds_toArray, List.set_cons_zero, List.set_cons_succ]
    refine wpAnyH_take (i := 2) (oi := ⟨some 69, _, _, _, _, _⟩) (v := .slice ta tn tc) rfl (by kernel_rfl) (by kernel_rfl) (by kernel_rfl) (fun _ _ _ h => h) (Or.inl ⟨by rfl, fun w hS => by go_simp⟩) HS_0.out ?_
    try simp only [Act.put, List.setIfInBounds_toArray, List.set_cons_zero, List.set_cons_succ]
    refine wpAnyH_take (i := 3) (oi := ⟨some 70, _, _, _, _, _⟩) (v := .string su) rfl (by kernel_rfl) (by kernel_rfl) (by kernel_rfl) (fun _ _ _ h => h) (Or.inl ⟨by rfl, fun w hS => by have hc := HK2.out w (HU11.out.trans (hS.mono (fun _ _ e => e.elim))); go_simp⟩) HS_0.out ?_
    try simp only [Act.put, List.setIfInBounds_toArray, List.set_cons_zero, List.set_cons_succ]
    refine wpAnyH_take (i := 4) (oi := ⟨some 71, _, _, _, _, _⟩) (v := .bool false) rfl (by kernel_rfl) (by kernel_rfl) (by kernel_rfl) (fun _ _ _ h => h) (Or.inl ⟨by rfl, fun w hS => by go_simp⟩) HS_0.out ?_
    try simp only [Act.put, List.setIfInBounds_toArray, List.set_cons_zero, List.set_cons_succ]
    refine wpAnyH_take (i := 5) (oi := ⟨some 72, _, _, _, _, _⟩) (v := .bool false) rfl (by kernel_rfl) (by kernel_rfl) (by kernel_rfl) (fun _ _ _ h => h) (Or.inl ⟨by rfl, fun w hS => by go_simp⟩) HS_0.out ?_
    try simp only [Act.put, List.setIfInBounds_toArray, List.set_cons_zero, List.set_cons_succ]
    refine wpAnyH_take (i := 6) (oi := ⟨some 73, _, _, _, _, _⟩) (v := undef) rfl (by kernel_rfl) (by kernel_rfl) (by kernel_rfl) (fun _ _ _ h => h) (Or.inr ⟨by rfl, rfl⟩) HS_0.out ?_
    try simp only [Act.put, List.setIfInBounds_toArray, List.set_cons_zero, List.set_cons_succ]
    refine wpAnyH_take (i := 7) (oi := ⟨some 74, _, _, _, _, _⟩) (v := undef) rfl (by kernel_rfl) (by kernel_rfl) (by kernel_rfl) (fun _ _ _ h => h) (Or.inr ⟨by rfl, rfl⟩) HS_0.out ?_
    try simp only [Act.put, List.setIfInBounds_toArray, List.set_cons_zero, List.set_cons_succ]
    refine wpAnyH_take (i := 8) (oi := ⟨some 75, _, _, _, _, _⟩) (v := undef) rfl (by kernel_rfl) (by kernel_rfl) (by kernel_rfl) (fun _ _ _ h => h) (Or.inr ⟨by rfl, rfl⟩) HS_0.out ?_
    try simp only [Act.put, List.setIfInBounds_toArray, List.set_cons_zero, List.set_cons_succ]
    refine wpAnyH_take (i := 9) (oi := ⟨some 76, _, _, _, _, _⟩) (v := undef) rfl (by kernel_rfl) (by kernel_rfl) (by kernel_rfl) (fun _ _ _ h => h) (Or.inr ⟨by rfl, rfl⟩) HS_0.out ?_
    try simp only [Act.put, List.setIfInBounds_toArray, List.set_cons_zero, List.set_cons_succ]
    refine wpAnyH_take (i := 10) (oi := ⟨some 77, _, _, _, _, _⟩) (v := undef) rfl (by kernel_rfl) (by kernel_rfl) (by kernel_rfl) (fun _ _ _ h => h) (Or.inr ⟨by rfl, rfl⟩) HS_0.out ?_
    try simp only [Act.put, List.setIfInBounds_toArray, List.set_cons_zero, List.set_cons_succ]
    refine wpAnyH_take (i := 11) (oi := ⟨some 78, _, _, _, _, _⟩) (v := undef) rfl (by kernel_rfl) (by kernel_rfl) (by kernel_rfl) (fun _ _ _ h => h) (Or.inr ⟨by rfl, rfl⟩) HS_0.out ?_
    try simp only [Act.put, List.setIfInBounds_toArray, List.set_cons_zero, List.set_cons_succ]
    refine wpAnyH_take (i := 12) (oi := ⟨some 79, _, _, _, _, _⟩) (v := undef) rfl (by kernel_rfl) (by kernel_rfl) (by kernel_rfl) (fun _ _ _ h => h) (Or.inr ⟨by rfl, rfl⟩) HS_0.out ?_
    try simp only [Act.put, List.setIfInBounds_toArray, List.set_cons_zero, List.set_cons_succ]
    refine wpAnyH_take (i := 13) (oi := ⟨some 80, _, _, _, _, _⟩) (v := undef) rfl (by kernel_rfl) (by kernel_rfl) (by kernel_rfl) (fun _ _ _ h => h) (Or.inr ⟨by rfl, rfl⟩) HS_0.out ?_
    try simp only [Act.put, List.setIfInBounds_toArray, List.set_cons_zero, List.set_cons_succ]
    refine wpAnyH_take (i := 14) (oi := ⟨some 81, _, _, _, _, _⟩) (v := undef) rfl (by kernel_rfl) (by kernel_rfl) (by kernel_rfl) (fun _ _ _ h => h) (Or.inr ⟨by rfl, rfl⟩) HS_0.out ?_
    try simp only [Act.put, List.setIfInBounds_toArray, List.set_cons_zero, List.set_cons_succ]
    refine wpAnyH_take (i := 15) (oi := ⟨some 82, _, _, _, _, _⟩) (v := .bool false) rfl (by kernel_rfl) (by kernel_rfl) (by kernel_rfl) (fun _ _ _ h => h) (Or.inl ⟨by rfl, fun w hS => by go_simp⟩) HS_0.out ?_
    try simp only [Act.put, List.setIfInBounds_toArray, List.set_cons_zero, List.set_cons_succ]
    refine wpAnyH_take (i := 16) (oi := ⟨some 16, _, _, _, _, _⟩) (v := .bool false) rfl (by kernel_rfl) (by kernel_rfl) (by kernel_rfl) (fun _ _ _ h => h) (Or.inl ⟨by rfl, fun w hS => by go_simp⟩) HS_0.out ?_
    try simp only [Act.put, List.setIfInBounds_toArray, List.set_cons_zero, List.set_cons_succ]
    refine wpAnyH_done (by kernel_rfl) ?_ _
    obtain ⟨w13, hw13⟩ : ∃ x, x = w11.drew := ⟨_, rfl⟩
    rw [← hw13] at HS_0 ⊢
    have HS_2 := HS_0
    clear hw13
    have HU13 : Hid (Upd (fun _ => False) w2 w13) := HU11.out.trans (HS_2.out.mono (fun _ _ e => e.elim))
    go_wp2_with fail
    go_ret
    exact ⟨rfl, HU0.out.trans (HU2.out.trans (HU13.out.mono (fun _ _ e => e.elim)) |>.mono (fun _ _ e => e.elim))⟩
  · have e3 : (S == T) = false := by simp [hST]
    rw [e3] at e1 e2
    clear e3
    have hun : decide (S ≠ T) = true := by simp [hST]
    rw [hun] at HUn2
    clear hun
    have HS_0 : Hid (Upd (fun _ => False) w8 w8.drew) := (Upd.refl _ _).drew
    refine wp_region_held_drew (S := Upd (fun _ => False) w8) (by kernel_rfl) HS_0.out (fun _ => ?_)
    refine wpAnyH_take (i := 0) (oi := ⟨some 47, _, _, _, _, _⟩) (v := .int .i64 (c : Int)) rfl (by kernel_rfl) (by kernel_rfl) (by kernel_rfl) (fun _ _ _ h => h) (Or.inl ⟨by rfl, fun w hS => by go_simp⟩) HS_0.out ?_
    try simp only [Act.put, List.setIfInBounds_toArray, List.set_cons_zero, List.set_cons_succ]
    refine wpAnyH_take (i := 1) (oi := ⟨some 48, _, _, _, _, _⟩) (v := .int .i64 (d : Int)) rfl (by kernel_rfl) (by kernel_rfl) (by kernel_rfl) (fun _ _ _ h => h) (Or.inl ⟨by rfl, fun w hS => by go_simp⟩) HS_0.out ?_
    try simp only [Act.put, List.setIfInBounds_toArray, List.set_cons_zero, List.set_cons_succ]
    refine wpAnyH_take (i := 2) (oi := ⟨some 49, _, _, _, _, _⟩) rfl (by kernel_rfl) (by kernel_rfl) (by kernel_rfl) (fun _ _ _ h => h) (yieldsIf_load_mid (by rfl) _ _ rfl (w.heap.size) 0 rfl XL _ (fun w h => fun j v hv => by rw [Nat.zero_add, (HRX2.out w (HU8.out.trans (h.mono (fun _ _ e => e.elim)))).cell]; exact hv) Tryd.underlying39 rfl HXs.out) HS_0.out ?_
    try simp only [Act.put, List.setIfInBounds_toArray, List.set_cons_zero, List.set_cons_succ]
    refine wpAnyH_take (i := 3) (oi := ⟨some 50, _, _, _, _, _⟩) rfl (by kernel_rfl) (by kernel_rfl) (by kernel_rfl) (fun _ _ _ h => h) (yieldsIf_load_mid (by rfl) _ _ rfl (w.heap.size + 1) 0 rfl YL _ (fun w h => fun j v hv => by rw [Nat.zero_add, (HRY2.out w (HU8.out.trans (h.mono (fun _ _ e => e.elim)))).cell]; exact hv) Tryd.underlying39 rfl HYs.out) HS_0.out ?_
    try simp only [Act.put, List.setIfInBounds_toArray, List.set_cons_zero, List.set_cons_succ]
    refine wpAnyH_take (i := 5) (oi := ⟨some 52, _, _, _, _, _⟩) (v := .slice sa sn sc) rfl (by kernel_rfl) (by kernel_rfl) (by kernel_rfl) (fun _ _ _ h => h) (Or.inl ⟨by rfl, fun w hS => by go_simp⟩) HS_0.out ?_
    try simp only [Act.put, List.setIfInBounds_toArray, List.set_cons_zero, List.set_cons_succ]
    refine wpAnyH_take (i := 6) (oi := ⟨some 53, _, _, _, _, _⟩) (v := .string st) rfl (by kernel_rfl) (by kernel_rfl) (by kernel_rfl) (fun _ _ _ h => h) (Or.inl ⟨by rfl, fun w hS => by have hc := HK1.out w (HU8.out.trans (hS.mono (fun _ _ e => e.elim))); go_simp⟩) HS_0.out ?_
    try simp only [Act.put, List.setIfInBounds_toArray, List.set_cons_zero, List.set_cons_succ]
    refine wpAnyH_take (i := 7) (oi := ⟨some 54, _, _, _, _, _⟩) (v := .slice ta tn tc) rfl (by kernel_rfl) (by kernel_rfl) (by kernel_rfl) (fun _ _ _ h => h) (Or.inl ⟨by rfl, fun w hS => by go_simp⟩) HS_0.out ?_
    try simp only [Act.put, List.setIfInBounds_toArray, List.set_cons_zero, List.set_cons_succ]
    refine wpAnyH_take (i := 8) (oi := ⟨some 55, _, _, _, _, _⟩) (v := .string su) rfl (by kernel_rfl) (by kernel_rfl) (by kernel_rfl) (fun _ _ _ h => h) (Or.inl ⟨by rfl, fun w hS => by have hc := HK2.out w (HU8.out.trans (hS.mono (fun _ _ e => e.elim))); go_simp⟩) HS_0.out ?_
    try simp only [Act.put, List.setIfInBounds_toArray, List.set_cons_zero, List.set_cons_succ]
    refine wpAnyH_take (i := 9) (oi := ⟨some 56, _, _, _, _, _⟩) (v := .bool true) rfl (by kernel_rfl) (by kernel_rfl) (by kernel_rfl) (fun _ _ _ h => h) (Or.inl ⟨by rfl, fun w hS => by go_simp⟩) HS_0.out ?_
    try simp only [Act.put, List.setIfInBounds_toArray, List.set_cons_zero, List.set_cons_succ]
    refine wpAnyH_ready (rs := [4]) (by kernel_rfl) (by simp) ?_
    refine AllReadyH.cons rfl (fun K hK => ?_) AllReadyH.nil
    go_simp
    refine (HUn2.out w8.drew (HU8.out.trans (HS_0.out.mono (fun _ _ e => e.elim)))).mono ?_
    rintro e w9 ⟨rfl, hu_⟩
    have HS_1 : Hid (Upd (fun _ => False) w8 w9) := HS_0.out.trans (hu_.mono (fun _ _ e => e.elim))
    clear hu_
    refine hK.out _ _ HS_1.out (fun hHeld => ?_)
    clear hK K hHeld
    try simp only [Act.put, List.setIfInBounds_toArray, List.set_cons_zero, List.set_cons_succ]
    refine wpAnyH_take (i := 10) (oi := ⟨some 57, _, _, _, _, _⟩) (v := .bool false) rfl (by kernel_rfl) (by kernel_rfl) (by kernel_rfl) (fun _ _ _ h => h) (Or.inl ⟨by rfl, fun w hS => by go_simp⟩) HS_1.out ?_
    try simp only [Act.put, List.setIfInBounds_toArray, List.set_cons_zero, List.set_cons_succ]
    refine wpAnyH_done (by kernel_rfl) ?_ _
    have HU9 : Hid (Upd (fun _ => False) w2 w9) := HU8.out.trans (HS_1.out.mono (fun _ _ e => e.elim))
    clear HS_0 HS_1
    obtain ⟨w10, hw10⟩ : ∃ x, x = w9.alloc (.cells #[.slice sa sn sc, .slice ta tn tc] 25) := ⟨_, rfl⟩
    have hu10 : Upd (fun _ => False) w9 w10 := by rw [hw10]; exact (Upd.refl _ w9).alloc _
    have hn10 : w10.heap[w9.heap.size]? = some (.cells #[.slice sa sn sc, .slice ta tn tc] 25 (0, 0)) := by rw [hw10]; exact heap_alloc_new w9 _
    have hs10 : w10.heap.size = w9.heap.size + 1 := by rw [hw10]; simp
    have HU10 : Hid (Upd (fun _ => False) w2 w10) := HU9.out.trans (hu10.mono (fun _ _ e => e.elim))
    have hz9 := HU9.out.size
    have HCl := Lib.hid (clash_any width (some ⟨w9.heap.size, 0, none⟩) 2 [S, T] (fun k => k < w10.heap.size) w10 (slL_two w10 w9.heap.size _ _ S T _ hn10 (HSl2.out.upd HU10.out (fun _ _ => id)) (HTl.out.upd HU10.out (fun _ _ => id)) (fun k h => by have := HSo2.out k h; omega) (fun k h => by have := HTo.out k h; omega) (by omega)) (fun k h => h) (by simp)
      (HG0.out.1.upd (HU2.out.trans (HU10.out.mono (fun _ _ e => e.elim))) id) (by have := HG0.out.2; have := HU2.out.size; omega) (fun i hi => by
        have : i = 0 ∨ i = 1 := by simp at hi; omega
        rcases this with rfl | rfl
        · have := HSle.out; show S.length ≤ _; omega
        · have := HTle.out; show T.length ≤ _; omega))
    simp only [List.length_cons, List.length_nil, Nat.zero_add] at HCl
    subst hw10
    clear hu10 hn10 hs10 hz9
    go_wp2_with fail
    refine HCl.out.mono ?_
    rintro e w11 hcl
    obtain ⟨ok, p, q, X, Y, rfl, htold, hop, hoq, hpq, hu11⟩ := ClashT.told hcl
    obtain ⟨hok, hno, hyes⟩ := told_two htold
    have HU11 : Hid (Upd (fun _ => False) w2 w11) := HU10.out.trans (hu11.mono (fun _ _ e => e.elim))
    clear HCl hcl htold hpq hu11
    by_cases hM : cut (sha S) width = cut (sha T) width
    · obtain rfl : ok = true := by rw [hok]; simp [hST, hM]
      have hm : (cut (sha S) width == cut (sha T) width) = true := by simp [hM]
      rw [hm] at HQe
      clear hok hm
      obtain ⟨hxe, hye⟩ := hyes rfl
      rw [hxe] at hop
      rw [hye] at hoq
      clear hno hyes hxe hye
      obtain ⟨pa, pc, rfl⟩ := SumsW.own_form hop
      obtain ⟨qa, qc, rfl⟩ := SumsW.own_form hoq
      have HOp := Lib.hid hop
      have HOq := Lib.hid hoq
      clear hop hoq
      go_wp2_with fail
      have HS_0 : Hid (Upd (fun _ => False) w11 w11.drew) := (Upd.refl _ _).drew
      refine wp_region_held_drew (S := Upd (fun _ => False) w11) (by kernel_rfl) HS_0.out (fun _ => ?_)
      refine wpAnyH_take (i := 0) (oi := ⟨some 67, _, _, _, _, _⟩) (v := .slice sa sn sc) rfl (by kernel_rfl) (by kernel_rfl) (by kernel_rfl) (fun _ _ _ h => h) (Or.inl ⟨by rfl, fun w hS => by go_simp⟩) HS_0.out ?_
      try simp only [Act.put, List.setIfInBounds_toArray, List.set_cons_zero, List.set_cons_succ]
      refine wpAnyH_take (i := 1) (oi := ⟨some 68, _, _, _, _, _⟩) (v := .string st) rfl (by kernel_rfl) (by kernel_rfl) (by kernel_rfl) (fun _ _ _ h => h) (Or.inl ⟨by rfl, fun w hS => by have hc := HK1.out w (HU11.out.trans (hS.mono (fun _ _ e => e.elim))); go_simp⟩) HS_0.out ?_
      try simp only [Act.put, List.setIfInBounds_toArray, List.set_cons_zero, List.set_cons_succ]
      refine wpAnyH_take (i := 2) (oi := ⟨some 69, _, _, _, _, _⟩) (v := .slice ta tn tc) rfl (by kernel_rfl) (by kernel_rfl) (by kernel_rfl) (fun _ _ _ h => h) (Or.inl ⟨by rfl, fun w hS => by go_simp⟩) HS_0.out ?_
      try simp only [Act.put, List.setIfInBounds_toArray, List.set_cons_zero, List.set_cons_succ]
      refine wpAnyH_take (i := 3) (oi := ⟨some 70, _, _, _, _, _⟩) (v := .string su) rfl (by kernel_rfl) (by kernel_rfl) (by kernel_rfl) (fun _ _ _ h => h) (Or.inl ⟨by rfl, fun w hS => by have hc := HK2.out w (HU11.out.trans (hS.mono (fun _ _ e => e.elim))); go_simp⟩) HS_0.out ?_
      try simp only [Act.put, List.setIfInBounds_toArray, List.set_cons_zero, List.set_cons_succ]
      refine wpAnyH_take (i := 4) (oi := ⟨some 71, _, _, _, _, _⟩) (v := .bool true) rfl (by kernel_rfl) (by kernel_rfl) (by kernel_rfl) (fun _ _ _ h => h) (Or.inl ⟨by rfl, fun w hS => by go_simp⟩) HS_0.out ?_
      try simp only [Act.put, List.setIfInBounds_toArray, List.set_cons_zero, List.set_cons_succ]
      refine wpAnyH_take (i := 5) (oi := ⟨some 72, _, _, _, _, _⟩) (v := .bool true) rfl (by kernel_rfl) (by kernel_rfl) (by kernel_rfl) (fun _ _ _ h => h) (Or.inl ⟨by rfl, fun w hS => by go_simp⟩) HS_0.out ?_
      try simp only [Act.put, List.setIfInBounds_toArray, List.set_cons_zero, List.set_cons_succ]
      refine wpAnyH_take (i := 6) (oi := ⟨some 73, _, _, _, _, _⟩) (v := .int .i64 (c : Int)) rfl (by kernel_rfl) (by kernel_rfl) (by kernel_rfl) (fun _ _ _ h => h) (Or.inl ⟨by rfl, fun w hS => by go_simp⟩) HS_0.out ?_
      try simp only [Act.put, List.setIfInBounds_toArray, List.set_cons_zero, List.set_cons_succ]
      refine wpAnyH_take (i := 7) (oi := ⟨some 74, _, _, _, _, _⟩) (v := .int .i64 width) rfl (by kernel_rfl) (by kernel_rfl) (by kernel_rfl) (fun _ _ _ h => h) (Or.inl ⟨by rfl, fun w hS => by go_simp⟩) HS_0.out ?_
      try simp only [Act.put, List.setIfInBounds_toArray, List.set_cons_zero, List.set_cons_succ]
      refine wpAnyH_take (i := 8) (oi := ⟨some 75, _, _, _, _, _⟩) rfl (by kernel_rfl) (by kernel_rfl) (by kernel_rfl) (fun _ _ _ h => h) (yieldsIf_load_mid (by rfl) _ _ rfl (w.heap.size) 0 rfl XL _ (fun w h => fun j v hv => by rw [Nat.zero_add, (HRX2.out w (HU11.out.trans (h.mono (fun _ _ e => e.elim)))).cell]; exact hv) Tryd.underlying39 rfl HXs.out) HS_0.out ?_
      try simp only [Act.put, List.setIfInBounds_toArray, List.set_cons_zero, List.set_cons_succ]
      refine wpAnyH_take (i := 10) (oi := ⟨some 77, _, _, _, _, _⟩) (v := .int .i64 (d : Int)) rfl (by kernel_rfl) (by kernel_rfl) (by kernel_rfl) (fun _ _ _ h => h) (Or.inl ⟨by rfl, fun w hS => by go_simp⟩) HS_0.out ?_
      try simp only [Act.put, List.setIfInBounds_toArray, List.set_cons_zero, List.set_cons_succ]
      refine wpAnyH_take (i := 11) (oi := ⟨some 78, _, _, _, _, _⟩) (v := .int .i64 width) rfl (by kernel_rfl) (by kernel_rfl) (by kernel_rfl) (fun _ _ _ h => h) (Or.inl ⟨by rfl, fun w hS => by go_simp⟩) HS_0.out ?_
      try simp only [Act.put, List.setIfInBounds_toArray, List.set_cons_zero, List.set_cons_succ]
      refine wpAnyH_take (i := 12) (oi := ⟨some 79, _, _, _, _, _⟩) rfl (by kernel_rfl) (by kernel_rfl) (by kernel_rfl) (fun _ _ _ h => h) (yieldsIf_load_mid (by rfl) _ _ rfl (w.heap.size + 1) 0 rfl YL _ (fun w h => fun j v hv => by rw [Nat.zero_add, (HRY2.out w (HU11.out.trans (h.mono (fun _ _ e => e.elim)))).cell]; exact hv) Tryd.underlying39 rfl HYs.out) HS_0.out ?_
      try simp only [Act.put, List.setIfInBounds_toArray, List.set_cons_zero, List.set_cons_succ]
      refine wpAnyH_ready (rs := [9]) (by kernel_rfl) (by simp) ?_
      refine AllReadyH.cons rfl (fun K hK => ?_) AllReadyH.nil
      go_simp
      refine (HX1.out w11.drew (HU11.out.trans (HS_0.out.mono (fun _ _ e => e.elim)))).mono ?_
      rintro e w12 ⟨rfl, hu_⟩
      have HS_1 : Hid (Upd (fun _ => False) w11 w12) := HS_0.out.trans (hu_.mono (fun _ _ e => e.elim))
      clear hu_
      refine hK.out _ _ HS_1.out (fun hHeld => ?_)
      clear hK K hHeld
      try simp only [Act.put, List.setIfInBounds_toArray, List.set_cons_zero, List.set_cons_succ]
      refine wpAnyH_ready (rs := [13]) (by kernel_rfl) (by simp) ?_
      refine AllReadyH.cons rfl (fun K hK => ?_) AllReadyH.nil
      go_simp
      refine (HX2.out w12 (HU11.out.trans (HS_1.out.mono (fun _ _ e => e.elim)))).mono ?_
      rintro e w13 ⟨rfl, hu_⟩
      have HS_2 : Hid (Upd (fun _ => False) w11 w13) := HS_1.out.trans (hu_.mono (fun _ _ e => e.elim))
      clear hu_
      refine hK.out _ _ HS_2.out (fun hHeld => ?_)
      clear hK K hHeld
      try simp only [Act.put, List.setIfInBounds_toArray, List.set_cons_zero, List.set_cons_succ]
      refine wpAnyH_take (i := 14) (oi := ⟨some 81, _, _, _, _, _⟩) (v := .bool true) rfl (by kernel_rfl) (by kernel_rfl) (by kernel_rfl) (fun _ _ _ h => h) (Or.inl ⟨by rfl, fun w hS => by have hq := HQe.out; go_simp⟩) HS_2.out ?_
      try simp only [Act.put, List.setIfInBounds_toArray, List.set_cons_zero, List.set_cons_succ]
      refine wpAnyH_take (i := 15) (oi := ⟨some 82, _, _, _, _, _⟩) (v := .bool true) rfl (by kernel_rfl) (by kernel_rfl) (by kernel_rfl) (fun _ _ _ h => h) (Or.inl ⟨by rfl, fun w hS => by go_simp⟩) HS_2.out ?_
      try simp only [Act.put, List.setIfInBounds_toArray, List.set_cons_zero, List.set_cons_succ]
      refine wpAnyH_take (i := 16) (oi := ⟨some 16, _, _, _, _, _⟩) (v := .bool true) rfl (by kernel_rfl) (by kernel_rfl) (by kernel_rfl) (fun _ _ _ h => h) (Or.inl ⟨by rfl, fun w hS => by go_simp⟩) HS_2.out ?_
      try simp only [Act.put, List.setIfInBounds_toArray, List.set_cons_zero, List.set_cons_succ]
      refine wpAnyH_done (by kernel_rfl) ?_ _
      have HU13 : Hid (Upd (fun _ => False) w2 w13) := HU11.out.trans (HS_2.out.mono (fun _ _ e => e.elim))
      have k1 := HK1.out w13 HU13.out
      have k2 := HK2.out w13 HU13.out
      have k3 : (convert 25 9 (.slice pa S.length pc)).run Tryd.prog w13 = .ok (.string st) w13 := by rw [Hst.out]; exact conv_sl ((Sl.of_own HOp.out).upd HS_2.out (fun _ _ => id))
      have k4 : (convert 25 9 (.slice qa T.length qc)).run Tryd.prog w13 = .ok (.string su) w13 := by rw [Hsu.out]; exact conv_sl ((Sl.of_own HOq.out).upd HS_2.out (fun _ _ => id))
      have h1 : (st.toList == st.toList) = true := by simp
      have h2 : (su.toList == su.toList) = true := by simp
      go_wp2_with fail
      go_ret
      exact ⟨rfl, HU0.out.trans (HU2.out.trans (HU13.out.mono (fun _ _ e => e.elim)) |>.mono (fun _ _ e => e.elim))⟩
    · obtain rfl : ok = false := by rw [hok]; simp [hM]
      have hm : (cut (sha S) width == cut (sha T) width) = false := by simp [hM]
      rw [hm] at HQe
      clear hok hm
      obtain ⟨rfl, rfl⟩ := hno rfl
      clear hno hyes
      obtain ⟨pa, pc, rfl⟩ := SumsW.own_form hop
      obtain ⟨qa, qc, rfl⟩ := SumsW.own_form hoq
      simp only [List.length_nil] at hop hoq ⊢
      clear hop hoq
      go_wp2_with fail
      have HS_0 : Hid (Upd (fun _ => False) w11 w11.drew) := (Upd.refl _ _).drew
      refine wp_region_held_drew (S := Upd (fun _ => False) w11) (by kernel_rfl) HS_0.out (fun _ => ?_)
      refine wpAnyH_take (i := 0) (oi := ⟨some 67, _, _, _, _, _⟩) (v := .slice sa sn sc) rfl (by kernel_rfl) (by kernel_rfl) (by kernel_rfl) (fun _ _ _ h => h) (Or.inl ⟨by rfl, fun w hS => by go_simp⟩) HS_0.out ?_
      try simp only [Act.put, List.setIfInBounds_toArray, List.set_cons_zero, List.set_cons_succ]
      refine wpAnyH_take (i := 1) (oi := ⟨some 68, _, _, _, _, _⟩) (v := .string st) rfl (by kernel_rfl) (by kernel_rfl) (by kernel_rfl) (fun _ _ _ h => h) (Or.inl ⟨by rfl, fun w hS => by have hc := HK1.out w (HU11.out.trans (hS.mono (fun _ _ e => e.elim))); go_simp⟩) HS_0.out ?_
      try simp only [Act.put, List.setIfInBounds_toArray, List.set_cons_zero, List.set_cons_succ]
      refine wpAnyH_take (i := 2) (oi := ⟨some 69, _, _, _, _, _⟩) (v := .slice ta tn tc) rfl (by kernel_rfl) (by kernel_rfl) (by kernel_rfl) (fun _ _ _ h => h) (Or.inl ⟨by rfl, fun w hS => by go_simp⟩) HS_0.out ?_
      try simp only [Act.put, List.setIfInBounds_toArray, List.set_cons_zero, List.set_cons_succ]
      refine wpAnyH_take (i := 3) (oi := ⟨some 70, _, _, _, _, _⟩) (v := .string su) rfl (by kernel_rfl) (by kernel_rfl) (by kernel_rfl) (fun _ _ _ h => h) (Or.inl ⟨by rfl, fun w hS => by have hc := HK2.out w (HU11.out.trans (hS.mono (fun _ _ e => e.elim))); go_simp⟩) HS_0.out ?_
      try simp only [Act.put, List.setIfInBounds_toArray, List.set_cons_zero, List.set_cons_succ]
      refine wpAnyH_take (i := 4) (oi := ⟨some 71, _, _, _, _, _⟩) (v := .bool true) rfl (by kernel_rfl) (by kernel_rfl) (by kernel_rfl) (fun _ _ _ h => h) (Or.inl ⟨by rfl, fun w hS => by go_simp⟩) HS_0.out ?_
      try simp only [Act.put, List.setIfInBounds_toArray, List.set_cons_zero, List.set_cons_succ]
      refine wpAnyH_take (i := 5) (oi := ⟨some 72, _, _, _, _, _⟩) (v := .bool true) rfl (by kernel_rfl) (by kernel_rfl) (by kernel_rfl) (fun _ _ _ h => h) (Or.inl ⟨by rfl, fun w hS => by go_simp⟩) HS_0.out ?_
      try simp only [Act.put, List.setIfInBounds_toArray, List.set_cons_zero, List.set_cons_succ]
      refine wpAnyH_take (i := 6) (oi := ⟨some 73, _, _, _, _, _⟩) (v := .int .i64 (c : Int)) rfl (by kernel_rfl) (by kernel_rfl) (by kernel_rfl) (fun _ _ _ h => h) (Or.inl ⟨by rfl, fun w hS => by go_simp⟩) HS_0.out ?_
      try simp only [Act.put, List.setIfInBounds_toArray, List.set_cons_zero, List.set_cons_succ]
      refine wpAnyH_take (i := 7) (oi := ⟨some 74, _, _, _, _, _⟩) (v := .int .i64 width) rfl (by kernel_rfl) (by kernel_rfl) (by kernel_rfl) (fun _ _ _ h => h) (Or.inl ⟨by rfl, fun w hS => by go_simp⟩) HS_0.out ?_
      try simp only [Act.put, List.setIfInBounds_toArray, List.set_cons_zero, List.set_cons_succ]
      refine wpAnyH_take (i := 8) (oi := ⟨some 75, _, _, _, _, _⟩) rfl (by kernel_rfl) (by kernel_rfl) (by kernel_rfl) (fun _ _ _ h => h) (yieldsIf_load_mid (by rfl) _ _ rfl (w.heap.size) 0 rfl XL _ (fun w h => fun j v hv => by rw [Nat.zero_add, (HRX2.out w (HU11.out.trans (h.mono (fun _ _ e => e.elim)))).cell]; exact hv) Tryd.underlying39 rfl HXs.out) HS_0.out ?_
      try simp only [Act.put, List.setIfInBounds_toArray, List.set_cons_zero, List.set_cons_succ]
      refine wpAnyH_take (i := 10) (oi := ⟨some 77, _, _, _, _, _⟩) (v := .int .i64 (d : Int)) rfl (by kernel_rfl) (by kernel_rfl) (by kernel_rfl) (fun _ _ _ h => h) (Or.inl ⟨by rfl, fun w hS => by go_simp⟩) HS_0.out ?_
      try simp only [Act.put, List.setIfInBounds_toArray, List.set_cons_zero, List.set_cons_succ]
      refine wpAnyH_take (i := 11) (oi := ⟨some 78, _, _, _, _, _⟩) (v := .int .i64 width) rfl (by kernel_rfl) (by kernel_rfl) (by kernel_rfl) (fun _ _ _ h => h) (Or.inl ⟨by rfl, fun w hS => by go_simp⟩) HS_0.out ?_
      try simp only [Act.put, List.setIfInBounds_toArray, List.set_cons_zero, List.set_cons_succ]
      refine wpAnyH_take (i := 12) (oi := ⟨some 79, _, _, _, _, _⟩) rfl (by kernel_rfl) (by kernel_rfl) (by kernel_rfl) (fun _ _ _ h => h) (yieldsIf_load_mid (by rfl) _ _ rfl (w.heap.size + 1) 0 rfl YL _ (fun w h => fun j v hv => by rw [Nat.zero_add, (HRY2.out w (HU11.out.trans (h.mono (fun _ _ e => e.elim)))).cell]; exact hv) Tryd.underlying39 rfl HYs.out) HS_0.out ?_
      try simp only [Act.put, List.setIfInBounds_toArray, List.set_cons_zero, List.set_cons_succ]
      refine wpAnyH_ready (rs := [9]) (by kernel_rfl) (by simp) ?_
      refine AllReadyH.cons rfl (fun K hK => ?_) AllReadyH.nil
      go_simp
      refine (HX1.out w11.drew (HU11.out.trans (HS_0.out.mono (fun _ _ e => e.elim)))).mono ?_
      rintro e w12 ⟨rfl, hu_⟩
      have HS_1 : Hid (Upd (fun _ => False) w11 w12) := HS_0.out.trans (hu_.mono (fun _ _ e => e.elim))
      clear hu_
      refine hK.out _ _ HS_1.out (fun hHeld => ?_)
      clear hK K hHeld
      try simp only [Act.put, List.setIfInBounds_toArray, List.set_cons_zero, List.set_cons_succ]
      refine wpAnyH_ready (rs := [13]) (by kernel_rfl) (by simp) ?_
      refine AllReadyH.cons rfl (fun K hK => ?_) AllReadyH.nil
      go_simp
      refine (HX2.out w12 (HU11.out.trans (HS_1.out.mono (fun _ _ e => e.elim)))).mono ?_
      rintro e w13 ⟨rfl, hu_⟩
      have HS_2 : Hid (Upd (fun _ => False) w11 w13) := HS_1.out.trans (hu_.mono (fun _ _ e => e.elim))
      clear hu_
      refine hK.out _ _ HS_2.out (fun hHeld => ?_)
      clear hK K hHeld
      try simp only [Act.put, List.setIfInBounds_toArray, List.set_cons_zero, List.set_cons_succ]
      refine wpAnyH_take (i := 14) (oi := ⟨some 81, _, _, _, _, _⟩) (v := .bool false) rfl (by kernel_rfl) (by kernel_rfl) (by kernel_rfl) (fun _ _ _ h => h) (Or.inl ⟨by rfl, fun w hS => by have hq := HQe.out; go_simp⟩) HS_2.out ?_
      try simp only [Act.put, List.setIfInBounds_toArray, List.set_cons_zero, List.set_cons_succ]
      refine wpAnyH_take (i := 15) (oi := ⟨some 82, _, _, _, _, _⟩) (v := .bool false) rfl (by kernel_rfl) (by kernel_rfl) (by kernel_rfl) (fun _ _ _ h => h) (Or.inl ⟨by rfl, fun w hS => by go_simp⟩) HS_2.out ?_
      try simp only [Act.put, List.setIfInBounds_toArray, List.set_cons_zero, List.set_cons_succ]
      refine wpAnyH_take (i := 16) (oi := ⟨some 16, _, _, _, _, _⟩) (v := .bool false) rfl (by kernel_rfl) (by kernel_rfl) (by kernel_rfl) (fun _ _ _ h => h) (Or.inl ⟨by rfl, fun w hS => by go_simp⟩) HS_2.out ?_
      try simp only [Act.put, List.setIfInBounds_toArray, List.set_cons_zero, List.set_cons_succ]
      refine wpAnyH_done (by kernel_rfl) ?_ _
      have HU13 : Hid (Upd (fun _ => False) w2 w13) := HU11.out.trans (HS_2.out.mono (fun _ _ e => e.elim))
      go_wp2_with fail
      go_ret
      exact ⟨rfl, HU0.out.trans (HU2.out.trans (HU13.out.mono (fun _ _ e => e.elim)) |>.mono (fun _ _ e => e.elim))⟩
end Go.Proofs.YtiglaeipbcmlnaaDoor.ApartD
