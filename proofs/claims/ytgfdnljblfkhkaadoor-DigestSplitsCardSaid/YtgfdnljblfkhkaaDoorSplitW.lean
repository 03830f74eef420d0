/-
  docketlaw2.DigestSplits, walked.
-/
import Derived.Test.YtgfdnljblfkhkaaDoorSplitM
import Derived.Test.YtgfdnljblfkhkaaDoorTextW
import Derived.Deep.Cut
namespace Go.Proofs.YtgfdnljblfkhkaaDoor.SplitW
open Go.RowKit Sha TurnW Mem RowW SpreadW MixW HashM CopyW WriteW WriteN EndW SumH NewW EqW BookW SplitL SplitM HeldW NamesV NamesD WrittenW RefMac OfW
set_option linter.unusedVariables false
set_option linter.unusedSimpArgs false

theorem cat_le (ts : List (List UInt8)) : (cat ts).length ≤ tot ts := by
  unfold cat tot
  induction ts with
  | nil => simp
  | cons t ts ih => simp only [List.flatMap_cons, List.length_append, List.map_cons, List.sum_cons, id]; omega
theorem El.of_sl {w : World} {v : Value} {l : List UInt8} (h : Sl w v l) : El w v l := by
  have h' := h
  obtain ⟨ao, cap, rfl, h1, h2, h3, _⟩ := h'
  exact ⟨ao, cap, rfl, h1, h2, h3, fun _ => h⟩
theorem sl_form {w : World} {ao : Option Addr} {n cap : Nat} {l : List UInt8} (h : w.ownsRow 0 5 1 (.slice ao n cap) n (l.map u8)) (hn : n = l.length) : Sl w (.slice ao n cap) l := by
  subst hn
  exact Sl.of_own h
def LSp (b n : Nat) (ts : List (List UInt8)) (w2 : World) (v i : Value) (wr : World) : Prop :=
  ∃ j m : Nat, j ≤ n ∧ i = .int .i64 j ∧ m = (cat (ts.take j)).length ∧ wr.ownsRow 0 5 1 v m ((cat (ts.take j)).map u8) ∧ (∀ k, own v k → w2.heap.size ≤ k) ∧ Hs wr b (cat (ts.take j)) ∧ Upd (fun k => k = b) w2 wr

set_option maxHeartbeats 16000000 in
set_option maxRecDepth 100000 in
theorem walk (ao : Option Addr) (n cap : Nat) (ts : List (List UInt8)) (ask : Int) (w : World) (hs : SlE w (.slice ao n cap) ts (fun k => k < w.heap.size)) (hn : n ≤ 140737488351232) (hel : ∀ i, (ts.getD i []).length ≤ 9223372036854775807)
    (hask : -9223372036854775808 ≤ ask ∧ ask ≤ 9223372036854775807) (hk : Kw w) (hg : 0 < w.heap.size) :
    Calls Tryd.prog 10 #[.slice ao n cap, .int .i64 ask] w fun e w' => e = .returned (.bool true) ∧ Upd (fun _ => False) w w' := by
  obtain ⟨LT, hLT⟩ : ∃ L, L = ((hexs s1.data.toList).map u8).toArray := ⟨_, rfl⟩
  have qT := Lib.hid (fun w => show (binOp .neq 23 (.agg LT) (.agg LT)).run Tryd.prog w = .ok (.bool false) w by rw [hLT, neq_digest _ _ (hexs_len _) (hexs_len _)]; simp)
  have hnl : n = ts.length := by obtain ⟨_, _, _, h, _⟩ := hs; injection h
  have Hnl := Lib.hid hnl
  have HLT := Lib.hid hLT
  have Hs_ := Lib.hid hs
  have Hk := Lib.hid hk
  have Hg := Lib.hid hg
  have Hask := Lib.hid hask
  have HLi := Lib.hid (lists_any 2147483647 (by omega) (by omega) ao n cap ts _ w hs (by omega) hel)
  clear hLT hnl hs hk hg hask hel
  go_enter Tryd.func10, Tryd.ntmps10
  go_wp2_with fail
  refine HLi.out.mono ?_
  rintro e w' ⟨a, rfl, ha0, hsum, rfl⟩
  have Hsum := Lib.hid hsum
  clear hsum HLi
  by_cases ha : a < 0
  · go_wp2
    go_ret
    exact ⟨rfl, Upd.refl _ _⟩
  have hap : 0 ≤ a := by omega
  have Htot : Hid (tot ts ≤ 2147483647) := by have h := Hsum.out hap; show _ ≤ _; omega
  have Hcat : Hid ((cat ts).length ≤ 2147483647) := by have h := Htot.out; have := cat_le ts; show _ ≤ _; omega
  have hda : decide (a < 0) = false := by simpa using ha
  clear Hsum
  go_wp2_with fail
  refine (new_at _).mono ?_
  rintro e w1 ⟨b, rfl, hb, hs, hu⟩
  have HH1 := Lib.hid hs
  have HU1 := Lib.hid hu
  have hbl1 : b < w1.heap.size := hs.lt
  clear hs hu
  have hcv := conv_bytes
  go_wp2_with fail
  refine (sum_text _ t1 _ (lit w1 _ _ _ t1 28 (by rfl) (by unfold maxLen; decide) (by kernel_rfl)) (Hk.out.upd (HU1.out.alloc _) id) (by first | (simp; done) | (have := Hg.out; have := HU1.out.size; simp; omega)) (fun k ho => by have := own_at ho; simp; omega) (by decide)).mono ?_
  rintro e w2 ⟨he, hu⟩
  rw [v1, ← HLT.out] at he
  subst he
  have HU2' : Hid (Upd (fun _ => False) w1 w2) := (((Upd.refl (fun _ => False) w1)).alloc _).trans (hu.mono (fun _ _ h => h.elim))
  clear hu hcv
  go_wp2_with fail
  refine (written_any s1 rfl _).mono ?_
  rintro e w3 ⟨he, hu⟩
  rw [← HLT.out] at he
  subst he
  have HU3' : Hid (Upd (fun _ => False) w1 w3) := HU2'.out.trans (hu.mono (fun _ _ h => h.elim))
  have HU3 : Hid (Upd (fun _ => False) w w3) := HU1.out.trans (HU3'.out.mono (fun _ _ h => h.elim))
  have HH3 := Lib.hid (HH1.out.upd HU3'.out id)
  have hbl3 : b < w3.heap.size := HH3.out.lt
  clear hu HU2' HU3' HH1 HU1
  have q := qT.out
  have hn0 : Hid (own_nil w3 = own_nil w3) := rfl
  have HL0 : Hid (LSp b n ts w3 (.slice none 0 0) (.int .i64 0) w3) := ⟨0, 0, Nat.zero_le _, rfl, by simp [cat], by have h := own_nil w3; simpa [cat] using h, by simp [own, Value.ownBlock], by simpa [cat] using HH3.out, Upd.refl _ _⟩
  clear hn0
  go_wp2
  clear q
  go_loopw [4, 6, 7] (fun _ v i wr => LSp b n ts w3 v i wr) (fun _ _ i _ => (n - (intOf i).toNat))
  case atStart => exact HL0.out
  case round =>
    clear HL0
    obtain ⟨j, m, hj, rfl, hm, hown, hno, hh, hu⟩ := hrel
    have HM := Lib.hid hm
    have HO := Lib.hid hown
    have HN := Lib.hid hno
    have HH := Lib.hid hh
    have HU := Lib.hid hu
    have HUw : Hid (Upd (fun _ => False) w wr) := HU3.out.trans (hu.mono (fun k _ e => .inr (by omega)))
    clear hm hown hno hh hu
    obtain ⟨aw, cw, hv6⟩ := SumsW.own_form HO.out
    subst hv6
    have hsr : w3.heap.size ≤ wr.heap.size := HU.out.size
    have hgb : b ≠ 0 := by have := Hg.out; omega
    have Hcm : Hid (m ≤ 2147483647) := by have h1 := cat_len_take ts j; have := Hcat.out; have := HM.out; show _ ≤ _; omega
    by_cases hlt : j < n
    · have hltI : (j : Int) < (n : Int) := by omega
      have hjt : j < ts.length := by have := Hnl.out; omega
      obtain ⟨ao', cap', pv, he, h3, h4⟩ := Hs_.out.upd HUw.out (fun _ _ => id)
      injection he with e1 e2 e3
      subst e1 e3
      clear e2
      obtain ⟨⟨pa, oa, sa⟩, rfl⟩ : ∃ ad, ao = some ad := by
        cases ao with
        | some ad => exact ⟨ad, rfl⟩
        | none => have := h3 rfl; omega
      obtain ⟨hsa, hpa, h5⟩ := h4 _ rfl
      obtain rfl : sa = none := hsa
      obtain ⟨hc, hel, hpo⟩ := h5 j hjt
      rw [add_none] at hc
      obtain ⟨p, hp⟩ : ∃ p, p = ts.getD j [] := ⟨_, rfl⟩
      obtain ⟨pj, hpj⟩ : ∃ x, x = pv j := ⟨_, rfl⟩
      rw [← hp, ← hpj] at hel hpo
      rw [← hpj] at hc
      obtain ⟨c, hcc⟩ : ∃ c, c = cat (ts.take j) := ⟨_, rfl⟩
      have HCn : Hid (cat (ts.take (j + 1)) = c ++ p) := by show _ = _; rw [cat_take ts j hjt, ← hp, ← hcc]
      rw [← hcc] at HO HH HM
      have hcp : c.length + p.length ≤ 2147483647 := by
        have h1 := cat_len_take ts (j + 1)
        rw [HCn.out, List.length_append] at h1
        have := Hcat.out
        omega
      have Hcp := Lib.hid hcp
      have HE := Lib.hid hel
      have HPo := Lib.hid hpo
      obtain ⟨pao, pcap, hpf, _⟩ := hel
      have hpa' := hpa (by omega)
      have HW := Lib.hid (write_el b pj c p wr HH.out HE.out (fun hne ho => by have h : b < w.heap.size := HPo.out hne b ho; omega) hgb (Hk.out.upd HUw.out id) (by omega))
      clear h3 h4 h5 hp hpj hcc hpo hpa hjt hcp
      subst hpf
      go_wp2_with fail
      refine HW.out.mono ?_
      rintro e w4 ⟨rfl, hh4, hu4⟩
      have HH4 := Lib.hid hh4
      have HO4 := Lib.hid (own_upd HO.out hu4 (fun k hk e => by have := HN.out k hk; omega))
      have HE4 := Lib.hid (HE.out.upd hu4 (fun hne k hk e => by have h : k < w.heap.size := HPo.out hne k hk; omega))
      have hc4 : w4.cell? ⟨pa, oa + j, none⟩ = some (.slice pao p.length pcap) := hu4.cell hc (by have h : pa < w.heap.size := hpa'; show ¬ pa = b; omega)
      have HU4 : Hid (Upd (fun k => k = b) w3 w4) := HU.out.trans (hu4.mono (fun _ _ h => .inl h))
      have hs4 : wr.heap.size ≤ w4.heap.size := hu4.size
      have Hl1 : Hid (c.length + p.length ≤ maxLen) := by have := Hcp.out; show _ ≤ _; unfold maxLen; omega
      have Hl2 : Hid (c.length + p.length ≤ 140737488355328) := by have := Hcp.out; show _ ≤ _; omega
      obtain ⟨m', hm'⟩ : ∃ x, x = c.length + p.length := ⟨_, rfl⟩
      have HM' := Lib.hid hm'
      clear hc hh4 hu4 HH HO HE hm'
      go_upto_region 12 with ((at_builtin; (refine wpList_append_el _ (o := ⟨some 39, _, _, _, _, _⟩) ?_ (.tmp 34) (.tmp 38) ?_ (.slice aw m cw) m c p ?_ HM.out HO4.out (.slice pao p.length pcap) ?_ HE4.out Hl1.out Hl2.out m' HM'.out ?_); rfl; rfl; rfl; rfl; intro a5 c5 w5 HO5 HG5 HA5))
      have HU5' : Hid (Upd (fun k => own (.slice aw m cw) k) w4 w5) := Upd.grown HG5.out (fun k hk => hk)
      have HN5 : Hid (∀ k, own (.slice a5 m' c5) k → w3.heap.size ≤ k) := fun k hk => by
        rcases of_at HA5.out k hk with h | h
        · exact HN.out k h
        · omega
      have HH5 : Hid (Hs w5 b (c ++ p)) := HH4.out.upd HU5'.out (fun h => by have := HN.out b h; omega)
      have HU5 : Hid (Upd (fun k => k = b) w3 w5) := HU4.out.trans (HU5'.out.mono (fun k _ hk => .inr (HN.out k hk)))
      have hs5 : w4.heap.size ≤ w5.heap.size := HU5'.out.size
      have HS5 : Hid (Sl w5 (.slice a5 m' c5) (c ++ p)) := by
        have h := HO5.out
        rw [show m' = (c ++ p).length by rw [HM'.out, List.length_append]] at h
        show Sl _ _ _
        rw [show m' = (c ++ p).length by rw [HM'.out, List.length_append]]
        exact Sl.of_own h
      have hkz : (j : Int) % 60 < 60 := by omega
      have hkz0 : 0 ≤ (j : Int) % 60 := by omega
      clear HG5 HA5 HU5' HO4 HE4 HH4 hc4 Hl1 Hl2 HW
      have HREL : Hid (∀ wz, Upd (fun _ => False) w5 wz → LSp b n ts w3 (.slice a5 m' c5) (.int .i64 ((j + 1 : Nat) : Int)) wz) := fun wz hz =>
        ⟨j + 1, m', by omega, rfl, by rw [HCn.out, List.length_append]; exact HM'.out, by rw [HCn.out]; exact own_upd HO5.out hz (fun _ _ => id), HN5.out, by rw [HCn.out]; exact HH5.out.upd hz id, HU5.out.trans (hz.mono (fun _ _ e => e.elim))⟩
      have HU5w : Hid (Upd (fun _ => False) w w5) := HU3.out.trans (HU5.out.mono (fun k _ e => .inr (by omega)))
      obtain ⟨d, hd⟩ : ∃ d, d = c ++ p := ⟨_, rfl⟩
      have hdl : d.length ≤ 2147483647 := by rw [hd, List.length_append]; exact Hcp.out
      rw [← hd] at HS5 HH5 HO5
      have HMd : Hid (m' = d.length) := by show _ = _; rw [hd, List.length_append]; exact HM'.out
      have hmd : m' ≤ 2147483647 := by have := HMd.out; omega
      obtain ⟨D, hD⟩ : ∃ D, D = ((sha d).map Mem.u8).toArray := ⟨_, rfl⟩
      obtain ⟨D2, hD2⟩ : ∃ D, D = ((sha (d ++ [7])).map Mem.u8).toArray := ⟨_, rfl⟩
      have s0 : (sha d).length = 32 := rfl
      have s2 : (sha (d ++ [7])).length = 32 := rfl
      have QD := Lib.hid (fun w => show (binOp .neq 23 (.agg D) (.agg D)).run Tryd.prog w = .ok (.bool false) w by rw [hD, neq_digest _ _ s0 s0]; simp)
      have QD2 := Lib.hid (fun w => show (binOp .neq 23 (.agg D2) (.agg D2)).run Tryd.prog w = .ok (.bool false) w by rw [hD2, neq_digest _ _ s2 s2]; simp)
      have HD := Lib.hid hD
      have HD2 := Lib.hid hD2
      have HKK := Lib.hid (fun w' (h : Upd (fun _ => False) w5 w') => (show Kw w' ∧ 0 < w'.heap.size from ⟨Hk.out.upd (HU5w.out.trans (h.mono (fun _ _ e => e.elim))) id, by have := Hg.out; have := HU5w.out.size; have := h.size; omega⟩))
      have HSu := Lib.hid (fun w' (h : Upd (fun _ => False) w5 w') => sum_any b d w' (HH5.out.upd h id) (HKK.out w' h).1 (HKK.out w' h).2 (by omega))
      have HTx := Lib.hid (fun w' (h : Upd (fun _ => False) w5 w') => sum_text (.slice a5 m' c5) d w' (HS5.out.upd h (fun _ _ => id)) (HKK.out w' h).1 (HKK.out w' h).2 (fun k hk => by have := own_lt HO5.out k hk; have := h.size; omega) (by omega))
      rw [← hD] at HSu HTx
      have Hd := Lib.hid hd
      have hbl5 : b < w5.heap.size := HH5.out.lt
      clear hd hD hD2 s0 s2
      go_wp2_with fail
      · have hnil : Hid True := trivial
        refine (fork_any b d w5 HH5.out).mono ?_
        rintro e w6 ⟨rfl, hh6, hu6⟩
        obtain ⟨g, hgg⟩ : ∃ g, g = w5.heap.size := ⟨_, rfl⟩
        rw [← hgg] at hh6 ⊢
        have hgge : w5.heap.size ≤ g := by omega
        clear hgg
        have HG6 := Lib.hid hh6
        have HU6 := Lib.hid hu6
        have hgl6 : g < w6.heap.size := hh6.lt
        clear hh6 hu6 hnil
        go_wp2_with fail
        refine (HSu.out w6 HU6.out).mono ?_
        rintro e w7 ⟨rfl, hu7⟩
        have HU7' := Lib.hid hu7
        have HU7 : Hid (Upd (fun _ => False) w5 w7) := HU6.out.trans (hu7.mono (fun _ _ e => e.elim))
        clear hu7
        go_wp2_with fail
        refine (HTx.out w7 HU7.out).mono ?_
        rintro e w8 ⟨rfl, hu8⟩
        have HU8 : Hid (Upd (fun _ => False) w5 w8) := HU7.out.trans (hu8.mono (fun _ _ e => e.elim))
        have HG8 := Lib.hid ((HG6.out.upd HU7'.out id).upd hu8 id)
        have hs8 : w6.heap.size ≤ w8.heap.size := by have := HU7'.out.size; have := hu8.size; omega
        clear hu8 HU6 HU7 HU7' HG6
        have qD := QD.out
        have HE8 : Hid (Upd (fun _ => False) w8 (w8.alloc (.cells #[.int .u8 7] 5))) := (Upd.refl _ w8).alloc _
        have HE8' : Hid (Upd (fun _ => False) w5 (w8.alloc (.cells #[.int .u8 7] 5))) := HU8.out.alloc _
        have HWg := Lib.hid (write_any g (.slice (some ⟨w8.heap.size, 0, none⟩) 1 1) d [7] (w8.alloc (.cells #[.int .u8 7] 5)) (HG8.out.upd HE8.out id) (lit_at w8 7 7 rfl) (fun ho => by have := own_at ho; omega) (by have := Hg.out; have := HU5w.out.size; omega) (HKK.out _ HE8'.out).1 (by simp; omega))
        go_wp2_with fail
        refine HWg.out.mono ?_
        rintro e w9 ⟨rfl, hh9, hu9⟩
        have HG9 := Lib.hid hh9
        have HU9 : Hid (Upd (fun _ => False) w5 w9) := HE8'.out.trans (hu9.mono (fun k _ e => .inr (by omega)))
        have hs9 : g < w9.heap.size := hh9.lt
        clear hh9 hu9 HWg HE8 HE8' HG8 HU8 qD
        have HSg := Lib.hid (sum_any g (d ++ [7]) w9 HG9.out (HKK.out w9 HU9.out).1 (HKK.out w9 HU9.out).2 (by simp; omega))
        rw [← HD2.out] at HSg
        go_wp2_with fail
        refine HSg.out.mono ?_
        rintro e w10 ⟨rfl, hu10⟩
        have HU10 : Hid (Upd (fun _ => False) w5 w10) := HU9.out.trans (hu10.mono (fun _ _ e => e.elim))
        have HS10 := Lib.hid (HS5.out.upd HU10.out (fun _ _ => id))
        have Hb10 := Lib.hid (show m' ≤ 140737488355328 by omega)
        have Hl1 : Hid (d.length + [7].length ≤ maxLen) := by show _ ≤ _; unfold maxLen; simp; omega
        have Hl2 : Hid (d.length + [7].length ≤ 140737488355328) := by show _ ≤ _; simp; omega
        obtain ⟨m2, hm2⟩ : ∃ x, x = d.length + [(7 : UInt8)].length := ⟨_, rfl⟩
        have Hm2 := Lib.hid hm2
        clear hu10 HU9 HG9 HSg hm2
        go_wp2_with (first
          | (at_builtin; (refine wpList_copy_nil _ (o := ⟨some 68, _, _, _, _, _⟩) ?_ (.const (.slice none 0 0)) (.tmp 67) ?_ ?_ m' d HMd.out (.slice a5 m' c5) ?_ HS10.out Hb10.out ?_); rfl; rfl; rfl; rfl; intro a11 c11 w11 HO11 HU11 Ho11; have HO11' := Lib.hid (own_upd HO11.out ((Upd.refl (fun _ => False) w11).alloc (.cells #[.int .u8 7] 5)) (fun _ _ => id)); have HE11 := Lib.hid (El.of_sl (lit_at w11 7 7 rfl)))
          | (at_builtin; (refine wpList_append_el _ (o := ⟨some 70, _, _, _, _, _⟩) ?_ (.tmp 68) (.tmp 69) ?_ (.slice a11 m' c11) m' d [7] ?_ HMd.out HO11'.out (.slice (some ⟨w11.heap.size, 0, none⟩) 1 1) ?_ HE11.out Hl1.out Hl2.out m2 Hm2.out ?_); rfl; rfl; rfl; rfl; intro a12 c12 w12 HO12 HG12 HA12))
        have HU11w : Hid (Upd (fun _ => False) w5 w11) := HU10.out.trans (HU11.out.mono (fun _ _ e => e.elim))
        have hs10 : w5.heap.size ≤ w10.heap.size := HU10.out.size
        have HU12 : Hid (Upd (fun _ => False) w5 w12) := (HU11w.out.alloc _).trans ((Upd.grown HG12.out (fun k hk => hk) : Upd (fun k => own (.slice a11 m' c11) k) _ w12).mono (fun k _ hk => .inr (by have := Ho11.out k hk; omega)))
        have HS12 := Lib.hid (sl_form HO12.out (by rw [Hm2.out, List.length_append]))
        have HTy := Lib.hid (sum_text (.slice a12 m2 c12) (d ++ [7]) w12 HS12.out (HKK.out w12 HU12.out).1 (HKK.out w12 HU12.out).2 (own_lt HO12.out) (by simp; omega))
        rw [← HD2.out] at HTy
        refine HTy.out.mono ?_
        rintro e w13 ⟨rfl, hu13⟩
        have HU13 : Hid (Upd (fun _ => False) w5 w13) := HU12.out.trans (hu13.mono (fun _ _ e => e.elim))
        have HRL := Lib.hid (HREL.out w13 HU13.out)
        clear hu13 HU12 HS12 HTy HO12 HG12 HA12 HO11 HU11 Ho11 HO11' HE11 HU10 HS10
        have qD2 := QD2.out
        go_wp2
        go_roundw
        case rel =>
          rw [show ((j : Int) + 1) = ((j + 1 : Nat) : Int) by omega]
          first | exact HRL.out | exact ⟨_, _, _, HRL.out, rfl, rfl, rfl⟩
        case measure => simp [intOf]; omega
      all_goals
        go_roundw
        case rel =>
          rw [show ((j : Int) + 1) = ((j + 1 : Nat) : Int) by omega]
          first | exact HREL.out _ (Upd.refl _ _) | exact ⟨_, _, _, HREL.out _ (Upd.refl _ _), rfl, rfl, rfl⟩
        case measure => simp [intOf]; omega
    · have hltI : ¬ (j : Int) < (n : Int) := by omega
      obtain ⟨d, hd⟩ : ∃ d, d = cat (ts.take j) := ⟨_, rfl⟩
      rw [← hd] at HO HH HM
      have hml : m = d.length := HM.out
      have hml2 : m ≤ 2147483647 := Hcm.out
      have HSl := Lib.hid (sl_form HO.out hml)
      obtain ⟨D, hD⟩ : ∃ D, D = ((sha d).map Mem.u8).toArray := ⟨_, rfl⟩
      have s0 : (sha d).length = 32 := rfl
      have QD := Lib.hid (fun w => show (binOp .eql 23 (.agg D) (.agg D)).run Tryd.prog w = .ok (.bool true) w by rw [hD, eql_digest _ _ s0 s0]; simp)
      have HKK := Lib.hid (fun w' (h : Upd (fun _ => False) wr w') => (show Kw w' ∧ 0 < w'.heap.size from ⟨Hk.out.upd (HUw.out.trans (h.mono (fun _ _ e => e.elim))) id, by have := Hg.out; have := HUw.out.size; have := h.size; omega⟩))
      have HSu := Lib.hid (fun w' (h : Upd (fun _ => False) wr w') => sum_any b d w' (HH.out.upd h id) (HKK.out w' h).1 (HKK.out w' h).2 (by omega))
      have HTx := Lib.hid (fun w' (h : Upd (fun _ => False) wr w') => sum_text (.slice aw m cw) d w' (HSl.out.upd h (fun _ _ => id)) (HKK.out w' h).1 (HKK.out w' h).2 (fun k hk => by have := own_lt HO.out k hk; have := h.size; omega) (by omega))
      rw [← hD] at HSu HTx
      clear hd hD s0 hml
      go_wp2_with fail
      refine (HSu.out wr (Upd.refl _ _)).mono ?_
      rintro e w4 ⟨rfl, hu4⟩
      have HU4 := Lib.hid hu4
      clear hu4
      go_wp2_with fail
      refine (HTx.out w4 HU4.out).mono ?_
      rintro e w5 ⟨rfl, hu5⟩
      have HU5 : Hid (Upd (fun _ => False) wr w5) := HU4.out.trans (hu5.mono (fun _ _ e => e.elim))
      clear hu5
      have qD := QD.out
      go_wp2_with fail
      refine (HSu.out w5 HU5.out).mono ?_
      rintro e w6 ⟨rfl, hu6⟩
      have HU6 : Hid (Upd (fun _ => False) wr w6) := HU5.out.trans (hu6.mono (fun _ _ e => e.elim))
      clear hu6
      go_wp2_with fail
      refine (HTx.out w6 HU6.out).mono ?_
      rintro e w7 ⟨rfl, hu7⟩
      have HU7 : Hid (Upd (fun _ => False) wr w7) := HU6.out.trans (hu7.mono (fun _ _ e => e.elim))
      clear hu7
      go_wp2
      go_ret
      exact ⟨rfl, HUw.out.trans (HU7.out.mono (fun _ _ e => e.elim))⟩
end Go.Proofs.YtgfdnljblfkhkaaDoor.SplitW
