/-
  docketlaw4.FrameTorn, walked.
-/
import Derived.Test.YtgfdnljblfkhkabDoorFrNums
import Derived.Test.YtgfdnljblfkhkabDoorFrTornL
import Derived.Test.YtgfdnljblfkhkabDoorFrPackE
import Derived.Test.YtgfdnljblfkhkabDoorIntsW
import Derived.Deep.CutBlock
import Derived.Deep.LoopGhost
namespace Go.Proofs.YtgfdnljblfkhkabDoor.FrTorn
open Go.RowKit Sha Mem Width PutW WriterW RowW CopyW BookW RawB Crc FrTurn FrScan FrFits FrBegin FrOne FrWalk FrEnd FrPack FrLaw ConvS FrFirst FrNums ListsB FrPackE FrTornL IntsW
set_option linter.unusedVariables false
set_option linter.unusedSimpArgs false

/-- the numbers at which the frames end -/
def EE (n : Int) (Q : List (List UInt8)) (M : Nat) : List Value := (List.range (M + 1)).map fun m => .int .i64 (ends n Q m)
theorem EE_next (n : Int) (Q : List (List UInt8)) (M : Nat) : EE n Q (M + 1) = EE n Q M ++ [.int .i64 (ends n Q (M + 1))] := by
  unfold EE
  rw [List.range_succ, List.map_append]
  rfl
theorem EE_len (n : Int) (Q : List (List UInt8)) (M : Nat) : (EE n Q M).length = M + 1 := by simp [EE]
theorem EE_get (n : Int) (Q : List (List UInt8)) (M m : Nat) (h : m ≤ M) : (EE n Q M)[m]? = some (.int .i64 (ends n Q m)) := by
  unfold EE
  rw [List.getElem?_map, List.getElem?_range (by omega)]
  rfl
theorem tot_le (ts : List (List UInt8)) (m : Nat) : tot (ts.take m) ≤ tot ts := by
  have h4 := List.take_append_drop m ts
  conv => rhs; rw [← h4]
  unfold tot
  rw [List.map_append, List.sum_append]
  omega
theorem ends_le (n : Int) (ts : List (List UInt8)) : ∀ m, m ≤ ts.length → ends n ([7] :: ts) (m + 1) ≤ 14 + 13 * m + tot (ts.take m) := by
  intro m
  induction m with
  | zero =>
    intro _
    rw [ends_next n _ 0 (by simp), ends_zero]
    simp [tot]
  | succ m ih =>
    intro h
    have h1 := ih (by omega)
    have h2 := tot_take ts m (by omega)
    rw [ends_next n _ (m + 1) (by simp; omega)]
    have h3 : ([7] :: ts).getD (m + 1) [] = ts.getD m [] := rfl
    rw [h3]
    omega
/-- what stands while frames are packed: M of them, and their ends -/
def Pk (n : Int) (Q : List (List UInt8)) (w : World) (M : Nat) (b e : Value) (wx : World) : Prop :=
  1 ≤ M ∧ AllOk n Q M ∧ (∃ ao cap, b = .slice ao (ends n Q M) cap) ∧ wx.ownsRow 0 5 1 b (ends n Q M) ((cats n (Q.take M)).map u8) ∧ (∃ ao cap, e = .slice ao (M + 1) cap) ∧ wx.ownsRow 0 3 1 e (M + 1) (EE n Q M) ∧
    (∀ k, own b k → w.heap.size ≤ k) ∧ (∀ k, own e k → w.heap.size ≤ k) ∧ Upd (fun _ => False) w wx

def LKn (n : Int) (Q : List (List UInt8)) (M y : Nat) (k : Value) : Prop := ∃ j : Nat, j ≤ M ∧ k = .int .i64 j ∧ ends n Q j ≤ y
def PkE (n : Int) (Q : List (List UInt8)) (w : World) (b e : Value) (wx : World) : Prop := ∃ M, Pk n Q w M b e wx
def LPk (n : Int) (Q : List (List UInt8)) (w : World) (pn g : Nat) (b e i : Value) (wx : World) : Prop := ∃ j : Nat, j + g = pn ∧ i = .int .i64 j ∧ Pk n Q w (j + 1) b e wx

set_option maxHeartbeats 4000000 in
set_option maxRecDepth 100000 in
theorem walk (n cut : Int) (pa : Option Addr) (pn pc : Nat) (ts : List (List UInt8)) (w : World) (hn : -9223372036854775808 ≤ n ∧ n ≤ 9223372036854775807) (hcut : -9223372036854775808 ≤ cut ∧ cut ≤ 9223372036854775807)
    (hs : SlE w (.slice pa pn pc) ts (fun k => k < w.heap.size)) (hpn : pn ≤ 140737488355328) (hel : ∀ i, (ts.getD i []).length ≤ 9223372036854775807) (htw : Tw w) :
    Calls Tryd.prog 5 #[.int .i64 n, .slice pa pn pc, .int .i64 cut] w fun e w' => e = .returned (.bool true) ∧ Upd (fun _ => False) w w' := by
  have hpl : pn = ts.length := by obtain ⟨_, _, _, h, _⟩ := hs; injection h
  have Hn := Lib.hid hn
  have Hcut := Lib.hid hcut
  have Hs := Lib.hid hs
  have Htw := Lib.hid htw
  have Hpl := Lib.hid hpl
  have Hel := Lib.hid hel
  clear hn hcut hs htw hpl hel
  by_cases hbig : (153391689 : Int) < (pn : Int)
  · go_enter Tryd.func5, Tryd.ntmps5
    go_wp2
    go_ret
    exact ⟨rfl, Upd.refl _ _⟩
  · have hbigd : decide ((153391689 : Int) < (pn : Int)) = false := by simpa using hbig
    have hpn' : (pn : Int) ≤ 153391689 := by omega
    have HLs := lists_any (2147483647 - 13 * (pn : Int)) (by omega) (by omega) pa pn pc ts _ w Hs.out hpn Hel.out
    have HLs' := Lib.hid HLs
    clear HLs hbig
    go_enter Tryd.func5, Tryd.ntmps5
    go_wp2_with fail
    refine HLs'.out.mono ?_
    rintro e w1 ⟨a, rfl, ha0, hasum, rfl⟩
    by_cases hneg : a < 0
    · clear hasum
      go_wp2
      go_ret
      exact ⟨rfl, Upd.refl _ _⟩
    · have hd : decide (a < 0) = false := by simpa using hneg
      have htot := hasum (by omega)
      have Htot := Lib.hid (show tot ts ≤ 2147483647 by omega)
      clear hasum htot hneg
      go_wp2_with fail
      refine (first_any w Htw.out).mono ?_
      rintro e w1 ⟨rfl, hu1⟩
      have HU1 := Lib.hid hu1
      clear hu1 hd
      go_wp2_with fail
      refine (within_any n 1099511627775 w1 Hn.out (by decide) (by decide)).mono ?_
      rintro e w2 ⟨x, rfl, hx0, hx1, rfl⟩
      have hx2 : nok x = true := (nok_iff x).2 ⟨hx0, by omega⟩
      have Hx2 := Lib.hid hx2
      clear hx2
      go_wp2_with fail
      obtain ⟨wl, hwl⟩ : ∃ x, x = w1.alloc (.cells #[.int .u8 7] 5) := ⟨_, rfl⟩
      have hbl : wl.heap[w1.heap.size]? = some (.cells (([7] : List UInt8).map u8).toArray 5 (0, 0)) := by rw [hwl]; exact heap_alloc_new _ _
      have hul : Upd (fun _ => False) w1 wl := by rw [hwl]; exact (Upd.refl _ _).alloc _
      have hsl_ : w1.heap.size < wl.heap.size := by rw [hwl]; simp
      rw [← hwl]
      have HUl : Hid (Upd (fun _ => False) w wl) := HU1.out.trans (hul.mono fun _ _ e => e.elim)
      have hPk := pack_any x (some ⟨w1.heap.size, 0, none⟩) 1 1 [7] wl (ConvS.sl_row _ _ 5 _ (0, 0) 1 rfl (by unfold maxLen; simp) hbl) (fun k hk => by simp [own, Value.ownBlock] at hk; omega) (Htw.out.upd HUl.out id)
      clear hwl hbl hul hsl_
      refine hPk.mono ?_
      rintro e w2 (⟨_, _, v, rfl, hown, hu2⟩ | ⟨h, _⟩ | ⟨_, h, _⟩)
      · obtain ⟨Q, hQ⟩ : ∃ Q : List (List UInt8), Q = [7] :: ts := ⟨_, rfl⟩
        have hQl : Q.length = pn + 1 := by rw [hQ, List.length_cons, Hpl.out]
        have hQ1 : Q.take 1 = [[7]] := by rw [hQ]; rfl
        have hc1 : cats x (Q.take 1) = frame x [7] := by rw [hQ1]; simp [cats]
        have he1 : ends x Q 1 = (frame x [7]).length := by unfold ends; rw [hc1]
        have hg1 : AllOk x Q 1 := ⟨by omega, fun i hi => by
          obtain rfl : i = 0 := by omega
          refine ⟨by simpa using Hx2.out, ?_⟩
          rw [hQ]
          simp⟩
        rw [← he1, ← hc1] at hown
        have hvo : ∀ k, own v k → w.heap.size ≤ k := fun k hk => by have := (hown.lt k hk).1; have := HUl.out.size; omega
        obtain ⟨ao, cap, rfl⟩ := IntsW.slice_form hown
        have HU2 : Hid (Upd (fun _ => False) w w2) := HUl.out.trans (hu2.mono fun _ _ e => e.elim)
        have HO2 := Lib.hid hown
        have HG1 := Lib.hid hg1
        have HQ := Lib.hid hQ
        have HQl := Lib.hid hQl
        have HVo := Lib.hid hvo
        have he14 : ends x Q 1 = 14 := by rw [he1, frame_len]; rfl
        obtain ⟨e1, he1'⟩ : ∃ z, z = ends x Q 1 := ⟨_, rfl⟩
        have He1 := Lib.hid he1'
        rw [← he1'] at he14 ⊢
        have He14 := Lib.hid he14
        clear hown hu2 hPk hQ hQl hQ1 hc1 he1 hg1 hvo he1' he14
        go_upto_block 0 with (fail)
        obtain ⟨w3, hw3⟩ : ∃ z, z = w2.alloc (.cells #[.int .i64 0, .int .i64 (e1 : Int)] 3) := ⟨_, rfl⟩
        obtain ⟨g3, hg3⟩ : ∃ z, z = w2.heap.size := ⟨_, rfl⟩
        have hb3 : w3.heap[g3]? = some (.cells #[.int .i64 0, .int .i64 (e1 : Int)] 3 (0, 0)) := by rw [hw3, hg3]; exact heap_alloc_new _ _
        have hu3 : Upd (fun _ => False) w2 w3 := by rw [hw3]; exact (Upd.refl _ _).alloc _
        have hg3s : w.heap.size ≤ g3 := by rw [hg3]; exact HU2.out.size
        have HO3 := HO2.out.alloc (.cells #[.int .i64 0, .int .i64 (e1 : Int)] 3)
        rw [← hw3] at HO3 ⊢
        rw [← hg3]
        have hE1 : w3.ownsRow 0 3 1 (.slice (some ⟨g3, 0, none⟩) 2 2) 2 (EE x Q 1) := by
          refine ⟨by rw [EE_len], .inr ⟨g3, 2, _, rfl, Nat.zero_le _, hb3, Nat.le_refl _, by unfold maxLen; omega, rfl, ?_⟩⟩
          unfold EE
          rw [He1.out]
          rfl
        have HP0 : Hid (Pk x Q w 1 (.slice ao e1 cap) (.slice (some ⟨g3, 0, none⟩) 2 2) w3) := by
          rw [He1.out]
          exact ⟨Nat.le_refl _, HG1.out, ⟨_, _, rfl⟩, World.ownsRow.mono HO3 (Nat.zero_le _), ⟨_, _, rfl⟩, hE1, fun k hk => HVo.out k (by cases ao <;> exact hk), fun k hk => by simp [own, Value.ownBlock] at hk; omega, HU2.out.trans (hu3.mono fun _ _ e => e.elim)⟩
        clear hw3 hg3 hb3 hu3 HO3 hE1
        go_cut [7, 9] (fun s7 s9 wx => PkE x Q w s7 s9 wx)
        case first =>
          go_wp2_with fail
          go_loopg [7, 9, 10] pn (fun g b e i wx => LPk x Q w pn g b e i wx)
          case atStart => exact ⟨0, by omega, rfl, HP0.out⟩
          case round =>
            obtain ⟨j, hjg, rfl, hpk⟩ := hrel
            have Hpk := Lib.hid hpk
            have Hjg := Lib.hid hjg
            obtain ⟨h1M, hall, ⟨bo, bc, rfl⟩, hob, ⟨eo, ec, rfl⟩, hoe, hvb, hve, hu⟩ := hpk
            have hjp : j ≤ pn := by omega
            clear HP0 hjg
            by_cases hlt : j < pn
            · have hltI : (j : Int) < (pn : Int) := by omega
              have hsr := Hs.out.upd hu (fun _ _ => id)
              obtain ⟨pa', pc', pv, he, hnone, hsome⟩ := hsr
              injection he with e1' e2' e3'
              subst e1' e3'
              clear e2'
              obtain ⟨ad, rfl⟩ : ∃ ad, pa = some ad := by
                cases pa with
                | some ad => exact ⟨ad, rfl⟩
                | none => have := hnone rfl; have := Hpl.out; omega
              obtain ⟨hsp, _, hcells⟩ := hsome ad rfl
              obtain ⟨pb, po, sp⟩ := ad
              obtain rfl : sp = none := hsp
              obtain ⟨c0, hel, hown⟩ := hcells j (by have := Hpl.out; omega)
              rw [add_none] at c0
              obtain ⟨q, hq⟩ : ∃ q, q = ts.getD j [] := ⟨_, rfl⟩
              have hqQ : Q.getD (j + 1) [] = q := by rw [HQ.out, hq]; rfl
              rw [← hq] at hel hown
              obtain ⟨qo, qc, hqv, hq1, hq2, hq3, hq4⟩ := id hel
              rw [hqv] at c0 hel hown
              obtain ⟨ql, hql⟩ : ∃ z, z = q.length := ⟨_, rfl⟩
              rw [← hql] at c0 hel hown
              have ex : x + ((j + 1 : Nat) : Int) = x + 1 + (j : Int) := by omega
              have hPe := pack_el (x + 1 + (j : Int)) qo ql qc q wr hel (fun hn k hk => by have := hown hn k hk; have := hu.size; omega) (Htw.out.upd hu id)
              have HPe := Lib.hid hPe
              have HqQ := Lib.hid hqQ
              have Hql := Lib.hid hql
              have Hu := Lib.hid hu
              have Hall := Lib.hid hall
              have Hob := Lib.hid hob
              have Hoe := Lib.hid hoe
              have Hvb := Lib.hid hvb
              have Hve := Lib.hid hve
              have Hex := Lib.hid ex
              clear hnone hsome hcells hel hown hq hqQ hqv hq1 hq2 hq3 hq4 hql ex hPe h1M hall hob hoe hvb hve hu
              obtain ⟨em, hem⟩ : ∃ z, z = ends x Q (j + 1) := ⟨_, rfl⟩
              have Hem := Lib.hid hem
              rw [← hem]
              clear hem
              go_wp2_with fail
              refine HPe.out.mono ?_
              rintro e w6 (⟨hnk, hq6, v6, rfl, hown6, hu6⟩ | ⟨hnk, rfl, rfl⟩ | ⟨_, hlong, rfl, rfl⟩)
              · have hall2 : AllOk x Q (j + 2) := by
                  refine ⟨by have := HQl.out; omega, fun i hi => ?_⟩
                  rcases Nat.lt_or_ge i (j + 1) with h | h
                  · exact Hall.out.2 i h
                  · obtain rfl : i = j + 1 := by omega
                    rw [Hex.out, HqQ.out]
                    exact ⟨hnk, hq6⟩
                obtain ⟨CL, hCL⟩ : ∃ z, z = cats x (Q.take (j + 1)) := ⟨_, rfl⟩
                obtain ⟨FL_, hFL⟩ : ∃ z, z = frame (x + 1 + (j : Int)) q := ⟨_, rfl⟩
                have hcn : cats x (Q.take (j + 2)) = CL ++ FL_ := by
                  rw [cats_next x Q (j + 1) (by have := HQl.out; omega), Hex.out, HqQ.out, ← hCL, ← hFL]
                obtain ⟨m2, hm2⟩ : ∃ z, z = ends x Q (j + 2) := ⟨_, rfl⟩
                have hm2l : m2 = CL.length + FL_.length := by rw [hm2]; unfold ends; rw [hcn, List.length_append]
                have hemc : em = CL.length := by rw [Hem.out, hCL]; rfl
                have hbnd : m2 ≤ 281474976710 := by
                  have h1 := ends_le x ts (j + 1) (by have := Hpl.out; omega)
                  rw [← HQ.out, show j + 1 + 1 = j + 2 by omega, ← hm2] at h1
                  have h2 := tot_le ts (j + 1)
                  have h3 := Htot.out
                  omega
                rw [← hFL] at hown6
                obtain ⟨fo, fc, rfl, hslf⟩ := nil_of_own hown6
                obtain ⟨fl, hfl⟩ : ∃ z, z = FL_.length := ⟨_, rfl⟩
                rw [← hfl] at hslf hown6 ⊢
                have HEf := Lib.hid (El.of_sl hslf)
                have HOb6 : Hid (w6.ownsRow 0 5 1 (.slice bo em bc) em (CL.map u8)) := by
                  show World.ownsRow _ _ _ _ _ _ _
                  rw [Hem.out, hCL]
                  exact own_upd Hob.out hu6 (fun _ _ => id)
                have HOe6 : Hid (w6.ownsRow 0 3 1 (.slice eo (j + 1 + 1) ec) (j + 1 + 1) (EE x Q (j + 1))) := own_upd Hoe.out hu6 (fun _ _ => id)
                have HU6 : Hid (Upd (fun _ => False) w w6) := Hu.out.trans (hu6.mono fun _ _ e => e.elim)
                have Hall2 := Lib.hid hall2
                have HCL := Lib.hid hCL
                have Hcn := Lib.hid hcn
                have Hm2 := Lib.hid hm2
                have Hm2l := Lib.hid hm2l
                have Hemc := Lib.hid hemc
                have hmx : CL.length + FL_.length ≤ maxLen := by unfold maxLen; omega
                have hmy : CL.length + FL_.length ≤ 140737488355328 := by omega
                have Hmx := Lib.hid hmx
                have Hmy := Lib.hid hmy
                have Hj1 := Lib.hid (show j + 1 + 1 + 1 ≤ maxLen by unfold maxLen; omega)
                have Hj2 := Lib.hid (show (j + 1 + 1 + 1) * 8 ≤ 140737488355328 by omega)
                clear hnk hq6 hown6 hu6 hall2 hCL hFL hcn hm2 hm2l hemc hslf hfl hmx hmy
                go_wp2_with (first
                  | ((with_reducible refine wpList_append_el (o := ⟨some 66, _, _, _, _, _⟩) _ ?_ (.tmp 64) (.tmp 65) ?_ (.slice bo em bc) em CL FL_ ?_ Hemc.out HOb6.out (.slice fo fl fc) ?_ HEf.out Hmx.out Hmy.out m2 Hm2l.out ?_); rfl; rfl; rfl; rfl; intro bo7 bc7 w7 Hob7 Hgr7 Hat7; have HOe7 : Hid (w7.ownsRow 0 3 1 (.slice eo (j + 1 + 1) ec) (j + 1 + 1) (EE x Q (j + 1))) := World.ownsRow.kept HOe6.out Hgr7.out (own_apart HOe6.out HOb6.out (by decide)))
                  | ((with_reducible refine wpList_append_int (o := ⟨some 71, _, _, _, _, _⟩) _ ?_ (.tmp 67) (.tmp 70) ?_ (.slice eo (j + 1 + 1) ec) (j + 1 + 1) (EE x Q (j + 1)) ?_ (HOe7.out.alloc _) w7.heap.size 1 (m2 : Int) ?_ (heap_alloc_new _ _) Hj1.out Hj2.out ?_); rfl; rfl; rfl; rfl; intro eo8 ec8 w8 Hoe8 Hgr8 Hat8))
                have hub7 : Upd (own (.slice bo em bc)) w6 w7 := Upd.grown Hgr7.out (fun k hk => hk)
                have hu7 : Upd (fun _ => False) w w7 := HU6.out.trans (hub7.mono fun k _ e => .inr (Hvb.out k (by cases bo <;> exact e)))
                have hue8 : Upd (own (.slice eo (j + 1 + 1) ec)) (w7.alloc (.cells #[.int .i64 (m2 : Int)] 3)) w8 := Upd.grown Hgr8.out (fun k hk => hk)
                have hu8 : Upd (fun _ => False) w w8 := (hu7.alloc _).trans (hue8.mono fun k _ e => .inr (Hve.out k (by cases eo <;> exact e)))
                have hob8 : w8.ownsRow 0 5 1 (.slice bo7 m2 bc7) m2 ((CL ++ FL_).map Mem.u8) :=
                  World.ownsRow.kept (Hob7.out.alloc (.cells #[.int .i64 (m2 : Int)] 3)) Hgr8.out (own_apart (Hob7.out.alloc (.cells #[.int .i64 (m2 : Int)] 3)) (HOe7.out.alloc (.cells #[.int .i64 (m2 : Int)] 3)) (by decide))
                have HPn : Hid (Pk x Q w (j + 1 + 1) (.slice bo7 m2 bc7) (.slice eo8 (j + 1 + 1 + 1) ec8) w8) := by
                  refine ⟨by omega, Hall2.out, ⟨bo7, bc7, by rw [Hm2.out]⟩, ?_, ⟨eo8, ec8, rfl⟩, ?_, fun k hk => ?_, fun k hk => ?_, hu8⟩
                  · rw [← Hcn.out, Hm2.out] at hob8
                    rw [Hm2.out]
                    exact hob8
                  · rw [EE_next, ← Hm2.out]
                    exact Hoe8.out
                  · rcases Hat7.out with h | h
                    · have hk' := hk; unfold own at hk'; rw [h] at hk'; exact Hvb.out k (by cases bo <;> exact hk')
                    · unfold own at hk; rw [h] at hk; cases hk; have := HU6.out.size; omega
                  · rcases Hat8.out with h | h
                    · have hk' := hk; unfold own at hk'; rw [h] at hk'; exact Hve.out k (by cases eo <;> exact hk')
                    · unfold own at hk; rw [h] at hk; cases hk; have := hu7.size; simp; omega
                clear hub7 hu7 hue8 hu8 hob8 Hob7 Hgr7 Hat7 Hoe8 Hgr8 Hat8
                go_wp2
                go_roundg (gk - 1)
                case rel => exact ⟨j + 1, by have := Hjg.out; omega, by go_num, HPn.out⟩
                case measure => have := Hjg.out; omega
              · go_wp2
                go_meet
                exact ⟨j + 1, by rw [Hem.out]; exact Hpk.out⟩
              · go_wp2
                go_meet
                exact ⟨j + 1, by rw [Hem.out]; exact Hpk.out⟩
            · have hltI : decide ((j : Int) < (pn : Int)) = false := by simp; omega
              clear h1M hall hob hoe hvb hve hu
              go_wp2
              go_meet
              exact ⟨j + 1, Hpk.out⟩
        case rest =>
          obtain ⟨M, h1M, hall, ⟨bo, bc, rfl⟩, hob, ⟨eo, ec, rfl⟩, hoe, hvb, hve, hu⟩ := hcut
          obtain ⟨em, hem⟩ : ∃ z, z = ends x Q M := ⟨_, rfl⟩
          have hMp : M ≤ pn + 1 := by have := hall.1; have := HQl.out; omega
          have hemb : em ≤ 281474976710 := by
            obtain ⟨m, rfl⟩ : ∃ m, M = m + 1 := ⟨M - 1, by omega⟩
            have h1 := ends_le x ts m (by have := Hpl.out; omega)
            rw [← HQ.out, ← hem] at h1
            have h2 := tot_le ts m
            have h3 := Htot.out
            omega
          obtain ⟨eg, ec', heo, _⟩ := hoe.form (by omega)
          injection heo with a1 a2 a3
          subst a1 a3
          clear a2
          have hslb : Sl wc (.slice bo em bc) (cats x (Q.take M)) := by rw [hem]; exact WriterW.Sl.of_row hob
          have hemb' : em ≤ bc := by
            obtain ⟨_, _, h, h1, _⟩ := hslb
            injection h with _ b2 b3
            omega
          rw [← hem]
          have HslB := Lib.hid hslb
          have Hem := Lib.hid hem
          have Hall := Lib.hid hall
          have HU := Lib.hid hu
          have Hoe := Lib.hid hoe
          clear hslb hem hall hob hoe hvb hve hu HP0
          go_wp2_with fail
          refine (within_any cut em wc Hcut.out (by omega) (by omega)).mono ?_
          rintro e w4 ⟨y, rfl, hy0, hy1, rfl⟩
          obtain ⟨yn, rfl⟩ := Int.eq_ofNat_of_zero_le hy0
          have hy1 : yn ≤ em := by omega
          have hyb : (yn : Int) ≤ (bc : Int) := by omega
          have HEnd : Hid (Calls Tryd.prog 19 #[.int .i64 x, .slice bo yn bc] wc (EndAt x ((cats x (Q.take M)).take yn) wc)) :=
            end_any x bo yn bc _ wc (by omega) (sl_take' HslB.out (by have := Hem.out; unfold ends at this; omega)) (by omega) (Htw.out.upd HU.out id)
          go_wp2
          go_loop [14] (fun k => LKn x Q M yn k) (fun k => M - (intOf k).toNat)
          case atStart => exact ⟨0, Nat.zero_le _, rfl, by rw [ends_zero]; exact Nat.zero_le _⟩
          case round =>
            obtain ⟨k, hk, rfl, hek⟩ := hrel
            obtain ⟨ek, hek'⟩ : ∃ z, z = ends x Q k := ⟨_, rfl⟩
            have cE : wc.cell? ⟨eg, k, none⟩ = some (.int .i64 (ek : Int)) := by
              rw [Hoe.out.cellAt k (by omega), EE_get x Q M k hk, hek']
            rw [← hek'] at hek
            have Hek := Lib.hid hek'
            clear hek'
            by_cases hkM : k < M
            · have hkI : (k : Int) + 1 < (M : Int) + 1 := by omega
              obtain ⟨en, hen'⟩ : ∃ z, z = ends x Q (k + 1) := ⟨_, rfl⟩
              have cN : wc.cell? ⟨eg, k + 1, none⟩ = some (.int .i64 (en : Int)) := by
                rw [Hoe.out.cellAt (k + 1) (by omega), EE_get x Q M (k + 1) (by omega), hen']
              have Hen := Lib.hid hen'
              clear hen'
              by_cases hle : en ≤ yn
              · have hleI : (en : Int) ≤ (yn : Int) := by omega
                go_wp2
                go_round
                case rel => exact ⟨k + 1, by omega, by go_num, by rw [← Hen.out]; exact hle⟩
                case measure => simp [intOf]; omega
              · have hleI : decide ((en : Int) ≤ (yn : Int)) = false := by simp; omega
                have hstop : k < M → yn < ends x Q (k + 1) := fun _ => by rw [← Hen.out]; omega
                have hend := end_cats x Q M yn k Hall.out (by rw [← Hem.out]; exact hy1) hk (by rw [← Hek.out]; exact hek) hstop
                have HEn := Lib.hid hend
                clear hstop hend
                go_wp2_with fail
                refine HEnd.out.mono ?_
                rintro e w5 ⟨k', p', z, he, rfl, hu5⟩
                obtain ⟨rfl, rfl, rfl⟩ := EndIs.unique he HEn.out
                have HU5 : Hid (Upd (fun _ => False) w w5) := HU.out.trans (hu5.mono fun _ _ e => e.elim)
                have d0 : w5.cell? ⟨eg, k', none⟩ = some (.int .i64 (ek : Int)) := hu5.cell cE id
                rw [← Hek.out]
                clear he hu5
                by_cases heq : ek = yn
                · have hq : ((ek : Int) == (yn : Int)) = true := by rw [beq_iff_eq]; omega
                  rw [if_pos heq]
                  clear heq
                  go_wp2
                  go_ret
                  exact ⟨rfl, HU5.out⟩
                · have hq : ((ek : Int) == (yn : Int)) = false := by rw [beq_eq_false_iff_ne]; omega
                  rw [if_neg heq]
                  clear heq
                  go_wp2
                  go_ret
                  exact ⟨rfl, HU5.out⟩
            · have hkI : decide ((k : Int) + 1 < (M : Int) + 1) = false := by simp; omega
              have hstop : k < M → yn < ends x Q (k + 1) := fun h => absurd h hkM
              have hend := end_cats x Q M yn k Hall.out (by rw [← Hem.out]; exact hy1) hk (by rw [← Hek.out]; exact hek) hstop
              have HEn := Lib.hid hend
              clear hstop hend
              go_wp2_with fail
              refine HEnd.out.mono ?_
              rintro e w5 ⟨k', p', z, he, rfl, hu5⟩
              obtain ⟨rfl, rfl, rfl⟩ := EndIs.unique he HEn.out
              have HU5 : Hid (Upd (fun _ => False) w w5) := HU.out.trans (hu5.mono fun _ _ e => e.elim)
              have d0 : w5.cell? ⟨eg, k', none⟩ = some (.int .i64 (ek : Int)) := hu5.cell cE id
              rw [← Hek.out]
              clear he hu5
              by_cases heq : ek = yn
              · have hq : ((ek : Int) == (yn : Int)) = true := by rw [beq_iff_eq]; omega
                rw [if_pos heq]
                clear heq
                go_wp2
                go_ret
                exact ⟨rfl, HU5.out⟩
              · have hq : ((ek : Int) == (yn : Int)) = false := by rw [beq_eq_false_iff_ne]; omega
                rw [if_neg heq]
                clear heq
                go_wp2
                go_ret
                exact ⟨rfl, HU5.out⟩
      · rw [Hx2.out] at h; cases h
      · simp at h
end Go.Proofs.YtgfdnljblfkhkabDoor.FrTorn
