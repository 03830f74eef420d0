/-
  Texts put together: RefCutW, RefOf, AppS, TabN, TabR, TabK, TabT, TabE, TabZ, BookE, OpenP, TabP, TabL, TurnO.
-/
import Derived.Test.YtiglaeipbcmlnaaDoorCutW
import Derived.Test.YtiglaeipbcmlnaaDoorSplitM
import Derived.Test.YtiglaeipbcmlnaaDoorOfW
import Derived.Test.YtiglaeipbcmlnaaDoorRefW3
import Derived.Deep.Cut
import Derived.Test.YtiglaeipbcmlnaaDoorMem
import Derived.Lib.AppendStr
import Derived.Lib.ConvBytes
import Derived.Laws.AppendOwn
import Derived.Maps.AppendAt
import Derived.Laws.AppendOwnNone
import Derived.Test.YtiglaeipbcmlnaaDoorBranchW
import Derived.Test.YtiglaeipbcmlnaaDoorLeafW
import Derived.Test.YtiglaeipbcmlnaaDoorPutG
import Derived.Deep.Onto
import Derived.Deep.RegionHeld
import Derived.Deep.RegionHeld3
import Derived.Test.YtiglaeipbcmlnaaDoorEmptyW
import Derived.Test.YtiglaeipbcmlnaaDoorBooksG
import Derived.Deep.MidRow
import Derived.Test.YtiglaeipbcmlnaaDoorSplitL
import Derived.Test.YtiglaeipbcmlnaaDoorBookW
import Derived.Test.YtiglaeipbcmlnaaDoorSplitO
import Derived.Test.YtiglaeipbcmlnaaDoorOpenB
import Derived.OrdersHeld

/-
  docketref2.Cut.
-/
namespace Go.Proofs.YtiglaeipbcmlnaaDoor.CutW
open Go.RowKit Mem RowW CopyW EqW
set_option linter.unusedVariables false

/-- docketref2.Cut -/
def LC (F R n : Nat) (D : List UInt8) (w0 : World) (i : Value) (wr : World) : Prop :=
  ∃ j : Nat, n ≤ j ∧ j ≤ 32 ∧ i = .int .i64 j ∧ Row wr F 23 ((D.take n ++ List.replicate (j - n) 0 ++ D.drop j).map u8) ∧ Row wr R 23 ((List.replicate 32 (0 : UInt8)).map u8) ∧ Upd (fun _ => False) w0 wr
theorem LC_set (D : List UInt8) (n j : Nat) (h : D.length = 32) (h1 : n ≤ j) (h2 : j < 32) : (D.take n ++ List.replicate (j - n) 0 ++ D.drop j).set j 0 = D.take n ++ List.replicate (j + 1 - n) 0 ++ D.drop (j + 1) := by
  have hl : (D.take n ++ List.replicate (j - n) (0 : UInt8)).length = j := by simp [h]; omega
  rw [List.set_append_right _ _ (by omega), hl, Nat.sub_self, List.drop_eq_getElem_cons (by omega), List.set_cons_zero, show j + 1 - n = (j - n) + 1 by omega, List.replicate_succ', List.append_assoc, List.append_assoc, List.append_assoc]
  rfl
set_option maxHeartbeats 2000000 in
set_option maxRecDepth 100000 in
theorem refcut_any (D : List UInt8) (hD : D.length = 32) (a : Int) (ha : -9223372036854775808 ≤ a ∧ a ≤ 9223372036854775807) (w : World) :
    Calls Tryd.prog 66 #[.agg (D.map u8).toArray, .int .i64 a] w fun e w' => e = .returned (.agg ((cut D a).map u8).toArray) ∧ Upd (fun _ => False) w w' := by
  obtain ⟨X, hX⟩ : ∃ X, X = (D.map u8).toArray := ⟨_, rfl⟩
  obtain ⟨Y, hY⟩ : ∃ Y, Y = ((cut D a).map u8).toArray := ⟨_, rfl⟩
  have h1 := cutN_lo a
  have h2 := cutN_hi a
  have HYs : Hid ((Tryd.prog.info? 23).map (·.size) = some Y.size) := by show _ = _; rw [sizeD, hY]; simp [cut_len D a hD]
  have HY1 : Hid (Y.all (·.oneCell') = true) := by show _ = _; rw [hY]; simpa using one_of (cut D a)
  have HYl : Hid (A32.size = Y.size) := by show _ = _; rw [hY]; simp [cut_len D a hD, A32]
  have HX := Lib.hid hX
  have HY := Lib.hid hY
  have HD := Lib.hid hD
  rw [← hX]
  clear hX hY hD
  have hR : Hid (Row ((w.alloc (.cells X 23)).alloc (.cells A32 23)) w.heap.size 23 (D.map u8)) := by
    have h := Row.new w 23 (D.map u8)
    rw [← HX.out] at h
    exact h.alloc _
  have hz := zero32
  have HRR : Hid (Row ((w.alloc (.cells X 23)).alloc (.cells A32 23)) (w.heap.size + 1) 23 ((List.replicate 32 (0 : UInt8)).map u8)) := heap_alloc2_new w _ _
  have HU0 : Hid (Upd (fun _ => False) w ((w.alloc (.cells X 23)).alloc (.cells A32 23))) := ((Upd.refl (fun _ => False) w).alloc _).alloc _
  obtain ⟨ha1, ha2⟩ := ha
  rcases Int.lt_or_le a 1 with hlo | hlo
  · have hlo' : a ≤ 0 := by omega
    have Hn : Hid (cutN a = 1) := by show _ = _; unfold cutN; omega
    clear h1 h2
    have HS : Hid (LC w.heap.size (w.heap.size + 1) 1 D w (.int .i64 1) ((w.alloc (.cells X 23)).alloc (.cells A32 23))) := by
      refine ⟨1, Nat.le_refl _, by omega, rfl, ?_, HRR.out, HU0.out⟩
      rw [Nat.sub_self, List.replicate_zero, List.append_nil, List.take_append_drop]
      exact hR.out
    clear hz
    go_enter Tryd.func66, Tryd.ntmps66
    go_wp2
    go_loopw [5] (fun i wr => LC w.heap.size (w.heap.size + 1) 1 D w i wr) (fun i _ => (32 - intOf i).toNat)
    case atStart => exact HS.out
    case round =>
      clear HS
      obtain ⟨j, hj1, hj2, rfl, hr, hr0, hu⟩ := hrel
      by_cases hlt : j < 32
      · have hltI : (j : Int) < 32 := by omega
        have HN : Hid (Row (wr.setCell ⟨w.heap.size, j, none⟩ (u8 0)) w.heap.size 23 ((D.take 1 ++ List.replicate (j + 1 - 1) 0 ++ D.drop (j + 1)).map u8)) := by
          show Row _ _ _ _
          rw [← LC_set D 1 j HD.out hj1 hlt, List.map_set]
          exact hr.set j _
        have HN0 : Hid (Row (wr.setCell ⟨w.heap.size, j, none⟩ (u8 0)) (w.heap.size + 1) 23 ((List.replicate 32 (0 : UInt8)).map u8)) := hr0.far (by simp) _
        have HU : Hid (Upd (fun _ => False) w (wr.setCell ⟨w.heap.size, j, none⟩ (u8 0))) := hu.put _ _ (.inr (Nat.le_refl _)) _
        have c0 : wr.cell? ⟨w.heap.size, j, none⟩ = some (((D.take 1 ++ List.replicate (j - 1) 0 ++ D.drop j).map u8).getD j (u8 0)) := by
          have hl : j < ((D.take 1 ++ List.replicate (j - 1) 0 ++ D.drop j).map u8).length := by simp [HD.out]; omega
          rw [hr.cell, List.getD_eq_getElem?_getD, List.getElem?_eq_getElem hl]
          rfl
        have f0 := hr.frozen j
        clear hr hr0 hu
        go_wp2
        go_roundw
        case rel => exact ⟨j + 1, by omega, by omega, by go_num, HN.out, HN0.out, HU.out⟩
        case measure => simp [intOf]; omega
      · obtain rfl : j = 32 := by omega
        rw [show ((32 : Nat) : Int) = 32 from rfl]
        have HG2 : Hid (wr.heap[w.heap.size]? = some (.cells Y 23 (0, 0))) := by
          show _ = _
          rw [HY.out]
          unfold cut
          rw [Hn.out]
          have h := hr
          rw [List.drop_eq_nil_of_le (by rw [HD.out]; omega), List.append_nil] at h
          exact h
        have HGR' : Hid (wr.heap[w.heap.size + 1]? = some (.cells A32 23 (0, 0))) := hr0
        have HUF := Lib.hid hu
        clear hr hr0 hu hlt hj1 hj2
        go_wp2_with (first
      | ((with_reducible refine wpList_load_row (o := ⟨some 15, _, _, _, _, _⟩) ?_ _ (.tmp 2) ?_ w.heap.size ?_ 23 Y (0, 0) _ HG2.out Tryd.underlying23 ?_ HYs.out ?_); rfl; rfl; rfl; rfl)
      | ((with_reducible refine wpList_store_new (o := ⟨none, .store 23 (.tmp 4) (.tmp 15), _, _, _, _⟩) ?_ _ (.tmp 4) (.tmp 15) ?_ (w.heap.size + 1) Y ?_ ?_ 23 A32 HGR'.out HYs.out HYl.out HY1.out ?_); rfl; rfl; rfl; rfl; intro w5 Hg5 Hu5))
        refine bodyPost_ret (results_cell_row rfl _ _ (w.heap.size + 1) 23 Y (0, 0) _ rfl Hg5.out Tryd.underlying23 rfl HYs.out) rfl ?_
        exact ⟨by rw [← HY.out], HUF.out.trans (Hu5.out.mono (fun k hk e => .inr (by omega)))⟩
  · have hdec : decide (a < 1) = false := by simp; omega
    rcases Int.lt_or_le a 32 with hhi | hhi
    · obtain ⟨m, rfl⟩ : ∃ m : Nat, a = m := ⟨a.toNat, by omega⟩
      have Hn : Hid (cutN (m : Int) = m) := by show _ = _; unfold cutN; omega
      clear h1 h2
      have HS : Hid (LC w.heap.size (w.heap.size + 1) m D w (.int .i64 (m : Int)) ((w.alloc (.cells X 23)).alloc (.cells A32 23))) := by
        refine ⟨m, Nat.le_refl _, by omega, rfl, ?_, HRR.out, HU0.out⟩
        rw [Nat.sub_self, List.replicate_zero, List.append_nil, List.take_append_drop]
        exact hR.out
      clear hz
      go_enter Tryd.func66, Tryd.ntmps66
      go_wp2
      go_loopw [5] (fun i wr => LC w.heap.size (w.heap.size + 1) m D w i wr) (fun i _ => (32 - intOf i).toNat)
      case atStart => exact HS.out
      case round =>
        clear HS
        obtain ⟨j, hj1, hj2, rfl, hr, hr0, hu⟩ := hrel
        by_cases hlt : j < 32
        · have hltI : (j : Int) < 32 := by omega
          have HN : Hid (Row (wr.setCell ⟨w.heap.size, j, none⟩ (u8 0)) w.heap.size 23 ((D.take m ++ List.replicate (j + 1 - m) 0 ++ D.drop (j + 1)).map u8)) := by
            show Row _ _ _ _
            rw [← LC_set D m j HD.out hj1 hlt, List.map_set]
            exact hr.set j _
          have HN0 : Hid (Row (wr.setCell ⟨w.heap.size, j, none⟩ (u8 0)) (w.heap.size + 1) 23 ((List.replicate 32 (0 : UInt8)).map u8)) := hr0.far (by simp) _
          have HU : Hid (Upd (fun _ => False) w (wr.setCell ⟨w.heap.size, j, none⟩ (u8 0))) := hu.put _ _ (.inr (Nat.le_refl _)) _
          have c0 : wr.cell? ⟨w.heap.size, j, none⟩ = some (((D.take m ++ List.replicate (j - m) 0 ++ D.drop j).map u8).getD j (u8 0)) := by
            have hl : j < ((D.take m ++ List.replicate (j - m) 0 ++ D.drop j).map u8).length := by simp [HD.out]; omega
            rw [hr.cell, List.getD_eq_getElem?_getD, List.getElem?_eq_getElem hl]
            rfl
          have f0 := hr.frozen j
          clear hr hr0 hu
          go_wp2
          go_roundw
          case rel => exact ⟨j + 1, by omega, by omega, by go_num, HN.out, HN0.out, HU.out⟩
          case measure => simp [intOf]; omega
        · obtain rfl : j = 32 := by omega
          rw [show ((32 : Nat) : Int) = 32 from rfl]
          have HG2 : Hid (wr.heap[w.heap.size]? = some (.cells Y 23 (0, 0))) := by
            show _ = _
            rw [HY.out]
            unfold cut
            rw [Hn.out]
            have h := hr
            rw [List.drop_eq_nil_of_le (by rw [HD.out]; omega), List.append_nil] at h
            exact h
          have HGR' : Hid (wr.heap[w.heap.size + 1]? = some (.cells A32 23 (0, 0))) := hr0
          have HUF := Lib.hid hu
          clear hr hr0 hu hlt hj1 hj2
          go_wp2_with (first
        | ((with_reducible refine wpList_load_row (o := ⟨some 15, _, _, _, _, _⟩) ?_ _ (.tmp 2) ?_ w.heap.size ?_ 23 Y (0, 0) _ HG2.out Tryd.underlying23 ?_ HYs.out ?_); rfl; rfl; rfl; rfl)
        | ((with_reducible refine wpList_store_new (o := ⟨none, .store 23 (.tmp 4) (.tmp 15), _, _, _, _⟩) ?_ _ (.tmp 4) (.tmp 15) ?_ (w.heap.size + 1) Y ?_ ?_ 23 A32 HGR'.out HYs.out HYl.out HY1.out ?_); rfl; rfl; rfl; rfl; intro w5 Hg5 Hu5))
          refine bodyPost_ret (results_cell_row rfl _ _ (w.heap.size + 1) 23 Y (0, 0) _ rfl Hg5.out Tryd.underlying23 rfl HYs.out) rfl ?_
          exact ⟨by rw [← HY.out], HUF.out.trans (Hu5.out.mono (fun k hk e => .inr (by omega)))⟩
    · have Hn : Hid (cutN a = 32) := by show _ = _; unfold cutN; omega
      clear h1 h2
      have hx : ¬ a < 32 := by omega
      have hxI : decide (a < 32) = false := by simpa using hx
      have HG2 : Hid (((w.alloc (.cells X 23)).alloc (.cells A32 23)).heap[w.heap.size]? = some (.cells Y 23 (0, 0))) := by
        show _ = _
        rw [HY.out]
        unfold cut
        rw [Hn.out, List.take_of_length_le (by rw [HD.out]; omega), Nat.sub_self, List.replicate_zero, List.append_nil]
        exact hR.out
      have HGR' : Hid (((w.alloc (.cells X 23)).alloc (.cells A32 23)).heap[w.heap.size + 1]? = some (.cells A32 23 (0, 0))) := HRR.out
      have HUF := HU0
      go_enter Tryd.func66, Tryd.ntmps66
      go_wp2
      refine wp_loop_rounds 1 ?_
      rw [rounds_succ]
      go_wp2_with (first
        | ((with_reducible refine wpList_load_row (o := ⟨some 15, _, _, _, _, _⟩) ?_ _ (.tmp 2) ?_ w.heap.size ?_ 23 Y (0, 0) _ HG2.out Tryd.underlying23 ?_ HYs.out ?_); rfl; rfl; rfl; rfl)
        | ((with_reducible refine wpList_store_new (o := ⟨none, .store 23 (.tmp 4) (.tmp 15), _, _, _, _⟩) ?_ _ (.tmp 4) (.tmp 15) ?_ (w.heap.size + 1) Y ?_ ?_ 23 A32 HGR'.out HYs.out HYl.out HY1.out ?_); rfl; rfl; rfl; rfl; intro w5 Hg5 Hu5))
      refine bodyPost_ret (results_cell_row rfl _ _ (w.heap.size + 1) 23 Y (0, 0) _ rfl Hg5.out Tryd.underlying23 rfl HYs.out) rfl ?_
      exact ⟨by rw [← HY.out], HUF.out.trans (Hu5.out.mono (fun k hk e => .inr (by omega)))⟩
end Go.Proofs.YtiglaeipbcmlnaaDoor.CutW

/-
  docketref2.Text, Of.
-/
namespace Go.Proofs.YtiglaeipbcmlnaaDoor.RefOf
open Go.RowKit Sha TurnW Mem RowW CopyW SumH NewW EqW BookW SplitL SplitM HeldW RefMac OfW CutW RefW3
set_option linter.unusedVariables false
set_option linter.unusedSimpArgs false

theorem SlL.toE {w : World} {v : Value} {ts : List (List UInt8)} {O : Nat → Prop} (h : SlL w v ts O) : SlE w v ts O := by
  obtain ⟨ao, cap, pv, rfl, h3, ho, h4⟩ := h
  refine ⟨ao, cap, pv, rfl, h3, fun a ha => ⟨(h4 a ha).1, fun _ => ho _ (by subst ha; simp [own, Value.ownBlock]), fun i hi => ?_⟩⟩
  obtain ⟨hc, hs, hp⟩ := (h4 a ha).2 i hi
  refine ⟨hc, ?_, fun _ => hp⟩
  obtain ⟨ao', cap', he, h1, h2, h5, h6⟩ := id hs
  exact ⟨ao', cap', he, h1, h2, h5, fun _ => hs⟩
theorem own_lit (w : World) (c : UInt8) (x : Int) (hx : x = (c.toNat : Int)) : (w.alloc (.cells #[.int .u8 x] 5)).ownsRow 0 5 1 (.slice (some ⟨w.heap.size, 0, none⟩) 1 1) 1 ([c].map u8) := by
  subst hx
  exact ⟨by simp, .inr ⟨w.heap.size, 1, _, rfl, Nat.zero_le _, heap_alloc_new _ _, Nat.le_refl _, by unfold maxLen; omega, by simp, by simp [u8]⟩⟩
def RTextAt (dom : Int) (ts : List (List UInt8)) (w : World) (e : Ending) (w' : World) : Prop :=
  ∃ ao m cap, e = .returned (.slice ao m cap) ∧ m = (cat ts).length + 1 ∧ w'.ownsRow 0 5 1 (.slice ao m cap) m ((OfW.byteOf dom :: cat ts).map u8) ∧ (∀ k, own (.slice ao m cap) k → w.heap.size ≤ k) ∧ Upd (fun _ => False) w w'
def LRT (n : Nat) (c : UInt8) (ts : List (List UInt8)) (w0 : World) (v i : Value) (wr : World) : Prop :=
  ∃ j m : Nat, j ≤ n ∧ i = .int .i64 j ∧ m = (c :: cat (ts.take j)).length ∧ wr.ownsRow 0 5 1 v m ((c :: cat (ts.take j)).map u8) ∧ (∀ k, own v k → w0.heap.size ≤ k) ∧ Upd (fun _ => False) w0 wr

set_option maxHeartbeats 4000000 in
set_option maxRecDepth 100000 in
theorem rtext_el (dom : Int) (ao : Option Addr) (n cap : Nat) (ts : List (List UInt8)) (O : Nat → Prop) (w : World) (hs : SlE w (.slice ao n cap) ts O) (hO : ∀ k, O k → k < w.heap.size) (hn : n ≤ 140737488355328) (hcat : (cat ts).length ≤ 140737488350000) :
    Calls Tryd.prog 40 #[.int .i64 dom, .slice ao n cap] w (RTextAt dom ts w) := by
  have hnl : n = ts.length := by obtain ⟨_, _, _, h, _⟩ := hs; injection h
  obtain ⟨c, hc⟩ : ∃ c, c = OfW.byteOf dom := ⟨_, rfl⟩
  have hv := v_byteOf dom
  rw [← hc] at hv
  have HX : Hid (dom % 256 = (c.toNat : Int)) := by unfold u8 at hv; injection hv with _ h; exact h.symm
  have HL0 : Hid (LRT n c ts w (.slice (some ⟨w.heap.size, 0, none⟩) 1 1) (.int .i64 0) (w.alloc (.cells #[.int .u8 (dom % 256)] 5))) :=
    ⟨0, 1, Nat.zero_le _, rfl, by simp [cat], by have h := own_lit w c _ HX.out; simpa [cat] using h, fun k hk => by have := WriteW.own_at hk; omega, (Upd.refl _ _).alloc _⟩
  have Hnl := Lib.hid hnl
  have Hs := Lib.hid hs
  have HO := Lib.hid hO
  have Hc := Lib.hid hc
  have Hcat := Lib.hid hcat
  clear hnl hs hO hc hv hcat
  go_enter Tryd.func40, Tryd.ntmps40
  go_wp2
  go_loopw [5, 6] (fun v i wr => LRT n c ts w v i wr) (fun _ i _ => (n - (intOf i).toNat))
  case atStart => exact HL0.out
  case round =>
    clear HL0
    obtain ⟨j, m, hj, rfl, hm, hown, hno, hu⟩ := hrel
    have HM := Lib.hid hm
    have HO' := Lib.hid hown
    have HN := Lib.hid hno
    have HU := Lib.hid hu
    clear hm hown hno hu
    obtain ⟨aw, cw, hv6⟩ := SumsW.own_form HO'.out
    subst hv6
    by_cases hlt : j < n
    · have hltI : (j : Int) < (n : Int) := by omega
      have hjt : j < ts.length := by have := Hnl.out; omega
      obtain ⟨ao', cap', pv, he, h3, h4⟩ := Hs.out.upd HU.out (fun _ _ => id)
      injection he with e1 e2 e3
      subst e1 e3
      clear e2
      obtain ⟨⟨pa, oa, sa⟩, rfl⟩ : ∃ ad, ao = some ad := by
        cases ao with
        | some ad => exact ⟨ad, rfl⟩
        | none => have := h3 rfl; omega
      obtain ⟨hsa, hpa, h5⟩ := h4 _ rfl
      obtain rfl : sa = none := hsa
      obtain ⟨hc, hel, hpo⟩ := h5 j hjt
      rw [add_none] at hc
      obtain ⟨p, hp⟩ : ∃ p, p = ts.getD j [] := ⟨_, rfl⟩
      obtain ⟨pj, hpj⟩ : ∃ x, x = pv j := ⟨_, rfl⟩
      rw [← hp, ← hpj] at hel hpo
      rw [← hpj] at hc
      obtain ⟨d, hd⟩ : ∃ d, d = c :: cat (ts.take j) := ⟨_, rfl⟩
      have HCn : Hid (c :: cat (ts.take (j + 1)) = d ++ p) := by show _ = _; rw [cat_take ts j hjt, ← hp, hd]; rfl
      rw [← hd] at HO' HM
      have hcp : d.length + p.length ≤ 140737488350001 := by
        have h1 := cat_len_take ts (j + 1)
        have h2 := congrArg List.length HCn.out
        rw [List.length_append, List.length_cons] at h2
        have := Hcat.out
        omega
      have HE := Lib.hid hel
      obtain ⟨pao, pcap, hpf, _⟩ := hel
      have Hl1 : Hid (d.length + p.length ≤ maxLen) := by show _ ≤ _; unfold maxLen; omega
      have Hl2 : Hid (d.length + p.length ≤ 140737488355328) := by show _ ≤ _; omega
      obtain ⟨m', hm'⟩ : ∃ x, x = d.length + p.length := ⟨_, rfl⟩
      have HM' := Lib.hid hm'
      clear h3 h4 h5 hp hpj hd hpo hpa hjt hcp hm'
      subst hpf
      go_wp2_with ((at_builtin; (refine wpList_append_el _ (o := ⟨some 21, _, _, _, _, _⟩) ?_ (.tmp 16) (.tmp 20) ?_ (.slice aw m cw) m d p ?_ HM.out HO'.out (.slice pao p.length pcap) ?_ HE.out Hl1.out Hl2.out m' HM'.out ?_); rfl; rfl; rfl; rfl; intro a5 c5 w5 HO5 HG5 HA5))
      have HU5 : Hid (Upd (fun _ => False) w w5) := HU.out.trans ((Upd.grown HG5.out (fun k hk => hk) : Upd (fun k => own (.slice aw m cw) k) wr w5).mono (fun k _ hk => .inr (HN.out k hk)))
      have HR5 : Hid (LRT n c ts w (.slice a5 m' c5) (.int .i64 ((j + 1 : Nat) : Int)) w5) := by
        refine ⟨j + 1, m', by omega, rfl, by rw [HCn.out, List.length_append]; exact HM'.out, by rw [HCn.out]; exact HO5.out, fun k hk => ?_, HU5.out⟩
        rcases of_at HA5.out k hk with h | h
        · exact HN.out k h
        · have := HU.out.size; omega
      clear HO5 HG5 HA5 HU5 HE HM HO' HCn Hl1 Hl2 HM'
      go_roundw
      case rel =>
        rw [show ((j : Int) + 1) = ((j + 1 : Nat) : Int) by omega]
        exact HR5.out
      case measure => simp [intOf]; omega
    · have hltI : ¬ (j : Int) < (n : Int) := by omega
      have hdI : decide ((j : Int) < (n : Int)) = false := by simpa using hltI
      have HP : Hid (RTextAt dom ts w (.returned (.slice aw m cw)) wr) := by
        have h1 : ts.take j = ts := List.take_of_length_le (by have := Hnl.out; omega)
        have h2 := HM.out
        have h3 := HO'.out
        rw [h1] at h2 h3
        exact ⟨aw, m, cw, rfl, by simpa using h2, by rw [← Hc.out]; exact h3, HN.out, HU.out⟩
      clear HM HO' HN HU
      go_wp2
      go_ret
      exact HP.out

set_option maxHeartbeats 600000 in
set_option maxRecDepth 100000 in
theorem rof_el (width : Int) (hw : -9223372036854775808 ≤ width ∧ width ≤ 9223372036854775807) (dom : Int) (ao : Option Addr) (n cap : Nat) (ts : List (List UInt8)) (O : Nat → Prop) (w : World) (hs : SlE w (.slice ao n cap) ts O) (hO : ∀ k, O k → k < w.heap.size)
    (hn : n ≤ 140737488355328) (hcat : (cat ts).length ≤ 140737488350000) :
    Calls Tryd.prog 42 #[.int .i64 width, .int .i64 dom, .slice ao n cap] w fun e w' => e = .returned (.agg ((ofM width dom ts).map u8).toArray) ∧ Upd (fun _ => False) w w' := by
  obtain ⟨l, hl⟩ : ∃ l, l = OfW.byteOf dom :: cat ts := ⟨_, rfl⟩
  have HE : Hid (ofM width dom ts = cut (sha l) width) := by show _ = _; rw [hl]; rfl
  rw [HE.out]
  obtain ⟨Y, hY⟩ : ∃ Y, Y = ((cut (sha l) width).map u8).toArray := ⟨_, rfl⟩
  have hl32 : (cut (sha l) width).length = 32 := cut_len _ _ rfl
  have HY1 : Hid (Y.all (·.oneCell') = true) := by show _ = _; rw [hY]; simpa using one_of (cut (sha l) width)
  have HYs : Hid ((Tryd.prog.info? 23).map (·.size) = some Y.size) := by show _ = _; rw [size32, hY]; simp [hl32]
  have HYl : Hid (AD.size = Y.size) := by show _ = _; rw [hY]; simp [hl32, AD]
  have HY := Lib.hid hY
  have hu0 : Upd (fun _ => False) w (w.alloc (.cells AD 23)) := (Upd.refl _ w).alloc _
  have HT := Lib.hid (rtext_el dom ao n cap ts O _ (hs.upd hu0 (fun _ _ => id)) (fun k h => by have := hO k h; have := hu0.size; omega) hn hcat)
  have HU0 := Lib.hid hu0
  have HR0 : Hid ((w.alloc (.cells AD 23)).heap[w.heap.size]? = some (.cells AD 23 (0, 0))) := heap_alloc_new w _
  have Hcat := Lib.hid hcat
  have Hw := Lib.hid hw
  have hz := zeroD
  have Hl := Lib.hid hl
  clear hY hs hO hn hcat hl32 hu0 hw hl
  go_enter Tryd.func42, Tryd.ntmps42
  go_wp2_with fail
  refine HT.out.mono ?_
  rintro e w1 ⟨a1, m1, c1, rfl, hm1, hown, hno, hu1⟩
  rw [← Hl.out] at hown
  have hml : m1 = l.length := by rw [Hl.out, List.length_cons, hm1]
  have HS1 : Hid (Sl w1 (.slice a1 m1 c1) l) := by
    rw [hml] at hown ⊢
    exact Sl.of_own hown
  have HSm := Lib.hid (refsum_any a1 m1 c1 l w1 HS1.out (own_lt hown) (by have := Hcat.out; omega))
  have HU1 := Lib.hid hu1
  clear hown hno hu1 hml hm1
  go_wp2_with (first
    | (go_at_call 18; refine HSm.out.mono ?_; rintro e w2 ⟨rfl, hu2⟩; have HU2 := Lib.hid hu2; clear hu2)
    | (go_at_call 66; refine (refcut_any (sha l) rfl width Hw.out _).mono ?_; rintro e w3 ⟨rfl, hu3⟩; have HU3 := Lib.hid hu3; have HR3 : Hid (w3.heap[w.heap.size]? = some (.cells AD 23 (0, 0))) := (hu3.block _ (by have := lt_of_block HR0.out; have := HU1.out.size; have := HU2.out.size; omega) id).trans ((HU2.out.block _ (by have := lt_of_block HR0.out; have := HU1.out.size; omega) id).trans ((HU1.out.block _ (lt_of_block HR0.out) id).trans HR0.out)); clear hu3)
    | ((with_reducible refine wpList_store_new (o := ⟨none, .store 23 (.tmp 6) (.tmp 12), _, _, _, _⟩) ?_ _ (.tmp 6) (.tmp 12) ?_ w.heap.size Y ?_ ?_ 23 AD HR3.out HYs.out HYl.out HY1.out ?_); rfl; rfl; rfl; (rw [HY.out]; rfl); intro w4 Hg4 Hu4))
  refine bodyPost_ret (results_cell_row rfl _ _ w.heap.size 23 Y (0, 0) _ rfl Hg4.out Tryd.underlying23 rfl HYs.out) rfl ?_
  exact ⟨by rw [← HY.out], (((HU0.out.trans (HU1.out.mono (fun _ _ h => h.elim))).trans (HU2.out.mono (fun _ _ h => h.elim))).trans (HU3.out.mono (fun _ _ h => h.elim))).trans (Hu4.out.mono (fun k hk e => .inr (by omega)))⟩

theorem rof_any (width : Int) (hw : -9223372036854775808 ≤ width ∧ width ≤ 9223372036854775807) (dom : Int) (ao : Option Addr) (cap : Nat) (ts : List (List UInt8)) (O : Nat → Prop) (w : World) (hs : SlL w (.slice ao ts.length cap) ts O) (hO : ∀ k, O k → k < w.heap.size)
    (hn : ts.length ≤ 140737488355328) (hcat : (cat ts).length ≤ 140737488350000) :
    Calls Tryd.prog 42 #[.int .i64 width, .int .i64 dom, .slice ao ts.length cap] w fun e w' => e = .returned (.agg ((ofM width dom ts).map u8).toArray) ∧ Upd (fun _ => False) w w' :=
  rof_el width hw dom ao ts.length cap ts O w (SlL.toE hs) hO hn hcat
end Go.Proofs.YtiglaeipbcmlnaaDoor.RefOf

/-
  append of a string to a row of bytes: where the new row lies; []byte(s).
-/
namespace Go.Proofs.YtiglaeipbcmlnaaDoor.AppS
open Go.RowKit Mem
set_option linter.unusedVariables false

/-- where a row lies behind an append of a string -/
theorem str_where {P : Program} (w : World) (base : Nat) (t u ty e : TypeId) (i : TypeInfo) (ht : P.underlying t = some (.slice e)) (hu : P.underlying u = some .string) (hi : P.info? e = some i) (hz : i.zero = some (.int .u8 0))
    (hsize : i.size = 1) (hby : i.bytes = 1) (v : Value) (n : Nat) (xs : List Value) (hown : w.ownsRow base e 1 v n xs) (s : ByteArray) (h63 : n + s.size ≤ maxLen) (hbytes : n + s.size ≤ 140737488355328)
    {v' : Value} {w' : World} (hr : (Builtin.append_ #[t, u] ty #[v, .string s]).run P w = .ok v' w') (hnil : v' = .slice none 0 0 ↔ v = .slice none 0 0 ∧ s.size = 0) :
    v'.ownBlock = v.ownBlock ∨ v'.ownBlock = some w.heap.size := by
  have hsmall : n + s.size ≤ 9223372036854775807 := by simp only [maxLen] at h63; omega
  have hxl : xs.length = n := by simpa using hown.1
  rcases hown.2 with ⟨rfl, rfl⟩ | ⟨g, cap, cur, rfl, hbg, hg, hnc, hcm, hcs, htake⟩
  · by_cases hm : s.size = 0
    · left; rw [hnil.2 ⟨rfl, hm⟩]
    · have hr2 := run_append_nil_string (P := P) w t u ty e i (.int .u8 0) ht hu hi hz s (by omega) (by omega) (by rw [hby]; omega)
      rw [hr] at hr2
      cases hr2
      exact .inr rfl
  · by_cases hroom : n + s.size ≤ cap
    · have hcs' : cur.size = cap := by simpa using hcs
      have hr2 := Lib.run_append_room_string (P := P) w t u ty e i ht hu hi hsize g n cap cur hg s hroom (by omega)
      rw [hr] at hr2
      cases hr2
      exact .inl rfl
    · have holds : ∀ j u, xs[j]? = some u → w.cell? ((⟨g, 0, none⟩ : Addr).add j) = some u := hown.cells (g := g) rfl
      have hr2 := Lib.run_append_grow_string (P := P) w t u ty e i (.int .u8 0) ht hu hi hz ⟨g, 0, none⟩ n cap xs (by rw [hsize]; simpa using hxl) holds s (by omega) (by omega) (by rw [hby]; exact growslice_fits (by omega) (by omega))
      rw [hr] at hr2
      cases hr2
      exact .inr rfl

theorem wpList_append_str {P : Program} (w : World) {ops : Array Oper} {rest : List Oper} {o : Oper} {a : Act} {Q : Exit → Act → World → Prop} (hgd : o.guard = none) (sl x : Operand) (t u : TypeId)
    (ho : o.op = .call { callee := .builtin .append, args := #[sl, x], argTypes := #[t, u] })
    (base : Nat) (e : TypeId) (i : TypeInfo) (ht : P.underlying t = some (.slice e)) (hu : P.underlying u = some .string) (hi : P.info? e = some i) (hz : i.zero = some (.int .u8 0))
    (hsize : i.size = 1) (hby : i.bytes = 1)
    (v : Value) (n : Nat) (xs : List Value) (hs : a.eval sl = v) (hown : w.ownsRow base e 1 v n xs) (s : ByteArray) (hx : a.eval x = .string s)
    (h63 : n + s.size ≤ maxLen) (hbytes : n + s.size ≤ 140737488355328) (hbase : base ≤ w.heap.size)
    (h : ∀ v' w', w'.ownsRow base e 1 v' (n + s.size) (xs ++ Lib.strCells s) → w.grownBy w' v.ownBlock → (v'.ownBlock = v.ownBlock ∨ v'.ownBlock = some w.heap.size) → wpList P ops Q rest (a.put o.dst v') w') : wpList P ops Q (o :: rest) a w := by
  refine wpList_plain hgd fun K hK => ?_
  obtain ⟨v', w', hr, h2, h3, h4⟩ := Lib.run_append_own_string (P := P) w base t u o.type e i ht hu hi hz hsize hby v n xs hown s h63 hbytes hbase
  have h5 := str_where w base t u o.type e i ht hu hi hz hsize hby v n xs hown s h63 hbytes hr h4
  unfold Oper.wp execOp
  simp only [ho, resolve, invoke, builtin, Sem.run_bind, Sem.run_pure, Result.andThen_ok, List.map_toArray, List.map_cons, List.map_nil, hs, hx, hr]
  exact hK _ _ (h v' w' h2 h3 h5)

theorem strCells_eq (l : List UInt8) : Lib.strCells ⟨l.toArray⟩ = l.map u8 := by simp [Lib.strCells, u8]

/-- []byte(s): new memory -/
theorem conv_str (w : World) (l : List UInt8) (hl : l.length ≤ 140737488355000) :
    ∃ w1 cap, (convert 9 25 (.string ⟨l.toArray⟩)).run Tryd.prog w = .ok (.slice (some ⟨w.heap.size, 0, none⟩) l.length cap) w1 ∧ Sl w1 (.slice (some ⟨w.heap.size, 0, none⟩) l.length cap) l ∧ Upd (fun _ => False) w w1 := by
  have hsz : (ByteArray.mk l.toArray).size = l.length := by simp [ByteArray.size]
  have h := Lib.run_convert_string_bytes (P := Tryd.prog) w 9 25 5 ⟨l.toArray⟩ Tryd.underlying9 Tryd.underlying25 Tryd.underlying5
  rw [hsz] at h
  refine ⟨_, _, h, ⟨_, _, rfl, ?_, ?_, by simp, fun a ha => ?_⟩, ?_, ?_, ?_, ?_, fun k hk _ => Lib.bytesWorld_at_old w _ _ k hk⟩
  · have h2 := grownCap_ge w (ByteArray.mk l.toArray).size 0 5
    rwa [hsz] at h2
  · have h2 := grownCap_le_maxLen w (ByteArray.mk l.toArray).size 0 5 (by rw [hsz]; unfold maxLen; omega)
    rwa [hsz] at h2
  · injection ha with ha
    subst ha
    refine ⟨rfl, fun i hi => ?_⟩
    have h2 := Lib.bytesWorld_cell w 5 ⟨l.toArray⟩ i (by rw [hsz]; exact hi)
    have e : (⟨w.heap.size, 0, none⟩ : Addr).add i = ⟨w.heap.size, i, none⟩ := by unfold Addr.add; split <;> simp_all
    rw [e, h2]
    rfl
  · unfold Lib.bytesWorld World.freeze; rw [if_neg (by decide)]; rfl
  · unfold Lib.bytesWorld World.freeze; rw [if_neg (by decide)]; rfl
  · unfold Lib.bytesWorld World.freeze; rw [if_neg (by decide)]; rfl
  · rw [Lib.bytesWorld_size]; omega
end Go.Proofs.YtiglaeipbcmlnaaDoor.AppS

/-
  digest.Node, Link.
-/
namespace Go.Proofs.YtiglaeipbcmlnaaDoor.TabN
open Go.RowKit Sha TurnW Mem RowW SpreadW MixW HashM CopyW WriteW WriteN EndW SumH NewW EqW CutW OfW LeafW BranchW
set_option linter.unusedVariables false
set_option linter.unusedSimpArgs false

set_option maxHeartbeats 4000000 in
set_option maxRecDepth 100000 in
theorem node_any (width : Int) (xs ys : List UInt8) (hx : xs.length = 32) (hy : ys.length = 32) (w : World)
    (hk : Kw w) (hg : 0 < w.heap.size) :
    Calls Tryd.prog 26 #[.int .i64 width, .agg (xs.map u8).toArray, .agg (ys.map u8).toArray] w fun e w' => e = .returned (.agg ((ofM width 1 [xs, ys]).map u8).toArray) ∧ Upd (fun _ => False) w w' := by
  obtain ⟨X, hX⟩ : ∃ X, X = (xs.map u8).toArray := ⟨_, rfl⟩
  obtain ⟨Z, hZ⟩ : ∃ Z, Z = (ys.map u8).toArray := ⟨_, rfl⟩
  obtain ⟨Y, hY⟩ : ∃ Y, Y = ((ofM width 1 [xs, ys]).map u8).toArray := ⟨_, rfl⟩
  have hl32 := of_len width 1 [xs, ys]
  have HY1 : Hid (Y.all (·.oneCell') = true) := by show _ = _; rw [hY]; simpa using one_of (ofM width 1 [xs, ys])
  have HYs : Hid ((Tryd.prog.info? 23).map (·.size) = some Y.size) := by show _ = _; rw [size32, hY]; simp [hl32]
  have HYl : Hid (AD.size = Y.size) := by show _ = _; rw [hY]; simp [hl32, AD]
  have HY := Lib.hid hY
  obtain ⟨w3, hw3⟩ : ∃ w3, w3 = ((w.alloc (.cells X 23)).alloc (.cells Z 23)).alloc (.cells AD 23) := ⟨_, rfl⟩
  have hs3 : w3.heap.size = w.heap.size + 3 := by rw [hw3]; simp
  have hu3 : Upd (fun _ => False) w w3 := by rw [hw3]; exact (((Upd.refl _ w).alloc _).alloc _).alloc _
  have hgx : w3.heap[w.heap.size]? = some (.cells (xs.map u8).toArray 23 (0, 0)) := by
    rw [hw3, ← hX, Below.heap_alloc _ _ _ (by simp; omega)]; exact heap_alloc2_old w _ _
  have hgz : w3.heap[w.heap.size + 1]? = some (.cells (ys.map u8).toArray 23 (0, 0)) := by
    rw [hw3, ← hZ, Below.heap_alloc _ _ _ (by simp)]; exact heap_alloc2_new w _ _
  have hgr : w3.heap[w.heap.size + 2]? = some (.cells AD 23 (0, 0)) := by
    rw [hw3]; have h := heap_alloc_new ((w.alloc (.cells X 23)).alloc (.cells Z 23)) (.cells AD 23); simpa using h
  obtain ⟨w4, hw4⟩ : ∃ w4, w4 = w3.drew.alloc (.cells #[.slice (some ⟨w.heap.size, 0, none⟩) 32 32, .slice (some ⟨w.heap.size + 1, 0, none⟩) 32 32] 25) := ⟨_, rfl⟩
  have hs4 : w4.heap.size = w3.heap.size + 1 := by rw [hw4]; first | (simp; done) | (simp; rfl)
  have hu4 : Upd (fun _ => False) w3 w4 := by rw [hw4]; exact (Upd.refl _ w3).drew.alloc _
  have hsx := (sl_row w3 w.heap.size 23 xs _ 32 hx.symm (by rw [hx]; unfold maxLen; omega) hgx).upd hu4 (fun _ _ => id)
  have hsz := (sl_row w3 (w.heap.size + 1) 23 ys _ 32 hy.symm (by rw [hy]; unfold maxLen; omega) hgz).upd hu4 (fun _ _ => id)
  have hnew : w4.heap[w3.heap.size]? = some (.cells #[.slice (some ⟨w.heap.size, 0, none⟩) 32 32, .slice (some ⟨w.heap.size + 1, 0, none⟩) 32 32] 25 (0, 0)) := by rw [hw4]; exact heap_alloc_new w3.drew _
  have HO := Lib.hid (of_any width 1 _ 2 [xs, ys] (fun k => k < w.heap.size + 4) w4
    (slL_two _ w3.heap.size _ _ xs ys _ hnew hsx hsz (fun k h => by have := own_at h; omega) (fun k h => by have := own_at h; omega) (by omega))
    (by intro k hk; omega) (hk.upd (hu3.trans (hu4.mono fun _ _ h => h.elim)) id)
    (by omega) (by simp) (by simp [cat, hx, hy]))
  have HU4 : Hid (Upd (fun _ => False) w w4) := hu3.trans (hu4.mono fun _ _ h => h.elim)
  have HR4 : Hid (w4.heap[w.heap.size + 2]? = some (.cells AD 23 (0, 0))) := (hu4.block _ (by omega) id).trans hgr
  subst hw4
  have HX := Lib.hid hX
  have HZ := Lib.hid hZ
  have Hw3 := Lib.hid hw3
  have Hs3 := Lib.hid hs3
  have hz := zeroD
  rw [← hX, ← hZ]
  clear hY hX hZ hk hg hl32 hu3 hgx hgz hgr hu4 hsx hsz hnew hs3 hs4
  go_enter Tryd.func26, Tryd.ntmps26
  go_wp2_with fail
  rw [← hw3]
  clear hw3
  refine wp_region_held (S := fun _ => True) (by kernel_rfl) ?_
  refine wpAnyH_take (i := 0) (oi := ⟨some 7, _, _, _, _, _⟩) (v := .int .i64 width) rfl (by kernel_rfl) (by kernel_rfl) (by kernel_rfl) (fun _ _ _ h => h) (Or.inl ⟨by rfl, fun w hS => by go_simp⟩) trivial ?_
  try simp only [Act.put, List.setIfInBounds_toArray, List.set_cons_zero, List.set_cons_succ]
  refine wpAnyH_take (i := 1) (oi := ⟨some 8, _, _, _, _, _⟩) (v := .slice (some ⟨w.heap.size, 0, none⟩) 32 32) rfl (by kernel_rfl) (by kernel_rfl) (by kernel_rfl) (fun _ _ _ h => h) (Or.inl ⟨by rfl, fun w hS => by go_simp⟩) trivial ?_
  try simp only [Act.put, List.setIfInBounds_toArray, List.set_cons_zero, List.set_cons_succ]
  refine wpAnyH_take (i := 2) (oi := ⟨some 9, _, _, _, _, _⟩) (v := .slice (some ⟨w.heap.size + 1, 0, none⟩) 32 32) rfl (by kernel_rfl) (by kernel_rfl) (by kernel_rfl) (fun _ _ _ h => h) (Or.inl ⟨by rfl, fun w hS => by go_simp⟩) trivial ?_
  try simp only [Act.put, List.setIfInBounds_toArray, List.set_cons_zero, List.set_cons_succ]
  refine wpAnyH_ready (rs := [3]) (by kernel_rfl) (by simp) ?_
  refine AllReadyH.cons rfl (fun K hK => ?_) AllReadyH.nil
  change ite _ (Oper.wp _ _ _ w3.drew _ _) _
  go_simp
  refine hK.out _ _ trivial (fun hHeld => ?_)
  clear hK K hHeld
  try simp only [Act.put, List.setIfInBounds_toArray, List.set_cons_zero, List.set_cons_succ]
  refine wpAnyH_ready (rs := [4]) (by kernel_rfl) (by simp) ?_
  refine AllReadyH.cons rfl (fun K hK => ?_) AllReadyH.nil
  go_simp
  refine HO.out.mono ?_
  rintro e w5 ⟨rfl, hu5⟩
  have HU5 := Lib.hid hu5
  have HR5 : Hid (w5.heap[w.heap.size + 2]? = some (.cells AD 23 (0, 0))) := (hu5.block _ (lt_of_block HR4.out) id).trans HR4.out
  clear hu5
  refine hK.out _ _ trivial (fun hHeld => ?_)
  clear hK K hHeld
  try simp only [Act.put, List.setIfInBounds_toArray, List.set_cons_zero, List.set_cons_succ]
  refine wpAnyH_ready (rs := [5]) (by kernel_rfl) (by simp) ?_
  refine AllReadyH.cons rfl (fun K hK => ?_) AllReadyH.nil
  rw [if_pos (by rfl)]
  refine wp_store_row 23 (.tmp 6) (.tmp 11) rfl (w.heap.size + 2) Y rfl (by rw [HY.out]; rfl) 23 AD HR5.out HYs.out HYl.out HY1.out ?_
  have Hg6 := Lib.hid (setRow_heap _ _ AD Y _ _ HR5.out)
  have Hu6 : Hid (Upd (fun k => k = w.heap.size + 2) w5 (w5.setRow (w.heap.size + 2) Y)) := Upd.setRow (Upd.refl _ _) _ Y (.inl rfl)
  generalize w5.setRow (w.heap.size + 2) Y = w6 at Hg6 Hu6 ⊢
  refine hK.out _ _ trivial (fun hHeld => ?_)
  clear hK K hHeld
  try simp only [Act.put, List.setIfInBounds_toArray, List.set_cons_zero, List.set_cons_succ]
  refine wpAnyH_done (by kernel_rfl) ?_ _
  go_wp2
  refine bodyPost_ret (results_cell_row rfl _ _ (w.heap.size + 2) 23 Y (0, 0) _ rfl Hg6.out Tryd.underlying23 rfl HYs.out) rfl ?_
  exact ⟨by rw [← HY.out], (HU4.out.trans (HU5.out.mono (fun _ _ h => h.elim))).trans (Hu6.out.mono (fun k hk e => .inr (by omega)))⟩
set_option maxHeartbeats 4000000 in
set_option maxRecDepth 100000 in
theorem link_any (width : Int) (xs ys : List UInt8) (hx : xs.length = 32) (hy : ys.length = 32) (w : World)
    (hk : Kw w) (hg : 0 < w.heap.size) :
    Calls Tryd.prog 30 #[.int .i64 width, .agg (xs.map u8).toArray, .agg (ys.map u8).toArray] w fun e w' => e = .returned (.agg ((ofM width 2 [xs, ys]).map u8).toArray) ∧ Upd (fun _ => False) w w' := by
  obtain ⟨X, hX⟩ : ∃ X, X = (xs.map u8).toArray := ⟨_, rfl⟩
  obtain ⟨Z, hZ⟩ : ∃ Z, Z = (ys.map u8).toArray := ⟨_, rfl⟩
  obtain ⟨Y, hY⟩ : ∃ Y, Y = ((ofM width 2 [xs, ys]).map u8).toArray := ⟨_, rfl⟩
  have hl32 := of_len width 2 [xs, ys]
  have HY1 : Hid (Y.all (·.oneCell') = true) := by show _ = _; rw [hY]; simpa using one_of (ofM width 2 [xs, ys])
  have HYs : Hid ((Tryd.prog.info? 23).map (·.size) = some Y.size) := by show _ = _; rw [size32, hY]; simp [hl32]
  have HYl : Hid (AD.size = Y.size) := by show _ = _; rw [hY]; simp [hl32, AD]
  have HY := Lib.hid hY
  obtain ⟨w3, hw3⟩ : ∃ w3, w3 = ((w.alloc (.cells X 23)).alloc (.cells Z 23)).alloc (.cells AD 23) := ⟨_, rfl⟩
  have hs3 : w3.heap.size = w.heap.size + 3 := by rw [hw3]; simp
  have hu3 : Upd (fun _ => False) w w3 := by rw [hw3]; exact (((Upd.refl _ w).alloc _).alloc _).alloc _
  have hgx : w3.heap[w.heap.size]? = some (.cells (xs.map u8).toArray 23 (0, 0)) := by
    rw [hw3, ← hX, Below.heap_alloc _ _ _ (by simp; omega)]; exact heap_alloc2_old w _ _
  have hgz : w3.heap[w.heap.size + 1]? = some (.cells (ys.map u8).toArray 23 (0, 0)) := by
    rw [hw3, ← hZ, Below.heap_alloc _ _ _ (by simp)]; exact heap_alloc2_new w _ _
  have hgr : w3.heap[w.heap.size + 2]? = some (.cells AD 23 (0, 0)) := by
    rw [hw3]; have h := heap_alloc_new ((w.alloc (.cells X 23)).alloc (.cells Z 23)) (.cells AD 23); simpa using h
  obtain ⟨w4, hw4⟩ : ∃ w4, w4 = w3.drew.alloc (.cells #[.slice (some ⟨w.heap.size, 0, none⟩) 32 32, .slice (some ⟨w.heap.size + 1, 0, none⟩) 32 32] 25) := ⟨_, rfl⟩
  have hs4 : w4.heap.size = w3.heap.size + 1 := by rw [hw4]; first | (simp; done) | (simp; rfl)
  have hu4 : Upd (fun _ => False) w3 w4 := by rw [hw4]; exact (Upd.refl _ w3).drew.alloc _
  have hsx := (sl_row w3 w.heap.size 23 xs _ 32 hx.symm (by rw [hx]; unfold maxLen; omega) hgx).upd hu4 (fun _ _ => id)
  have hsz := (sl_row w3 (w.heap.size + 1) 23 ys _ 32 hy.symm (by rw [hy]; unfold maxLen; omega) hgz).upd hu4 (fun _ _ => id)
  have hnew : w4.heap[w3.heap.size]? = some (.cells #[.slice (some ⟨w.heap.size, 0, none⟩) 32 32, .slice (some ⟨w.heap.size + 1, 0, none⟩) 32 32] 25 (0, 0)) := by rw [hw4]; exact heap_alloc_new w3.drew _
  have HO := Lib.hid (of_any width 2 _ 2 [xs, ys] (fun k => k < w.heap.size + 4) w4
    (slL_two _ w3.heap.size _ _ xs ys _ hnew hsx hsz (fun k h => by have := own_at h; omega) (fun k h => by have := own_at h; omega) (by omega))
    (by intro k hk; omega) (hk.upd (hu3.trans (hu4.mono fun _ _ h => h.elim)) id)
    (by omega) (by simp) (by simp [cat, hx, hy]))
  have HU4 : Hid (Upd (fun _ => False) w w4) := hu3.trans (hu4.mono fun _ _ h => h.elim)
  have HR4 : Hid (w4.heap[w.heap.size + 2]? = some (.cells AD 23 (0, 0))) := (hu4.block _ (by omega) id).trans hgr
  subst hw4
  have HX := Lib.hid hX
  have HZ := Lib.hid hZ
  have Hw3 := Lib.hid hw3
  have Hs3 := Lib.hid hs3
  have hz := zeroD
  rw [← hX, ← hZ]
  clear hY hX hZ hk hg hl32 hu3 hgx hgz hgr hu4 hsx hsz hnew hs3 hs4
  go_enter Tryd.func30, Tryd.ntmps30
  go_wp2_with fail
  rw [← hw3]
  clear hw3
  refine wp_region_held (S := fun _ => True) (by kernel_rfl) ?_
  refine wpAnyH_take (i := 0) (oi := ⟨some 7, _, _, _, _, _⟩) (v := .int .i64 width) rfl (by kernel_rfl) (by kernel_rfl) (by kernel_rfl) (fun _ _ _ h => h) (Or.inl ⟨by rfl, fun w hS => by go_simp⟩) trivial ?_
  try simp only [Act.put, List.setIfInBounds_toArray, List.set_cons_zero, List.set_cons_succ]
  refine wpAnyH_take (i := 1) (oi := ⟨some 8, _, _, _, _, _⟩) (v := .slice (some ⟨w.heap.size, 0, none⟩) 32 32) rfl (by kernel_rfl) (by kernel_rfl) (by kernel_rfl) (fun _ _ _ h => h) (Or.inl ⟨by rfl, fun w hS => by go_simp⟩) trivial ?_
  try simp only [Act.put, List.setIfInBounds_toArray, List.set_cons_zero, List.set_cons_succ]
  refine wpAnyH_take (i := 2) (oi := ⟨some 9, _, _, _, _, _⟩) (v := .slice (some ⟨w.heap.size + 1, 0, none⟩) 32 32) rfl (by kernel_rfl) (by kernel_rfl) (by kernel_rfl) (fun _ _ _ h => h) (Or.inl ⟨by rfl, fun w hS => by go_simp⟩) trivial ?_
  try simp only [Act.put, List.setIfInBounds_toArray, List.set_cons_zero, List.set_cons_succ]
  refine wpAnyH_ready (rs := [3]) (by kernel_rfl) (by simp) ?_
  refine AllReadyH.cons rfl (fun K hK => ?_) AllReadyH.nil
  change ite _ (Oper.wp _ _ _ w3.drew _ _) _
  go_simp
  refine hK.out _ _ trivial (fun hHeld => ?_)
  clear hK K hHeld
  try simp only [Act.put, List.setIfInBounds_toArray, List.set_cons_zero, List.set_cons_succ]
  refine wpAnyH_ready (rs := [4]) (by kernel_rfl) (by simp) ?_
  refine AllReadyH.cons rfl (fun K hK => ?_) AllReadyH.nil
  go_simp
  refine HO.out.mono ?_
  rintro e w5 ⟨rfl, hu5⟩
  have HU5 := Lib.hid hu5
  have HR5 : Hid (w5.heap[w.heap.size + 2]? = some (.cells AD 23 (0, 0))) := (hu5.block _ (lt_of_block HR4.out) id).trans HR4.out
  clear hu5
  refine hK.out _ _ trivial (fun hHeld => ?_)
  clear hK K hHeld
  try simp only [Act.put, List.setIfInBounds_toArray, List.set_cons_zero, List.set_cons_succ]
  refine wpAnyH_ready (rs := [5]) (by kernel_rfl) (by simp) ?_
  refine AllReadyH.cons rfl (fun K hK => ?_) AllReadyH.nil
  rw [if_pos (by rfl)]
  refine wp_store_row 23 (.tmp 6) (.tmp 11) rfl (w.heap.size + 2) Y rfl (by rw [HY.out]; rfl) 23 AD HR5.out HYs.out HYl.out HY1.out ?_
  have Hg6 := Lib.hid (setRow_heap _ _ AD Y _ _ HR5.out)
  have Hu6 : Hid (Upd (fun k => k = w.heap.size + 2) w5 (w5.setRow (w.heap.size + 2) Y)) := Upd.setRow (Upd.refl _ _) _ Y (.inl rfl)
  generalize w5.setRow (w.heap.size + 2) Y = w6 at Hg6 Hu6 ⊢
  refine hK.out _ _ trivial (fun hHeld => ?_)
  clear hK K hHeld
  try simp only [Act.put, List.setIfInBounds_toArray, List.set_cons_zero, List.set_cons_succ]
  refine wpAnyH_done (by kernel_rfl) ?_ _
  go_wp2
  refine bodyPost_ret (results_cell_row rfl _ _ (w.heap.size + 2) 23 Y (0, 0) _ rfl Hg6.out Tryd.underlying23 rfl HYs.out) rfl ?_
  exact ⟨by rw [← HY.out], (HU4.out.trans (HU5.out.mono (fun _ _ h => h.elim))).trans (Hu6.out.mono (fun k hk e => .inr (by omega)))⟩
end Go.Proofs.YtiglaeipbcmlnaaDoor.TabN

/-
  docketref2.Leaf, Node, Link, Branch.
-/
namespace Go.Proofs.YtiglaeipbcmlnaaDoor.TabR
open Go.RowKit Sha TurnW Mem RowW SpreadW MixW HashM CopyW WriteW WriteN EndW SumH NewW EqW CutW OfW LeafW BranchW RefOf
set_option linter.unusedVariables false
set_option linter.unusedSimpArgs false

set_option maxHeartbeats 4000000 in
set_option maxRecDepth 100000 in
theorem rleaf_any (width : Int) (hw : -9223372036854775808 ≤ width ∧ width ≤ 9223372036854775807) (ao : Option Addr) (n cap : Nat) (xs : List UInt8) (w : World) (hs : Sl w (.slice ao n cap) xs) (ho : ∀ k, own (.slice ao n cap) k → k < w.heap.size)
    (hk : True) (hg : True) (hlen : xs.length ≤ 140737488350000) :
    Calls Tryd.prog 25 #[.int .i64 width, .slice ao n cap] w fun e w' => e = .returned (.agg ((ofM width 0 [xs]).map u8).toArray) ∧ Upd (fun _ => False) w w' := by
  obtain ⟨Y, hY⟩ : ∃ Y, Y = ((ofM width 0 [xs]).map u8).toArray := ⟨_, rfl⟩
  have hl32 := of_len width 0 [xs]
  have HY1 : Hid (Y.all (·.oneCell') = true) := by show _ = _; rw [hY]; simpa using one_of (ofM width 0 [xs])
  have HYs : Hid ((Tryd.prog.info? 23).map (·.size) = some Y.size) := by show _ = _; rw [size32, hY]; simp [hl32]
  have HYl : Hid (AD.size = Y.size) := by show _ = _; rw [hY]; simp [hl32, AD]
  have HY := Lib.hid hY
  have hu0 : Upd (fun _ => False) w ((w.alloc (.cells AD 23)).alloc (.cells #[.slice ao n cap] 25)) := ((Upd.refl _ w).alloc _).alloc _
  have hr0 : Row ((w.alloc (.cells AD 23)).alloc (.cells #[.slice ao n cap] 25)) w.heap.size 23 ((List.replicate 32 (0 : UInt8)).map u8) := heap_alloc2_old w _ _
  have HO := Lib.hid (rof_any width hw 0 _ 1 [xs] (fun k => k < w.heap.size + 2) _
    (slL_one _ (w.heap.size + 1) _ xs _ (heap_alloc2_new w (.cells AD 23) (.cells #[.slice ao n cap] 25)) (hs.upd hu0 (fun _ _ => id)) (fun k h => by have := ho k h; omega) (by omega))
    (by intro k hk; simpa using hk) (by simp) (by simpa [cat] using hlen))
  have HU0 := Lib.hid hu0
  have HR0 := Lib.hid hr0
  have hz := zeroD
  clear hY hs ho hk hg hlen hl32 hu0 hr0
  go_enter Tryd.func25, Tryd.ntmps25
  go_wp2_with (first
    | (go_at_call 42; refine HO.out.mono ?_; rintro e w1 ⟨rfl, hu1⟩; have HU1 := Lib.hid hu1; have HR1 : Hid (w1.heap[w.heap.size]? = some (.cells AD 23 (0, 0))) := HR0.out.upd hu1 id; clear hu1)
    | ((with_reducible refine wpList_store_new (o := ⟨none, .store 23 (.tmp 4) (.tmp 8), _, _, _, _⟩) ?_ _ (.tmp 4) (.tmp 8) ?_ w.heap.size Y ?_ ?_ 23 AD HR1.out HYs.out HYl.out HY1.out ?_); rfl; rfl; rfl; (rw [HY.out]; rfl); intro w2 Hg2 Hu2))
  refine bodyPost_ret (results_cell_row rfl _ _ w.heap.size 23 Y (0, 0) _ rfl Hg2.out Tryd.underlying23 rfl HYs.out) rfl ?_
  exact ⟨by rw [← HY.out], (HU0.out.trans (HU1.out.mono (fun _ _ h => h.elim))).trans (Hu2.out.mono (fun k hk e => .inr (by omega)))⟩
set_option maxHeartbeats 4000000 in
set_option maxRecDepth 100000 in
theorem rnode_any (width : Int) (hw : -9223372036854775808 ≤ width ∧ width ≤ 9223372036854775807) (xs ys : List UInt8) (hx : xs.length = 32) (hy : ys.length = 32) (w : World)
    (hk : True) (hg : True) :
    Calls Tryd.prog 27 #[.int .i64 width, .agg (xs.map u8).toArray, .agg (ys.map u8).toArray] w fun e w' => e = .returned (.agg ((ofM width 1 [xs, ys]).map u8).toArray) ∧ Upd (fun _ => False) w w' := by
  obtain ⟨X, hX⟩ : ∃ X, X = (xs.map u8).toArray := ⟨_, rfl⟩
  obtain ⟨Z, hZ⟩ : ∃ Z, Z = (ys.map u8).toArray := ⟨_, rfl⟩
  obtain ⟨Y, hY⟩ : ∃ Y, Y = ((ofM width 1 [xs, ys]).map u8).toArray := ⟨_, rfl⟩
  have hl32 := of_len width 1 [xs, ys]
  have HY1 : Hid (Y.all (·.oneCell') = true) := by show _ = _; rw [hY]; simpa using one_of (ofM width 1 [xs, ys])
  have HYs : Hid ((Tryd.prog.info? 23).map (·.size) = some Y.size) := by show _ = _; rw [size32, hY]; simp [hl32]
  have HYl : Hid (AD.size = Y.size) := by show _ = _; rw [hY]; simp [hl32, AD]
  have HY := Lib.hid hY
  obtain ⟨w3, hw3⟩ : ∃ w3, w3 = ((w.alloc (.cells X 23)).alloc (.cells Z 23)).alloc (.cells AD 23) := ⟨_, rfl⟩
  have hs3 : w3.heap.size = w.heap.size + 3 := by rw [hw3]; simp
  have hu3 : Upd (fun _ => False) w w3 := by rw [hw3]; exact (((Upd.refl _ w).alloc _).alloc _).alloc _
  have hgx : w3.heap[w.heap.size]? = some (.cells (xs.map u8).toArray 23 (0, 0)) := by
    rw [hw3, ← hX, Below.heap_alloc _ _ _ (by simp; omega)]; exact heap_alloc2_old w _ _
  have hgz : w3.heap[w.heap.size + 1]? = some (.cells (ys.map u8).toArray 23 (0, 0)) := by
    rw [hw3, ← hZ, Below.heap_alloc _ _ _ (by simp)]; exact heap_alloc2_new w _ _
  have hgr : w3.heap[w.heap.size + 2]? = some (.cells AD 23 (0, 0)) := by
    rw [hw3]; have h := heap_alloc_new ((w.alloc (.cells X 23)).alloc (.cells Z 23)) (.cells AD 23); simpa using h
  obtain ⟨w4, hw4⟩ : ∃ w4, w4 = w3.drew.alloc (.cells #[.slice (some ⟨w.heap.size, 0, none⟩) 32 32, .slice (some ⟨w.heap.size + 1, 0, none⟩) 32 32] 25) := ⟨_, rfl⟩
  have hs4 : w4.heap.size = w3.heap.size + 1 := by rw [hw4]; first | (simp; done) | (simp; rfl)
  have hu4 : Upd (fun _ => False) w3 w4 := by rw [hw4]; exact (Upd.refl _ w3).drew.alloc _
  have hsx := (sl_row w3 w.heap.size 23 xs _ 32 hx.symm (by rw [hx]; unfold maxLen; omega) hgx).upd hu4 (fun _ _ => id)
  have hsz := (sl_row w3 (w.heap.size + 1) 23 ys _ 32 hy.symm (by rw [hy]; unfold maxLen; omega) hgz).upd hu4 (fun _ _ => id)
  have hnew : w4.heap[w3.heap.size]? = some (.cells #[.slice (some ⟨w.heap.size, 0, none⟩) 32 32, .slice (some ⟨w.heap.size + 1, 0, none⟩) 32 32] 25 (0, 0)) := by rw [hw4]; exact heap_alloc_new w3.drew _
  have HO := Lib.hid (rof_any width hw 1 _ 2 [xs, ys] (fun k => k < w.heap.size + 4) w4
    (slL_two _ w3.heap.size _ _ xs ys _ hnew hsx hsz (fun k h => by have := own_at h; omega) (fun k h => by have := own_at h; omega) (by omega))
    (by intro k hk; omega) (by simp) (by simp [cat, hx, hy]))
  have HU4 : Hid (Upd (fun _ => False) w w4) := hu3.trans (hu4.mono fun _ _ h => h.elim)
  have HR4 : Hid (w4.heap[w.heap.size + 2]? = some (.cells AD 23 (0, 0))) := (hu4.block _ (by omega) id).trans hgr
  subst hw4
  have HX := Lib.hid hX
  have HZ := Lib.hid hZ
  have Hw3 := Lib.hid hw3
  have Hs3 := Lib.hid hs3
  have hz := zeroD
  rw [← hX, ← hZ]
  clear hY hX hZ hk hg hl32 hu3 hgx hgz hgr hu4 hsx hsz hnew hs3 hs4
  go_enter Tryd.func27, Tryd.ntmps27
  go_wp2_with fail
  rw [← hw3]
  clear hw3
  refine wp_region_held (S := fun _ => True) (by kernel_rfl) ?_
  refine wpAnyH_take (i := 0) (oi := ⟨some 7, _, _, _, _, _⟩) (v := .int .i64 width) rfl (by kernel_rfl) (by kernel_rfl) (by kernel_rfl) (fun _ _ _ h => h) (Or.inl ⟨by rfl, fun w hS => by go_simp⟩) trivial ?_
  try simp only [Act.put, List.setIfInBounds_toArray, List.set_cons_zero, List.set_cons_succ]
  refine wpAnyH_take (i := 1) (oi := ⟨some 8, _, _, _, _, _⟩) (v := .slice (some ⟨w.heap.size, 0, none⟩) 32 32) rfl (by kernel_rfl) (by kernel_rfl) (by kernel_rfl) (fun _ _ _ h => h) (Or.inl ⟨by rfl, fun w hS => by go_simp⟩) trivial ?_
  try simp only [Act.put, List.setIfInBounds_toArray, List.set_cons_zero, List.set_cons_succ]
  refine wpAnyH_take (i := 2) (oi := ⟨some 9, _, _, _, _, _⟩) (v := .slice (some ⟨w.heap.size + 1, 0, none⟩) 32 32) rfl (by kernel_rfl) (by kernel_rfl) (by kernel_rfl) (fun _ _ _ h => h) (Or.inl ⟨by rfl, fun w hS => by go_simp⟩) trivial ?_
  try simp only [Act.put, List.setIfInBounds_toArray, List.set_cons_zero, List.set_cons_succ]
  refine wpAnyH_ready (rs := [3]) (by kernel_rfl) (by simp) ?_
  refine AllReadyH.cons rfl (fun K hK => ?_) AllReadyH.nil
  change ite _ (Oper.wp _ _ _ w3.drew _ _) _
  go_simp
  refine hK.out _ _ trivial (fun hHeld => ?_)
  clear hK K hHeld
  try simp only [Act.put, List.setIfInBounds_toArray, List.set_cons_zero, List.set_cons_succ]
  refine wpAnyH_ready (rs := [4]) (by kernel_rfl) (by simp) ?_
  refine AllReadyH.cons rfl (fun K hK => ?_) AllReadyH.nil
  go_simp
  refine HO.out.mono ?_
  rintro e w5 ⟨rfl, hu5⟩
  have HU5 := Lib.hid hu5
  have HR5 : Hid (w5.heap[w.heap.size + 2]? = some (.cells AD 23 (0, 0))) := (hu5.block _ (lt_of_block HR4.out) id).trans HR4.out
  clear hu5
  refine hK.out _ _ trivial (fun hHeld => ?_)
  clear hK K hHeld
  try simp only [Act.put, List.setIfInBounds_toArray, List.set_cons_zero, List.set_cons_succ]
  refine wpAnyH_ready (rs := [5]) (by kernel_rfl) (by simp) ?_
  refine AllReadyH.cons rfl (fun K hK => ?_) AllReadyH.nil
  rw [if_pos (by rfl)]
  refine wp_store_row 23 (.tmp 6) (.tmp 11) rfl (w.heap.size + 2) Y rfl (by rw [HY.out]; rfl) 23 AD HR5.out HYs.out HYl.out HY1.out ?_
  have Hg6 := Lib.hid (setRow_heap _ _ AD Y _ _ HR5.out)
  have Hu6 : Hid (Upd (fun k => k = w.heap.size + 2) w5 (w5.setRow (w.heap.size + 2) Y)) := Upd.setRow (Upd.refl _ _) _ Y (.inl rfl)
  generalize w5.setRow (w.heap.size + 2) Y = w6 at Hg6 Hu6 ⊢
  refine hK.out _ _ trivial (fun hHeld => ?_)
  clear hK K hHeld
  try simp only [Act.put, List.setIfInBounds_toArray, List.set_cons_zero, List.set_cons_succ]
  refine wpAnyH_done (by kernel_rfl) ?_ _
  go_wp2
  refine bodyPost_ret (results_cell_row rfl _ _ (w.heap.size + 2) 23 Y (0, 0) _ rfl Hg6.out Tryd.underlying23 rfl HYs.out) rfl ?_
  exact ⟨by rw [← HY.out], (HU4.out.trans (HU5.out.mono (fun _ _ h => h.elim))).trans (Hu6.out.mono (fun k hk e => .inr (by omega)))⟩
set_option maxHeartbeats 4000000 in
set_option maxRecDepth 100000 in
theorem rlink_any (width : Int) (hw : -9223372036854775808 ≤ width ∧ width ≤ 9223372036854775807) (xs ys : List UInt8) (hx : xs.length = 32) (hy : ys.length = 32) (w : World)
    (hk : True) (hg : True) :
    Calls Tryd.prog 31 #[.int .i64 width, .agg (xs.map u8).toArray, .agg (ys.map u8).toArray] w fun e w' => e = .returned (.agg ((ofM width 2 [xs, ys]).map u8).toArray) ∧ Upd (fun _ => False) w w' := by
  obtain ⟨X, hX⟩ : ∃ X, X = (xs.map u8).toArray := ⟨_, rfl⟩
  obtain ⟨Z, hZ⟩ : ∃ Z, Z = (ys.map u8).toArray := ⟨_, rfl⟩
  obtain ⟨Y, hY⟩ : ∃ Y, Y = ((ofM width 2 [xs, ys]).map u8).toArray := ⟨_, rfl⟩
  have hl32 := of_len width 2 [xs, ys]
  have HY1 : Hid (Y.all (·.oneCell') = true) := by show _ = _; rw [hY]; simpa using one_of (ofM width 2 [xs, ys])
  have HYs : Hid ((Tryd.prog.info? 23).map (·.size) = some Y.size) := by show _ = _; rw [size32, hY]; simp [hl32]
  have HYl : Hid (AD.size = Y.size) := by show _ = _; rw [hY]; simp [hl32, AD]
  have HY := Lib.hid hY
  obtain ⟨w3, hw3⟩ : ∃ w3, w3 = ((w.alloc (.cells X 23)).alloc (.cells Z 23)).alloc (.cells AD 23) := ⟨_, rfl⟩
  have hs3 : w3.heap.size = w.heap.size + 3 := by rw [hw3]; simp
  have hu3 : Upd (fun _ => False) w w3 := by rw [hw3]; exact (((Upd.refl _ w).alloc _).alloc _).alloc _
  have hgx : w3.heap[w.heap.size]? = some (.cells (xs.map u8).toArray 23 (0, 0)) := by
    rw [hw3, ← hX, Below.heap_alloc _ _ _ (by simp; omega)]; exact heap_alloc2_old w _ _
  have hgz : w3.heap[w.heap.size + 1]? = some (.cells (ys.map u8).toArray 23 (0, 0)) := by
    rw [hw3, ← hZ, Below.heap_alloc _ _ _ (by simp)]; exact heap_alloc2_new w _ _
  have hgr : w3.heap[w.heap.size + 2]? = some (.cells AD 23 (0, 0)) := by
    rw [hw3]; have h := heap_alloc_new ((w.alloc (.cells X 23)).alloc (.cells Z 23)) (.cells AD 23); simpa using h
  obtain ⟨w4, hw4⟩ : ∃ w4, w4 = w3.drew.alloc (.cells #[.slice (some ⟨w.heap.size, 0, none⟩) 32 32, .slice (some ⟨w.heap.size + 1, 0, none⟩) 32 32] 25) := ⟨_, rfl⟩
  have hs4 : w4.heap.size = w3.heap.size + 1 := by rw [hw4]; first | (simp; done) | (simp; rfl)
  have hu4 : Upd (fun _ => False) w3 w4 := by rw [hw4]; exact (Upd.refl _ w3).drew.alloc _
  have hsx := (sl_row w3 w.heap.size 23 xs _ 32 hx.symm (by rw [hx]; unfold maxLen; omega) hgx).upd hu4 (fun _ _ => id)
  have hsz := (sl_row w3 (w.heap.size + 1) 23 ys _ 32 hy.symm (by rw [hy]; unfold maxLen; omega) hgz).upd hu4 (fun _ _ => id)
  have hnew : w4.heap[w3.heap.size]? = some (.cells #[.slice (some ⟨w.heap.size, 0, none⟩) 32 32, .slice (some ⟨w.heap.size + 1, 0, none⟩) 32 32] 25 (0, 0)) := by rw [hw4]; exact heap_alloc_new w3.drew _
  have HO := Lib.hid (rof_any width hw 2 _ 2 [xs, ys] (fun k => k < w.heap.size + 4) w4
    (slL_two _ w3.heap.size _ _ xs ys _ hnew hsx hsz (fun k h => by have := own_at h; omega) (fun k h => by have := own_at h; omega) (by omega))
    (by intro k hk; omega) (by simp) (by simp [cat, hx, hy]))
  have HU4 : Hid (Upd (fun _ => False) w w4) := hu3.trans (hu4.mono fun _ _ h => h.elim)
  have HR4 : Hid (w4.heap[w.heap.size + 2]? = some (.cells AD 23 (0, 0))) := (hu4.block _ (by omega) id).trans hgr
  subst hw4
  have HX := Lib.hid hX
  have HZ := Lib.hid hZ
  have Hw3 := Lib.hid hw3
  have Hs3 := Lib.hid hs3
  have hz := zeroD
  rw [← hX, ← hZ]
  clear hY hX hZ hk hg hl32 hu3 hgx hgz hgr hu4 hsx hsz hnew hs3 hs4
  go_enter Tryd.func31, Tryd.ntmps31
  go_wp2_with fail
  rw [← hw3]
  clear hw3
  refine wp_region_held (S := fun _ => True) (by kernel_rfl) ?_
  refine wpAnyH_take (i := 0) (oi := ⟨some 7, _, _, _, _, _⟩) (v := .int .i64 width) rfl (by kernel_rfl) (by kernel_rfl) (by kernel_rfl) (fun _ _ _ h => h) (Or.inl ⟨by rfl, fun w hS => by go_simp⟩) trivial ?_
  try simp only [Act.put, List.setIfInBounds_toArray, List.set_cons_zero, List.set_cons_succ]
  refine wpAnyH_take (i := 1) (oi := ⟨some 8, _, _, _, _, _⟩) (v := .slice (some ⟨w.heap.size, 0, none⟩) 32 32) rfl (by kernel_rfl) (by kernel_rfl) (by kernel_rfl) (fun _ _ _ h => h) (Or.inl ⟨by rfl, fun w hS => by go_simp⟩) trivial ?_
  try simp only [Act.put, List.setIfInBounds_toArray, List.set_cons_zero, List.set_cons_succ]
  refine wpAnyH_take (i := 2) (oi := ⟨some 9, _, _, _, _, _⟩) (v := .slice (some ⟨w.heap.size + 1, 0, none⟩) 32 32) rfl (by kernel_rfl) (by kernel_rfl) (by kernel_rfl) (fun _ _ _ h => h) (Or.inl ⟨by rfl, fun w hS => by go_simp⟩) trivial ?_
  try simp only [Act.put, List.setIfInBounds_toArray, List.set_cons_zero, List.set_cons_succ]
  refine wpAnyH_ready (rs := [3]) (by kernel_rfl) (by simp) ?_
  refine AllReadyH.cons rfl (fun K hK => ?_) AllReadyH.nil
  change ite _ (Oper.wp _ _ _ w3.drew _ _) _
  go_simp
  refine hK.out _ _ trivial (fun hHeld => ?_)
  clear hK K hHeld
  try simp only [Act.put, List.setIfInBounds_toArray, List.set_cons_zero, List.set_cons_succ]
  refine wpAnyH_ready (rs := [4]) (by kernel_rfl) (by simp) ?_
  refine AllReadyH.cons rfl (fun K hK => ?_) AllReadyH.nil
  go_simp
  refine HO.out.mono ?_
  rintro e w5 ⟨rfl, hu5⟩
  have HU5 := Lib.hid hu5
  have HR5 : Hid (w5.heap[w.heap.size + 2]? = some (.cells AD 23 (0, 0))) := (hu5.block _ (lt_of_block HR4.out) id).trans HR4.out
  clear hu5
  refine hK.out _ _ trivial (fun hHeld => ?_)
  clear hK K hHeld
  try simp only [Act.put, List.setIfInBounds_toArray, List.set_cons_zero, List.set_cons_succ]
  refine wpAnyH_ready (rs := [5]) (by kernel_rfl) (by simp) ?_
  refine AllReadyH.cons rfl (fun K hK => ?_) AllReadyH.nil
  rw [if_pos (by rfl)]
  refine wp_store_row 23 (.tmp 6) (.tmp 11) rfl (w.heap.size + 2) Y rfl (by rw [HY.out]; rfl) 23 AD HR5.out HYs.out HYl.out HY1.out ?_
  have Hg6 := Lib.hid (setRow_heap _ _ AD Y _ _ HR5.out)
  have Hu6 : Hid (Upd (fun k => k = w.heap.size + 2) w5 (w5.setRow (w.heap.size + 2) Y)) := Upd.setRow (Upd.refl _ _) _ Y (.inl rfl)
  generalize w5.setRow (w.heap.size + 2) Y = w6 at Hg6 Hu6 ⊢
  refine hK.out _ _ trivial (fun hHeld => ?_)
  clear hK K hHeld
  try simp only [Act.put, List.setIfInBounds_toArray, List.set_cons_zero, List.set_cons_succ]
  refine wpAnyH_done (by kernel_rfl) ?_ _
  go_wp2
  refine bodyPost_ret (results_cell_row rfl _ _ (w.heap.size + 2) 23 Y (0, 0) _ rfl Hg6.out Tryd.underlying23 rfl HYs.out) rfl ?_
  exact ⟨by rw [← HY.out], (HU4.out.trans (HU5.out.mono (fun _ _ h => h.elim))).trans (Hu6.out.mono (fun k hk e => .inr (by omega)))⟩
set_option maxHeartbeats 4000000 in
set_option maxRecDepth 100000 in
theorem rbranch_any (width : Int) (hw : -9223372036854775808 ≤ width ∧ width ≤ 9223372036854775807) (xs ys : List UInt8) (hx : xs.length = 32) (hy : ys.length = 32) (w : World)
    (hk : True) (hg : True) :
    Calls Tryd.prog 35 #[.int .i64 width, .agg (xs.map u8).toArray, .agg (ys.map u8).toArray] w fun e w' => e = .returned (.agg ((ofM width 4 [xs, ys]).map u8).toArray) ∧ Upd (fun _ => False) w w' := by
  obtain ⟨X, hX⟩ : ∃ X, X = (xs.map u8).toArray := ⟨_, rfl⟩
  obtain ⟨Z, hZ⟩ : ∃ Z, Z = (ys.map u8).toArray := ⟨_, rfl⟩
  obtain ⟨Y, hY⟩ : ∃ Y, Y = ((ofM width 4 [xs, ys]).map u8).toArray := ⟨_, rfl⟩
  have hl32 := of_len width 4 [xs, ys]
  have HY1 : Hid (Y.all (·.oneCell') = true) := by show _ = _; rw [hY]; simpa using one_of (ofM width 4 [xs, ys])
  have HYs : Hid ((Tryd.prog.info? 23).map (·.size) = some Y.size) := by show _ = _; rw [size32, hY]; simp [hl32]
  have HYl : Hid (AD.size = Y.size) := by show _ = _; rw [hY]; simp [hl32, AD]
  have HY := Lib.hid hY
  obtain ⟨w3, hw3⟩ : ∃ w3, w3 = ((w.alloc (.cells X 23)).alloc (.cells Z 23)).alloc (.cells AD 23) := ⟨_, rfl⟩
  have hs3 : w3.heap.size = w.heap.size + 3 := by rw [hw3]; simp
  have hu3 : Upd (fun _ => False) w w3 := by rw [hw3]; exact (((Upd.refl _ w).alloc _).alloc _).alloc _
  have hgx : w3.heap[w.heap.size]? = some (.cells (xs.map u8).toArray 23 (0, 0)) := by
    rw [hw3, ← hX, Below.heap_alloc _ _ _ (by simp; omega)]; exact heap_alloc2_old w _ _
  have hgz : w3.heap[w.heap.size + 1]? = some (.cells (ys.map u8).toArray 23 (0, 0)) := by
    rw [hw3, ← hZ, Below.heap_alloc _ _ _ (by simp)]; exact heap_alloc2_new w _ _
  have hgr : w3.heap[w.heap.size + 2]? = some (.cells AD 23 (0, 0)) := by
    rw [hw3]; have h := heap_alloc_new ((w.alloc (.cells X 23)).alloc (.cells Z 23)) (.cells AD 23); simpa using h
  obtain ⟨w4, hw4⟩ : ∃ w4, w4 = w3.drew.alloc (.cells #[.slice (some ⟨w.heap.size, 0, none⟩) 32 32, .slice (some ⟨w.heap.size + 1, 0, none⟩) 32 32] 25) := ⟨_, rfl⟩
  have hs4 : w4.heap.size = w3.heap.size + 1 := by rw [hw4]; first | (simp; done) | (simp; rfl)
  have hu4 : Upd (fun _ => False) w3 w4 := by rw [hw4]; exact (Upd.refl _ w3).drew.alloc _
  have hsx := (sl_row w3 w.heap.size 23 xs _ 32 hx.symm (by rw [hx]; unfold maxLen; omega) hgx).upd hu4 (fun _ _ => id)
  have hsz := (sl_row w3 (w.heap.size + 1) 23 ys _ 32 hy.symm (by rw [hy]; unfold maxLen; omega) hgz).upd hu4 (fun _ _ => id)
  have hnew : w4.heap[w3.heap.size]? = some (.cells #[.slice (some ⟨w.heap.size, 0, none⟩) 32 32, .slice (some ⟨w.heap.size + 1, 0, none⟩) 32 32] 25 (0, 0)) := by rw [hw4]; exact heap_alloc_new w3.drew _
  have HO := Lib.hid (rof_any width hw 4 _ 2 [xs, ys] (fun k => k < w.heap.size + 4) w4
    (slL_two _ w3.heap.size _ _ xs ys _ hnew hsx hsz (fun k h => by have := own_at h; omega) (fun k h => by have := own_at h; omega) (by omega))
    (by intro k hk; omega) (by simp) (by simp [cat, hx, hy]))
  have HU4 : Hid (Upd (fun _ => False) w w4) := hu3.trans (hu4.mono fun _ _ h => h.elim)
  have HR4 : Hid (w4.heap[w.heap.size + 2]? = some (.cells AD 23 (0, 0))) := (hu4.block _ (by omega) id).trans hgr
  subst hw4
  have HX := Lib.hid hX
  have HZ := Lib.hid hZ
  have Hw3 := Lib.hid hw3
  have Hs3 := Lib.hid hs3
  have hz := zeroD
  rw [← hX, ← hZ]
  clear hY hX hZ hk hg hl32 hu3 hgx hgz hgr hu4 hsx hsz hnew hs3 hs4
  go_enter Tryd.func35, Tryd.ntmps35
  go_wp2_with fail
  rw [← hw3]
  clear hw3
  refine wp_region_held (S := fun _ => True) (by kernel_rfl) ?_
  refine wpAnyH_take (i := 0) (oi := ⟨some 7, _, _, _, _, _⟩) (v := .int .i64 width) rfl (by kernel_rfl) (by kernel_rfl) (by kernel_rfl) (fun _ _ _ h => h) (Or.inl ⟨by rfl, fun w hS => by go_simp⟩) trivial ?_
  try simp only [Act.put, List.setIfInBounds_toArray, List.set_cons_zero, List.set_cons_succ]
  refine wpAnyH_take (i := 1) (oi := ⟨some 8, _, _, _, _, _⟩) (v := .slice (some ⟨w.heap.size, 0, none⟩) 32 32) rfl (by kernel_rfl) (by kernel_rfl) (by kernel_rfl) (fun _ _ _ h => h) (Or.inl ⟨by rfl, fun w hS => by go_simp⟩) trivial ?_
  try simp only [Act.put, List.setIfInBounds_toArray, List.set_cons_zero, List.set_cons_succ]
  refine wpAnyH_take (i := 2) (oi := ⟨some 9, _, _, _, _, _⟩) (v := .slice (some ⟨w.heap.size + 1, 0, none⟩) 32 32) rfl (by kernel_rfl) (by kernel_rfl) (by kernel_rfl) (fun _ _ _ h => h) (Or.inl ⟨by rfl, fun w hS => by go_simp⟩) trivial ?_
  try simp only [Act.put, List.setIfInBounds_toArray, List.set_cons_zero, List.set_cons_succ]
  refine wpAnyH_ready (rs := [3]) (by kernel_rfl) (by simp) ?_
  refine AllReadyH.cons rfl (fun K hK => ?_) AllReadyH.nil
  change ite _ (Oper.wp _ _ _ w3.drew _ _) _
  go_simp
  refine hK.out _ _ trivial (fun hHeld => ?_)
  clear hK K hHeld
  try simp only [Act.put, List.setIfInBounds_toArray, List.set_cons_zero, List.set_cons_succ]
  refine wpAnyH_ready (rs := [4]) (by kernel_rfl) (by simp) ?_
  refine AllReadyH.cons rfl (fun K hK => ?_) AllReadyH.nil
  go_simp
  refine HO.out.mono ?_
  rintro e w5 ⟨rfl, hu5⟩
  have HU5 := Lib.hid hu5
  have HR5 : Hid (w5.heap[w.heap.size + 2]? = some (.cells AD 23 (0, 0))) := (hu5.block _ (lt_of_block HR4.out) id).trans HR4.out
  clear hu5
  refine hK.out _ _ trivial (fun hHeld => ?_)
  clear hK K hHeld
  try simp only [Act.put, List.setIfInBounds_toArray, List.set_cons_zero, List.set_cons_succ]
  refine wpAnyH_ready (rs := [5]) (by kernel_rfl) (by simp) ?_
  refine AllReadyH.cons rfl (fun K hK => ?_) AllReadyH.nil
  rw [if_pos (by rfl)]
  refine wp_store_row 23 (.tmp 6) (.tmp 11) rfl (w.heap.size + 2) Y rfl (by rw [HY.out]; rfl) 23 AD HR5.out HYs.out HYl.out HY1.out ?_
  have Hg6 := Lib.hid (setRow_heap _ _ AD Y _ _ HR5.out)
  have Hu6 : Hid (Upd (fun k => k = w.heap.size + 2) w5 (w5.setRow (w.heap.size + 2) Y)) := Upd.setRow (Upd.refl _ _) _ Y (.inl rfl)
  generalize w5.setRow (w.heap.size + 2) Y = w6 at Hg6 Hu6 ⊢
  refine hK.out _ _ trivial (fun hHeld => ?_)
  clear hK K hHeld
  try simp only [Act.put, List.setIfInBounds_toArray, List.set_cons_zero, List.set_cons_succ]
  refine wpAnyH_done (by kernel_rfl) ?_ _
  go_wp2
  refine bodyPost_ret (results_cell_row rfl _ _ (w.heap.size + 2) 23 Y (0, 0) _ rfl Hg6.out Tryd.underlying23 rfl HYs.out) rfl ?_
  exact ⟨by rw [← HY.out], (HU4.out.trans (HU5.out.mono (fun _ _ h => h.elim))).trans (Hu6.out.mono (fun k hk e => .inr (by omega)))⟩
end Go.Proofs.YtiglaeipbcmlnaaDoor.TabR

/-
  digest.Nothing, Key; docketref2.Nothing, Key.
-/
namespace Go.Proofs.YtiglaeipbcmlnaaDoor.TabK
open Go.RowKit Sha TurnW Mem RowW SpreadW MixW HashM CopyW SumH NewW EqW BookW HeldW RefMac OfW CutW RefW3 RefOf AppS LeafW
set_option linter.unusedVariables false
set_option linter.unusedSimpArgs false

theorem sl_nil (w : World) : Sl w (.slice none 0 0) [] := ⟨none, 0, rfl, Nat.le_refl _, Nat.zero_le _, fun _ => rfl, fun _ h => by cases h⟩
def notM (width : Int) : List UInt8 := cut (sha []) width
theorem not_len (width : Int) : (notM width).length = 32 := cut_len _ _ rfl

set_option maxHeartbeats 4000000 in
set_option maxRecDepth 100000 in
theorem nothing_any (width : Int) (w : World) (hk : Kw w) (hg : 0 < w.heap.size) :
    Calls Tryd.prog 28 #[.int .i64 width] w fun e w' => e = .returned (.agg ((notM width).map u8).toArray) ∧ Upd (fun _ => False) w w' := by
  obtain ⟨Y, hY⟩ : ∃ Y, Y = ((notM width).map u8).toArray := ⟨_, rfl⟩
  have hl32 := not_len width
  have HY1 : Hid (Y.all (·.oneCell') = true) := by show _ = _; rw [hY]; simpa using one_of (notM width)
  have HYs : Hid ((Tryd.prog.info? 23).map (·.size) = some Y.size) := by show _ = _; rw [size32, hY]; simp [hl32]
  have HYl : Hid (AD.size = Y.size) := by show _ = _; rw [hY]; simp [hl32, AD]
  have HY := Lib.hid hY
  have hu0 : Upd (fun _ => False) w (w.alloc (.cells AD 23)) := (Upd.refl _ w).alloc _
  have HS := Lib.hid (sum_text (.slice none 0 0) [] _ (sl_nil (w.alloc (.cells AD 23))) (hk.upd hu0 id) (by first | (simp; done) | (simp; omega)) (fun k h => by simp [own, Value.ownBlock] at h) (by simp))
  have HU0 := Lib.hid hu0
  have HR0 : Hid ((w.alloc (.cells AD 23)).heap[w.heap.size]? = some (.cells AD 23 (0, 0))) := heap_alloc_new w _
  have hz := zeroD
  clear hY hk hg hl32 hu0
  go_enter Tryd.func28, Tryd.ntmps28
  go_wp2_with (first
    | (go_at_call 12; refine HS.out.mono ?_; rintro e w2 ⟨rfl, hu2⟩; have HU2 := Lib.hid hu2; clear hu2)
    | (go_at_call 57; refine (cut_any (sha []) rfl width _).mono ?_; rintro e w3 ⟨rfl, hu3⟩; have HU3 := Lib.hid hu3; have HR3 : Hid (w3.heap[w.heap.size]? = some (.cells AD 23 (0, 0))) := (hu3.block _ (by have := lt_of_block HR0.out; have := HU2.out.size; omega) id).trans ((HU2.out.block _ (lt_of_block HR0.out) id).trans HR0.out); clear hu3)
    | ((with_reducible refine wpList_store_new (o := ⟨none, .store 23 (.tmp 2) (.tmp 5), _, _, _, _⟩) ?_ _ (.tmp 2) (.tmp 5) ?_ w.heap.size Y ?_ ?_ 23 AD HR3.out HYs.out HYl.out HY1.out ?_); rfl; rfl; rfl; (rw [HY.out]; rfl); intro w4 Hg4 Hu4))
  refine bodyPost_ret (results_cell_row rfl _ _ w.heap.size 23 Y (0, 0) _ rfl Hg4.out Tryd.underlying23 rfl HYs.out) rfl ?_
  exact ⟨by rw [← HY.out], ((HU0.out.trans (HU2.out.mono (fun _ _ h => h.elim))).trans (HU3.out.mono (fun _ _ h => h.elim))).trans (Hu4.out.mono (fun k hk e => .inr (by omega)))⟩

set_option maxHeartbeats 4000000 in
set_option maxRecDepth 100000 in
theorem rnothing_any (width : Int) (hw : -9223372036854775808 ≤ width ∧ width ≤ 9223372036854775807) (w : World) :
    Calls Tryd.prog 29 #[.int .i64 width] w fun e w' => e = .returned (.agg ((notM width).map u8).toArray) ∧ Upd (fun _ => False) w w' := by
  obtain ⟨Y, hY⟩ : ∃ Y, Y = ((notM width).map u8).toArray := ⟨_, rfl⟩
  have hl32 := not_len width
  have HY1 : Hid (Y.all (·.oneCell') = true) := by show _ = _; rw [hY]; simpa using one_of (notM width)
  have HYs : Hid ((Tryd.prog.info? 23).map (·.size) = some Y.size) := by show _ = _; rw [size32, hY]; simp [hl32]
  have HYl : Hid (AD.size = Y.size) := by show _ = _; rw [hY]; simp [hl32, AD]
  have HY := Lib.hid hY
  have Hw := Lib.hid hw
  have hu0 : Upd (fun _ => False) w (w.alloc (.cells AD 23)) := (Upd.refl _ w).alloc _
  have HS := Lib.hid (refsum_any none 0 0 [] _ (sl_nil (w.alloc (.cells AD 23))) (fun k h => by simp [own, Value.ownBlock] at h) (by omega))
  have HU0 := Lib.hid hu0
  have HR0 : Hid ((w.alloc (.cells AD 23)).heap[w.heap.size]? = some (.cells AD 23 (0, 0))) := heap_alloc_new w _
  have hz := zeroD
  clear hY hl32 hu0 hw
  go_enter Tryd.func29, Tryd.ntmps29
  go_wp2_with (first
    | (go_at_call 18; refine HS.out.mono ?_; rintro e w2 ⟨rfl, hu2⟩; have HU2 := Lib.hid hu2; clear hu2)
    | (go_at_call 66; refine (refcut_any (sha []) rfl width Hw.out _).mono ?_; rintro e w3 ⟨rfl, hu3⟩; have HU3 := Lib.hid hu3; have HR3 : Hid (w3.heap[w.heap.size]? = some (.cells AD 23 (0, 0))) := (hu3.block _ (by have := lt_of_block HR0.out; have := HU2.out.size; omega) id).trans ((HU2.out.block _ (lt_of_block HR0.out) id).trans HR0.out); clear hu3)
    | ((with_reducible refine wpList_store_new (o := ⟨none, .store 23 (.tmp 2) (.tmp 5), _, _, _, _⟩) ?_ _ (.tmp 2) (.tmp 5) ?_ w.heap.size Y ?_ ?_ 23 AD HR3.out HYs.out HYl.out HY1.out ?_); rfl; rfl; rfl; (rw [HY.out]; rfl); intro w4 Hg4 Hu4))
  refine bodyPost_ret (results_cell_row rfl _ _ w.heap.size 23 Y (0, 0) _ rfl Hg4.out Tryd.underlying23 rfl HYs.out) rfl ?_
  exact ⟨by rw [← HY.out], ((HU0.out.trans (HU2.out.mono (fun _ _ h => h.elim))).trans (HU3.out.mono (fun _ _ h => h.elim))).trans (Hu4.out.mono (fun k hk e => .inr (by omega)))⟩

def keyM (l : List UInt8) : List UInt8 := sha (6 :: l)
theorem ofM_key (l : List UInt8) : ofM 32 6 [l] = keyM l := by
  have h : OfW.byteOf 6 = 6 := by decide
  unfold ofM keyM cut
  rw [h]
  have e : cutN 32 = 32 := by decide
  rw [e]
  simp [cat]
  exact List.take_of_length_le (Nat.le_of_eq rfl)

set_option maxHeartbeats 4000000 in
set_option maxRecDepth 100000 in
theorem key_any (l : List UInt8) (w : World) (hl : l.length ≤ 140737488355000) (hk : Kw w) (hg : 0 < w.heap.size) :
    Calls Tryd.prog 37 #[.string ⟨l.toArray⟩] w fun e w' => e = .returned (.agg ((keyM l).map u8).toArray) ∧ Upd (fun _ => False) w w' := by
  obtain ⟨Y, hY⟩ : ∃ Y, Y = ((ofM 32 6 [l]).map u8).toArray := ⟨_, rfl⟩
  have hl32 : (ofM 32 6 [l]).length = 32 := of_len _ _ _
  have HY1 : Hid (Y.all (·.oneCell') = true) := by show _ = _; rw [hY]; simpa using one_of (ofM 32 6 [l])
  have HYs : Hid ((Tryd.prog.info? 23).map (·.size) = some Y.size) := by show _ = _; rw [size32, hY]; simp [hl32]
  have HYl : Hid (AD.size = Y.size) := by show _ = _; rw [hY]; simp [hl32, AD]
  have HY := Lib.hid hY
  obtain ⟨w0, hw0⟩ : ∃ x, x = w.alloc (.cells AD 23) := ⟨_, rfl⟩
  have hu0 : Upd (fun _ => False) w w0 := by rw [hw0]; exact (Upd.refl _ w).alloc _
  have hr0 : w0.heap[w.heap.size]? = some (.cells AD 23 (0, 0)) := by rw [hw0]; exact heap_alloc_new w _
  have hs0 : w0.heap.size = w.heap.size + 1 := by rw [hw0]; simp
  obtain ⟨w1, cap, hrun, hsl, hu1⟩ := conv_str w0 l hl
  rw [hs0] at hrun hsl
  obtain ⟨s, hs⟩ : ∃ s : ByteArray, s = ⟨l.toArray⟩ := ⟨_, rfl⟩
  obtain ⟨m, hm⟩ : ∃ m, m = l.length := ⟨_, rfl⟩
  rw [← hs, ← hm] at hrun
  rw [← hm] at hsl
  rw [← hs]
  have hgs : w.heap.size + 1 < w1.heap.size := by
    unfold Lib.hid at *
    have h2 := hu1.size
    have h3 := congrArg (fun r => match r with | Result.ok _ x => x.heap.size | _ => 0) (Lib.run_convert_string_bytes (P := Tryd.prog) w0 9 25 5 s Tryd.underlying9 Tryd.underlying25 Tryd.underlying5)
    rw [hrun] at h3
    simp only [Lib.bytesWorld_size] at h3
    omega
  obtain ⟨w2, hw2⟩ : ∃ x, x = w1.alloc (.cells #[.slice (some ⟨w.heap.size + 1, 0, none⟩) m cap] 25) := ⟨_, rfl⟩
  have hu2 : Upd (fun _ => False) w1 w2 := by rw [hw2]; exact (Upd.refl _ w1).alloc _
  have hn2 : w2.heap[w1.heap.size]? = some (.cells #[.slice (some ⟨w.heap.size + 1, 0, none⟩) m cap] 25 (0, 0)) := by rw [hw2]; exact heap_alloc_new w1 _
  have hs2 : w2.heap.size = w1.heap.size + 1 := by rw [hw2]; simp
  have HO := Lib.hid (of_any 32 6 _ 1 [l] (fun k => k < w2.heap.size) w2 (slL_one w2 w1.heap.size _ l _ hn2 (hsl.upd hu2 (fun _ _ => id)) (fun k h => by have := WriteW.own_at h; omega) (by omega))
    (fun k h => h) (hk.upd ((hu0.trans (hu1.mono fun _ _ h => h.elim)).trans (hu2.mono fun _ _ h => h.elim)) id) (by have := hu0.size; have := hu1.size; have := hu2.size; omega) (by simp) (by simp [cat]; omega))
  have HU2 : Hid (Upd (fun _ => False) w w2) := (hu0.trans (hu1.mono fun _ _ h => h.elim)).trans (hu2.mono fun _ _ h => h.elim)
  have HR2 : Hid (w2.heap[w.heap.size]? = some (.cells AD 23 (0, 0))) := (hu2.block _ (by omega) id).trans ((hu1.block _ (by omega) id).trans hr0)
  rw [hw2] at HO HU2 HR2
  have hz := zeroD
  rw [hw0] at hrun
  clear hY hk hg hl32 hu0 hr0 hs0 hsl hu1 hu2 hn2 hs2 hw2 hs hm hw0
  go_enter Tryd.func37, Tryd.ntmps37
  go_wp2_with (first
    | (go_at_call 41; refine HO.out.mono ?_; rintro e w3 ⟨rfl, hu3⟩; have HU3 := Lib.hid hu3; have HR3 : Hid (w3.heap[w.heap.size]? = some (.cells AD 23 (0, 0))) := (hu3.block _ (lt_of_block HR2.out) id).trans HR2.out; clear hu3)
    | ((with_reducible refine wpList_store_new (o := ⟨none, .store 23 (.tmp 2) (.tmp 6), _, _, _, _⟩) ?_ _ (.tmp 2) (.tmp 6) ?_ w.heap.size Y ?_ ?_ 23 AD HR3.out HYs.out HYl.out HY1.out ?_); rfl; rfl; rfl; (rw [HY.out]; rfl); intro w4 Hg4 Hu4))
  refine bodyPost_ret (results_cell_row rfl _ _ w.heap.size 23 Y (0, 0) _ rfl Hg4.out Tryd.underlying23 rfl HYs.out) rfl ?_
  exact ⟨by rw [HY.out, ofM_key], (HU2.out.trans (HU3.out.mono (fun _ _ h => h.elim))).trans (Hu4.out.mono (fun k hk e => .inr (by omega)))⟩

set_option maxHeartbeats 4000000 in
set_option maxRecDepth 100000 in
theorem rkey_any (l : List UInt8) (w : World) (hl : l.length ≤ 140737488350000) :
    Calls Tryd.prog 38 #[.string ⟨l.toArray⟩] w fun e w' => e = .returned (.agg ((keyM l).map u8).toArray) ∧ Upd (fun _ => False) w w' := by
  obtain ⟨Y, hY⟩ : ∃ Y, Y = ((keyM l).map u8).toArray := ⟨_, rfl⟩
  have hl32 : (keyM l).length = 32 := rfl
  have HY1 : Hid (Y.all (·.oneCell') = true) := by show _ = _; rw [hY]; simpa using one_of (keyM l)
  have HYs : Hid ((Tryd.prog.info? 23).map (·.size) = some Y.size) := by show _ = _; rw [size32, hY]; simp [hl32]
  have HYl : Hid (AD.size = Y.size) := by show _ = _; rw [hY]; simp [hl32, AD]
  have HY := Lib.hid hY
  obtain ⟨w0, hw0⟩ : ∃ x, x = w.alloc (.cells AD 23) := ⟨_, rfl⟩
  have hu0 : Upd (fun _ => False) w w0 := by rw [hw0]; exact (Upd.refl _ w).alloc _
  have hr0 : w0.heap[w.heap.size]? = some (.cells AD 23 (0, 0)) := by rw [hw0]; exact heap_alloc_new w _
  have hs0 : w0.heap.size = w.heap.size + 1 := by rw [hw0]; simp
  obtain ⟨w1, hw1⟩ : ∃ x, x = w0.alloc (.cells #[.int .u8 6] 5) := ⟨_, rfl⟩
  have hu1 : Upd (fun _ => False) w w1 := by rw [hw1]; exact hu0.alloc _
  have ho1 : w1.ownsRow 0 5 1 (.slice (some ⟨w.heap.size + 1, 0, none⟩) 1 1) 1 ([(6 : UInt8)].map u8) := by rw [hw1, ← hs0]; exact own_lit w0 6 6 rfl
  have hr1 : w1.heap[w.heap.size]? = some (.cells AD 23 (0, 0)) := by rw [hw1, Below.heap_alloc _ _ _ (by omega)]; exact hr0
  have hsz : (ByteArray.mk l.toArray).size = l.length := by simp [ByteArray.size]
  obtain ⟨s, hs⟩ : ∃ s : ByteArray, s = ⟨l.toArray⟩ := ⟨_, rfl⟩
  rw [← hs] at hsz ⊢
  have Hs := Lib.hid hs
  have Hsz := Lib.hid hsz
  have Hi := Lib.hid (info_parts info8)
  have HB1 : Hid (1 + s.size ≤ maxLen) := by show _ ≤ _; unfold maxLen; omega
  have HB2 : Hid (1 + s.size ≤ 140737488355328) := by show _ ≤ _; omega
  have HO1 := Lib.hid ho1
  have HU1 := Lib.hid hu1
  have HR1 := Lib.hid hr1
  have HS1 : Hid (w.heap.size + 2 ≤ w1.heap.size) := by show _ ≤ _; rw [hw1]; simp; omega
  rw [hw0] at hw1
  have Hw1 := Lib.hid hw1
  have hz := zeroD
  have Hll := Lib.hid hl
  clear hY hl32 hu0 hr0 hs0 hu1 ho1 hr1 hsz hs hl hw0
  go_enter Tryd.func38, Tryd.ntmps38
  go_wp2_with (first
    | (at_builtin; rw [← hw1]; clear hw1; obtain ⟨i0, hi, hz0, hz1, hz2⟩ := Hi.out; (refine wpList_append_str w1 (o := ⟨some 5, _, _, _, _, _⟩) ?_ (.tmp 3) (.tmp 4) 25 9 ?_ 0 5 i0 Tryd.underlying25 Tryd.underlying9 hi hz0 hz1 hz2 (.slice (some ⟨w.heap.size + 1, 0, none⟩) 1 1) 1 _ ?_ HO1.out s ?_ HB1.out HB2.out (Nat.zero_le _) ?_); rfl; rfl; rfl; rfl; clear hi hz0 hz1 hz2; intro v2 w2 hown2 hgrow2 hat2; obtain ⟨a2, c2, rfl⟩ := SumsW.own_form hown2; have HO2 := Lib.hid hown2; have HG2 := Lib.hid hgrow2; have HA2 := Lib.hid hat2; clear hown2 hgrow2 hat2)
    | fail)
  have hl2 : 1 + s.size = (6 :: l).length := by rw [Hsz.out, List.length_cons]; omega
  have ho2 : w2.ownsRow 0 5 1 (.slice a2 (6 :: l).length c2) (6 :: l).length ((6 :: l).map u8) := by
    have h := HO2.out
    rw [Hs.out, strCells_eq, ← Hs.out, hl2] at h
    exact h
  have HU2 : Hid (Upd (fun _ => False) w w2) := HU1.out.trans ((Upd.grown HG2.out (fun k hk => hk) : Upd (fun k => own (.slice (some ⟨w.heap.size + 1, 0, none⟩) 1 1) k) w1 w2).mono (fun k _ hk => .inr (by have := WriteW.own_at hk; omega)))
  have HR2 : Hid (w2.heap[w.heap.size]? = some (.cells AD 23 (0, 0))) := (HG2.out.block _ (by have := HS1.out; omega) (fun e => by simp [Value.ownBlock] at e)).trans HR1.out
  have HSm := Lib.hid (refsum_any a2 (1 + s.size) c2 (6 :: l) w2 (by rw [hl2]; exact Sl.of_own ho2) (by rw [hl2]; exact own_lt ho2) (by have := Hsz.out; have := Hll.out; omega))
  have HYe : Hid (Value.agg ((sha (6 :: l)).map u8).toArray = .agg Y) := by show _ = _; rw [HY.out]; rfl
  rw [HYe.out] at HSm
  clear ho2 hl2 HO2 HG2 HA2
  go_wp2_with (first
    | (go_at_call 18; refine HSm.out.mono ?_; rintro e w3 ⟨rfl, hu3⟩; have HU3 := Lib.hid hu3; have HR3 : Hid (w3.heap[w.heap.size]? = some (.cells AD 23 (0, 0))) := (hu3.block _ (lt_of_block HR2.out) id).trans HR2.out; clear hu3)
    | ((with_reducible refine wpList_store_new (o := ⟨none, .store 23 (.tmp 2) (.tmp 6), _, _, _, _⟩) ?_ _ (.tmp 2) (.tmp 6) ?_ w.heap.size Y ?_ ?_ 23 AD HR3.out HYs.out HYl.out HY1.out ?_); rfl; rfl; rfl; rfl; intro w4 Hg4 Hu4))
  refine bodyPost_ret (results_cell_row rfl _ _ w.heap.size 23 Y (0, 0) _ rfl Hg4.out Tryd.underlying23 rfl HYs.out) rfl ?_
  exact ⟨by rw [HY.out], (HU2.out.trans (HU3.out.mono (fun _ _ h => h.elim))).trans (Hu4.out.mono (fun k hk e => .inr (by omega)))⟩
end Go.Proofs.YtiglaeipbcmlnaaDoor.TabK

/-
  digest.Text; docketref2.Eight.
-/
namespace Go.Proofs.YtiglaeipbcmlnaaDoor.TabT
open Go.RowKit Sha Mem RowW CopyW Width PutW WriterW OfW RefOf
set_option linter.unusedVariables false
set_option linter.unusedSimpArgs false

theorem cat_eq (ts : List (List UInt8)) : RawB.cat ts = OfW.cat ts := by
  induction ts with
  | nil => rfl
  | cons t ts ih => simp only [RawB.cat, OfW.cat, List.flatten_cons, List.flatMap_cons, id] at ih ⊢; rw [ih]
theorem byteAt0 (n : Int) : byteAt (n % 256) 0 = OfW.byteOf n := by
  unfold byteAt OfW.byteOf
  simp
  rw [show (n % 256).toNat % 256 = (n % 256).toNat by omega]
theorem be1 (n : Int) : be (n % 256) 1 = [OfW.byteOf n] := by
  show [byteAt (n % 256) 0] = _
  rw [byteAt0]

set_option maxHeartbeats 2000000 in
set_option maxRecDepth 100000 in
theorem text_any (dom : Int) (ao : Option Addr) (cap : Nat) (ts : List (List UInt8)) (O : Nat → Prop) (w : World) (hs : OfW.SlL w (.slice ao ts.length cap) ts O) (hO : ∀ k, O k → k < w.heap.size) (hn : ts.length ≤ 70368744177660) (hcat : (OfW.cat ts).length ≤ 140737488355000) :
    Calls Tryd.prog 39 #[.int .i64 dom, .slice ao ts.length cap] w (RTextAt dom ts w) := by
  have Hs : Hid (RawB.SlL w (.slice ao ts.length cap) ts O) := hs
  have HO := Lib.hid hO
  have Hcat := Lib.hid hcat
  have Hn := Lib.hid hn
  clear hs hO hn hcat
  go_enter Tryd.func39, Tryd.ntmps39
  go_wp2_with fail
  refine (WriterW.new_any w).mono ?_
  rintro e w1 ⟨rfl, hw1, hu1⟩
  have hb1 : w.heap.size < w1.heap.size := lt_of_block hw1.1
  have Hw1 := Lib.hid hw1
  have HU1 := Lib.hid hu1
  clear hw1 hu1
  go_wp2_with fail
  refine (put8 w.heap.size _ [] (dom % 256) w1 (by omega) (WalkArith.wf_u8 (by omega)) Hw1.out (by simp)).mono ?_
  rintro e w2 ⟨rfl, v2, hw2, hu2, ho2⟩
  rw [be1, List.nil_append] at hw2
  have Hw2 := Lib.hid hw2
  have HU2 : Hid (Upd (fun k => k = w.heap.size) w1 w2) := hu2.mono (fun k _ e => by
    rcases e with e | e
    · exact e
    · simp [own, Value.ownBlock] at e)
  have HN2 : Hid (∀ k, own v2 k → w1.heap.size ≤ k) := fun k hk => by
    rcases ho2 k hk with h | h
    · simp [own, Value.ownBlock] at h
    · exact h
  clear hw2 hu2 ho2
  have HU02 : Hid (Upd (fun _ => False) w w2) := HU1.out.trans (HU2.out.mono (fun k _ e => .inr (by omega)))
  go_wp2_with fail
  refine (RawB.Raw_any w.heap.size v2 _ [OfW.byteOf dom] ts O w2 Hw2.out (Hs.out.upd HU02.out (fun _ _ => id)) (fun k hk => ⟨by have := HO.out k hk; have := HU02.out.size; omega, by have := HO.out k hk; omega, fun h => by have := HO.out k hk; have := HN2.out k h; omega⟩) (by rw [cat_eq]; have := Hcat.out; simp; omega) Hn.out).mono ?_
  rintro e w3 ⟨rfl, v3, hw3, hu3, ho3⟩
  rw [cat_eq] at hw3
  have Hw3 := Lib.hid hw3
  have HU03 : Hid (Upd (fun _ => False) w w3) := HU02.out.trans (hu3.mono (fun k _ e => by
    rcases e with e | e
    · exact .inr (by omega)
    · exact .inr (by have := HN2.out k e; omega)))
  clear hw3 hu3 ho3
  go_wp2_with fail
  refine (all_any w.heap.size v3 _ w3 Hw3.out (by have := Hcat.out; simp; omega)).mono ?_
  rintro e w4 ⟨v4, rfl, hown4, hu4⟩
  obtain ⟨a4, c4, rfl⟩ := SumsW.own_form hown4
  obtain ⟨m, hm⟩ : ∃ m, m = ([OfW.byteOf dom] ++ OfW.cat ts).length := ⟨_, rfl⟩
  rw [← hm] at hown4 ⊢
  have HP : Hid (RTextAt dom ts w (.returned (.slice a4 m c4)) w4) := by
    refine ⟨a4, m, c4, rfl, by rw [hm]; simp, World.ownsRow.mono hown4 (Nat.zero_le _), fun k hk => ?_, HU03.out.trans (hu4.mono (fun _ _ e => e.elim))⟩
    have h1 := (hown4.lt k hk).1
    have h2 := HU03.out.size
    omega
  clear hown4 hu4 hm
  go_wp2
  go_ret
  exact HP.out

def EightAt (n : Int) (w : World) (e : Ending) (w' : World) : Prop := ∃ g, e = .returned (.slice (some ⟨g, 0, none⟩) 8 8) ∧ w.heap.size ≤ g ∧ w'.heap[g]? = some (.cells ((be (n % 18446744073709551616) 8).map u8).toArray 5 (0, 0)) ∧ Upd (fun _ => False) w w'
set_option maxHeartbeats 2000000 in
set_option maxRecDepth 100000 in
theorem eight_any (n : Int) (w : World) : Calls Tryd.prog 70 #[.int .i64 n] w (EightAt n w) := by
  obtain ⟨N, hN⟩ : ∃ N, N = n % 18446744073709551616 := ⟨_, rfl⟩
  have e0 : IntKind.u64.wrap n = N := by rw [IntKind.wrap_u64]; omega
  have h0 : 0 ≤ N := by omega
  have h1 : N < 18446744073709551616 := by omega
  have hmk : ∀ w, (Instr.makeSlice 25 (.int .i64 8) (.int .i64 8)).run Tryd.prog w = .ok (.slice (some ⟨w.heap.size, 0, none⟩) 8 8) (w.alloc (.cells #[.int .u8 0, .int .u8 0, .int .u8 0, .int .u8 0, .int .u8 0, .int .u8 0, .int .u8 0, .int .u8 0] 5)) := fun _ => by kernel_rfl
  have hC : Hid (#[Value.int .u8 (N / 72057594037927936), .int .u8 (N / 281474976710656 % 256), .int .u8 (N / 1099511627776 % 256), .int .u8 (N / 4294967296 % 256), .int .u8 (N / 16777216 % 256), .int .u8 (N / 65536 % 256), .int .u8 (N / 256 % 256), .int .u8 (N % 256)] = ((be N 8).map u8).toArray) := by
    show _ = (([byteAt N 7, byteAt N 6, byteAt N 5, byteAt N 4, byteAt N 3, byteAt N 2, byteAt N 1, byteAt N 0] : List UInt8).map u8).toArray
    simp only [List.map_cons, List.map_nil, ← byteV N _ h0, IntKind.wrap_u8]
    have a7 : N / 256 ^ 7 % 256 = N / 72057594037927936 := by omega
    have a6 : N / 256 ^ 6 % 256 = N / 281474976710656 % 256 := by omega
    have a5 : N / 256 ^ 5 % 256 = N / 1099511627776 % 256 := by omega
    have a4 : N / 256 ^ 4 % 256 = N / 4294967296 % 256 := by omega
    have a3 : N / 256 ^ 3 % 256 = N / 16777216 % 256 := by omega
    have a2 : N / 256 ^ 2 % 256 = N / 65536 % 256 := by omega
    have a1 : N / 256 ^ 1 % 256 = N / 256 % 256 := by omega
    have a0 : N / 256 ^ 0 % 256 = N % 256 := by omega
    rw [a7, a6, a5, a4, a3, a2, a1, a0]
  have HN := Lib.hid hN
  clear hN
  go_enter Tryd.func70, Tryd.ntmps70
  go_wp2
  refine wp_loop_rounds 9 ?_
  iterate 9 (rw [rounds_succ]; go_wp2)
  go_ret
  rw [hC.out]
  exact ⟨w.heap.size, rfl, Nat.le_refl _, by rw [← HN.out]; exact heap_alloc_new _ _, (Upd.refl _ _).alloc _⟩
end Go.Proofs.YtiglaeipbcmlnaaDoor.TabT

/-
  digest.Entry, docketref2.Entry.
-/
namespace Go.Proofs.YtiglaeipbcmlnaaDoor.TabE
open Go.RowKit Sha Mem RowW SpreadW MixW HashM CopyW Width PutW WriterW SumH OfW LeafW BranchW BookW HeldW RefOf TabT
set_option linter.unusedVariables false
set_option linter.unusedSimpArgs false

theorem slL_three (w : World) (g : Nat) (v v' v2 : Value) (xs ys zs : List UInt8) (B : Nat) (hg : w.heap[g]? = some (.cells #[v, v', v2] 25 (0, 0))) (hs : Sl w v xs) (hs' : Sl w v' ys) (hs2 : Sl w v2 zs) (ho : ∀ k, own v k → k < B) (ho' : ∀ k, own v' k → k < B) (ho2 : ∀ k, own v2 k → k < B) (hB : g < B) :
    SlL w (.slice (some ⟨g, 0, none⟩) 3 3) [xs, ys, zs] (fun k => k < B) := by
  refine ⟨_, 3, fun i => if i = 0 then v else if i = 1 then v' else v2, rfl, by simp, fun k hk => by have := WriteW.own_at hk; omega, fun a ha => ?_⟩
  injection ha with ha
  subst ha
  refine ⟨rfl, fun i hi => ?_⟩
  have hi' : i < 3 := hi
  obtain rfl | rfl | rfl : i = 0 ∨ i = 1 ∨ i = 2 := by omega
  · exact ⟨by rw [add_none, cell_of_row _ _ _ _ _ _ hg]; rfl, hs, ho⟩
  · exact ⟨by rw [add_none, cell_of_row _ _ _ _ _ _ hg]; rfl, hs', ho'⟩
  · exact ⟨by rw [add_none, cell_of_row _ _ _ _ _ _ hg]; rfl, hs2, ho2⟩
/-- bytes behind one cell of a row -/
theorem sl_off (w : World) (g : Nat) (T : TypeId) (x : Value) (xs : List UInt8) (fr : Nat × Nat) (n : Nat) (hn : n = xs.length) (hm : xs.length ≤ maxLen) (hg : w.heap[g]? = some (.cells (x :: xs.map u8).toArray T fr)) : Sl w (.slice (some ⟨g, 1, none⟩) n n) xs := by
  subst hn
  refine ⟨_, xs.length, rfl, Nat.le_refl _, hm, by simp, fun a ha => ?_⟩
  injection ha with ha
  subst ha
  refine ⟨rfl, fun i hi => ?_⟩
  rw [add_none, cell_of_row _ _ _ _ _ _ hg, List.getElem?_toArray, Nat.add_comm, List.getElem?_cons_succ, List.getElem?_map, List.getD_eq_getElem?_getD, List.getElem?_eq_getElem hi]
  rfl
def entM (width count : Int) (ks ds : List UInt8) : List UInt8 := ofM width 3 [ks, be (count % 18446744073709551616) 8, ds]
theorem ent_len (width count : Int) (ks ds : List UInt8) : (entM width count ks ds).length = 32 := of_len _ _ _
theorem be8_len (n : Int) : (be n 8).length = 8 := by rw [RawB.be_length]
theorem sizeE : (Tryd.prog.info? 43).map (·.size) = some 33 := by kernel_rfl

set_option maxHeartbeats 4000000 in
set_option maxRecDepth 100000 in
theorem entry_any (width count : Int) (ks ds : List UInt8) (hx : ks.length = 32) (hd : ds.length = 32) (w : World) (hk : Kw w) (hg : 0 < w.heap.size) :
    Calls Tryd.prog 32 #[.int .i64 width, .agg (ks.map u8).toArray, .agg (Value.int .i64 count :: ds.map u8).toArray] w fun e w' => e = .returned (.agg ((entM width count ks ds).map u8).toArray) ∧ Upd (fun _ => False) w w' := by
  obtain ⟨X, hX⟩ : ∃ X, X = (ks.map u8).toArray := ⟨_, rfl⟩
  obtain ⟨E, hE⟩ : ∃ E, E = (Value.int .i64 count :: ds.map u8).toArray := ⟨_, rfl⟩
  obtain ⟨N, hN⟩ : ∃ N, N = count % 18446744073709551616 := ⟨_, rfl⟩
  have e0 : IntKind.u64.wrap count = N := by rw [IntKind.wrap_u64]; omega
  have h0 : 0 ≤ N := by omega
  have h1 : N < 18446744073709551616 := by omega
  obtain ⟨Y, hY⟩ : ∃ Y, Y = ((ofM width 3 [ks, be N 8, ds]).map u8).toArray := ⟨_, rfl⟩
  have hl32 := of_len width 3 [ks, be N 8, ds]
  have HY1 : Hid (Y.all (·.oneCell') = true) := by show _ = _; rw [hY]; simpa using one_of (ofM width 3 [ks, be N 8, ds])
  have HYs : Hid ((Tryd.prog.info? 23).map (·.size) = some Y.size) := by show _ = _; rw [size32, hY]; simp [hl32]
  have HYl : Hid (AD.size = Y.size) := by show _ = _; rw [hY]; simp [hl32, AD]
  have HYe : Hid (((entM width count ks ds).map u8).toArray = Y) := by show _ = _; rw [hY, hN]; rfl
  rw [HYe.out]
  have HY := Lib.hid hY
  obtain ⟨w3, hw3⟩ : ∃ w3, w3 = ((w.alloc (.cells X 23)).alloc (.cells E 43)).alloc (.cells AD 23) := ⟨_, rfl⟩
  have hs3 : w3.heap.size = w.heap.size + 3 := by rw [hw3]; simp
  have hu3 : Upd (fun _ => False) w w3 := by rw [hw3]; exact (((Upd.refl _ w).alloc _).alloc _).alloc _
  have hgx : w3.heap[w.heap.size]? = some (.cells (ks.map u8).toArray 23 (0, 0)) := by
    rw [hw3, ← hX, Below.heap_alloc _ _ _ (by simp; omega)]; exact heap_alloc2_old w _ _
  have hge : w3.heap[w.heap.size + 1]? = some (.cells (Value.int .i64 count :: ds.map u8).toArray 43 (0, 0)) := by
    rw [hw3, ← hE, Below.heap_alloc _ _ _ (by simp)]; exact heap_alloc2_new w _ _
  have hgr : w3.heap[w.heap.size + 2]? = some (.cells AD 23 (0, 0)) := by
    rw [hw3]; have h := heap_alloc_new ((w.alloc (.cells X 23)).alloc (.cells E 43)) (.cells AD 23); simpa using h
  have ce : w3.cell? ⟨w.heap.size + 1, 0, none⟩ = some (.int .i64 count) := by rw [cell_of_row _ _ _ _ _ _ hge]; rfl
  have HX3 : Hid (Sl w3 (.slice (some ⟨w.heap.size, 0, none⟩) 32 32) ks) := sl_row w3 w.heap.size 23 ks _ 32 hx.symm (by rw [hx]; unfold maxLen; omega) hgx
  have HE3 : Hid (Sl w3 (.slice (some ⟨w.heap.size + 1, 1, none⟩) 32 32) ds) := sl_off w3 (w.heap.size + 1) 43 _ ds _ 32 hd.symm (by rw [hd]; unfold maxLen; omega) hge
  have HR3 := Lib.hid hgr
  have HU3 := Lib.hid hu3
  have Hs3 := Lib.hid hs3
  have HCE := Lib.hid ce
  have hz := zeroD
  have Hx := Lib.hid hx
  have Hd := Lib.hid hd
  rw [← hX, ← hE]
  have Hk := Lib.hid hk
  have Hg := Lib.hid hg
  have HN := Lib.hid hN
  clear hY hX hE hN hl32 hu3 hgx hge hgr hs3 hx hd ce hk hg
  go_enter Tryd.func32, Tryd.ntmps32
  go_wp2_with fail
  rw [← hw3]
  clear hw3
  refine (WriterW.new_any w3).mono ?_
  rintro e w4 ⟨rfl, hw4, hu4⟩
  obtain ⟨b, hb⟩ : ∃ b, b = w3.heap.size := ⟨_, rfl⟩
  rw [← hb] at hw4 ⊢
  have hblt : b < w4.heap.size := lt_of_block hw4.1
  have Hw4 := Lib.hid hw4
  have HU4 := Lib.hid hu4
  have ce : w4.cell? ⟨w.heap.size + 1, 0, none⟩ = some (.int .i64 count) := hu4.cell HCE.out id
  have Hb := Lib.hid hb
  clear hw4 hu4 hb
  go_wp2_with fail
  refine (put64 b _ [] N w4 h0 (WalkArith.wf_u64 (by omega)) Hw4.out (by simp)).mono ?_
  rintro e w5 ⟨rfl, v5, hw5, hu5, ho5⟩
  rw [List.nil_append] at hw5
  have Hw5 := Lib.hid hw5
  have HU5 : Hid (Upd (fun k => k = b) w4 w5) := hu5.mono (fun k _ e => by
    rcases e with e | e
    · exact e
    · simp [own, Value.ownBlock] at e)
  have HU35 : Hid (Upd (fun _ => False) w3 w5) := HU4.out.trans (HU5.out.mono (fun k _ e => .inr (by have := Hb.out; omega)))
  clear hw5 hu5 ho5 ce
  have HX5 := Lib.hid (HX3.out.upd HU35.out (fun _ _ => id))
  have HE5 := Lib.hid (HE3.out.upd HU35.out (fun _ _ => id))
  have HR5 : Hid (w5.heap[w.heap.size + 2]? = some (.cells AD 23 (0, 0))) := (HU35.out.block _ (by have := Hs3.out; omega) id).trans HR3.out
  have hs5 : w.heap.size + 3 ≤ w5.heap.size := by have := HU35.out.size; have := Hs3.out; omega
  have HAll := Lib.hid (fun w' (h : Upd (fun _ => False) w5 w') => all_any b v5 (be N 8) w' ⟨(h.block _ (lt_of_block Hw5.out.1) id).trans Hw5.out.1, RefMac.own_upd Hw5.out.2 h (fun _ _ => id)⟩ (by rw [be8_len]; omega))
  go_wp2_with fail
  have HS_w5_0 : Hid (Upd (fun _ => False) w5 w5.drew) := (Upd.refl _ _).drew
  refine wp_region_held_drew (S := Upd (fun k => k = w.heap.size + 2) w5) (by kernel_rfl) (HS_w5_0.out.mono (fun _ _ e => e.elim)) (fun _ => ?_)
  refine wpAnyH_take (i := 0) (oi := ⟨some 14, _, _, _, _, _⟩) (v := .int .i64 width) rfl (by kernel_rfl) (by kernel_rfl) (by kernel_rfl) (fun _ _ _ h => h) (Or.inl ⟨by rfl, fun w hS => by go_simp⟩) (HS_w5_0.out.mono (fun _ _ e => e.elim)) ?_
  try simp only [Act.put, List.setIfInBounds_toArray, List.set_cons_zero, List.set_cons_succ]
  refine wpAnyH_take (i := 1) (oi := ⟨some 15, _, _, _, _, _⟩) (v := .slice (some ⟨w.heap.size, 0, none⟩) 32 32) rfl (by kernel_rfl) (by kernel_rfl) (by kernel_rfl) (fun _ _ _ h => h) (Or.inl ⟨by rfl, fun w hS => by go_simp⟩) (HS_w5_0.out.mono (fun _ _ e => e.elim)) ?_
  try simp only [Act.put, List.setIfInBounds_toArray, List.set_cons_zero, List.set_cons_succ]
  refine wpAnyH_take (i := 2) (oi := ⟨some 16, _, _, _, _, _⟩) (v := .pointer (some ⟨b, 0, none⟩)) rfl (by kernel_rfl) (by kernel_rfl) (by kernel_rfl) (fun _ _ _ h => h) (Or.inl ⟨by rfl, fun w hS => by go_simp⟩) (HS_w5_0.out.mono (fun _ _ e => e.elim)) ?_
  try simp only [Act.put, List.setIfInBounds_toArray, List.set_cons_zero, List.set_cons_succ]
  refine wpAnyH_take (i := 4) (oi := ⟨some 18, _, _, _, _, _⟩) (v := .pointer (some ⟨w.heap.size + 1, 1, none⟩)) rfl (by kernel_rfl) (by kernel_rfl) (by kernel_rfl) (fun _ _ _ h => h) (Or.inl ⟨by rfl, fun w hS => by go_simp⟩) (HS_w5_0.out.mono (fun _ _ e => e.elim)) ?_
  try simp only [Act.put, List.setIfInBounds_toArray, List.set_cons_zero, List.set_cons_succ]
  refine wpAnyH_take (i := 5) (oi := ⟨some 19, _, _, _, _, _⟩) (v := .slice (some ⟨w.heap.size + 1, 1, none⟩) 32 32) rfl (by kernel_rfl) (by kernel_rfl) (by kernel_rfl) (fun _ _ _ h => h) (Or.inl ⟨by rfl, fun w hS => by go_simp⟩) (HS_w5_0.out.mono (fun _ _ e => e.elim)) ?_
  try simp only [Act.put, List.setIfInBounds_toArray, List.set_cons_zero, List.set_cons_succ]
  refine wpAnyH_ready (rs := [3]) (by kernel_rfl) (by simp) ?_
  refine AllReadyH.cons rfl (fun K hK => ?_) AllReadyH.nil
  go_simp
  refine (HAll.out w5.drew HS_w5_0.out).mono ?_
  rintro e w6 ⟨v6, rfl, hown6, hu_⟩
  have HS_w5_1 : Hid (Upd (fun _ => False) w5 w6) := HS_w5_0.out.trans (hu_.mono (fun _ _ h => h.elim))
  have HU_w6 := Lib.hid hu_
  clear hu_
  obtain ⟨a6, c6, rfl⟩ := SumsW.own_form hown6
  rw [be8_len] at hown6
  have hlt6 : ∀ k, own (.slice a6 8 c6) k → k < w6.heap.size := fun k hk => (hown6.lt k hk).2
  have HS6 : Hid (Sl w6 (.slice a6 8 c6) (be N 8)) := by
    have h := hown6
    rw [← be8_len N] at h ⊢
    exact Sl.of_own h
  have Hlt6 := Lib.hid hlt6
  clear hown6 hlt6
  try rw [be8_len]
  refine hK.out _ _ (HS_w5_1.out.mono (fun _ _ e => e.elim)) (fun hHeld => ?_)
  clear hK K hHeld
  try simp only [Act.put, List.setIfInBounds_toArray, List.set_cons_zero, List.set_cons_succ]
  refine wpAnyH_ready (rs := [6]) (by kernel_rfl) (by simp) ?_
  refine AllReadyH.cons rfl (fun K hK => ?_) AllReadyH.nil
  go_simp
  obtain ⟨w7, hw7⟩ : ∃ x, x = w6.alloc (.cells #[.slice (some ⟨w.heap.size, 0, none⟩) 32 32, .slice a6 8 c6, .slice (some ⟨w.heap.size + 1, 1, none⟩) 32 32] 25) := ⟨_, rfl⟩
  rw [← hw7]
  have hu7 : Upd (fun _ => False) w6 w7 := by rw [hw7]; exact (Upd.refl _ w6).alloc _
  have hn7 : w7.heap[w6.heap.size]? = some (.cells #[.slice (some ⟨w.heap.size, 0, none⟩) 32 32, .slice a6 8 c6, .slice (some ⟨w.heap.size + 1, 1, none⟩) 32 32] 25 (0, 0)) := by rw [hw7]; exact heap_alloc_new w6 _
  have hs7 : w7.heap.size = w6.heap.size + 1 := by rw [hw7]; simp
  have HS7 : Hid (Upd (fun _ => False) w5 w7) := HS_w5_1.out.trans (hu7.mono (fun _ _ e => e.elim))
  have hs6 : w.heap.size + 3 ≤ w6.heap.size := by have := HS_w5_1.out.size; (try simp at this); omega
  have HU7 : Hid (Upd (fun _ => False) w w7) := (HU3.out.trans (HU35.out.mono (fun _ _ e => e.elim))).trans (HS7.out.mono (fun _ _ e => e.elim))
  have HO := Lib.hid (of_any width 3 _ 3 [ks, be N 8, ds] (fun k => k < w7.heap.size) w7 (slL_three w7 w6.heap.size _ _ _ ks (be N 8) ds _ hn7 (HX5.out.upd HS7.out (fun _ _ => id)) (HS6.out.upd hu7 (fun _ _ => id)) (HE5.out.upd HS7.out (fun _ _ => id)) (fun k h => by have := WriteW.own_at h; omega) (fun k h => by have := Hlt6.out k h; omega) (fun k h => by have := WriteW.own_at h; omega) (by omega))
    (fun k h => h) (Hk.out.upd HU7.out id) (by have := Hg.out; have := HU7.out.size; omega) (by simp) (by simp [cat, Hx.out, Hd.out, be8_len]))
  clear hn7 hu7 hw7 hs7
  refine hK.out _ _ (HS7.out.mono (fun _ _ e => e.elim)) (fun hHeld => ?_)
  clear hK K hHeld
  try simp only [Act.put, List.setIfInBounds_toArray, List.set_cons_zero, List.set_cons_succ]
  refine wpAnyH_ready (rs := [7]) (by kernel_rfl) (by simp) ?_
  refine AllReadyH.cons rfl (fun K hK => ?_) AllReadyH.nil
  go_simp
  refine (HO.out).mono ?_
  rintro e w8 ⟨rfl, hu_⟩
  have HS_w5_2 : Hid (Upd (fun _ => False) w5 w8) := HS7.out.trans (hu_.mono (fun _ _ h => h.elim))
  have HU_w8 := Lib.hid hu_
  clear hu_
  have HR8 : Hid (w8.heap[w.heap.size + 2]? = some (.cells AD 23 (0, 0))) := (HS_w5_2.out.block _ (lt_of_block HR5.out) id).trans HR5.out
  refine hK.out _ _ (HS_w5_2.out.mono (fun _ _ e => e.elim)) (fun hHeld => ?_)
  clear hK K hHeld
  try simp only [Act.put, List.setIfInBounds_toArray, List.set_cons_zero, List.set_cons_succ]
  refine wpAnyH_ready (rs := [8]) (by kernel_rfl) (by simp) ?_
  refine AllReadyH.cons rfl (fun K hK => ?_) AllReadyH.nil
  rw [if_pos (by rfl)]
  refine wp_store_row 23 (.tmp 6) (.tmp 21) rfl (w.heap.size + 2) Y rfl (by rw [HY.out]; rfl) 23 AD HR8.out HYs.out HYl.out HY1.out ?_
  have Hg9 := Lib.hid (setRow_heap _ _ AD Y _ _ HR8.out)
  have Hu9 : Hid (Upd (fun k => k = w.heap.size + 2) w8 (w8.setRow (w.heap.size + 2) Y)) := Upd.setRow (Upd.refl _ _) _ Y (.inl rfl)
  generalize w8.setRow (w.heap.size + 2) Y = w9 at Hg9 Hu9 ⊢
  refine hK.out _ _ ((HS_w5_2.out.mono (fun _ _ e => e.elim)).trans (Hu9.out.mono fun k _ e => .inl e)) (fun hHeld => ?_)
  clear hK K hHeld
  try simp only [Act.put, List.setIfInBounds_toArray, List.set_cons_zero, List.set_cons_succ]
  refine wpAnyH_done (by kernel_rfl) ?_ _
  go_wp2
  refine bodyPost_ret (results_cell_row rfl _ _ (w.heap.size + 2) 23 Y (0, 0) _ rfl Hg9.out Tryd.underlying23 rfl HYs.out) rfl ?_
  exact ⟨rfl, ((HU3.out.trans (HU35.out.mono (fun _ _ e => e.elim))).trans (HS_w5_2.out.mono (fun _ _ e => e.elim))).trans (Hu9.out.mono (fun k hk e => .inr (by omega)))⟩

set_option maxHeartbeats 4000000 in
set_option maxRecDepth 100000 in
theorem rentry_any (width count : Int) (hw : -9223372036854775808 ≤ width ∧ width ≤ 9223372036854775807) (ks ds : List UInt8) (hx : ks.length = 32) (hd : ds.length = 32) (w : World) :
    Calls Tryd.prog 33 #[.int .i64 width, .agg (ks.map u8).toArray, .agg (Value.int .i64 count :: ds.map u8).toArray] w fun e w' => e = .returned (.agg ((entM width count ks ds).map u8).toArray) ∧ Upd (fun _ => False) w w' := by
  obtain ⟨X, hX⟩ : ∃ X, X = (ks.map u8).toArray := ⟨_, rfl⟩
  obtain ⟨E, hE⟩ : ∃ E, E = (Value.int .i64 count :: ds.map u8).toArray := ⟨_, rfl⟩
  obtain ⟨N, hN⟩ : ∃ N, N = count % 18446744073709551616 := ⟨_, rfl⟩
  have e0 : IntKind.u64.wrap count = N := by rw [IntKind.wrap_u64]; omega
  have h0 : 0 ≤ N := by omega
  have h1 : N < 18446744073709551616 := by omega
  obtain ⟨Y, hY⟩ : ∃ Y, Y = ((ofM width 3 [ks, be N 8, ds]).map u8).toArray := ⟨_, rfl⟩
  have hl32 := of_len width 3 [ks, be N 8, ds]
  have HY1 : Hid (Y.all (·.oneCell') = true) := by show _ = _; rw [hY]; simpa using one_of (ofM width 3 [ks, be N 8, ds])
  have HYs : Hid ((Tryd.prog.info? 23).map (·.size) = some Y.size) := by show _ = _; rw [size32, hY]; simp [hl32]
  have HYl : Hid (AD.size = Y.size) := by show _ = _; rw [hY]; simp [hl32, AD]
  have HYe : Hid (((entM width count ks ds).map u8).toArray = Y) := by show _ = _; rw [hY, hN]; rfl
  rw [HYe.out]
  have HY := Lib.hid hY
  obtain ⟨w3, hw3⟩ : ∃ w3, w3 = ((w.alloc (.cells X 23)).alloc (.cells E 43)).alloc (.cells AD 23) := ⟨_, rfl⟩
  have hs3 : w3.heap.size = w.heap.size + 3 := by rw [hw3]; simp
  have hu3 : Upd (fun _ => False) w w3 := by rw [hw3]; exact (((Upd.refl _ w).alloc _).alloc _).alloc _
  have hgx : w3.heap[w.heap.size]? = some (.cells (ks.map u8).toArray 23 (0, 0)) := by
    rw [hw3, ← hX, Below.heap_alloc _ _ _ (by simp; omega)]; exact heap_alloc2_old w _ _
  have hge : w3.heap[w.heap.size + 1]? = some (.cells (Value.int .i64 count :: ds.map u8).toArray 43 (0, 0)) := by
    rw [hw3, ← hE, Below.heap_alloc _ _ _ (by simp)]; exact heap_alloc2_new w _ _
  have hgr : w3.heap[w.heap.size + 2]? = some (.cells AD 23 (0, 0)) := by
    rw [hw3]; have h := heap_alloc_new ((w.alloc (.cells X 23)).alloc (.cells E 43)) (.cells AD 23); simpa using h
  have ce : w3.cell? ⟨w.heap.size + 1, 0, none⟩ = some (.int .i64 count) := by rw [cell_of_row _ _ _ _ _ _ hge]; rfl
  have HX3 : Hid (Sl w3 (.slice (some ⟨w.heap.size, 0, none⟩) 32 32) ks) := sl_row w3 w.heap.size 23 ks _ 32 hx.symm (by rw [hx]; unfold maxLen; omega) hgx
  have HE3 : Hid (Sl w3 (.slice (some ⟨w.heap.size + 1, 1, none⟩) 32 32) ds) := sl_off w3 (w.heap.size + 1) 43 _ ds _ 32 hd.symm (by rw [hd]; unfold maxLen; omega) hge
  have HR3 := Lib.hid hgr
  have HU3 := Lib.hid hu3
  have Hs3 := Lib.hid hs3
  have HCE := Lib.hid ce
  have hz := zeroD
  have Hx := Lib.hid hx
  have Hd := Lib.hid hd
  rw [← hX, ← hE]
  have Hw := Lib.hid hw
  have HN := Lib.hid hN
  clear hY hX hE hN hl32 hu3 hgx hge hgr hs3 hx hd ce hw
  go_enter Tryd.func33, Tryd.ntmps33
  go_wp2_with fail
  rw [← hw3]
  clear hw3
  have hs5 : w.heap.size + 3 ≤ w3.heap.size := by have := Hs3.out; omega
  have HS_w3_0 : Hid (Upd (fun _ => False) w3 w3.drew) := (Upd.refl _ _).drew
  refine wp_region_held_drew (S := Upd (fun k => k = w.heap.size + 2) w3) (by kernel_rfl) (HS_w3_0.out.mono (fun _ _ e => e.elim)) (fun _ => ?_)
  refine wpAnyH_take (i := 0) (oi := ⟨some 7, _, _, _, _, _⟩) (v := .int .i64 width) rfl (by kernel_rfl) (by kernel_rfl) (by kernel_rfl) (fun _ _ _ h => h) (Or.inl ⟨by rfl, fun w hS => by go_simp⟩) (HS_w3_0.out.mono (fun _ _ e => e.elim)) ?_
  try simp only [Act.put, List.setIfInBounds_toArray, List.set_cons_zero, List.set_cons_succ]
  refine wpAnyH_take (i := 1) (oi := ⟨some 8, _, _, _, _, _⟩) (v := .slice (some ⟨w.heap.size, 0, none⟩) 32 32) rfl (by kernel_rfl) (by kernel_rfl) (by kernel_rfl) (fun _ _ _ h => h) (Or.inl ⟨by rfl, fun w hS => by go_simp⟩) (HS_w3_0.out.mono (fun _ _ e => e.elim)) ?_
  try simp only [Act.put, List.setIfInBounds_toArray, List.set_cons_zero, List.set_cons_succ]
  refine wpAnyH_take (i := 2) (oi := ⟨some 9, _, _, _, _, _⟩) (v := .pointer (some ⟨w.heap.size + 1, 0, none⟩)) rfl (by kernel_rfl) (by kernel_rfl) (by kernel_rfl) (fun _ _ _ h => h) (Or.inl ⟨by rfl, fun w hS => by go_simp⟩) (HS_w3_0.out.mono (fun _ _ e => e.elim)) ?_
  try simp only [Act.put, List.setIfInBounds_toArray, List.set_cons_zero, List.set_cons_succ]
  refine wpAnyH_take (i := 3) (oi := ⟨some 10, _, _, _, _, _⟩) (v := .int .i64 count) rfl (by kernel_rfl) (by kernel_rfl) (by kernel_rfl) (fun _ _ _ h => h) (Or.inl ⟨by rfl, fun w hS => by have c0 := hS.cell HCE.out (by simp); go_simp⟩) (HS_w3_0.out.mono (fun _ _ e => e.elim)) ?_
  try simp only [Act.put, List.setIfInBounds_toArray, List.set_cons_zero, List.set_cons_succ]
  refine wpAnyH_take (i := 5) (oi := ⟨some 12, _, _, _, _, _⟩) (v := .pointer (some ⟨w.heap.size + 1, 1, none⟩)) rfl (by kernel_rfl) (by kernel_rfl) (by kernel_rfl) (fun _ _ _ h => h) (Or.inl ⟨by rfl, fun w hS => by go_simp⟩) (HS_w3_0.out.mono (fun _ _ e => e.elim)) ?_
  try simp only [Act.put, List.setIfInBounds_toArray, List.set_cons_zero, List.set_cons_succ]
  refine wpAnyH_take (i := 6) (oi := ⟨some 13, _, _, _, _, _⟩) (v := .slice (some ⟨w.heap.size + 1, 1, none⟩) 32 32) rfl (by kernel_rfl) (by kernel_rfl) (by kernel_rfl) (fun _ _ _ h => h) (Or.inl ⟨by rfl, fun w hS => by go_simp⟩) (HS_w3_0.out.mono (fun _ _ e => e.elim)) ?_
  try simp only [Act.put, List.setIfInBounds_toArray, List.set_cons_zero, List.set_cons_succ]
  refine wpAnyH_ready (rs := [4]) (by kernel_rfl) (by simp) ?_
  refine AllReadyH.cons rfl (fun K hK => ?_) AllReadyH.nil
  go_simp
  refine (eight_any count w3.drew).mono ?_
  rintro e w6 ⟨g6, rfl, hg6, hb6, hu_⟩
  have HS_w3_1 : Hid (Upd (fun _ => False) w3 w6) := HS_w3_0.out.trans (hu_.mono (fun _ _ h => h.elim))
  have HU_w6 := Lib.hid hu_
  clear hu_
  rw [← HN.out] at hb6
  have HS6 : Hid (Sl w6 (.slice (some ⟨g6, 0, none⟩) 8 8) (be N 8)) := sl_row w6 g6 5 (be N 8) _ 8 (be8_len N).symm (by rw [be8_len]; unfold maxLen; omega) hb6
  have Hlt6 : Hid (∀ k, own (.slice (some ⟨g6, 0, none⟩) 8 8) k → k < w6.heap.size) := fun k hk => by have := WriteW.own_at hk; have := lt_of_block hb6; omega
  clear hg6 hb6
  refine hK.out _ _ (HS_w3_1.out.mono (fun _ _ e => e.elim)) (fun hHeld => ?_)
  clear hK K hHeld
  try simp only [Act.put, List.setIfInBounds_toArray, List.set_cons_zero, List.set_cons_succ]
  refine wpAnyH_ready (rs := [7]) (by kernel_rfl) (by simp) ?_
  refine AllReadyH.cons rfl (fun K hK => ?_) AllReadyH.nil
  go_simp
  obtain ⟨w7, hw7⟩ : ∃ x, x = w6.alloc (.cells #[.slice (some ⟨w.heap.size, 0, none⟩) 32 32, .slice (some ⟨g6, 0, none⟩) 8 8, .slice (some ⟨w.heap.size + 1, 1, none⟩) 32 32] 25) := ⟨_, rfl⟩
  rw [← hw7]
  have hu7 : Upd (fun _ => False) w6 w7 := by rw [hw7]; exact (Upd.refl _ w6).alloc _
  have hn7 : w7.heap[w6.heap.size]? = some (.cells #[.slice (some ⟨w.heap.size, 0, none⟩) 32 32, .slice (some ⟨g6, 0, none⟩) 8 8, .slice (some ⟨w.heap.size + 1, 1, none⟩) 32 32] 25 (0, 0)) := by rw [hw7]; exact heap_alloc_new w6 _
  have hs7 : w7.heap.size = w6.heap.size + 1 := by rw [hw7]; simp
  have HS7 : Hid (Upd (fun _ => False) w3 w7) := HS_w3_1.out.trans (hu7.mono (fun _ _ e => e.elim))
  have hs6 : w.heap.size + 3 ≤ w6.heap.size := by have := HS_w3_1.out.size; (try simp at this); omega
  have HU7 : Hid (Upd (fun _ => False) w w7) := HU3.out.trans (HS7.out.mono (fun _ _ e => e.elim))
  have HO := Lib.hid (rof_any width Hw.out 3 _ 3 [ks, be N 8, ds] (fun k => k < w7.heap.size) w7 (slL_three w7 w6.heap.size _ _ _ ks (be N 8) ds _ hn7 (HX3.out.upd HS7.out (fun _ _ => id)) (HS6.out.upd hu7 (fun _ _ => id)) (HE3.out.upd HS7.out (fun _ _ => id)) (fun k h => by have := WriteW.own_at h; omega) (fun k h => by have := Hlt6.out k h; omega) (fun k h => by have := WriteW.own_at h; omega) (by omega))
    (fun k h => h) (by simp) (by simp [cat, Hx.out, Hd.out, be8_len]))
  clear hn7 hu7 hw7 hs7
  refine hK.out _ _ (HS7.out.mono (fun _ _ e => e.elim)) (fun hHeld => ?_)
  clear hK K hHeld
  try simp only [Act.put, List.setIfInBounds_toArray, List.set_cons_zero, List.set_cons_succ]
  refine wpAnyH_ready (rs := [8]) (by kernel_rfl) (by simp) ?_
  refine AllReadyH.cons rfl (fun K hK => ?_) AllReadyH.nil
  go_simp
  refine (HO.out).mono ?_
  rintro e w8 ⟨rfl, hu_⟩
  have HS_w3_2 : Hid (Upd (fun _ => False) w3 w8) := HS7.out.trans (hu_.mono (fun _ _ h => h.elim))
  have HU_w8 := Lib.hid hu_
  clear hu_
  have HR8 : Hid (w8.heap[w.heap.size + 2]? = some (.cells AD 23 (0, 0))) := (HS_w3_2.out.block _ (lt_of_block HR3.out) id).trans HR3.out
  refine hK.out _ _ (HS_w3_2.out.mono (fun _ _ e => e.elim)) (fun hHeld => ?_)
  clear hK K hHeld
  try simp only [Act.put, List.setIfInBounds_toArray, List.set_cons_zero, List.set_cons_succ]
  refine wpAnyH_ready (rs := [9]) (by kernel_rfl) (by simp) ?_
  refine AllReadyH.cons rfl (fun K hK => ?_) AllReadyH.nil
  rw [if_pos (by rfl)]
  refine wp_store_row 23 (.tmp 6) (.tmp 15) rfl (w.heap.size + 2) Y rfl (by rw [HY.out]; rfl) 23 AD HR8.out HYs.out HYl.out HY1.out ?_
  have Hg9 := Lib.hid (setRow_heap _ _ AD Y _ _ HR8.out)
  have Hu9 : Hid (Upd (fun k => k = w.heap.size + 2) w8 (w8.setRow (w.heap.size + 2) Y)) := Upd.setRow (Upd.refl _ _) _ Y (.inl rfl)
  generalize w8.setRow (w.heap.size + 2) Y = w9 at Hg9 Hu9 ⊢
  refine hK.out _ _ ((HS_w3_2.out.mono (fun _ _ e => e.elim)).trans (Hu9.out.mono fun k _ e => .inl e)) (fun hHeld => ?_)
  clear hK K hHeld
  try simp only [Act.put, List.setIfInBounds_toArray, List.set_cons_zero, List.set_cons_succ]
  refine wpAnyH_done (by kernel_rfl) ?_ _
  go_wp2
  refine bodyPost_ret (results_cell_row rfl _ _ (w.heap.size + 2) 23 Y (0, 0) _ rfl Hg9.out Tryd.underlying23 rfl HYs.out) rfl ?_
  exact ⟨rfl, (HU3.out.trans (HS_w3_2.out.mono (fun _ _ e => e.elim))).trans (Hu9.out.mono (fun k hk e => .inr (by omega)))⟩

end Go.Proofs.YtiglaeipbcmlnaaDoor.TabE

/-
  docketref2.Empties, Empty: a row of digests that grows.
-/
namespace Go.Proofs.YtiglaeipbcmlnaaDoor.TabZ
open Go.RowKit Sha Mem RowW SpreadW MixW HashM CopyW SumH OfW LeafW BranchW EmptyW BookW HeldW RefOf TabR EqW CutW
set_option linter.unusedVariables false
set_option linter.unusedSimpArgs false

theorem infoDz : (Tryd.prog.info? 23).map (fun i => (i.zero, i.size, i.bytes)) = some (some (.agg A32), 32, 32) := by kernel_rfl
/-- append of one digest to a row of digests -/
theorem run_append_dig (w : World) (ty : TypeId) (g n cap : Nat) (xs news : List Value) (hown : w.ownsRow 0 23 32 (.slice (some ⟨g, 0, none⟩) n cap) n xs) (gn c : Nat)
    (hgn : w.heap[gn]? = some (.cells news.toArray 23 (0, 0))) (hnl : news.length = 32) (h1 : ∀ u ∈ news, u.oneCell' = true) (hn : n + 1 ≤ 4000000000) :
    ∃ ao' cap' w', (Builtin.append_ #[97, 97] ty #[.slice (some ⟨g, 0, none⟩) n cap, .slice (some ⟨gn, 0, none⟩) 1 c]).run Tryd.prog w = .ok (.slice ao' (n + 1) cap') w' ∧
      w'.ownsRow 0 23 32 (.slice ao' (n + 1) cap') (n + 1) (xs ++ news) ∧ Upd (fun k => k = g) w w' ∧ (∀ k, own (.slice ao' (n + 1) cap') k → k = g ∨ w.heap.size ≤ k) ∧
      (∀ o cs, o + cs.length ≤ n * 32 → w.rangeAt g o cs → w'.rangeAt g o cs) := by
  obtain ⟨i0, hi, hz0, hz1, hz2⟩ := info_parts infoDz
  have hxl := hown.1
  have hnews : ∀ j x, news[j]? = some x → w.cell? ((⟨gn, 0, none⟩ : Addr).add j) = some x := fun j x hx => by
    rw [add_none, cell_of_row _ _ _ _ _ _ hgn, Nat.zero_add, List.getElem?_toArray]; exact hx
  rcases hown.2 with ⟨h, _⟩ | ⟨g', cap', cur, he, hb0, hb, hc1, hc2, hc3, hc4⟩
  · cases h
  · injection he with e1 e2 e3
    injection e1 with e1
    injection e1 with e1
    subst e1 e3
    by_cases hroom : n + 1 ≤ cap
    · have hr := run_append_room_cells (P := Tryd.prog) w 97 ty 23 i0 Tryd.underlying97 hi g 0 n cap ⟨gn, 0, none⟩ 1 c news (by rw [hz1, hnl]) hnews h1 hroom
        (fun j hj => by rw [hz1, Nat.zero_add, cell_of_row _ _ _ _ _ _ hb, Array.getElem?_eq_getElem (by omega)]; rfl)
        (fun j hj => by simp [World.frozen?, hb])
      rw [hz1, Nat.zero_add] at hr
      have hrow : Row w g 23 cur.toList := by show _ = _; rw [hb]
      have hrow' := setCells_row g 23 news (n * 32) w cur.toList hrow (by simp; omega)
      have hsp : (splice cur.toList (n * 32) news).length = cur.size := by unfold splice; simp; omega
      refine ⟨_, _, _, hr, ⟨by rw [List.length_append]; omega, .inr ⟨g, cap, (splice cur.toList (n * 32) news).toArray, rfl, Nat.zero_le _, hrow', hroom, hc2, by simp only [List.size_toArray]; rw [hsp]; exact hc3, ?_⟩⟩, upd_setCells g news _ w, fun k hk => .inl (WriteW.own_at hk), fun o cs ho hr => ?_⟩
      · have e : (n + 1) * 32 = n * 32 + news.length := by omega
        show (splice cur.toList (n * 32) news).take ((n + 1) * 32) = xs ++ news
        unfold splice
        rw [e, hc4, ← List.append_assoc, List.take_append_of_le_length (by simp; omega), List.take_of_length_le (by simp; omega)]
      · intro j v hv
        have hj := (List.getElem?_eq_some_iff.1 hv).1
        have h2 := hr j v hv
        rw [hrow.cell] at h2
        rw [hrow'.cell, ← h2]
        unfold splice
        rw [List.getElem?_append_left (by simp; omega), List.getElem?_take_of_lt (by omega)]
    · obtain ⟨v', w', hr, r1, r2⟩ := run_append_arg_grows (P := Tryd.prog) w 97 ty 23 i0 (.agg A32) 32 32 Tryd.underlying97 hi hz0 hz1 hz2 (by simp [Value.cells, A32]) (by decide) ⟨g, 0, none⟩ n cap xs hxl
        (fun j x hx => hown.cells (g := g) rfl j x hx) ⟨gn, 0, none⟩ 1 c news (by rw [hnl]) hnews (by omega) (by unfold maxLen; omega) (by omega)
      obtain ⟨ao', cap'', rfl⟩ : ∃ ao' cap'', v' = .slice ao' (n + 1) cap'' := by
        rcases r1.2 with ⟨_, h⟩ | ⟨g2, cap2, cur2, h, _⟩
        · omega
        · exact ⟨_, _, h⟩
      have hu : Upd (fun _ => False) w w' := Upd.grown r2 (fun k hk => by cases hk)
      have hgl := lt_of_block hb
      refine ⟨_, _, _, hr, ⟨r1.1, ?_⟩, hu.mono (fun _ _ e => e.elim), fun k hk => .inr (r1.lt k hk).1, fun o cs _ hr j v hv => hu.cell (hr j v hv) id⟩
      rcases r1.2 with h | ⟨g2, cap2, cur2, h, _, h3⟩
      · exact .inl h
      · exact .inr ⟨g2, cap2, cur2, h, Nat.zero_le _, h3⟩

theorem wp_append_dig (w : World) {o : Oper} {a : Act} {K : Act → World → Prop} {Q : Exit → Act → World → Prop} (sl x : Operand)
    (ho : o.op = .call { callee := .builtin .append, args := #[sl, x], argTypes := #[97, 97] })
    (g n cap : Nat) (xs news : List Value) (hs : a.eval sl = .slice (some ⟨g, 0, none⟩) n cap) (hown : w.ownsRow 0 23 32 (.slice (some ⟨g, 0, none⟩) n cap) n xs) (gn c : Nat) (hx : a.eval x = .slice (some ⟨gn, 0, none⟩) 1 c)
    (hgn : w.heap[gn]? = some (.cells news.toArray 23 (0, 0))) (hnl : news.length = 32) (h1 : ∀ u ∈ news, u.oneCell' = true) (hn : n + 1 ≤ 4000000000) (m : Nat) (hm : m = n + 1)
    (hK : ∀ ao' cap' w', Hid (w'.ownsRow 0 23 32 (.slice ao' m cap') m (xs ++ news)) → Hid (Upd (fun k => k = g) w w') → Hid (∀ k, own (.slice ao' m cap') k → k = g ∨ w.heap.size ≤ k) →
      Hid (∀ o cs, o + cs.length ≤ n * 32 → w.rangeAt g o cs → w'.rangeAt g o cs) → K (a.put o.dst (.slice ao' m cap')) w') : Oper.wp Tryd.prog o a w K Q := by
  subst hm
  obtain ⟨ao', cap', w', hrun, r1, r2, r3, r4⟩ := run_append_dig w o.type g n cap xs news hown gn c hgn hnl h1 hn
  unfold Oper.wp
  simp [execOp, ho, resolve, invoke, builtin, hs, hx, hrun, Result.andThen]
  exact hK ao' cap' w' r1 r2 r3 r4

theorem fold_fill (l : List Value) : ∀ (o : Nat) (Z : Array Value), o + l.length ≤ Z.size → (l.zipIdx o).foldl (fun cs (x : Value × Nat) => cs.setIfInBounds x.2 x.1) Z = (splice Z.toList o l).toArray := by
  induction l with
  | nil => intro o Z _; simp [splice]
  | cons v l ih =>
    intro o Z h
    rw [List.length_cons] at h
    rw [List.zipIdx_cons, List.foldl_cons, ih (o + 1) _ (by rw [Array.size_setIfInBounds]; omega), Array.toList_setIfInBounds]
    congr 1
    unfold splice
    rw [List.take_set, List.drop_set_of_lt (by omega), List.take_succ_eq_append_getElem (by simp; omega), List.set_append_right _ _ (by simp; omega)]
    simp [Nat.min_eq_left (show o ≤ Z.size by omega), Nat.add_assoc, Nat.add_comm 1]
theorem built32 (X : Array Value) (hX : X.size = 32) : Array.foldl (fun cs (x : Value × Nat) => cs.setIfInBounds x.2 x.1) #[Value.int .u8 0, Value.int .u8 0, Value.int .u8 0, Value.int .u8 0, Value.int .u8 0, Value.int .u8 0, Value.int .u8 0, Value.int .u8 0, Value.int .u8 0, Value.int .u8 0, Value.int .u8 0, Value.int .u8 0, Value.int .u8 0, Value.int .u8 0, Value.int .u8 0, Value.int .u8 0, Value.int .u8 0, Value.int .u8 0, Value.int .u8 0, Value.int .u8 0, Value.int .u8 0, Value.int .u8 0, Value.int .u8 0, Value.int .u8 0, Value.int .u8 0, Value.int .u8 0, Value.int .u8 0, Value.int .u8 0, Value.int .u8 0, Value.int .u8 0, Value.int .u8 0, Value.int .u8 0] X.zipIdx 0 32 = X := by
  have h := fold_fill X.toList 0 #[Value.int .u8 0, Value.int .u8 0, Value.int .u8 0, Value.int .u8 0, Value.int .u8 0, Value.int .u8 0, Value.int .u8 0, Value.int .u8 0, Value.int .u8 0, Value.int .u8 0, Value.int .u8 0, Value.int .u8 0, Value.int .u8 0, Value.int .u8 0, Value.int .u8 0, Value.int .u8 0, Value.int .u8 0, Value.int .u8 0, Value.int .u8 0, Value.int .u8 0, Value.int .u8 0, Value.int .u8 0, Value.int .u8 0, Value.int .u8 0, Value.int .u8 0, Value.int .u8 0, Value.int .u8 0, Value.int .u8 0, Value.int .u8 0, Value.int .u8 0, Value.int .u8 0, Value.int .u8 0] (by simp [hX])
  have e : Array.foldl (fun cs (x : Value × Nat) => cs.setIfInBounds x.2 x.1) #[Value.int .u8 0, Value.int .u8 0, Value.int .u8 0, Value.int .u8 0, Value.int .u8 0, Value.int .u8 0, Value.int .u8 0, Value.int .u8 0, Value.int .u8 0, Value.int .u8 0, Value.int .u8 0, Value.int .u8 0, Value.int .u8 0, Value.int .u8 0, Value.int .u8 0, Value.int .u8 0, Value.int .u8 0, Value.int .u8 0, Value.int .u8 0, Value.int .u8 0, Value.int .u8 0, Value.int .u8 0, Value.int .u8 0, Value.int .u8 0, Value.int .u8 0, Value.int .u8 0, Value.int .u8 0, Value.int .u8 0, Value.int .u8 0, Value.int .u8 0, Value.int .u8 0, Value.int .u8 0] X.zipIdx 0 32 = (X.toList.zipIdx 0).foldl (fun cs (x : Value × Nat) => cs.setIfInBounds x.2 x.1) #[Value.int .u8 0, Value.int .u8 0, Value.int .u8 0, Value.int .u8 0, Value.int .u8 0, Value.int .u8 0, Value.int .u8 0, Value.int .u8 0, Value.int .u8 0, Value.int .u8 0, Value.int .u8 0, Value.int .u8 0, Value.int .u8 0, Value.int .u8 0, Value.int .u8 0, Value.int .u8 0, Value.int .u8 0, Value.int .u8 0, Value.int .u8 0, Value.int .u8 0, Value.int .u8 0, Value.int .u8 0, Value.int .u8 0, Value.int .u8 0, Value.int .u8 0, Value.int .u8 0, Value.int .u8 0, Value.int .u8 0, Value.int .u8 0, Value.int .u8 0, Value.int .u8 0, Value.int .u8 0] := by
    have e2 : (32 : Nat) = X.zipIdx.size := by simp [hX]
    rw [e2, ← Array.foldl_toList, Array.toList_zipIdx]
  rw [e, h]
  unfold splice
  apply Array.toList_inj.1
  simp [hX]
def embs (width : Int) (h : Nat) : List UInt8 := (List.range h).flatMap (emp width)
theorem embs_succ (width : Int) (h : Nat) : embs width (h + 1) = embs width h ++ emp width h := by simp [embs, List.range_succ]
theorem embs_len (width : Int) (h : Nat) : (embs width h).length = h * 32 := by
  induction h with
  | zero => rfl
  | succ h ih => rw [embs_succ, List.length_append, ih, emp_len]; omega
theorem embs_at (width : Int) (h k j : Nat) (hk : k < h) (hj : j < 32) : (embs width h)[k * 32 + j]? = (emp width k)[j]? := by
  induction h with
  | zero => omega
  | succ h ih =>
    rw [embs_succ]
    rcases Nat.lt_or_ge k h with h1 | h1
    · rw [List.getElem?_append_left (by rw [embs_len]; omega)]; exact ih h1
    · obtain rfl : k = h := by omega
      rw [List.getElem?_append_right (by rw [embs_len]; omega), embs_len]
      congr 1
      omega
theorem range_embs {w : World} {g n cap : Nat} {width : Int} (h : w.ownsRow 0 23 32 (.slice (some ⟨g, 0, none⟩) n cap) n ((embs width n).map u8)) (k : Nat) (hk : k < n) : w.rangeAt g (k * 32) ((emp width k).map u8) := by
  intro j v hv
  have hj : j < 32 := by have := (List.getElem?_eq_some_iff.1 hv).1; rw [List.length_map, emp_len] at this; exact this
  have h2 := h.cells (g := g) rfl (k * 32 + j) v (by rw [List.getElem?_map, embs_at width n k j hk hj, ← List.getElem?_map]; exact hv)
  rwa [add_none, Nat.zero_add] at h2
def EmpsAt (width : Int) (w : World) (e : Ending) (w' : World) : Prop := ∃ g cap, e = .returned (.slice (some ⟨g, 0, none⟩) 257 cap) ∧ w'.ownsRow 0 23 32 (.slice (some ⟨g, 0, none⟩) 257 cap) 257 ((embs width 257).map u8) ∧ Upd (fun _ => False) w w'
def LZ (width : Int) (w0 : World) (v i : Value) (wr : World) : Prop :=
  ∃ k g cap : Nat, k ≤ 256 ∧ i = .int .i64 ((k : Int) + 1) ∧ v = .slice (some ⟨g, 0, none⟩) (k + 1) cap ∧ wr.ownsRow 0 23 32 (.slice (some ⟨g, 0, none⟩) (k + 1) cap) (k + 1) ((embs width (k + 1)).map u8) ∧ w0.heap.size ≤ g ∧ Upd (fun _ => False) w0 wr

set_option maxHeartbeats 4000000 in
set_option maxRecDepth 100000 in
theorem empties_any (width : Int) (hw : -9223372036854775808 ≤ width ∧ width ≤ 9223372036854775807) (w : World) :
    Calls Tryd.prog 71 #[.int .i64 width] w (EmpsAt width w) := by
  have HO := Lib.hid (rof_any width hw 5 none 0 [] (fun k => False) w (slL_nil w 0 rfl _) (fun k h => h.elim) (by simp) (by simp [cat]))
  have Hw := Lib.hid hw
  obtain ⟨X, hX⟩ : ∃ X, X = ((emp width 0).map u8).toArray := ⟨_, rfl⟩
  have HXe : Hid (Value.agg ((ofM width 5 []).map u8).toArray = .agg X) := by show _ = _; rw [hX]; rfl
  rw [HXe.out] at HO
  have hXs : X.size = 32 := by rw [hX]; simp [emp_len]
  have HX := Lib.hid hX
  clear hw hX
  go_enter Tryd.func71, Tryd.ntmps71
  go_wp2_with fail
  refine HO.out.mono ?_
  rintro e w1 ⟨rfl, hu1⟩
  have HU1 := Lib.hid hu1
  clear hu1
  have HS0 : Hid (LZ width w (.slice (some ⟨w1.heap.size, 0, none⟩) 1 1) (.int .i64 1) (w1.alloc (.cells X 23))) := by
    refine ⟨0, w1.heap.size, 1, by omega, rfl, rfl, ?_, HU1.out.size, HU1.out.alloc _⟩
    have e : embs width 1 = emp width 0 := by simp [embs]
    refine ⟨by rw [List.length_map, embs_len], .inr ⟨w1.heap.size, 1, X, rfl, Nat.zero_le _, heap_alloc_new _ _, Nat.le_refl _, by unfold maxLen; omega, by rw [HX.out]; simp [emp_len], ?_⟩⟩
    rw [HX.out, e]
    exact List.take_of_length_le (by simp [emp_len])
  go_wp2
  rw [built32 X hXs]
  clear hXs
  go_loopw [3, 4] (fun v i wr => LZ width w v i wr) (fun _ i _ => (257 - intOf i).toNat)
  case atStart => exact HS0.out
  case round =>
    clear HS0
    obtain ⟨k, g, cap, hk, rfl, rfl, hown, hg, hu⟩ := hrel
    have HOw := Lib.hid hown
    have HU := Lib.hid hu
    have Hgl : Hid (g < wr.heap.size) := (hown.lt g (by simp [Value.ownBlock])).2
    clear hown hu
    by_cases hlt : k < 256
    · have hltI : (k : Int) + 1 ≤ 256 := by omega
      obtain ⟨Z, hZ⟩ : ∃ Z, Z = ((emp width k).map Mem.u8) := ⟨_, rfl⟩
      have hr0 := range_embs HOw.out k (by omega)
      rw [← hZ] at hr0
      have HR0 := Lib.hid hr0
      have HZs : Hid ((Tryd.prog.info? 23).map (·.size) = some Z.length) := by show _ = _; rw [size32, hZ]; simp [emp_len]
      obtain ⟨F, hF⟩ : ∃ F, F = ((emp width (k + 1)).map Mem.u8) := ⟨_, rfl⟩
      have hFl : F.length = 32 := by rw [hF]; simp [emp_len]
      have hF1 : ∀ u ∈ F, u.oneCell' = true := by rw [hF]; exact one_of _
      have HB := Lib.hid (rbranch_any width Hw.out (emp width k) (emp width k) (emp_len _ _) (emp_len _ _) wr.drew trivial trivial)
      rw [← hZ, show ofM width 4 [emp width k, emp width k] = emp width (k + 1) from rfl, ← hF] at HB
      obtain ⟨FA, hFA⟩ : ∃ FA, FA = F.toArray := ⟨_, rfl⟩
      rw [← hFA] at HB
      have HFs : Hid (FA.size = 32) := by show _ = _; rw [hFA]; simpa using hFl
      have HFA := Lib.hid hFA
      have HF := Lib.hid hF
      have HFl := Lib.hid hFl
      have HF1 := Lib.hid hF1
      have ew : IntKind.i64.wrap (k : Int) = k := IntWalk.i64_in _ (by omega)
      have ew2 : IntKind.i64.wrap ((k : Int) + 1 - 1) = k := by rw [show (k : Int) + 1 - 1 = k by omega]; exact ew
      have hkk : (k : Int) < (k : Int) + 1 := by omega
      have hkn : k < k + 1 := by omega
      clear hZ hF hr0 hFl hF1 hFA
      go_wp2_with fail
      have HS_0 : Hid (wr.drew.rangeAt g (k * 32) Z) := HR0.out
      refine wp_region_held_drew (S := fun w => w.rangeAt g (k * 32) Z) (by kernel_rfl) HS_0.out (fun _ => ?_)
      refine wpAnyH_take (i := 0) (oi := ⟨some 12, _, _, _, _, _⟩) (v := .slice (some ⟨g, 0, none⟩) (k + 1) cap) rfl (by kernel_rfl) (by kernel_rfl) (by kernel_rfl) (fun _ _ _ h => h) (Or.inl ⟨by rfl, fun w hS => by go_simp⟩) HS_0.out ?_
      try simp only [Act.put, List.setIfInBounds_toArray, List.set_cons_zero, List.set_cons_succ]
      refine wpAnyH_take (i := 1) (oi := ⟨some 13, _, _, _, _, _⟩) (v := .int .i64 width) rfl (by kernel_rfl) (by kernel_rfl) (by kernel_rfl) (fun _ _ _ h => h) (Or.inl ⟨by rfl, fun w hS => by go_simp⟩) HS_0.out ?_
      try simp only [Act.put, List.setIfInBounds_toArray, List.set_cons_zero, List.set_cons_succ]
      refine wpAnyH_take (i := 2) (oi := ⟨some 14, _, _, _, _, _⟩) (v := .slice (some ⟨g, 0, none⟩) (k + 1) cap) rfl (by kernel_rfl) (by kernel_rfl) (by kernel_rfl) (fun _ _ _ h => h) (Or.inl ⟨by rfl, fun w hS => by go_simp⟩) HS_0.out ?_
      try simp only [Act.put, List.setIfInBounds_toArray, List.set_cons_zero, List.set_cons_succ]
      refine wpAnyH_take (i := 3) (oi := ⟨some 15, _, _, _, _, _⟩) (v := .int .i64 ((k : Int) + 1)) rfl (by kernel_rfl) (by kernel_rfl) (by kernel_rfl) (fun _ _ _ h => h) (Or.inl ⟨by rfl, fun w hS => by go_simp⟩) HS_0.out ?_
      try simp only [Act.put, List.setIfInBounds_toArray, List.set_cons_zero, List.set_cons_succ]
      refine wpAnyH_take (i := 4) (oi := ⟨some 16, _, _, _, _, _⟩) (v := .int .i64 (k : Int)) rfl (by kernel_rfl) (by kernel_rfl) (by kernel_rfl) (fun _ _ _ h => h) (Or.inl ⟨by rfl, fun w hS => by go_simp⟩) HS_0.out ?_
      try simp only [Act.put, List.setIfInBounds_toArray, List.set_cons_zero, List.set_cons_succ]
      refine wpAnyH_take (i := 5) (oi := ⟨some 17, _, _, _, _, _⟩) (v := .pointer (some ⟨g, k * 32, none⟩)) rfl (by kernel_rfl) (by kernel_rfl) (by kernel_rfl) (fun _ _ _ h => h) (Or.inl ⟨by rfl, fun w hS => by go_simp⟩) HS_0.out ?_
      try simp only [Act.put, List.setIfInBounds_toArray, List.set_cons_zero, List.set_cons_succ]
      refine wpAnyH_take (i := 6) rfl (by kernel_rfl) (by kernel_rfl) (by kernel_rfl) (fun _ _ _ h => h) (yieldsIf_load_mid (by rfl) _ _ rfl g (k * 32) rfl Z _ (fun w h => h) Tryd.underlying23 rfl HZs.out) HS_0.out ?_
      try simp only [Act.put, List.setIfInBounds_toArray, List.set_cons_zero, List.set_cons_succ]
      refine wpAnyH_take (i := 7) (oi := ⟨some 19, _, _, _, _, _⟩) (v := .slice (some ⟨g, 0, none⟩) (k + 1) cap) rfl (by kernel_rfl) (by kernel_rfl) (by kernel_rfl) (fun _ _ _ h => h) (Or.inl ⟨by rfl, fun w hS => by go_simp⟩) HS_0.out ?_
      try simp only [Act.put, List.setIfInBounds_toArray, List.set_cons_zero, List.set_cons_succ]
      refine wpAnyH_take (i := 8) (oi := ⟨some 20, _, _, _, _, _⟩) (v := .int .i64 ((k : Int) + 1)) rfl (by kernel_rfl) (by kernel_rfl) (by kernel_rfl) (fun _ _ _ h => h) (Or.inl ⟨by rfl, fun w hS => by go_simp⟩) HS_0.out ?_
      try simp only [Act.put, List.setIfInBounds_toArray, List.set_cons_zero, List.set_cons_succ]
      refine wpAnyH_take (i := 9) (oi := ⟨some 21, _, _, _, _, _⟩) (v := .int .i64 (k : Int)) rfl (by kernel_rfl) (by kernel_rfl) (by kernel_rfl) (fun _ _ _ h => h) (Or.inl ⟨by rfl, fun w hS => by go_simp⟩) HS_0.out ?_
      try simp only [Act.put, List.setIfInBounds_toArray, List.set_cons_zero, List.set_cons_succ]
      refine wpAnyH_take (i := 10) (oi := ⟨some 22, _, _, _, _, _⟩) (v := .pointer (some ⟨g, k * 32, none⟩)) rfl (by kernel_rfl) (by kernel_rfl) (by kernel_rfl) (fun _ _ _ h => h) (Or.inl ⟨by rfl, fun w hS => by go_simp⟩) HS_0.out ?_
      try simp only [Act.put, List.setIfInBounds_toArray, List.set_cons_zero, List.set_cons_succ]
      refine wpAnyH_take (i := 11) rfl (by kernel_rfl) (by kernel_rfl) (by kernel_rfl) (fun _ _ _ h => h) (yieldsIf_load_mid (by rfl) _ _ rfl g (k * 32) rfl Z _ (fun w h => h) Tryd.underlying23 rfl HZs.out) HS_0.out ?_
      try simp only [Act.put, List.setIfInBounds_toArray, List.set_cons_zero, List.set_cons_succ]
      refine wpAnyH_ready (rs := [12]) (by kernel_rfl) (by simp) ?_
      refine AllReadyH.cons rfl (fun K hK => ?_) AllReadyH.nil
      go_simp
      refine HB.out.mono ?_
      rintro e w2 ⟨rfl, hu2⟩
      have HU2 : Hid (Upd (fun _ => False) wr w2) := ((Upd.refl (fun _ => False) wr).drew).trans (hu2.mono (fun _ _ e => e.elim))
      clear hu2
      have HS_1 : Hid (w2.rangeAt g (k * 32) Z) := fun j v hv => HU2.out.cell (HR0.out j v hv) id
      refine hK.out _ _ HS_1.out (fun hHeld => ?_)
      clear hK K hHeld
      try simp only [Act.put, List.setIfInBounds_toArray, List.set_cons_zero, List.set_cons_succ]
      refine wpAnyH_ready (rs := [13]) (by kernel_rfl) (by simp) ?_
      refine AllReadyH.cons rfl (fun K hK => ?_) AllReadyH.nil
      have hFl := HFs.out
      go_simp
      rw [built32 FA hFl]
      clear hFl
      obtain ⟨w3, hw3⟩ : ∃ x, x = w2.alloc (.cells FA 23) := ⟨_, rfl⟩
      rw [← hw3]
      have hu3 : Upd (fun _ => False) w2 w3 := by rw [hw3]; exact (Upd.refl _ w2).alloc _
      have hn3 : w3.heap[w2.heap.size]? = some (.cells F.toArray 23 (0, 0)) := by rw [hw3, ← HFA.out]; exact heap_alloc_new w2 _
      have HU3 : Hid (Upd (fun _ => False) wr w3) := HU2.out.trans (hu3.mono (fun _ _ e => e.elim))
      have HN3 := Lib.hid hn3
      clear hw3 hu3 hn3
      have HS_2 : Hid (w3.rangeAt g (k * 32) Z) := fun j v hv => HU3.out.cell (HR0.out j v hv) id
      refine hK.out _ _ HS_2.out (fun hHeld => ?_)
      clear hK K hHeld
      try simp only [Act.put, List.setIfInBounds_toArray, List.set_cons_zero, List.set_cons_succ]
      refine wpAnyH_ready (rs := [14]) (by kernel_rfl) (by simp) ?_
      refine AllReadyH.cons rfl (fun K hK => ?_) AllReadyH.nil
      rw [if_pos (by rfl)]
      have HO3 : Hid (w3.ownsRow 0 23 32 (.slice (some ⟨g, 0, none⟩) (k + 1) cap) (k + 1) ((embs width (k + 1)).map Mem.u8)) := IntsW.own_upd HOw.out HU3.out (fun _ _ => id)
      refine wp_append_dig w3 (.tmp 12) (.tmp 25) rfl g (k + 1) cap _ F rfl HO3.out w2.heap.size 1 rfl HN3.out HFl.out HF1.out (by omega) (k + 2) rfl ?_
      intro ao4 cap4 w4 HO4 HU4 HN4 HR4
      have HS_3 : Hid (w4.rangeAt g (k * 32) Z) := HR4.out _ _ (by have := HZs.out; rw [size32] at this; injection this with this; omega) HS_2.out
      refine hK.out _ _ HS_3.out (fun hHeld => ?_)
      clear hK K hHeld
      try simp only [Act.put, List.setIfInBounds_toArray, List.set_cons_zero, List.set_cons_succ]
      refine wpAnyH_take (i := 15) (oi := ⟨some 3, _, _, _, _, _⟩) (v := .slice ao4 (k + 2) cap4) rfl (by kernel_rfl) (by kernel_rfl) (by kernel_rfl) (fun _ _ _ h => h) (Or.inl ⟨by rfl, fun w hS => by go_simp⟩) HS_3.out ?_
      try simp only [Act.put, List.setIfInBounds_toArray, List.set_cons_zero, List.set_cons_succ]
      refine wpAnyH_done (by kernel_rfl) ?_ _
      obtain ⟨g4, rfl⟩ : ∃ g4, ao4 = some ⟨g4, 0, none⟩ := by
        rcases HO4.out.2 with ⟨_, h⟩ | ⟨g2, cap2, cur2, h, _⟩
        · omega
        · injection h with h
          exact ⟨_, h⟩
      have HP : Hid (LZ width w (.slice (some ⟨g4, 0, none⟩) (k + 2) cap4) (.int .i64 ((k : Int) + 1 + 1)) w4) := by
        refine ⟨k + 1, g4, cap4, by omega, by congr 1, rfl, ?_, ?_, ?_⟩
        · have h := HO4.out
          rw [HF.out, ← List.map_append, ← embs_succ] at h
          exact h
        · rcases HN4.out g4 (by simp [own, Value.ownBlock]) with h | h
          · omega
          · have h1 := HU3.out.size; have h2 := HU.out.size; omega
        · exact (HU.out.trans (HU3.out.mono (fun _ _ e => e.elim))).trans (HU4.out.mono (fun j _ e => .inr (by omega)))
      clear HO4 HU4 HN4 HR4 HO3 HU3 HN3 HU2 HS_0 HS_1 HS_2 HS_3 HB ew ew2
      go_wp2
      go_roundw
      case rel => exact HP.out
      case measure => simp [intOf]; omega
    · obtain rfl : k = 256 := by omega
      have HP : Hid (EmpsAt width w (.returned (.slice (some ⟨g, 0, none⟩) 257 cap)) wr) := ⟨g, cap, rfl, HOw.out, HU.out⟩
      clear HOw HU
      go_wp2
      go_ret
      exact HP.out

def cl (height : Int) : Nat := (max 0 (min height 256)).toNat
theorem cl_le (height : Int) : cl height ≤ 256 := by unfold cl; omega

set_option maxHeartbeats 2000000 in
set_option maxRecDepth 100000 in
theorem rempty_any (width height : Int) (hw : -9223372036854775808 ≤ width ∧ width ≤ 9223372036854775807) (w : World) :
    Calls Tryd.prog 36 #[.int .i64 width, .int .i64 height] w fun e w' => e = .returned (.agg ((emp width (cl height)).map u8).toArray) ∧ Upd (fun _ => False) w w' := by
  obtain ⟨k, hk⟩ : ∃ k, k = cl height := ⟨_, rfl⟩
  have hk256 := cl_le height
  rw [← hk] at hk256 ⊢
  obtain ⟨Y, hY⟩ : ∃ Y, Y = ((emp width k).map u8).toArray := ⟨_, rfl⟩
  obtain ⟨Z, hZ⟩ : ∃ Z, Z = ((emp width k).map u8) := ⟨_, rfl⟩
  have hl32 := emp_len width k
  have HY1 : Hid (Y.all (·.oneCell') = true) := by show _ = _; rw [hY]; simpa using one_of (emp width k)
  have HYs : Hid ((Tryd.prog.info? 23).map (·.size) = some Y.size) := by show _ = _; rw [size32, hY]; simp [hl32]
  have HYl : Hid (AD.size = Y.size) := by show _ = _; rw [hY]; simp [hl32, AD]
  have HZs : Hid ((Tryd.prog.info? 23).map (·.size) = some Z.length) := by show _ = _; rw [size32, hZ]; simp [hl32]
  have HYZ : Hid (Y = Z.toArray) := by show _ = _; rw [hY, hZ]
  obtain ⟨w0, hw0⟩ : ∃ x, x = w.alloc (.cells AD 23) := ⟨_, rfl⟩
  have hu0 : Upd (fun _ => False) w w0 := by rw [hw0]; exact (Upd.refl _ w).alloc _
  have hr0 : w0.heap[w.heap.size]? = some (.cells AD 23 (0, 0)) := by rw [hw0]; exact heap_alloc_new w _
  have HE := Lib.hid (empties_any width hw w0)
  have HU0 := Lib.hid hu0
  have HR0 := Lib.hid hr0
  have HZ := Lib.hid hZ
  have hz := zeroD
  rw [← hY]
  clear hY hZ hl32 hu0 hr0 hw
  have hkn : k < 257 := by omega
  have hkI : (k : Int) < 257 := by omega
  have key : ∀ e w1, EmpsAt width w0 e w1 → ∃ g cap, e = .returned (.slice (some ⟨g, 0, none⟩) 257 cap) ∧ w1.rangeAt g (k * 32) Z ∧ Upd (fun _ => False) w0 w1 := by
    rintro e w1 ⟨g, cap, rfl, hown, hu⟩
    refine ⟨g, cap, rfl, ?_, hu⟩
    rw [HZ.out]
    exact range_embs hown k hkn
  have HKey := Lib.hid key
  clear key
  by_cases h0 : height < 0
  · obtain rfl : k = 0 := by rw [hk]; unfold cl; omega
    clear hk
    go_enter Tryd.func36, Tryd.ntmps36
    go_wp2_with fail
    rw [← hw0]
    clear hw0
    refine HE.out.mono ?_
    intro e w1 he
    obtain ⟨g, cap, rfl, hr, hu1⟩ := HKey.out e w1 he
    have HRg := Lib.hid hr
    have HU1 := Lib.hid hu1
    have HR1 : Hid (w1.heap[w.heap.size]? = some (.cells AD 23 (0, 0))) := (hu1.block _ (lt_of_block HR0.out) id).trans HR0.out
    clear he hr hu1
    go_wp2_with (first
      | ((with_reducible refine wpList_load_mid (op := ⟨some 13, _, _, _, _, _⟩) ?_ 23 (.tmp 12) ?_ g (0 * 32) ?_ Z _ HRg.out Tryd.underlying23 ?_ HZs.out ?_); rfl; rfl; rfl; rfl; rw [← HYZ.out])
      | ((with_reducible refine wpList_store_new (o := ⟨none, .store 23 (.tmp 4) (.tmp 13), _, _, _, _⟩) ?_ _ (.tmp 4) (.tmp 13) ?_ w.heap.size Y ?_ ?_ 23 AD HR1.out HYs.out HYl.out HY1.out ?_); rfl; rfl; rfl; rfl; intro w4 Hg4 Hu4))
    refine bodyPost_ret (results_cell_row rfl _ _ w.heap.size 23 Y (0, 0) _ rfl Hg4.out Tryd.underlying23 rfl HYs.out) rfl ?_
    exact ⟨rfl, (HU0.out.trans (HU1.out.mono (fun _ _ e => e.elim))).trans (Hu4.out.mono (fun k hk e => .inr (by omega)))⟩
  · by_cases h1 : 256 < height
    · obtain rfl : k = 256 := by rw [hk]; unfold cl; omega
      have d0 : decide (height < 0) = false := decide_eq_false h0
      clear hk
      go_enter Tryd.func36, Tryd.ntmps36
      go_wp2_with fail
      rw [← hw0]
      clear hw0
      refine HE.out.mono ?_
      intro e w1 he
      obtain ⟨g, cap, rfl, hr, hu1⟩ := HKey.out e w1 he
      have HRg := Lib.hid hr
      have HU1 := Lib.hid hu1
      have HR1 : Hid (w1.heap[w.heap.size]? = some (.cells AD 23 (0, 0))) := (hu1.block _ (lt_of_block HR0.out) id).trans HR0.out
      clear he hr hu1
      go_wp2_with (first
        | ((with_reducible refine wpList_load_mid (op := ⟨some 13, _, _, _, _, _⟩) ?_ 23 (.tmp 12) ?_ g (256 * 32) ?_ Z _ HRg.out Tryd.underlying23 ?_ HZs.out ?_); rfl; rfl; rfl; rfl; rw [← HYZ.out])
        | ((with_reducible refine wpList_store_new (o := ⟨none, .store 23 (.tmp 4) (.tmp 13), _, _, _, _⟩) ?_ _ (.tmp 4) (.tmp 13) ?_ w.heap.size Y ?_ ?_ 23 AD HR1.out HYs.out HYl.out HY1.out ?_); rfl; rfl; rfl; rfl; intro w4 Hg4 Hu4))
      refine bodyPost_ret (results_cell_row rfl _ _ w.heap.size 23 Y (0, 0) _ rfl Hg4.out Tryd.underlying23 rfl HYs.out) rfl ?_
      exact ⟨rfl, (HU0.out.trans (HU1.out.mono (fun _ _ e => e.elim))).trans (Hu4.out.mono (fun k hk e => .inr (by omega)))⟩
    · obtain rfl : height = (k : Int) := by rw [hk]; unfold cl; omega
      have d0 : decide ((k : Int) < 0) = false := decide_eq_false h0
      have d1 : ¬ (256 : Int) < (k : Int) := h1
      clear hk
      go_enter Tryd.func36, Tryd.ntmps36
      go_wp2_with fail
      rw [← hw0]
      clear hw0
      refine HE.out.mono ?_
      intro e w1 he
      obtain ⟨g, cap, rfl, hr, hu1⟩ := HKey.out e w1 he
      have HRg := Lib.hid hr
      have HU1 := Lib.hid hu1
      have HR1 : Hid (w1.heap[w.heap.size]? = some (.cells AD 23 (0, 0))) := (hu1.block _ (lt_of_block HR0.out) id).trans HR0.out
      clear he hr hu1
      go_wp2_with (first
        | ((with_reducible refine wpList_load_mid (op := ⟨some 13, _, _, _, _, _⟩) ?_ 23 (.tmp 12) ?_ g (k * 32) ?_ Z _ HRg.out Tryd.underlying23 ?_ HZs.out ?_); rfl; rfl; rfl; rfl; rw [← HYZ.out])
        | ((with_reducible refine wpList_store_new (o := ⟨none, .store 23 (.tmp 4) (.tmp 13), _, _, _, _⟩) ?_ _ (.tmp 4) (.tmp 13) ?_ w.heap.size Y ?_ ?_ 23 AD HR1.out HYs.out HYl.out HY1.out ?_); rfl; rfl; rfl; rfl; intro w4 Hg4 Hu4))
      refine bodyPost_ret (results_cell_row rfl _ _ w.heap.size 23 Y (0, 0) _ rfl Hg4.out Tryd.underlying23 rfl HYs.out) rfl ?_
      exact ⟨rfl, (HU0.out.trans (HU1.out.mono (fun _ _ e => e.elim))).trans (Hu4.out.mono (fun k hk e => .inr (by omega)))⟩
end Go.Proofs.YtiglaeipbcmlnaaDoor.TabZ

/-
  docketbook.Roomy, Same, Intact of a slice that may be empty wherever it points.
-/
namespace Go.Proofs.YtiglaeipbcmlnaaDoor.BookE
open Go.RowKit Sha Mem RowW CopyW BookW SplitL
set_option linter.unusedVariables false

theorem src_el {w : World} {ao : Option Addr} {n cap k : Nat} {l : List UInt8} (h : El w (.slice ao n cap) l) (hk : k ≤ l.length) :
    ((l.take k).map u8).length = k ∧ (0 < ((l.take k).map u8).length → ∃ ad, ao = some ad ∧ ∀ j v, ((l.take k).map u8)[j]? = some v → w.cell? (ad.add j) = some v) := by
  by_cases hl : l = []
  · subst hl
    obtain ⟨_, _, he, _⟩ := h
    simp
    have h0 : k = 0 := by simpa using hk
    exact h0.symm
  · obtain ⟨_, _, _, _, _, _, hs⟩ := h
    exact src_of (hs hl) hk

set_option maxHeartbeats 2000000 in
set_option maxRecDepth 100000 in
theorem roomy_el (ao : Option Addr) (n cap : Nat) (xs : List UInt8) (m : UInt8) (w : World) (hs : El w (.slice ao n cap) xs) (hr : n ≤ 140737488351232) :
    Calls Tryd.prog 17 #[.slice ao n cap, .int .u8 (m.toNat : Int)] w (RoomAt w n xs m) := by
  have hnx : n = xs.length := by obtain ⟨_, _, h, _⟩ := hs; injection h
  have Hnx := Lib.hid hnx
  have Hs := Lib.hid hs
  clear hs hnx
  obtain ⟨M, hM⟩ : ∃ M, M = madeCells #[Value.int .u8 0] (n + 80) := ⟨_, rfl⟩
  have hML : M = ((List.replicate (n + 80) (0 : UInt8)).map u8).toArray := by
    rw [hM]
    apply Array.toList_inj.1
    apply List.ext_getElem?
    intro i
    rw [List.map_replicate, List.getElem?_replicate]
    rcases Nat.lt_or_ge i (n + 80) with h | h
    · rw [if_pos h]; simp [madeCells, h, u8, Nat.mod_one]
    · rw [if_neg (by omega)]; simp [madeCells, h]
  have hmk : ∀ w : World, (Instr.makeSlice 25 (.int .i64 ((n : Int) + 80)) (.int .i64 ((n : Int) + 80))).run Tryd.prog w = .ok (.slice (some ⟨w.heap.size, 0, none⟩) (n + 80) (n + 80)) (w.alloc (.cells M 5)) := by
    intro w
    have ec : ((n : Int) + 80) = ((n + 80 : Nat) : Int) := by omega
    rw [ec, hM]
    exact run_make_row' 25 5 (.int .u8 0) 1 Tryd.underlying25 info8 rfl .i64 .i64 (n + 80) (by omega) (by omega) w
  have HW0 : Hid (Row (w.alloc (.cells M 5)) w.heap.size 5 ((List.replicate (n + 80) (0 : UInt8)).map u8)) := by
    show Row _ _ _ _
    rw [hML]; exact Row.new _ _ _
  have HU0 : Hid (Upd (fun _ => False) w (w.alloc (.cells M 5))) := (Upd.refl _ w).alloc _
  have Hsrc := Lib.hid (src_el (Hs.out.upd HU0.out (fun _ _ _ => id)) (Nat.le_refl xs.length))
  rw [List.take_length] at Hsrc
  have Hmin : Hid (xs.length = Nat.min n (n + 80)) := by show _ = _; rw [← Hnx.out]; simp only [Nat.min_def]; split <;> omega
  have HSP : Hid (splice ((List.replicate (n + 80) (0 : UInt8)).map u8) 0 (xs.map u8) = (rsub xs m n).map u8) := by
    show _ = _
    unfold splice rsub
    rw [Hnx.out, List.take_zero, List.nil_append, Nat.zero_add, Nat.sub_self, List.replicate_zero, List.append_nil, List.length_map, List.map_replicate, List.drop_replicate, List.map_append, List.map_replicate]
  clear hM hML
  go_enter Tryd.func17, Tryd.ntmps17
  go_wp2_with ((with_reducible refine wpList_copy_new (o := ⟨some 13, _, _, _, _, _⟩) ?_ (.tmp 11) (.tmp 12) 25 25 ?_ 5 Tryd.underlying25 i8s (some ⟨w.heap.size, 0, none⟩) ao (n + 80) (n + 80) n cap ?_ ?_ w.heap.size 0 _ _ HW0.out (xs.map u8) ?_ ?_ ?_ (one_of _) ?_); rfl; rfl; rfl; rfl; (rw [Hsrc.out.1, Hmin.out]); (exact fun hp => ⟨rfl, Hsrc.out.2 hp⟩); (rw [Hsrc.out.1, List.length_map, List.length_replicate, ← Hnx.out]; omega); intro w1 HR1 HU1)
  have HS : Hid (LRm w.heap.size xs m w (.int .i64 (n : Int)) w1) := by
    refine ⟨n, by rw [Hnx.out]; exact Nat.le_refl _, by have := Hnx.out; omega, rfl, ?_, HU0.out.trans (HU1.out.mono (fun k _ e => .inr (by omega)))⟩
    rw [← HSP.out]
    exact HR1.out
  clear HR1 HU1 hmk
  go_loopw [6] (fun i wr => LRm w.heap.size xs m w i wr) (fun i _ => (n + 80 - (intOf i).toNat))
  case atStart => exact HS.out
  case round =>
    clear HS
    obtain ⟨j, hj1, hj2, rfl, hrow, hu⟩ := hrel
    have HR := Lib.hid hrow
    have HU := Lib.hid hu
    have HJ1 := Lib.hid hj1
    have hj2' : j ≤ n + 80 := by have := Hnx.out; omega
    clear hrow hu hj1 hj2
    by_cases hlt : j < n + 80
    · have hltI : (j : Int) < (n : Int) + 80 := by omega
      have c0 : wr.cell? ⟨w.heap.size, j, none⟩ = some (u8 ((rsub xs m j).getD j 0)) := by
        have hl := rsub_len xs m j HJ1.out (by have := Hnx.out; omega)
        rw [HR.out.cell, List.getElem?_map, List.getD_eq_getElem?_getD, List.getElem?_eq_getElem (by have := Hnx.out; omega)]
        rfl
      have f0 := HR.out.frozen j
      go_wp2
      go_roundw
      case rel =>
        refine ⟨j + 1, by have := HJ1.out; omega, by have := Hnx.out; omega, by go_num, ?_, HU.out.put _ _ (.inr (Nat.le_refl _)) _⟩
        rw [← rsub_set xs m j HJ1.out (by have := Hnx.out; omega), List.map_set]
        exact HR.out.set j _
      case measure => simp [intOf]; omega
    · have HP : Hid (RoomAt w n xs m (.returned (.slice (some ⟨w.heap.size, 0, none⟩) (n + 80) (n + 80))) wr) := by
        refine ⟨_, rfl, Nat.le_refl _, ?_, HU.out⟩
        have h := HR.out
        have e : rsub xs m j = FL xs m := by
          unfold rsub FL
          rw [show j - xs.length = 80 by have := Hnx.out; omega, show xs.length + 80 - j = 0 by have := Hnx.out; omega, List.replicate_zero, List.append_nil]
        rwa [e] at h
      go_wp2
      go_ret
      exact HP.out

set_option maxHeartbeats 2000000 in
set_option maxRecDepth 100000 in
theorem same_el (aa ab : Option Addr) (n ca cb : Nat) (xs : List UInt8) (w : World) (ha : Sl w (.slice aa n ca) xs) (hb : El w (.slice ab n cb) xs) (hr : n ≤ 140737488355328) :
    Calls Tryd.prog 64 #[.slice aa n ca, .slice ab n cb] w fun e w' => e = .returned (.bool true) ∧ Upd (fun _ => False) w w' := by
  have hnx : n = xs.length := by obtain ⟨_, _, h, _⟩ := ha; injection h
  have Hnx := Lib.hid hnx
  have Ha := Lib.hid ha
  have Hb := Lib.hid hb
  clear ha hb hnx
  go_enter Tryd.func64, Tryd.ntmps64
  go_wp2
  go_loopw [5] (fun i wr => LSm n w i wr) (fun i _ => (n - (intOf i).toNat))
  case atStart => exact ⟨0, Nat.zero_le _, rfl, Upd.refl _ _⟩
  case round =>
    obtain ⟨k, hk, rfl, hu⟩ := hrel
    have HU := Lib.hid hu
    have hA := Ha.out.upd hu (fun _ _ => id)
    have hB0 := Hb.out.upd hu (fun _ _ _ => id)
    clear hu
    by_cases hlt : k < n
    · have hltI : (k : Int) < (n : Int) := by omega
      have hkx : k < xs.length := by have := Hnx.out; omega
      obtain ⟨_, _, he, _, _, h3, h4⟩ := hA
      cases he
      obtain ⟨_, _, he, _, _, g3, hB1⟩ := hB0
      obtain ⟨_, _, he, _, _, g3, g4⟩ := hB1 (fun h => by rw [h] at hkx; simp at hkx)
      cases he
      obtain ⟨⟨pa, oa, sa⟩, rfl⟩ : ∃ ad, aa = some ad := by
        cases aa with
        | some ad => exact ⟨ad, rfl⟩
        | none => have := h3 rfl; omega
      obtain ⟨⟨pb, ob, sb⟩, rfl⟩ : ∃ ad, ab = some ad := by
        cases ab with
        | some ad => exact ⟨ad, rfl⟩
        | none => have := g3 rfl; omega
      obtain ⟨hsa, hca⟩ := h4 _ rfl
      obtain ⟨hsb, hcb⟩ := g4 _ rfl
      obtain rfl : sa = none := hsa
      obtain rfl : sb = none := hsb
      have c0 := hca k hkx
      have c1 := hcb k hkx
      rw [add_none] at c0 c1
      obtain ⟨x, hx⟩ : ∃ x, x = xs.getD k 0 := ⟨_, rfl⟩
      rw [← hx] at c0 c1
      clear h3 h4 g3 g4 hca hcb hx hkx
      unfold u8 at c0 c1
      go_wp2
      go_quiet (fail)
      go_wp2
      go_roundw
      case rel => exact ⟨k + 1, by omega, by go_num, RowW.Upd.drewN HU.out _⟩
      case measure => simp [intOf]; omega
    · clear hA hB0
      go_wp2
      go_ret
      exact ⟨rfl, HU.out⟩

set_option maxHeartbeats 2000000 in
set_option maxRecDepth 100000 in
theorem intact_el (fa : Addr) (fc : Nat) (aw : Option Addr) (n cw : Nat) (xs : List UInt8) (m : UInt8) (w : World) (hf : Sl w (.slice (some fa) (n + 80) fc) (FL xs m)) (hs : El w (.slice aw n cw) xs) (hr : n ≤ 140737488351232) :
    Calls Tryd.prog 19 #[.slice (some fa) (n + 80) fc, .slice aw n cw, .int .u8 (m.toNat : Int)] w fun e w' => e = .returned (.bool true) ∧ Upd (fun _ => False) w w' := by
  have hnx : n = xs.length := by obtain ⟨_, _, h, _⟩ := hs; injection h
  have hfc : n + 80 ≤ fc := by
    obtain ⟨_, _, h, h2, _⟩ := hf
    injection h with _ _ h3
    rw [FL_len] at h2
    omega
  have Hnx := Lib.hid hnx
  have Hs := Lib.hid hs
  have Hf := Lib.hid hf
  have hft : Sl w (.slice (some fa) n fc) xs := by
    have h := Sl.take hf (k := xs.length) (by rw [FL_len]; omega)
    rwa [FL_take, ← hnx] at h
  have HSm := Lib.hid (same_el (some fa) aw n fc cw xs w hft hs (by omega))
  have hfcI : (n : Int) ≤ (fc : Int) := by omega
  clear hf hs hft hnx
  go_enter Tryd.func19, Tryd.ntmps19
  go_wp2_with (go_at_call 64; refine HSm.out.mono ?_; rintro e w1 ⟨rfl, hu1⟩; have HU1 := Lib.hid hu1; clear hu1)
  go_loopw [7] (fun i wr => ∃ k : Nat, n ≤ k ∧ k ≤ n + 80 ∧ i = .int .i64 k ∧ Upd (fun _ => False) w wr) (fun i _ => (n + 80 - (intOf i).toNat))
  case atStart => exact ⟨n, Nat.le_refl _, by omega, rfl, HU1.out⟩
  case round =>
    obtain ⟨k, hk1, hk, rfl, hu⟩ := hrel
    have HU := Lib.hid hu
    have hF := Hf.out.upd hu (fun _ _ => id)
    clear hu
    by_cases hlt : k < n + 80
    · have hltI : (k : Int) < (n : Int) + 80 := by omega
      obtain ⟨fb, fo, fs⟩ := fa
      obtain ⟨hsa, hca⟩ := Sl.cells hF
      obtain rfl : fs = none := hsa
      have c0 := hca k (by rw [FL_len]; have := Hnx.out; omega)
      have e0 : (FL xs m).getD k 0 = m := by
        unfold FL
        rw [List.getD_eq_getElem?_getD, List.getElem?_append_right (by have := Hnx.out; omega), List.getElem?_replicate, if_pos (by have := Hnx.out; omega)]
        rfl
      rw [add_none, e0] at c0
      clear hca e0
      unfold u8 at c0
      go_wp2
      go_roundw
      case rel => exact ⟨k + 1, by omega, by omega, by go_num, HU.out⟩
      case measure => simp [intOf]; omega
    · clear hF
      go_wp2
      go_ret
      exact ⟨rfl, HU.out⟩

end Go.Proofs.YtiglaeipbcmlnaaDoor.BookE

/-
  A docketlaw2.Parts that came in.
-/
namespace Go.Proofs.YtiglaeipbcmlnaaDoor.OpenP
open Go.ChangeShapes Go.WideShapes Go.ChangeAt Go.RowKit Go.Deep Mem SplitL OpenW SplitO
set_option linter.unusedVariables false

def fieldsB (fs : Array Field) : Bool := fs.size == 8 && (fs[0]?.map fun f => (f.type, f.offset)) == some (3, 0) && (fs[1]?.map fun f => (f.type, f.offset)) == some (3, 1) && (fs[2]?.map fun f => (f.type, f.offset)) == some (3, 2) && (fs[3]?.map fun f => (f.type, f.offset)) == some (3, 3) &&
  (fs[4]?.map fun f => (f.type, f.offset)) == some (23, 4) && (fs[5]?.map fun f => (f.type, f.offset)) == some (23, 36) && (fs[6]?.map fun f => (f.type, f.offset)) == some (25, 68) && (fs[7]?.map fun f => (f.type, f.offset)) == some (37, 69)
theorem undB : (match Tryd.prog.underlying 39 with | some (.struct fs) => fieldsB fs | _ => false) = true := by kernel_rfl
theorem undP : ∃ fs, Tryd.prog.underlying 39 = some (.struct fs) ∧ fieldsB fs = true := by
  have h := undB
  split at h
  · rename_i fs hfs
    exact ⟨fs, hfs, h⟩
  · cases h
theorem cellsP : Tryd.prog.cellsOf 39 = 70 := by kernel_rfl
theorem typesP : Tryd.prog.cellTypes Tryd.prog.depth 39 = some (List.replicate 4 3 ++ List.replicate 64 5 ++ [25, 37]) := by kernel_rfl
theorem cellsI : Tryd.prog.cellsOf 3 = 1 := by kernel_rfl
theorem field_of {H : Type} {enc : TypeId × Value → H} {w : World} {n : Nat} {cs : List Value} {FS : Array Field} {xs : List (DataW H × List MemPlace)} (hl : xs.length = FS.size) (h : ∀ (i : Nat) (f : Field), FS[i]? = some f → DataW.trod enc Tryd.prog w 0 (fun _ => true) true n f.type ((cs.drop f.offset).take (Tryd.prog.cellsOf f.type)) = xs[i]?)
    {i o : Nat} {t : TypeId} (hf : FS[i]?.map (fun f => (f.type, f.offset)) = some (t, o)) : ∃ x, DataW.trod enc Tryd.prog w 0 (fun _ => true) true n t ((cs.drop o).take (Tryd.prog.cellsOf t)) = some x := by
  cases hfi : FS[i]? with
  | none => rw [hfi] at hf; cases hf
  | some f =>
    rw [hfi] at hf
    simp only [Option.map_some, Option.some.injEq, Prod.mk.injEq] at hf
    obtain ⟨rfl, rfl⟩ := hf
    have hi := (Array.getElem?_eq_some_iff.1 hfi).1
    exact ⟨xs[i]'(by omega), by rw [h i f hfi, List.getElem?_eq_getElem (by omega)]⟩
theorem int_field {H : Type} {enc : TypeId × Value → H} {w : World} {n : Nat} {l : List Value} {x : DataW H × List MemPlace} (h : DataW.trod enc Tryd.prog w 0 (fun _ => true) true n 3 l = some x) : ∃ k : Int, l = [.int .i64 k] ∧ (Lit.int .i64 k).wf = true := by
  obtain ⟨k, e, _, hw⟩ := DataW.trod_int Tryd.underlying3 h
  exact ⟨k, e, hw⟩
set_option maxRecDepth 100000 in
theorem dig_field {H : Type} {enc : TypeId × Value → H} {w : World} {n : Nat} {l : List Value} {x : DataW H × List MemPlace} (hl : l.length = 32) (h : DataW.trod enc Tryd.prog w 0 (fun _ => true) true n 23 l = some x) :
    ∃ D : List UInt8, D.length = 32 ∧ l = D.map u8 := by
  obtain ⟨xs, m, _, _, _, hlen, hel⟩ := DataW.trod_array Tryd.underlying23 h
  rw [cells8] at hel
  have hc : ∀ i (hi : i < l.length), ∃ c : UInt8, l[i] = u8 c := by
    intro i hi
    have h1 := hel i (by omega)
    have hx : xs[i]? = some (xs[i]'(by omega)) := List.getElem?_eq_getElem (by omega)
    rw [hx] at h1
    have e1 : ((l.drop (i * 1)).take 1) = [l[i]] := by
      simp only [Nat.mul_one]
      rw [List.drop_eq_getElem_cons hi]
      rfl
    rw [e1] at h1
    obtain ⟨k, e, _, hw⟩ := DataW.trod_int Tryd.underlying5 h1
    have e2 : l[i] = .int .u8 k := by simpa using e
    exact ⟨UInt8.ofNat k.toNat, by rw [e2, u8_bs k hw]⟩
  refine ⟨l.map (fun v => match v with | .int _ k => UInt8.ofNat k.toNat | _ => 0), by simp [hl], ?_⟩
  rw [List.map_map]
  apply List.ext_getElem
  · simp
  · intro i h1 h2
    obtain ⟨c, e⟩ := hc i h1
    simp only [List.getElem_map, Function.comp]
    rw [e]
    unfold u8
    simp
/-- the cells of a Parts -/
def pcells (wd dm ct ht : Int) (A B : List UInt8) (pv qv : Value) : List Value := [.int .i64 wd, .int .i64 dm, .int .i64 ct, .int .i64 ht] ++ (A.map u8 ++ (B.map u8 ++ [pv, qv]))
theorem slice_ok {P : Program} {w : World} {b0 : Nat} {t e : TypeId} {v : Value} (hu : P.underlying t = some (.slice e)) (h : Cell.okWide P w .any b0 t v) : Value.okWide P w .any b0 t v := by
  unfold Value.okWide
  rw [hu]
  exact h
theorem el_len {w : World} {v : Value} {l : List UInt8} (h : El w v l) : l.length ≤ 9223372036854775807 := by
  obtain ⟨_, _, _, h1, h2, _⟩ := h
  unfold maxLen at h2
  omega

set_option maxRecDepth 100000 in
theorem open_parts {H : Type} {enc : TypeId × Value → H} {w : World} {b0 : Nat} {v : Value} {d : DataW H} {p : List MemPlace}
    (hv : Value.okWide Tryd.prog w .any b0 39 v) (h : DataW.Trod enc Tryd.prog w 0 (fun _ => true) true 39 v d p) :
    ∃ (wd dm ct ht : Int) (A B P : List UInt8) (Q : List (List UInt8)) (pao qao : Option Addr) (pcap qcap : Nat), v = .agg (pcells wd dm ct ht A B (.slice pao P.length pcap) (.slice qao Q.length qcap)).toArray ∧
      (Lit.int .i64 wd).wf = true ∧ (Lit.int .i64 dm).wf = true ∧ (Lit.int .i64 ct).wf = true ∧ (Lit.int .i64 ht).wf = true ∧ A.length = 32 ∧ B.length = 32 ∧
      Sl w (.slice pao P.length pcap) P ∧ (∀ k, own (.slice pao P.length pcap) k → k < w.heap.size) ∧ SlE w (.slice qao Q.length qcap) Q (fun k => k < w.heap.size) ∧ Q.length ≤ 9223372036854775807 ∧ ∀ i, (Q.getD i []).length ≤ 9223372036854775807 := by
  obtain ⟨FS, hund, hfb⟩ := undP
  obtain ⟨cs, rfl, hsz, ts, hts, _, hrow⟩ : ∃ cs, v = .agg cs ∧ cs.size = Tryd.prog.cellsOf 39 ∧ Row.okWide Tryd.prog w .any b0 39 cs := by
    simpa [Value.okWide, hund] using hv
  rw [cellsP] at hsz
  rw [typesP] at hts
  obtain rfl := (Option.some.inj hts).symm
  obtain ⟨fuel, hf⟩ := h
  obtain ⟨xs, n, _, _, hcl, hlen, hel⟩ := DataW.trod_struct hund hf
  simp only [Value.cells] at hel hcl
  obtain ⟨l, hl⟩ : ∃ l, l = cs.toList := ⟨_, rfl⟩
  have hl70 : l.length = 70 := by rw [hl]; simpa using hsz
  rw [← hl] at hel
  simp only [fieldsB, Bool.and_eq_true, beq_iff_eq] at hfb
  obtain ⟨⟨⟨⟨⟨⟨⟨⟨_, f0⟩, f1⟩, f2⟩, f3⟩, f4⟩, f5⟩, f6⟩, f7⟩ := hfb
  obtain ⟨x0, g0⟩ := field_of hlen hel f0
  obtain ⟨x1, g1⟩ := field_of hlen hel f1
  obtain ⟨x2, g2⟩ := field_of hlen hel f2
  obtain ⟨x3, g3⟩ := field_of hlen hel f3
  obtain ⟨x4, g4⟩ := field_of hlen hel f4
  obtain ⟨x5, g5⟩ := field_of hlen hel f5
  obtain ⟨x6, g6⟩ := field_of hlen hel f6
  obtain ⟨x7, g7⟩ := field_of hlen hel f7
  rw [cellsI] at g0 g1 g2 g3
  rw [cellsD] at g4 g5
  obtain ⟨wd, e0, w0⟩ := int_field g0
  obtain ⟨dm, e1, w1⟩ := int_field g1
  obtain ⟨ct, e2, w2⟩ := int_field g2
  obtain ⟨ht, e3, w3⟩ := int_field g3
  obtain ⟨A, hA, e4⟩ := dig_field (by simp; omega) g4
  obtain ⟨B, hB, e5⟩ := dig_field (by simp; omega) g5
  have c25 : Tryd.prog.cellsOf 25 = 1 := by kernel_rfl
  have c37 : Tryd.prog.cellsOf 37 = 1 := by kernel_rfl
  rw [c25] at g6
  rw [c37] at g7
  have e6 : (l.drop 68).take 1 = [l[68]'(by omega)] := by rw [List.drop_eq_getElem_cons (by omega)]; rfl
  have e7 : (l.drop 69).take 1 = [l[69]'(by omega)] := by rw [List.drop_eq_getElem_cons (by omega)]; rfl
  obtain ⟨pv, hpv⟩ : ∃ x, x = l[68]'(by omega) := ⟨_, rfl⟩
  obtain ⟨qv, hqv⟩ : ∃ x, x = l[69]'(by omega) := ⟨_, rfl⟩
  rw [e6, ← hpv] at g6
  rw [e7, ← hqv] at g7
  have hp : Value.okWide Tryd.prog w .any b0 25 pv := by
    obtain ⟨u, hu1, hu2⟩ := hrow 68 pv (by rw [hpv]; simp only [hl, Array.getElem_toList]; exact Array.getElem?_eq_getElem (by omega))
    have hty : (List.replicate 4 3 ++ List.replicate 64 5 ++ [25, 37])[68]? = some 25 := by decide
    obtain rfl : u = 25 := Option.some.inj (hu1.symm.trans hty)
    exact slice_ok Tryd.underlying25 hu2
  have hq : Value.okWide Tryd.prog w .any b0 37 qv := by
    obtain ⟨u, hu1, hu2⟩ := hrow 69 qv (by rw [hqv]; simp only [hl, Array.getElem_toList]; exact Array.getElem?_eq_getElem (by omega))
    have hty : (List.replicate 4 3 ++ List.replicate 64 5 ++ [25, 37])[69]? = some 37 := by decide
    obtain rfl : u = 37 := Option.some.inj (hu1.symm.trans hty)
    exact slice_ok Tryd.underlying37 hu2
  obtain ⟨pa, pl, pc, hpe⟩ := okWide_slice Tryd.underlying25 hp
  obtain ⟨qa, ql, qc, hqe⟩ := okWide_slice Tryd.underlying37 hq
  obtain ⟨P, pao, pcap, hP1, hP2, hP3, _⟩ := OpenB.open_bytes hp ⟨n, by rw [hpe] at g6 ⊢; exact g6⟩
  obtain ⟨Q, qao, qcap, hQ1, hQ2, _⟩ := open_lists hq ⟨n, by rw [hqe] at g7 ⊢; exact g7⟩
  have hQl : Q.length ≤ 9223372036854775807 := by
    have h2 := hq
    unfold Value.okWide at h2
    rw [Tryd.underlying37] at h2
    unfold Cell.okWide at h2
    rw [Tryd.underlying37] at h2
    unfold Cell.ok at h2
    rw [Tryd.underlying37, hQ1] at h2
    cases qao with
    | none =>
      obtain ⟨_, _, _, he, h3, _⟩ := hQ2
      rw [hQ1] at he
      injection he with e1
      rw [h3 e1.symm]
      omega
    | some a =>
      have h3 : Q.length ≤ qcap ∧ (qcap : Int) ≤ IntKind.i64.max := ⟨h2.1, h2.2.1⟩
      have h4 : IntKind.i64.max = 9223372036854775807 := by decide
      omega
  have hel : ∀ i, (Q.getD i []).length ≤ 9223372036854775807 := fun i => by
    rcases Nat.lt_or_ge i Q.length with hi | hi
    · obtain ⟨ao', cap', pv', he, h3, h4⟩ := hQ2
      rw [hQ1] at he
      injection he with e1 e2 e3
      cases ao' with
      | none => have := h3 rfl; omega
      | some a => exact el_len ((h4 a rfl).2.2 i hi).2.1
    · rw [List.getD_eq_getElem?_getD, List.getElem?_eq_none hi]
      exact Nat.zero_le _
  rw [hP1] at hP2 hP3
  rw [hQ1] at hQ2
  refine ⟨wd, dm, ct, ht, A, B, P, Q, pao, qao, pcap, qcap, ?_, w0, w1, w2, w3, hA, hB, hP2, hP3, hQ2, hQl, hel⟩
  congr 1
  apply Array.toList_inj.1
  rw [← hl]
  show l = pcells wd dm ct ht A B _ _
  have d0 : l = (l.drop 0).take 1 ++ ((l.drop 1).take 1 ++ ((l.drop 2).take 1 ++ ((l.drop 3).take 1 ++ ((l.drop 4).take 32 ++ ((l.drop 36).take 32 ++ ((l.drop 68).take 1 ++ (l.drop 69).take 1)))))) := by
    have s : ∀ a b, l.drop a = (l.drop a).take b ++ l.drop (a + b) := fun a b => by rw [← List.drop_drop, List.take_append_drop]
    have s7 : (l.drop 69).take 1 = l.drop 69 := List.take_of_length_le (by simp; omega)
    rw [s7]
    conv => lhs; rw [show l = l.drop 0 by simp, s 0 1, s 1 1, s 2 1, s 3 1, s 4 32, s 36 32, s 68 1]
  rw [d0, e0, e1, e2, e3, e4, e5, e6, e7, ← hpv, ← hqv, hP1, hQ1]
  rfl
end Go.Proofs.YtiglaeipbcmlnaaDoor.OpenP

/-
  What DigestTable's walk reads: a Parts in its box; an Entry that is built; rows of slices of bytes.
-/
namespace Go.Proofs.YtiglaeipbcmlnaaDoor.TabP
open Go.RowKit Sha Mem RowW CopyW SumH EqW BookW SplitL HeldW OpenP OfW RefOf TabZ CutW
set_option linter.unusedVariables false
set_option linter.unusedSimpArgs false

structure PX (w : World) (g : Nat) (wd dm ct ht : Int) (a b : List Value) (pv qv : Value) : Prop where
  row : ∃ cs, Row w g 39 cs
  c0 : w.cell? ⟨g, 0, none⟩ = some (.int .i64 wd)
  c1 : w.cell? ⟨g, 1, none⟩ = some (.int .i64 dm)
  c2 : w.cell? ⟨g, 2, none⟩ = some (.int .i64 ct)
  c3 : w.cell? ⟨g, 3, none⟩ = some (.int .i64 ht)
  c6 : w.cell? ⟨g, 68, none⟩ = some pv
  c7 : w.cell? ⟨g, 69, none⟩ = some qv
  ra : w.rangeAt g 4 a
  rb : w.rangeAt g 36 b
theorem PX.upd {S : Nat → Prop} {w w' : World} {g : Nat} {wd dm ct ht : Int} {a b : List Value} {pv qv : Value} (h : PX w g wd dm ct ht a b pv qv) (hu : Upd S w w') (hg : ¬ S g) : PX w' g wd dm ct ht a b pv qv := by
  obtain ⟨cs, hr⟩ := h.row
  exact ⟨⟨cs, hr.upd hu hg⟩, hu.cell h.c0 hg, hu.cell h.c1 hg, hu.cell h.c2 hg, hu.cell h.c3 hg, hu.cell h.c6 hg, hu.cell h.c7 hg, fun j v hv => hu.cell (h.ra j v hv) hg, fun j v hv => hu.cell (h.rb j v hv) hg⟩
theorem PX.lt {w : World} {g : Nat} {wd dm ct ht : Int} {a b : List Value} {pv qv : Value} (h : PX w g wd dm ct ht a b pv qv) : g < w.heap.size := by
  obtain ⟨cs, hr⟩ := h.row
  exact hr.lt
theorem PX.new (w : World) (wd dm ct ht : Int) (A B : List UInt8) (hA : A.length = 32) (hB : B.length = 32) (pv qv : Value) :
    PX (w.alloc (.cells (pcells wd dm ct ht A B pv qv).toArray 39)) w.heap.size wd dm ct ht (A.map u8) (B.map u8) pv qv := by
  have hr := Row.new w 39 (pcells wd dm ct ht A B pv qv)
  have hat : ∀ i v, (pcells wd dm ct ht A B pv qv)[i]? = some v → (w.alloc (.cells (pcells wd dm ct ht A B pv qv).toArray 39)).cell? ⟨w.heap.size, i, none⟩ = some v := fun i v h => by rw [hr.cell, h]
  have e4 : ∀ i, i < 32 → (pcells wd dm ct ht A B pv qv)[4 + i]? = (A.map u8)[i]? := fun i hi => by
    unfold pcells
    rw [List.getElem?_append_right (by simp), List.getElem?_append_left (by simp; omega)]
    simp
  have e36 : ∀ i, i < 32 → (pcells wd dm ct ht A B pv qv)[36 + i]? = (B.map u8)[i]? := fun i hi => by
    unfold pcells
    rw [List.getElem?_append_right (by simp; omega), List.getElem?_append_right (by simp; omega), List.getElem?_append_left (by simp; omega)]
    congr 1
    simp
    omega
  have e68 : ∀ i, (pcells wd dm ct ht A B pv qv)[68 + i]? = [pv, qv][i]? := fun i => by
    unfold pcells
    rw [List.getElem?_append_right (by simp; omega), List.getElem?_append_right (by simp; omega), List.getElem?_append_right (by simp; omega)]
    congr 1
    simp
    omega
  refine ⟨⟨_, hr⟩, hat 0 _ rfl, hat 1 _ rfl, hat 2 _ rfl, hat 3 _ rfl, hat 68 _ (e68 0), hat 69 _ (e68 1), fun j v hv => ?_, fun j v hv => ?_⟩
  · have hj := (List.getElem?_eq_some_iff.1 hv).1
    exact hat _ _ ((e4 j (by simpa [hA] using hj)).trans hv)
  · have hj := (List.getElem?_eq_some_iff.1 hv).1
    exact hat _ _ ((e36 j (by simpa [hB] using hj)).trans hv)

def AE : Array Value := (Value.int .i64 0 :: (List.replicate 32 (0 : UInt8)).map u8).toArray
theorem zeroE (w : World) : (zeroValue 43).run Tryd.prog w = .ok (.agg AE) w := by kernel_rfl
theorem fold_off (a : Nat) (l : List Value) : ∀ (o : Nat) (Z : Array Value), a + o + l.length ≤ Z.size → (l.zipIdx o).foldl (fun cs (x : Value × Nat) => cs.setIfInBounds (a + x.2) x.1) Z = (splice Z.toList (a + o) l).toArray := by
  induction l with
  | nil => intro o Z _; simp [splice]
  | cons v l ih =>
    intro o Z h
    rw [List.length_cons] at h
    rw [List.zipIdx_cons, List.foldl_cons, ih (o + 1) _ (by rw [Array.size_setIfInBounds]; omega), Array.toList_setIfInBounds]
    congr 1
    unfold splice
    rw [show a + (o + 1) = (a + o) + 1 by omega, List.take_set, List.drop_set_of_lt (by omega), List.take_succ_eq_append_getElem (by simp; omega), List.set_append_right _ _ (by simp; omega)]
    simp [Nat.min_eq_left (show a + o ≤ Z.size by omega), Nat.add_assoc, Nat.add_comm 1]
theorem built_entry (c : Int) (D : List Value) (hD : D.length = 32) : Tryd.prog.built 43 [(0, .int .i64 c), (1, .agg D.toArray)] = some (Value.int .i64 c :: D).toArray := by
  have h : Tryd.prog.built 43 [(0, .int .i64 c), (1, .agg D.toArray)] = Instr.fill (#[(0, 1), (1, 32)][·]?) AE [(0, .int .i64 c), (1, .agg D.toArray)] := by kernel_rfl
  rw [h]
  simp [Instr.fill, Value.cells, hD]
  refine ⟨by simp [AE], by simp [AE], ?_⟩
  obtain ⟨zs, hzs, hz⟩ : ∃ zs, zs.length = 32 ∧ AE.toList = Value.int .i64 0 :: zs := ⟨(List.replicate 32 (0 : UInt8)).map u8, by simp, rfl⟩
  have hs : AE.size = 33 := by rw [← Array.length_toList, hz, List.length_cons, hzs]
  generalize AE = Z at hz hs
  rw [fold_off 1 D 0 _ (by rw [Array.size_setIfInBounds, hs, hD]; decide), Array.toList_setIfInBounds, hz]
  refine congrArg List.toArray ?_
  unfold splice
  rw [List.set_cons_zero, List.drop_eq_nil_of_le (by rw [List.length_cons]; omega), List.append_nil]
  rfl

/-- the document's own: a row that has no room any more -/
theorem lists_neg (ao : Option Addr) (n cap : Nat) (w : World) : Calls Tryd.prog 23 #[.int .i64 (-1), .slice ao n cap] w fun e w' => e = .returned (.int .i64 (-1)) ∧ w = w' := by
  go_enter Tryd.func23, Tryd.ntmps23
  go_wp2
  refine wp_loop_rounds 1 ?_
  rw [rounds_succ]
  by_cases h : 0 < n
  · have hI : (0 : Int) < (n : Int) := by omega
    go_wp2
    go_ret
    exact ⟨rfl, rfl⟩
  · obtain rfl : n = 0 := by omega
    go_wp2
    go_ret
    exact ⟨rfl, rfl⟩
theorem lists_room (pn : Nat) (ao : Option Addr) (n cap : Nat) (ts : List (List UInt8)) (O : Nat → Prop) (w : World) (hs : SlE w (.slice ao n cap) ts O) (hn : n ≤ 9223372036854775807) (hel : ∀ i, (ts.getD i []).length ≤ 9223372036854775807) :
    Calls Tryd.prog 23 #[.int .i64 (room 2147483647 (pn : Int)), .slice ao n cap] w fun e w' => ∃ a : Int, e = .returned (.int .i64 a) ∧ (0 ≤ a → pn + tot ts ≤ 2147483647) ∧ Upd (fun _ => False) w w' := by
  by_cases hp : pn ≤ 2147483647
  · have e : room 2147483647 (pn : Int) = 2147483647 - pn := by unfold room; rw [if_neg (by omega), if_neg (by omega)]
    rw [e]
    refine (lists_any _ (by omega) (by omega) ao n cap ts O w hs hn hel).mono ?_
    rintro e w' ⟨a, rfl, _, h, rfl⟩
    exact ⟨a, rfl, fun h0 => by have := h h0; omega, Upd.refl _ _⟩
  · have e : room 2147483647 (pn : Int) = -1 := by unfold room; rw [if_neg (by omega), if_pos (by omega)]
    rw [e]
    refine (lists_neg ao n cap w).mono ?_
    rintro e w' ⟨rfl, rfl⟩
    exact ⟨-1, rfl, fun h0 => by omega, Upd.refl _ _⟩

theorem infoQ : (Tryd.prog.info? 25).map (fun i => (i.zero, i.size, i.bytes)) = some (some (.slice none 0 0), 1, 24) := by kernel_rfl
/-- append of one slice to a row of slices of the call's own -/
theorem wpList_append_q (w : World) {ops : Array Oper} {rest : List Oper} {o : Oper} {a : Act} {Q : Exit → Act → World → Prop} (hgd : o.guard = none) (sl x : Operand)
    (ho : o.op = .call { callee := .builtin .append, args := #[sl, x], argTypes := #[37, 37] })
    (v : Value) (n : Nat) (xs : List Value) (hs : a.eval sl = v) (hown : w.ownsRow 0 25 1 v n xs) (g c : Nat) (u : Value) (hx : a.eval x = .slice (some ⟨g, 0, none⟩) 1 c) (hg : w.heap[g]? = some (.cells #[u] 25 (0, 0))) (hu : u.oneCell' = true)
    (hn : n + 1 ≤ 4294967296)
    (h : ∀ ao cap w', Hid (w'.ownsRow 0 25 1 (.slice ao (n + 1) cap) (n + 1) (xs ++ [u])) → Hid (w.grownBy w' v.ownBlock) → Hid ((Value.slice ao (n + 1) cap).ownBlock = v.ownBlock ∨ (Value.slice ao (n + 1) cap).ownBlock = some w.heap.size) → wpList Tryd.prog ops Q rest (a.put o.dst (.slice ao (n + 1) cap)) w') :
    wpList Tryd.prog ops Q (o :: rest) a w := by
  obtain ⟨i0, hi, hz0, hz1, hz2⟩ := info_parts infoQ
  refine wpList_append_own_at w hgd sl x 37 ho 0 25 i0 (.slice none 0 0) 1 24 Tryd.underlying37 hi hz0 hz1 hz2 rfl (by decide) v _ _ hs hown ⟨g, 0, none⟩ 1 c [u] hx (by simp) (fun j v' hv => ?_) (fun v' hv => ?_) (by unfold maxLen; omega) (by omega) (Nat.zero_le _) (fun v' w' a1 a2 _ a4 => ?_)
  · have hj : j = 0 := by have := (List.getElem?_eq_some_iff.1 hv).1; simpa using this
    subst hj
    rw [add_none, cell_of_row _ _ _ _ _ _ hg]
    simpa using hv
  · rw [List.mem_singleton.1 hv]; exact hu
  · obtain ⟨ao, cap, rfl⟩ := IntsW.slice_form a1
    exact h ao cap w' a1 a2 a4
end Go.Proofs.YtiglaeipbcmlnaaDoor.TabP

/-
  Rows of slices of bytes: blocks that hold texts with 80 marks behind them; the slices that lead into them.
-/
namespace Go.Proofs.YtiglaeipbcmlnaaDoor.TabL
open Go.RowKit Sha Mem RowW CopyW BookW SplitL OfW
set_option linter.unusedVariables false
set_option linter.unusedSimpArgs false

/-- blocks gs hold the texts C, each with 80 marks behind it -/
structure Fls (w : World) (B : Nat) (C : List (List UInt8)) (gs : List Nat) : Prop where
  len : gs.length = C.length
  row : ∀ i, i < C.length → Row w (gs.getD i 0) 5 ((FL (C.getD i []) 165).map u8)
  low : ∀ x ∈ gs, B ≤ x
  nd : gs.Nodup
theorem getD_mem (gs : List Nat) (i : Nat) (h : i < gs.length) : gs.getD i 0 ∈ gs := by
  rw [List.getD_eq_getElem?_getD, List.getElem?_eq_getElem h]
  exact List.getElem_mem h
theorem Fls.upd {S : Nat → Prop} {w w' : World} {B : Nat} {C : List (List UInt8)} {gs : List Nat} (h : Fls w B C gs) (hu : Upd S w w') (hd : ∀ x ∈ gs, ¬ S x) : Fls w' B C gs :=
  ⟨h.len, fun i hi => (h.row i hi).upd hu (hd _ (getD_mem gs i (by rw [h.len]; exact hi))), h.low, h.nd⟩
theorem Fls.nil (w : World) (B : Nat) : Fls w B [] [] := ⟨rfl, fun i hi => by simp at hi, fun x hx => by simp at hx, List.nodup_nil⟩
theorem Fls.lt {w : World} {B : Nat} {C : List (List UInt8)} {gs : List Nat} (h : Fls w B C gs) : ∀ x ∈ gs, x < w.heap.size := fun x hx => by
  obtain ⟨i, hi, rfl⟩ := List.getElem_of_mem hx
  have := (h.row i (by rw [← h.len]; exact hi)).lt
  rwa [List.getD_eq_getElem?_getD, List.getElem?_eq_getElem hi] at this
theorem Fls.push {w : World} {B : Nat} {C : List (List UInt8)} {gs : List Nat} (h : Fls w B C gs) (g : Nat) (q : List UInt8) (hr : Row w g 5 ((FL q 165).map u8)) (hB : B ≤ g) (hn : g ∉ gs) : Fls w B (C ++ [q]) (gs ++ [g]) := by
  refine ⟨by simp [h.len], fun i hi => ?_, fun x hx => ?_, ?_⟩
  · rw [List.length_append, List.length_singleton] at hi
    rcases Nat.lt_or_ge i C.length with h1 | h1
    · rw [List.getD_eq_getElem?_getD, List.getD_eq_getElem?_getD, List.getElem?_append_left (by rw [h.len]; exact h1), List.getElem?_append_left h1, ← List.getD_eq_getElem?_getD, ← List.getD_eq_getElem?_getD]
      exact h.row i h1
    · obtain rfl : i = C.length := by omega
      rw [List.getD_eq_getElem?_getD, List.getD_eq_getElem?_getD, List.getElem?_append_right (by rw [h.len]; exact Nat.le_refl _), List.getElem?_append_right (Nat.le_refl _), h.len, Nat.sub_self]
      exact hr
  · rcases List.mem_append.1 hx with h1 | h1
    · exact h.low x h1
    · rw [List.mem_singleton.1 h1]; exact hB
  · rw [List.nodup_append]
    refine ⟨h.nd, by simp, fun a ha b hb e => ?_⟩
    rw [List.mem_singleton.1 hb] at e
    exact hn (e ▸ ha)
/-- one text turns where it stands -/
theorem Fls.turn {w w' : World} {B : Nat} {C : List (List UInt8)} {gs : List Nat} (h : Fls w B C gs) (i : Nat) (hi : i < C.length) (q : List UInt8) (hu : Upd (fun k => k = gs.getD i 0) w w') (hr : Row w' (gs.getD i 0) 5 ((FL q 165).map u8)) : Fls w' B (C.set i q) gs := by
  refine ⟨by rw [List.length_set]; exact h.len, fun j hj => ?_, h.low, h.nd⟩
  rw [List.length_set] at hj
  by_cases e : j = i
  · subst e
    rw [List.getD_eq_getElem?_getD (l := C.set j q), List.getElem?_set_self hj]
    exact hr
  · rw [List.getD_eq_getElem?_getD (l := C.set i q), List.getElem?_set_ne (fun h => e h.symm), ← List.getD_eq_getElem?_getD]
    refine (h.row j hj).upd hu (fun e2 => e ?_)
    have h1 := h.len
    rw [List.getD_eq_getElem?_getD, List.getD_eq_getElem?_getD, List.getElem?_eq_getElem (by omega), List.getElem?_eq_getElem (by omega)] at e2
    have e3 : gs[j]'(by omega) = gs[i]'(by omega) := e2
    rcases Nat.lt_trichotomy j i with h2 | h2 | h2
    · exact absurd e3 (List.pairwise_iff_getElem.1 h.nd j i (by omega) (by omega) h2)
    · exact h2
    · exact absurd e3.symm (List.pairwise_iff_getElem.1 h.nd i j (by omega) (by omega) h2)

def vF (g n : Nat) : Value := .slice (some ⟨g, 0, none⟩) (n + 80) (n + 80)
def vP (g n : Nat) : Value := .slice (some ⟨g, 0, none⟩) n (n + 80)
def fvs (C : List (List UInt8)) (gs : List Nat) : List Value := List.zipWith (fun g q => vF g q.length) gs C
def pvs (C : List (List UInt8)) (gs : List Nat) : List Value := List.zipWith (fun g q => vP g q.length) gs C
theorem fvs_push (C : List (List UInt8)) (gs : List Nat) (h : gs.length = C.length) (g : Nat) (q : List UInt8) : fvs (C ++ [q]) (gs ++ [g]) = fvs C gs ++ [vF g q.length] := by
  unfold fvs; rw [List.zipWith_append h]; rfl
theorem pvs_push (C : List (List UInt8)) (gs : List Nat) (h : gs.length = C.length) (g : Nat) (q : List UInt8) : pvs (C ++ [q]) (gs ++ [g]) = pvs C gs ++ [vP g q.length] := by
  unfold pvs; rw [List.zipWith_append h]; rfl
theorem fvs_at (C : List (List UInt8)) (gs : List Nat) (h : gs.length = C.length) (i : Nat) (hi : i < C.length) : (fvs C gs)[i]? = some (vF (gs.getD i 0) (C.getD i []).length) := by
  unfold fvs
  rw [List.getElem?_zipWith, List.getD_eq_getElem?_getD, List.getD_eq_getElem?_getD, List.getElem?_eq_getElem (by omega), List.getElem?_eq_getElem hi]
  rfl
theorem pvs_at (C : List (List UInt8)) (gs : List Nat) (h : gs.length = C.length) (i : Nat) (hi : i < C.length) : (pvs C gs)[i]? = some (vP (gs.getD i 0) (C.getD i []).length) := by
  unfold pvs
  rw [List.getElem?_zipWith, List.getD_eq_getElem?_getD, List.getD_eq_getElem?_getD, List.getElem?_eq_getElem (by omega), List.getElem?_eq_getElem hi]
  rfl

/-- a row of slices leads into no block of bytes -/
theorem row_off {w : World} {x b n s : Nat} {cs : List Value} {v : Value} {xs : List Value} (h : Row w x 5 cs) (ho : w.ownsRow b 25 s v n xs) : ¬ own v x := fun hk => by
  rcases ho.2 with ⟨rfl, _⟩ | ⟨g, cap, cur, rfl, _, hg, _⟩
  · simp [own, Value.ownBlock] at hk
  · have e := WriteW.own_at hk
    subst e
    unfold Row at h
    rw [hg] at h
    injection h with h
    injection h with _ h
    exact absurd h (by decide)
theorem own_cell {w : World} {b n : Nat} {v : Value} {xs : List Value} (ho : w.ownsRow b 25 1 v n xs) (i : Nat) (u : Value) (hi : xs[i]? = some u) : ∃ g cap, v = .slice (some ⟨g, 0, none⟩) n cap ∧ n ≤ cap ∧ w.cell? ⟨g, i, none⟩ = some u ∧ g < w.heap.size := by
  have hl := ho.1
  have hin := (List.getElem?_eq_some_iff.1 hi).1
  rcases ho.2 with ⟨rfl, h0⟩ | ⟨g, cap, cur, rfl, _, hg, h1, _⟩
  · omega
  · refine ⟨g, cap, rfl, h1, ?_, lt_of_block hg⟩
    have h2 := ho.cells (g := g) rfl i u hi
    rwa [add_none, Nat.zero_add] at h2
/-- the two rows of slices and the blocks -/
structure Lst (w : World) (B : Nat) (C : List (List UInt8)) (gs : List Nat) (n : Nat) (v7 v8 : Value) : Prop where
  fl : Fls w B C gs
  hn : n = C.length
  o7 : w.ownsRow 0 25 1 v7 n (fvs C gs)
  o8 : w.ownsRow 0 25 1 v8 n (pvs C gs)
  n7 : ∀ k, own v7 k → B ≤ k
  n8 : ∀ k, own v8 k → B ≤ k
  ap : ∀ k, own v7 k → ¬ own v8 k
theorem Lst.upd {S : Nat → Prop} {w w' : World} {B n : Nat} {C : List (List UInt8)} {gs : List Nat} {v7 v8 : Value} (h : Lst w B C gs n v7 v8) (hu : Upd S w w') (hd : ∀ x ∈ gs, ¬ S x) (h7 : ∀ k, own v7 k → ¬ S k) (h8 : ∀ k, own v8 k → ¬ S k) : Lst w' B C gs n v7 v8 :=
  ⟨h.fl.upd hu hd, h.hn, IntsW.own_upd h.o7 hu h7, IntsW.own_upd h.o8 hu h8, h.n7, h.n8, h.ap⟩
theorem Lst.kept {w w' : World} {B n : Nat} {C : List (List UInt8)} {gs : List Nat} {v7 v8 : Value} (h : Lst w B C gs n v7 v8) (hu : Upd (fun _ => False) w w') : Lst w' B C gs n v7 v8 := h.upd hu (fun _ _ => id) (fun _ _ => id) (fun _ _ => id)
theorem own_size {w : World} {b n s : Nat} {e : TypeId} {v : Value} {xs : List Value} (h : w.ownsRow b e s v n xs) (k : Nat) (hk : own v k) : k < w.heap.size := (h.lt k hk).2
/-- the parts read as the texts -/
theorem sl_part {w : World} {g : Nat} {q : List UInt8} (hr : Row w g 5 ((FL q 165).map u8)) (hb : q.length ≤ 140737488351232) : Sl w (vP g q.length) q := by
  have h2 := Sl.of_row (n := q.length) (cap := q.length + 80) hr (by rw [FL_len]; omega) (by omega) (by unfold maxLen; omega)
  rwa [FL_take] at h2
theorem Lst.slL {w : World} {B n : Nat} {C : List (List UInt8)} {gs : List Nat} {v7 v8 : Value} (h : Lst w B C gs n v7 v8) (hb : ∀ i, (C.getD i []).length ≤ 140737488351232) : SlL w v8 C (fun k => k < w.heap.size) := by
  have hn := h.hn
  subst hn
  rcases h.o8.2 with ⟨e, h0⟩ | ⟨g, cap, cur, e, _⟩
  · refine ⟨none, 0, fun _ => .bool false, by rw [e, h0], fun _ => h0, fun k hk => own_size h.o8 k hk, fun a ha => by cases ha⟩
  · subst e
    refine ⟨some ⟨g, 0, none⟩, cap, fun i => vP (gs.getD i 0) (C.getD i []).length, rfl, (fun e => by cases e), fun k hk => own_size h.o8 k hk, fun a ha => ?_⟩
    injection ha with ha
    subst ha
    refine ⟨rfl, fun i hi => ⟨?_, sl_part (h.fl.row i hi) (hb i), fun k hk => ?_⟩⟩
    · exact h.o8.cells (g := g) rfl i _ (pvs_at C gs h.fl.len i hi)
    · have := WriteW.own_at hk
      have h2 := h.fl.lt _ (getD_mem gs i (by rw [h.fl.len]; exact hi))
      omega
theorem tot_len (ts : List (List UInt8)) : ts.length ≤ tot ts := by
  unfold tot
  induction ts with
  | nil => simp
  | cons t ts ih => simp only [List.map_cons, List.sum_cons, List.length_cons]; omega
theorem tot_getD (ts : List (List UInt8)) (i : Nat) : (ts.getD i []).length ≤ tot ts := by
  unfold tot
  induction ts generalizing i with
  | nil => simp
  | cons t ts ih =>
    cases i with
    | zero => simp only [List.getD_cons_zero, List.map_cons, List.sum_cons]; omega
    | succ i => have := ih i; simp only [List.getD_cons_succ, List.map_cons, List.sum_cons]; omega
theorem cat_tot (ts : List (List UInt8)) : (cat ts).length ≤ tot ts := by
  unfold cat tot
  induction ts with
  | nil => simp
  | cons t ts ih => simp only [List.flatMap_cons, List.length_append, List.map_cons, List.sum_cons, id]; omega
/-- the lists of lists while they grow -/
def LT1 (w0 : World) (Q : List (List UInt8)) (v7 v8 i : Value) (wr : World) : Prop :=
  ∃ (j : Nat) (gs : List Nat), j ≤ Q.length ∧ i = .int .i64 j ∧ Lst wr w0.heap.size (Q.take j) gs j v7 v8 ∧ Upd (fun _ => False) w0 wr
theorem LT1.start (w : World) (Q : List (List UInt8)) : LT1 w Q (.slice none 0 0) (.slice none 0 0) (.int .i64 0) w :=
  ⟨0, [], Nat.zero_le _, rfl, ⟨Fls.nil _ _, rfl, World.ownsRow_nil _ _ _ _, World.ownsRow_nil _ _ _ _, fun k hk => by simp [own, Value.ownBlock] at hk, fun k hk => by simp [own, Value.ownBlock] at hk, fun k hk => by simp [own, Value.ownBlock] at hk⟩, Upd.refl _ _⟩
theorem take_snoc (Q : List (List UInt8)) (j : Nat) (h : j < Q.length) : Q.take (j + 1) = Q.take j ++ [Q.getD j []] := by
  rw [List.take_succ_eq_append_getElem h, List.getD_eq_getElem?_getD, List.getElem?_eq_getElem h]
  rfl
/-- one text more -/
theorem Lst.step {w2 w3 w4 : World} {B j : Nat} {C : List (List UInt8)} {gs : List Nat} {u7 v8 : Value} (h : Lst w2 B C gs j u7 v8) (g2 m : Nat) (q : List UInt8) (hm : m = q.length) (hr : Row w2 g2 5 ((FL q 165).map u8)) (hB : B ≤ g2) (hg : g2 ∉ gs)
    {x3 x4 : Obj} {a3 a4 : Option Addr} {c3 c4 : Nat}
    (hO3 : w3.ownsRow 0 25 1 (.slice a3 (j + 1) c3) (j + 1) (fvs C gs ++ [.slice (some ⟨g2, 0, none⟩) (m + 80) (m + 80)])) (hG3 : (w2.alloc x3).grownBy w3 u7.ownBlock) (hA3 : (Value.slice a3 (j + 1) c3).ownBlock = u7.ownBlock ∨ (Value.slice a3 (j + 1) c3).ownBlock = some (w2.alloc x3).heap.size)
    (hO4 : w4.ownsRow 0 25 1 (.slice a4 (j + 1) c4) (j + 1) (pvs C gs ++ [.slice (some ⟨g2, 0, none⟩) m (m + 80)])) (hG4 : (w3.alloc x4).grownBy w4 v8.ownBlock) (hA4 : (Value.slice a4 (j + 1) c4).ownBlock = v8.ownBlock ∨ (Value.slice a4 (j + 1) c4).ownBlock = some (w3.alloc x4).heap.size) :
    Lst w4 B (C ++ [q]) (gs ++ [g2]) (j + 1) (.slice a3 (j + 1) c3) (.slice a4 (j + 1) c4) ∧ Upd (fun k => own u7 k ∨ own v8 k) w2 w4 := by
  have hB2 : B ≤ w2.heap.size := by have := hr.lt; omega
  have hu3 : Upd (fun k => own u7 k) w2 w3 := ((Upd.refl (fun k => own u7 k) w2).alloc _).trans ((Upd.grown hG3 (fun k hk => hk) : Upd (fun k => own u7 k) _ w3).mono (fun k _ hk => .inl hk))
  have hu4 : Upd (fun k => own v8 k) w3 w4 := ((Upd.refl (fun k => own v8 k) w3).alloc _).trans ((Upd.grown hG4 (fun k hk => hk) : Upd (fun k => own v8 k) _ w4).mono (fun k _ hk => .inl hk))
  have hs3 : w2.heap.size + 1 ≤ w3.heap.size := by have := hG3.size; simpa using this
  have hn3 : ∀ k, own (.slice a3 (j + 1) c3) k → own u7 k ∨ k = w2.heap.size + 1 := fun k hk => by
    rcases hA3 with h1 | h1
    · left; unfold own at hk ⊢; rw [← h1]; exact hk
    · right; unfold own at hk; rw [h1] at hk; injection hk with hk; rw [← hk]; simp
  have hn4 : ∀ k, own (.slice a4 (j + 1) c4) k → own v8 k ∨ k = w3.heap.size + 1 := fun k hk => by
    rcases hA4 with h1 | h1
    · left; unfold own at hk ⊢; rw [← h1]; exact hk
    · right; unfold own at hk; rw [h1] at hk; injection hk with hk; rw [← hk]; simp
  have row_at : ∀ x ∈ gs, ∃ cs, Row w2 x 5 cs := fun x hx => by
    obtain ⟨i, hi, rfl⟩ := List.getElem_of_mem hx
    have h1 := h.fl.row i (by rw [← h.fl.len]; exact hi)
    rw [List.getD_eq_getElem?_getD, List.getElem?_eq_getElem hi] at h1
    exact ⟨_, h1⟩
  have f3 : Fls w3 B C gs := h.fl.upd hu3 (fun x hx => by obtain ⟨cs, h1⟩ := row_at x hx; exact row_off h1 h.o7)
  have r3 : Row w3 g2 5 ((FL q 165).map u8) := hr.upd hu3 (row_off hr h.o7)
  have p3 : w3.ownsRow 0 25 1 v8 j (pvs C gs) := IntsW.own_upd h.o8 hu3 (fun k hk h1 => h.ap k h1 hk)
  have f4 : Fls w4 B C gs := f3.upd hu4 (fun x hx => by
    obtain ⟨cs, h1⟩ := row_at x hx
    exact row_off (h1.upd hu3 (row_off h1 h.o7)) p3)
  have r4 : Row w4 g2 5 ((FL q 165).map u8) := r3.upd hu4 (row_off r3 p3)
  have l3 : ∀ k, own (.slice a3 (j + 1) c3) k → ¬ own v8 k := fun k hk h8 => by
    rcases hn3 k hk with h1 | h1
    · exact h.ap k h1 h8
    · have := own_size h.o8 k h8; omega
  subst hm
  refine ⟨⟨f4.push g2 q r4 hB hg, by rw [h.hn]; simp, ?_, ?_, fun k hk => ?_, fun k hk => ?_, fun k hk h8 => ?_⟩, (hu3.mono (fun k _ e => .inl e)).trans (hu4.mono (fun k _ e => .inl (.inr e)))⟩
  · rw [fvs_push C gs h.fl.len]
    exact IntsW.own_upd hO3 hu4 l3
  · rw [pvs_push C gs h.fl.len]
    exact hO4
  · rcases hn3 k hk with h1 | h1
    · exact h.n7 k h1
    · omega
  · rcases hn4 k hk with h1 | h1
    · exact h.n8 k h1
    · omega
  · rcases hn4 k h8 with h1 | h1
    · exact l3 k hk h1
    · have := own_size hO3 k hk; omega
/-- the book, in memory that is new since w4 -/
def LBk (w4 : World) (bb : Nat) (wr : World) : Prop :=
  ∃ K cs, K.length ≤ 4000 ∧ BookM.BkW wr bb 49 cs 0 K (fun k => w4.heap.size ≤ k ∧ k < wr.heap.size) (fun k => w4.heap.size ≤ k ∧ k < wr.heap.size) ∧ Upd (fun k => k = bb) w4 wr
def flipB (l : List UInt8) : List UInt8 := l.map (· ^^^ 255)
theorem flipB_len (l : List UInt8) : (flipB l).length = l.length := by simp [flipB]
/-- the first j texts turned -/
def mix (Q : List (List UInt8)) (j : Nat) : List (List UInt8) := (Q.take j).map flipB ++ Q.drop j
theorem mix_len (Q : List (List UInt8)) (j : Nat) : (mix Q j).length = Q.length := by simp [mix]; omega
theorem mix_zero (Q : List (List UInt8)) : mix Q 0 = Q := by simp [mix]
theorem mix_all (Q : List (List UInt8)) (n : Nat) (h : n = Q.length) : mix Q n = Q.map flipB := by subst h; simp [mix]
theorem mix_at (Q : List (List UInt8)) (j : Nat) (h : j < Q.length) : (mix Q j).getD j [] = Q.getD j [] := by
  unfold mix
  have hl : ((Q.take j).map flipB).length = j := by simp; omega
  rw [List.getD_eq_getElem?_getD, List.getElem?_append_right (by omega), hl, Nat.sub_self, List.getElem?_drop, Nat.add_zero, ← List.getD_eq_getElem?_getD]
theorem mix_set (Q : List (List UInt8)) (j : Nat) (h : j < Q.length) : (mix Q j).set j (flipB (Q.getD j [])) = mix Q (j + 1) := by
  unfold mix
  have hl : ((Q.take j).map flipB).length = j := by simp; omega
  rw [List.set_append_right _ _ (by omega), hl, Nat.sub_self, List.drop_eq_getElem_cons h, List.set_cons_zero, List.take_succ_eq_append_getElem h, List.map_append, List.append_assoc, List.getD_eq_getElem?_getD, List.getElem?_eq_getElem h]
  rfl
theorem fvs_flipB (Q : List (List UInt8)) : ∀ gs : List Nat, fvs (Q.map flipB) gs = fvs Q gs := by
  unfold fvs
  induction Q with
  | nil => intro gs; rfl
  | cons q Q ih =>
    intro gs
    cases gs with
    | nil => rfl
    | cons g gs => simp only [List.map_cons, List.zipWith_cons_cons, flipB_len, ih]
theorem pvs_flipB (Q : List (List UInt8)) : ∀ gs : List Nat, pvs (Q.map flipB) gs = pvs Q gs := by
  unfold pvs
  induction Q with
  | nil => intro gs; rfl
  | cons q Q ih =>
    intro gs
    cases gs with
    | nil => rfl
    | cons g gs => simp only [List.map_cons, List.zipWith_cons_cons, flipB_len, ih]
theorem Lst.far {w : World} {B n : Nat} {C : List (List UInt8)} {gs : List Nat} {v7 v8 : Value} (h : Lst w B C gs n v7 v8) : ∀ x ∈ gs, ¬ own v7 x ∧ ¬ own v8 x := fun x hx => by
  obtain ⟨i, hi, rfl⟩ := List.getElem_of_mem hx
  have h1 := h.fl.row i (by rw [← h.fl.len]; exact hi)
  rw [List.getD_eq_getElem?_getD, List.getElem?_eq_getElem hi] at h1
  exact ⟨row_off h1 h.o7, row_off h1 h.o8⟩
/-- the texts are turned where they stand; a copy of each is kept -/
def LT3 (wD : World) (B : Nat) (Q : List (List UInt8)) (gs : List Nat) (v14 i : Value) (wr : World) : Prop :=
  ∃ (j : Nat) (vs : List Value), j ≤ Q.length ∧ i = .int .i64 j ∧ Fls wr B (mix Q j) gs ∧ wr.ownsRow 0 25 1 v14 j vs ∧ (∀ k, own v14 k → wD.heap.size ≤ k) ∧
    (∀ t, t < j → Sl wr (vs.getD t undef) (flipB (Q.getD t [])) ∧ ∀ k, own (vs.getD t undef) k → wD.heap.size ≤ k ∧ k < wr.heap.size ∧ ¬ own v14 k) ∧ Upd (fun k => k ∈ gs) wD wr
theorem LT3.start (wD : World) (B : Nat) (Q : List (List UInt8)) (gs : List Nat) (h : Fls wD B Q gs) : LT3 wD B Q gs (.slice none 0 0) (.int .i64 0) wD :=
  ⟨0, [], Nat.zero_le _, rfl, by rw [mix_zero]; exact h, World.ownsRow_nil _ _ _ _, fun k hk => by simp [own, Value.ownBlock] at hk, fun t ht => by omega, Upd.refl _ _⟩
theorem LT3.step {wD wr w6 w7 w8 : World} {B j : Nat} {Q : List (List UInt8)} {gs : List Nat} {v14 : Value} {vs : List Value} (hD : ∀ x ∈ gs, x < wD.heap.size) (hj : j < Q.length) (hf : Fls wr B (mix Q j) gs) (ho : wr.ownsRow 0 25 1 v14 j vs) (hn : ∀ k, own v14 k → wD.heap.size ≤ k)
    (hv : ∀ t, t < j → Sl wr (vs.getD t undef) (flipB (Q.getD t [])) ∧ ∀ k, own (vs.getD t undef) k → wD.heap.size ≤ k ∧ k < wr.heap.size ∧ ¬ own v14 k) (hu : Upd (fun k => k ∈ gs) wD wr)
    (hu6 : Upd (fun _ => False) wr w6) (hu7 : Upd (fun k => k = gs.getD j 0) w6 w7) (hr7 : Row w7 (gs.getD j 0) 5 ((FL (flipB (Q.getD j [])) 165).map u8)) {lv : Value} (hs7 : Sl w7 lv (flipB (Q.getD j []))) (hl7 : ∀ k, own lv k → w6.heap.size ≤ k) (hl7' : ∀ k, own lv k → k < w7.heap.size)
    {x : Obj} {a4 : Option Addr} {c4 : Nat} (hO : w8.ownsRow 0 25 1 (.slice a4 (j + 1) c4) (j + 1) (vs ++ [lv])) (hG : (w7.alloc x).grownBy w8 v14.ownBlock) (hA : (Value.slice a4 (j + 1) c4).ownBlock = v14.ownBlock ∨ (Value.slice a4 (j + 1) c4).ownBlock = some (w7.alloc x).heap.size) :
    LT3 wD B Q gs (.slice a4 (j + 1) c4) (.int .i64 ((j + 1 : Nat) : Int)) w8 := by
  have hgm : gs.getD j 0 ∈ gs := getD_mem gs j (by rw [hf.len, mix_len]; exact hj)
  have hgD := hD _ hgm
  have hDr := hu.size
  have h6 := hu6.size
  have h7 := hu7.size
  have hu67 : Upd (fun k => k = gs.getD j 0) wr w7 := (hu6.mono (fun _ _ e => e.elim)).trans (hu7.mono (fun k _ e => .inl e))
  have hf7 : Fls w7 B (mix Q (j + 1)) gs := by
    have h1 := (hf.upd hu6 (fun _ _ => id)).turn j (by rw [mix_len]; exact hj) (flipB (Q.getD j [])) hu7 hr7
    rwa [mix_set Q j hj] at h1
  have hu8 : Upd (fun k => own v14 k) w7 w8 := ((Upd.refl (fun k => own v14 k) w7).alloc _).trans ((Upd.grown hG (fun k hk => hk) : Upd (fun k => own v14 k) _ w8).mono (fun k _ hk => .inl hk))
  have h8 : w7.heap.size + 1 ≤ w8.heap.size := by have := hG.size; simpa using this
  have hn4 : ∀ k, own (.slice a4 (j + 1) c4) k → own v14 k ∨ k = w7.heap.size + 1 := fun k hk => by
    rcases hA with h1 | h1
    · left; unfold own at hk ⊢; rw [← h1]; exact hk
    · right; unfold own at hk; rw [h1] at hk; injection hk with hk; rw [← hk]; simp
  have ho14 : ∀ k, own v14 k → k < wr.heap.size := own_size ho
  refine ⟨j + 1, vs ++ [lv], by omega, rfl, hf7.upd hu8 (fun x hx h => by have := hn x h; have := hD x hx; omega), hO, fun k hk => ?_, fun t ht => ?_, ?_⟩
  · rcases hn4 k hk with h1 | h1
    · exact hn k h1
    · omega
  · have hvl : vs.length = j := by have := ho.1; omega
    rcases Nat.lt_or_ge t j with h1 | h1
    · obtain ⟨h2, h3⟩ := hv t h1
      have e : (vs ++ [lv]).getD t undef = vs.getD t undef := by rw [List.getD_eq_getElem?_getD, List.getElem?_append_left (by omega), ← List.getD_eq_getElem?_getD]
      rw [e]
      refine ⟨(h2.upd hu67 (fun k hk e => by have := (h3 k hk).1; omega)).upd hu8 (fun k hk => (h3 k hk).2.2), fun k hk => ⟨(h3 k hk).1, by have := (h3 k hk).2.1; omega, fun h4 => ?_⟩⟩
      rcases hn4 k h4 with h5 | h5
      · exact (h3 k hk).2.2 h5
      · have := (h3 k hk).2.1; omega
    · obtain rfl : t = j := by omega
      have e : (vs ++ [lv]).getD t undef = lv := by rw [List.getD_eq_getElem?_getD, List.getElem?_append_right (by omega), hvl, Nat.sub_self]; rfl
      rw [e]
      refine ⟨hs7.upd hu8 (fun k hk h4 => by have := ho14 k h4; have := hl7 k hk; omega), fun k hk => ⟨by have := hl7 k hk; omega, by have := hl7' k hk; omega, fun h4 => ?_⟩⟩
      rcases hn4 k h4 with h5 | h5
      · have := ho14 k h5; have := hl7 k hk; omega
      · have := hl7' k hk; omega
  · exact (hu.trans (hu67.mono (fun k _ e => .inl (by rw [e]; exact hgm)))).trans (hu8.mono (fun k _ e => .inr (hn k e)))
/-- the copies read as the turned texts -/
theorem LT3.done {wr : World} {D n : Nat} {Q : List (List UInt8)} {v14 : Value} {vs : List Value} (hnq : n = Q.length) (ho : wr.ownsRow 0 25 1 v14 n vs)
    (hv : ∀ t, t < n → Sl wr (vs.getD t undef) (flipB (Q.getD t [])) ∧ ∀ k, own (vs.getD t undef) k → D ≤ k ∧ k < wr.heap.size ∧ ¬ own v14 k) : SlL wr v14 (Q.map flipB) (fun k => k < wr.heap.size) := by
  subst hnq
  have hl := ho.1
  rcases ho.2 with ⟨e, h0⟩ | ⟨g, cap, cur, e, _⟩
  · exact ⟨none, 0, fun _ => .bool false, by rw [e, List.length_map, h0], fun _ => by rw [List.length_map]; exact h0, fun k hk => own_size ho k hk, (fun a ha => by cases ha)⟩
  · subst e
    refine ⟨some ⟨g, 0, none⟩, cap, fun i => vs.getD i undef, by rw [List.length_map], (fun e => by cases e), fun k hk => own_size ho k hk, fun a ha => ?_⟩
    injection ha with ha
    subst ha
    refine ⟨rfl, fun i hi => ?_⟩
    rw [List.length_map] at hi
    have e1 : (Q.map flipB).getD i [] = flipB (Q.getD i []) := by
      rw [List.getD_eq_getElem?_getD, List.getElem?_map, List.getD_eq_getElem?_getD, List.getElem?_eq_getElem hi]
      rfl
    refine ⟨?_, by rw [e1]; exact (hv i hi).1, fun k hk => ((hv i hi).2 k hk).2.1⟩
    refine ho.cells (g := g) rfl i _ ?_
    show vs[i]? = some (vs.getD i undef)
    rw [List.getD_eq_getElem?_getD, List.getElem?_eq_getElem (by omega)]
    rfl
/-- the book takes the full rows, too -/
def LB4 (w4 wE : World) (bb n : Nat) (gs : List Nat) (i : Value) (wr : World) : Prop :=
  ∃ (j : Nat) (K : List BookM.Ent) (cs : List Value), j ≤ n ∧ i = .int .i64 j ∧ K.length ≤ 4000 ∧ BookM.BkW wr bb 49 cs 0 K (fun k => w4.heap.size ≤ k ∧ k < wr.heap.size) (fun k => (w4.heap.size ≤ k ∧ k < wr.heap.size) ∨ k ∈ gs.take j) ∧
    Upd (fun k => k = bb ∨ w4.heap.size ≤ k) wE wr
theorem own_full {w : World} {g m : Nat} {L : List UInt8} (h : Row w g 5 (L.map u8)) (hm : m = L.length) (hb : m ≤ 140737488355328) : w.ownsRow 0 5 1 (.slice (some ⟨g, 0, none⟩) m m) m (L.map u8) := by
  subst hm
  exact ⟨by simp, .inr ⟨g, L.length, _, rfl, Nat.zero_le _, h, Nat.le_refl _, by unfold maxLen; omega, by simp, List.take_of_length_le (by simp)⟩⟩
theorem take_snocN (gs : List Nat) (j : Nat) (h : j < gs.length) : gs.take (j + 1) = gs.take j ++ [gs.getD j 0] := by
  rw [List.take_succ_eq_append_getElem h, List.getD_eq_getElem?_getD, List.getElem?_eq_getElem h]
  rfl
theorem not_taken (gs : List Nat) (hn : gs.Nodup) (j : Nat) (h : j < gs.length) : gs.getD j 0 ∉ gs.take j := fun hx => by
  obtain ⟨i, hi, e⟩ := List.getElem_of_mem hx
  rw [List.length_take] at hi
  rw [List.getElem_take, List.getD_eq_getElem?_getD, List.getElem?_eq_getElem h] at e
  exact List.pairwise_iff_getElem.1 hn i j (by omega) h (by omega) e
/-- a region's condition may be told more narrowly from here on -/
theorem wpAnyH_narrow {P : Program} {md : Region.Mode} {ops : Array Oper} {Q : Exit → Act → World → Prop} {S S' : World → Prop} (h : ∀ w, S' w → S w) : ∀ (fuel : Nat) (listed : Array Bool) (a : Act) (w : World), wpAnyH P md ops Q S' fuel listed a w → wpAnyH P md ops Q S fuel listed a w
  | 0, _, _, _, hh => hh
  | fuel + 1, _, _, _, hh => ⟨hh.1, fun i hi => wpOp_mono (fun a' w' h' => ⟨h _ h'.1, wpAnyH_narrow h fuel _ a' w' h'.2⟩) (hh.2 i hi)⟩
end Go.Proofs.YtiglaeipbcmlnaaDoor.TabL

/-
  docketlaw2.turned, and where its copy lies.
-/
namespace Go.Proofs.YtiglaeipbcmlnaaDoor.TurnO
open Go.RowKit Sha Mem RowW CopyW BookW
set_option linter.unusedVariables false

def TurnO (w : World) (g n : Nat) (L : List UInt8) (e : Ending) (w' : World) : Prop :=
  ∃ v, e = .returned v ∧ w'.ownsRow 0 5 1 v ((tsub L n).take n).length (((tsub L n).take n).map u8) ∧ (∀ k, own v k → w.heap.size ≤ k) ∧ Row w' g 5 ((tsub L n).map u8) ∧ Upd (fun k => k = g) w w'
set_option maxHeartbeats 2000000 in
set_option maxRecDepth 100000 in
theorem turned_own (g n cap : Nat) (L : List UInt8) (w : World) (hrow : Row w g 5 (L.map u8)) (hn : n ≤ L.length) (hc : n ≤ cap) (hm : cap ≤ maxLen) (hr : n ≤ 140737488355328) :
    Calls Tryd.prog 21 #[.slice (some ⟨g, 0, none⟩) n cap] w (TurnO w g n L) := by
  have Hrow := Lib.hid hrow
  have Hm := Lib.hid hm
  clear hrow hm
  go_enter Tryd.func21, Tryd.ntmps21
  go_wp2
  go_loopw [3] (fun i wr => LT g L n w i wr) (fun i _ => (n - (intOf i).toNat))
  case atStart => exact ⟨0, Nat.zero_le _, rfl, by rw [tsub_zero]; exact Hrow.out, Upd.refl _ _⟩
  case round =>
    obtain ⟨j, hj, rfl, hr1, hu⟩ := hrel
    have HR := Lib.hid hr1
    have HU := Lib.hid hu
    clear hr1 hu
    by_cases hlt : j < n
    · have hltI : (j : Int) < (n : Int) := by omega
      obtain ⟨c, hc'⟩ : ∃ c, c = L.getD j 0 := ⟨_, rfl⟩
      have c0 : wr.cell? ⟨g, j, none⟩ = some (.int .u8 (c.toNat : Int)) := by
        rw [HR.out.cell, List.getElem?_map, tsub_at L j (by omega), ← hc']
        rfl
      have f0 := HR.out.frozen j
      have HC := Lib.hid hc'
      have vx := v_xor255 c
      clear hc'
      go_wp2
      go_roundw
      case rel =>
        refine ⟨j + 1, by omega, by go_num, ?_, HU.out.put _ _ (.inl rfl) _⟩
        rw [← tsub_set L j (by omega), List.map_set, ← HC.out]
        exact HR.out.set j _
      case measure => simp [intOf]; omega
    · obtain rfl : j = n := by omega
      have HSl := Lib.hid (Sl.of_row (n := j) (cap := cap) HR.out (by rw [tsub_len]; omega) hc Hm.out)
      have HO := Lib.hid (own_nil wr)
      have Hl := Lib.hid (show ([] : List UInt8).length + ((tsub L j).take j).length ≤ maxLen by rw [List.length_take]; unfold maxLen; simp; omega)
      have Hl2 := Lib.hid (show ([] : List UInt8).length + ((tsub L j).take j).length ≤ 140737488355328 by rw [List.length_take]; simp; omega)
      go_wp2_with (at_builtin; refine wpList_append_bytes _ rfl _ _ rfl 0 (.slice none 0 0) [] _ rfl HO.out _ rfl HSl.out Hl.out Hl2.out (Nat.zero_le _) ?_; intro v2 w2 Hown2 Hgrow2 Hat2)
      go_ret
      have h2 := Sl.of_own Hown2.out
      have hu2 : Upd (fun _ => False) wr w2 := Upd.grown Hgrow2.out (fun k hk => by simp [Value.ownBlock] at hk)
      refine ⟨v2, rfl, by simpa using Hown2.out, fun k hk => ?_, HR.out.upd hu2 id, HU.out.trans (hu2.mono (fun _ _ h => h.elim))⟩
      rcases Hat2.out with h | h
      · unfold own at hk; rw [h] at hk; simp [Value.ownBlock] at hk
      · unfold own at hk; rw [h] at hk; cases hk; exact HU.out.size
end Go.Proofs.YtiglaeipbcmlnaaDoor.TurnO
