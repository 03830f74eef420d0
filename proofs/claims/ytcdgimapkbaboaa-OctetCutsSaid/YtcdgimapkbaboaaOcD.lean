/-
  docketlaw1.OctetCuts, walked.
-/
import Derived.Test.YtcdgimapkbaboaaOcW
import Derived.Test.YtcdgimapkbaboaaWithinW
import Derived.Deep.MidRow
namespace Go.Proofs.Ytcdgimapkbaboaa.OcD
open Go.RowKit Mem RowW PutW TakeW FlagW ReaderW ReadB ReadT ReadD ReadG StrW RawW TextsW DigW ForthL LaysW OpenOp ListsB LaysD OpenF BeyW AgainB BackL BackW BackD CutL OcW
open AgainW (ZO zeroO sizeO)
open ForthW (wpList_load_part)
set_option linter.unusedVariables false
set_option linter.unusedSimpArgs false

def l2 : List Value := [.int .i64 2, .int .i64 0, .int .u64 7, .int .i64 0, .bool false, .slice none 0 0, .slice none 0 0, .slice none 0 0, .string ⟨#[]⟩, .slice none 0 0, .int .i64 0, .int .i64 0]
def o2 : OpD := ⟨2, 7, 0, false, [], [], [], [], 0, 0⟩
theorem len2 : (allD [o2]).length = 2 := by decide
theorem laid2 (w : World) : LaidOne w l2 o2 :=
  ⟨⟨⟨_, _, _, _, _, rfl, ⟨none, 0, rfl, fun h => absurd rfl h⟩, ⟨none, 0, rfl, Nat.le_refl _, Nat.zero_le _, fun _ => rfl, fun h => absurd rfl h⟩, fun h => absurd rfl h, ⟨none, 0, rfl, fun h => absurd rfl h⟩⟩, by decide⟩, rfl, by
    intro u hu
    have : l2.all (·.oneCell') = true := rfl
    exact List.all_eq_true.1 this u hu, rfl, rfl, fun d hd => by cases hd⟩

set_option maxHeartbeats 16000000 in
set_option maxRecDepth 100000 in
theorem walk (oa : Option Addr) (on oc : Nat) (at_ : Int) (os : List OpD) (od : OpD) (w : World) (ho : OpsF w (.slice oa on oc) os od) (hon : on = os.length) (hkl : on ≤ 9223372036854775807) (hat : -9223372036854775808 ≤ at_ ∧ at_ ≤ 9223372036854775807) :
    Calls Try.prog 8 #[.slice oa on oc, .int .i64 at_] w fun e w' => e = .returned (.bool true) ∧ Upd (fun _ => False) w w' := by
  have HBey := Lib.hid (beyond_any oa on oc os od w ho hkl)
  have Ho : Hid (OpsF w (.slice oa on oc) os od) := ho
  have Hon := Lib.hid hon
  have Hat := Lib.hid hat
  have hz := zeroX
  clear ho hon hkl hat
  go_enter Try.func8, Try.ntmps8
  go_wp2_with fail
  refine HBey.out.mono ?_
  rintro e w1 ⟨bb, rfl, hbey, hu1⟩
  have HU1 := Lib.hid hu1
  clear hu1 HBey
  cases bb with
  | true =>
    clear hbey
    go_wp2_with fail
    go_ret
    exact ⟨rfl, HU1.out⟩
  | false =>
    have HCo : Hid (costs os ≤ 2147483647) := hbey rfl
    clear hbey
    go_wp2_with fail
    refine (WriterW.new_any w1).mono ?_
    rintro e w2 ⟨rfl, hwr2, hu2⟩
    obtain ⟨wb, hwb⟩ : ∃ x, x = w1.heap.size := ⟨_, rfl⟩
    rw [← hwb] at hwr2 ⊢
    have hwb2 : wb < w2.heap.size := lt_of_block hwr2.1
    have Hwb : Hid (w.heap.size ≤ wb) := by show _ ≤ _; rw [hwb]; exact HU1.out.size
    have HU2 : Hid (Upd (fun _ => False) w w2) := HU1.out.trans (hu2.mono (fun _ _ e => e.elim))
    have Hwb2 := Lib.hid hwb2
    have HLy0 : Hid (Calls Try.prog 37 #[.pointer (some ⟨wb, 0, none⟩), .agg l2.toArray] w2 fun e w' => e = .returned (.bool true) ∧ Grew wb (.slice none 0 0) [] (be ((7 : Nat) : Int) 2) w2 w') :=
      lays_2 wb (.slice none 0 0) [] 7 _ _ _ _ _ _ _ _ _ _ w2 hwr2 (by decide) (by decide)
    clear hwr2 hu2 hwb hwb2
    go_wp2_with fail
    change Calls Try.prog 37 #[.pointer (some ⟨wb, 0, none⟩), .agg l2.toArray] w2 _
    refine HLy0.out.mono ?_
    rintro e w3 ⟨rfl, v3, hw3, hu3, ho3⟩
    have HW3 : Hid (Wr w3 wb v3 (allD [o2])) := by
      have h : allD [o2] = [] ++ be ((7 : Nat) : Int) 2 := by decide
      show Wr _ _ _ _
      rw [h]
      exact hw3
    have HU3 : Hid (Upd (fun j => j = wb) w2 w3) := hu3.mono (fun k _ e => by
      rcases e with e | e
      · exact e
      · simp [own, Value.ownBlock] at e)
    have HO3 : Hid (∀ j, own v3 j → w2.heap.size ≤ j) := fun j hj => by
      rcases ho3 j hj with h | h
      · simp [own, Value.ownBlock] at h
      · exact h
    clear hw3 hu3 ho3 HLy0
    have HLn := Lib.hid (WriterW.len_any wb v3 (allD [o2]) w3 HW3.out)
    rw [len2] at HLn
    go_wp2_with fail
    refine HLn.out.mono ?_
    rintro e w3' ⟨rfl, rfl⟩
    clear HLn
    go_wp2
    obtain ⟨w4, hw4⟩ : ∃ x, x = (w3.alloc (.cells l2.toArray 54)).alloc (.cells #[.int .i64 2] 3) := ⟨_, rfl⟩
    have hu4 : Upd (fun _ => False) w3 w4 := by rw [hw4]; exact ((Upd.refl _ w3).alloc _).alloc _
    have h4 : w4.heap[w3.heap.size]? = some (.cells l2.toArray 54 (0, 0)) := by rw [hw4]; exact (Below.heap_alloc _ _ _ (by simp)).trans (heap_alloc_new w3 _)
    have h5 : w4.heap[w3.heap.size + 1]? = some (.cells #[.int .i64 2] 3 (0, 0)) := by
      have h := heap_alloc_new (w3.alloc (.cells l2.toArray 54)) (.cells #[.int .i64 2] 3 (0, 0))
      rw [hw4]
      simpa using h
    unfold l2 at hw4
    rw [← hw4]
    have HLB : Hid (LC1 w w2 os od wb (.slice (some ⟨w3.heap.size, 0, none⟩) 1 1) (.slice (some ⟨w3.heap.size + 1, 0, none⟩) 1 1) (.int .i64 0) w4) := by
      refine ⟨0, v3, [o2], [l2], Nat.zero_le _, rfl, NamesW.Wr.upd HW3.out hu4 id (fun _ _ => id), HO3.out, ?_, fun j hj => ?_, ?_, fun j hj => ?_, LaidOk.snoc (ls := []) (cl := []) ⟨rfl, fun j hj => absurd hj (Nat.not_lt_zero _)⟩ (laid2 w), Nat.le_trans (Nat.le_of_eq len2) (Nat.le_trans (by decide) (Nat.le_add_right 4 _)), by simp, by simp, fun o ho => by rw [List.mem_singleton.1 ho]; decide, ?_⟩
      · exact ⟨rfl, .inr ⟨w3.heap.size, 1, l2.toArray, rfl, Nat.zero_le _, h4, Nat.le_refl _, by unfold maxLen; decide, rfl, rfl⟩⟩
      · have := HU3.out.size
        simp [own, Value.ownBlock] at hj
        omega
      · exact ⟨rfl, .inr ⟨w3.heap.size + 1, 1, #[.int .i64 2], rfl, Nat.zero_le _, h5, Nat.le_refl _, by unfold maxLen; decide, rfl, rfl⟩⟩
      · have := HU3.out.size
        simp [own, Value.ownBlock] at hj
        omega
      · exact HU3.out.trans (hu4.mono (fun _ _ e => e.elim))
    clear hw4 hu4 h4 h5 HW3 HU3 HO3
    go_loopw [6, 7, 8, 9] (fun lv ev i _ wr => LC1 w w2 os od wb lv ev i wr) (fun _ _ i _ _ => (on - (intOf i).toNat))
    case atStart => exact HLB.out
    case round =>
      clear HLB
      obtain ⟨k, v, ls, cl, hk, rfl, hwr, hvo, hlo, hlvo, heo, hevo, hlaid, hlen, hlsk, hpos, hnes, hu⟩ := hrel
      obtain ⟨wq, rfl⟩ : ∃ x : World, x = wr := ⟨_, rfl⟩
      have HWr := Lib.hid hwr
      have HVo := Lib.hid hvo
      have HLo := Lib.hid hlo
      have HLv := Lib.hid hlvo
      have HEo := Lib.hid heo
      have HEv := Lib.hid hevo
      have Hnes := Lib.hid hnes
      obtain ⟨m1, hm1⟩ : ∃ m1, ls.length = m1 + 1 := ⟨ls.length - 1, by omega⟩
      obtain ⟨eg, ec, rfl⟩ : ∃ eg ec, u7 = .slice (some ⟨eg, 0, none⟩) (m1 + 1) ec := by
        rcases heo.2 with ⟨_, h⟩ | ⟨g, cap, cur, h, _⟩
        · omega
        · exact ⟨g, cap, by rw [h, hm1]⟩
      obtain ⟨p0, hp0⟩ : ∃ x, x = (allD ls).length := ⟨_, rfl⟩
      have Hm1 := Lib.hid hm1
      have Hp0 := Lib.hid hp0
      have HE0 : Hid (wq.cell? ⟨eg, m1, none⟩ = some (.int .i64 (p0 : Int))) := by
        have h := World.ownsRow.cells heo (g := eg) rfl m1 _ (by have h := endsOf_last ls hpos; rw [hm1, Nat.add_sub_cancel] at h; exact h)
        rw [RowW.add_none, Nat.zero_add] at h
        rw [hp0]
        exact h
      have HLd := Lib.hid hlaid
      have HLn := Lib.hid hlen
      have HLk := Lib.hid hlsk
      have HU := Lib.hid hu
      have HUw : Hid (Upd (fun _ => False) w wq) := HU2.out.trans (hu.mono (fun j _ e => .inr (by have := Hwb.out; omega)))
      have hkn : k ≤ on := by rw [Hon.out]; exact hk
      have hcl := costs_len os
      have hcb := HCo.out
      have hkb : on ≤ 21474836 := by rw [Hon.out]; omega
      have hm1b : m1 ≤ 21474837 := by omega
      have hw9 : IntKind.i64.wrap (m1 : Int) = m1 := IntWalk.i64_in _ (by omega)
      clear hwr hvo hlo hlvo heo hevo hpos hnes hm1 hp0 hlaid hlen hlsk hu hk hcl hcb
      by_cases hlt : k < on
      · have hltI : (k : Int) < (on : Int) := by omega
        have hkt : k < os.length := by rw [← Hon.out]; exact hlt
        obtain ⟨oa', oc', he, h3, h4⟩ := Ho.out
        injection he with e1 e2 e3
        subst e1 e3
        clear e2
        obtain ⟨⟨og, oo, osp⟩, rfl⟩ : ∃ ad, oa = some ad := by
          cases oa with
          | some ad => exact ⟨ad, rfl⟩
          | none => have := h3 rfl; omega
        obtain ⟨hsp, hob, h5⟩ := h4 _ rfl
        obtain rfl : osp = none := hsp
        obtain ⟨cs, hf, hra⟩ := h5 k hkt
        obtain ⟨o, ho⟩ : ∃ o, o = os.getD k od := ⟨_, rfl⟩
        rw [← ho] at hf
        have HF := Lib.hid hf
        have Hoe := Lib.hid ho
        obtain ⟨⟨⟨x1, dv, x6, pv, lw, hcs, hd, hp, hpo, hst⟩, hn64⟩, _⟩ := hf
        obtain ⟨dao, dcap, rfl, _⟩ := hd
        obtain ⟨pao, pcap, rfl, _⟩ := id hp
        obtain ⟨nd, hnd⟩ : ∃ x, x = o.ds.length := ⟨_, rfl⟩
        obtain ⟨np, hnp⟩ : ∃ x, x = o.xs.length := ⟨_, rfl⟩
        obtain ⟨kk, hkk⟩ : ∃ x, x = o.k := ⟨_, rfl⟩
        rw [← hnd, ← hnp, ← hkk] at hcs
        obtain ⟨XA, hXA⟩ : ∃ x, x = cs.toArray := ⟨_, rfl⟩
        have HRa : Hid (∀ (j : Nat) u, cs[j]? = some u → wq.cell? ⟨og, oo + k * 12 + j, none⟩ = some u) := fun j u h => HUw.out.cell (hra j u h) id
        have HCs : Hid ((Try.prog.info? 54).map (·.size) = some cs.length) := by show _ = _; rw [sizeO, HF.out.len]
        have HXs : Hid ((Try.prog.info? 54).map (·.size) = some XA.size) := by show _ = _; rw [sizeO, hXA]; simp [HF.out.len]
        have HXz : Hid ((#[.int .i64 0, .int .i64 0, .int .u64 0, .int .i64 0, .bool false, .slice none 0 0, .slice none 0 0, .slice none 0 0, .string ⟨#[]⟩, .slice none 0 0, .int .i64 0, .int .i64 0] : Array Value).size = XA.size) := by show _ = _; rw [hXA]; simp [HF.out.len]
        have hone := HF.out.one
        have HX1 : Hid (XA.all (·.oneCell') = true) := by show _ = _; rw [hXA]; simpa using hone
        have HXA := Lib.hid hXA
        have Hcs := Lib.hid hcs
        obtain ⟨c2, hc2⟩ : ∃ c, c = Value.int .u64 (o.n : Int) := ⟨_, rfl⟩
        obtain ⟨c4, hc4⟩ : ∃ c, c = Value.bool o.y := ⟨_, rfl⟩
        obtain ⟨c8, hc8⟩ : ∃ c, c = Value.string ⟨o.st.toArray⟩ := ⟨_, rfl⟩
        obtain ⟨c10, hc10⟩ : ∃ c, c = Value.int .i64 o.most := ⟨_, rfl⟩
        obtain ⟨c11, hc11⟩ : ∃ c, c = Value.int .i64 o.each := ⟨_, rfl⟩
        rw [← hc2, ← hc4, ← hc8, ← hc10, ← hc11] at hcs
        have Hcs := Lib.hid hcs
        clear hc2 hc4 hc8 hc10 hc11
        have Hnd := Lib.hid hnd
        have Hnp := Lib.hid hnp
        have Hkk := Lib.hid hkk
        clear hnd hnp hkk
        clear h3 h4 h5 hob hra ho hXA hp hpo hst hn64 hone hcs
        by_cases hk6 : kk = 6
        · subst hk6
          obtain ⟨XB, hXB⟩ : ∃ x, x = (cs.set 3 (.int .i64 (nd : Int))).toArray := ⟨_, rfl⟩
          have HXBs : Hid ((Try.prog.info? 54).map (·.size) = some XB.size) := by show _ = _; rw [sizeO, hXB]; simp [HF.out.len]
          have HXB := Lib.hid hXB
          clear hXB
          go_wp2_with (first
            | ((with_reducible refine wpList_load_part (o := ⟨some 44, _, _, _, _, _⟩) ?_ _ (.tmp 43) ?_ og (oo + k * 12) ?_ cs _ ?_ Try.underlying54 ?_ HCs.out ?_); rfl; rfl; rfl; (exact HRa.out); rfl; rw [← HXA.out])
            | ((with_reducible refine wpList_store_new (o := ⟨none, .store 54 (.tmp 9) (.tmp 44), _, _, _, _⟩) ?_ _ (.tmp 9) (.tmp 44) ?_ wq.heap.size XA ?_ ?_ 54 #[.int .i64 0, .int .i64 0, .int .u64 0, .int .i64 0, .bool false, .slice none 0 0, .slice none 0 0, .slice none 0 0, .string ⟨#[]⟩, .slice none 0 0, .int .i64 0, .int .i64 0] (heap_alloc_new _ _) HXs.out HXz.out HX1.out ?_); rfl; rfl; rfl; rfl; intro wA HgA HuA; have HRA : Hid (Row wA wq.heap.size 54 cs) := (by show _ = _; rw [← HXA.out]; exact HgA.out); have c0 : wA.cell? ⟨wq.heap.size, 0, none⟩ = some (.int .i64 6) := (by rw [HRA.out.cell, Hcs.out]; rfl); have c3 : wA.cell? ⟨wq.heap.size, 3, none⟩ = some (.int .i64 o.many) := (by rw [HRA.out.cell, Hcs.out]; rfl); have c7 : wA.cell? ⟨wq.heap.size, 7, none⟩ = some (.slice pao np pcap) := (by rw [HRA.out.cell, Hcs.out]; rfl); have f3 := HRA.out.frozen 3; have HRB : Hid (Row (wA.setCell ⟨wq.heap.size, 3, none⟩ (.int .i64 (np : Int))) wq.heap.size 54 (cs.set 3 (.int .i64 (np : Int)))) := HRA.out.set 3 _; have d0 : (wA.setCell ⟨wq.heap.size, 3, none⟩ (.int .i64 (np : Int))).cell? ⟨wq.heap.size, 0, none⟩ = some (.int .i64 6) := (by rw [HRB.out.cell, Hcs.out]; rfl); have c5 : wA.cell? ⟨wq.heap.size, 5, none⟩ = some (.slice dao nd dcap) := (by rw [HRA.out.cell, Hcs.out]; rfl); have d5 : (wA.setCell ⟨wq.heap.size, 3, none⟩ (.int .i64 (np : Int))).cell? ⟨wq.heap.size, 5, none⟩ = some (.slice dao nd dcap) := (by rw [HRB.out.cell, Hcs.out]; rfl); have d3 : (wA.setCell ⟨wq.heap.size, 3, none⟩ (.int .i64 (np : Int))).cell? ⟨wq.heap.size, 3, none⟩ = some (.int .i64 (np : Int)) := (by rw [HRB.out.cell, Hcs.out]; rfl); have g3 := HRB.out.frozen 3; have HRC : Hid (Row ((wA.setCell ⟨wq.heap.size, 3, none⟩ (.int .i64 (np : Int))).setCell ⟨wq.heap.size, 3, none⟩ (.int .i64 (nd : Int))) wq.heap.size 54 (cs.set 3 (.int .i64 (nd : Int)))) := (by have h := HRB.out.set 3 (.int .i64 (nd : Int)); rw [List.set_set] at h; exact h); have HRX : Hid (((wA.setCell ⟨wq.heap.size, 3, none⟩ (.int .i64 (np : Int))).setCell ⟨wq.heap.size, 3, none⟩ (.int .i64 (nd : Int))).heap[wq.heap.size]? = some (.cells XB 54 (0, 0))) := (by show _ = _; rw [HXB.out]; exact HRC.out)))
          obtain ⟨wB, hwB⟩ : ∃ x, x = ((wA.setCell ⟨wq.heap.size, 3, none⟩ (.int .i64 (np : Int))).setCell ⟨wq.heap.size, 3, none⟩ (.int .i64 (nd : Int))) := ⟨_, rfl⟩
          have HRowB : Hid (Row wB wq.heap.size 54 (cs.set 3 (.int .i64 (nd : Int)))) := by show Row _ _ _ _; rw [hwB]; exact HRC.out
          have HUB : Hid (Upd (fun _ => False) wq wB) := by
            show Upd _ _ _
            rw [hwB]
            have h1 : Upd (fun j => j = wq.heap.size) wA ((wA.setCell ⟨wq.heap.size, 3, none⟩ (.int .i64 (np : Int))).setCell ⟨wq.heap.size, 3, none⟩ (.int .i64 (nd : Int))) := put1 (put1 (Upd.refl _ _) 3 _) 3 _
            exact (((Upd.refl (fun _ => False) wq).alloc _).trans (HuA.out.mono (fun j _ e => .inr (by omega)))).trans (h1.mono (fun j _ e => .inr (by omega)))
          rw [← hwB]
          clear hwB
          have HUBd : Hid (Upd (fun _ => False) wq wB.drew) := HUB.out.drew
          have hzd : wB.drew.heap.size = wB.heap.size := rfl
          have hCE : cs.set 3 (.int .i64 (nd : Int)) = [.int .i64 6, x1, c2, .int .i64 (nd : Int), c4, .slice dao nd dcap, x6, .slice pao np pcap, c8, lw, c10, c11] := by rw [Hcs.out]; rfl
          have HCE := Lib.hid hCE
          have Ho1 : Hid (OpH wB.drew (cs.set 3 (.int .i64 (nd : Int))) { o with many := (nd : Int) } (fun j => j < w.heap.size)) := OpH.many (OpH.upd HF.out.h (HUw.out.trans (HUBd.out.mono (fun _ _ e => e.elim)))) _
          have HLa : Hid (LaidOne w [.int .i64 6, x1, c2, .int .i64 (nd : Int), c4, .slice dao nd dcap, x6, .slice pao np pcap, c8, lw, c10, c11] { o with many := (nd : Int) } ∨ errD o ≠ 0) := by
            by_cases he : errD o = 0
            · left
              refine ⟨?_, rfl, fun u hu => ?_, he, by show ((nd : Nat) : Int) = if o.k = 6 then (o.ds.length : Int) else (o.xs.length : Int); rw [← Hkk.out, if_pos rfl, Hnd.out], HF.out.h32⟩
              · rw [← hCE]; exact OpH.many HF.out.h _
              · rw [← hCE] at hu
                rcases List.mem_or_eq_of_mem_set hu with h | h
                · exact HF.out.one u h
                · rw [h]; rfl
            · exact .inr he
          have hck := costs_take os od k hkt
          rw [← Hoe.out] at hck
          have hcl := costs_le os (k + 1)
          have hcb := HCo.out
          have hnc := news_cost o HF.out.h32
          have hts := totS_ge o.ss
          have hcd : costD o = 100 + o.xs.length + o.st.length + 32 * o.ds.length + totS o.ss := rfl
          have hln := HLn.out
          have hlk := HLk.out
          have hwb := Hwb.out
          have hwb2 := Hwb2.out
          have hzq := HUw.out.size
          have hzB := HUB.out.size
          have hz2 := HU2.out.size
          have hvlt : ∀ j, own v j → w2.heap.size ≤ j ∧ j < wq.heap.size := fun j hj => ⟨HVo.out j hj, (HWr.out.2.lt j hj).2⟩
          have hllt : ∀ j, own u6 j → w2.heap.size ≤ j ∧ j < wq.heap.size := fun j hj => ⟨HLv.out j hj, (HLo.out.lt j hj).2⟩
          have HLy := Lib.hid (laysd_any wb v (allD ls) (cs.set 3 (.int .i64 (nd : Int))) { o with many := (nd : Int) } (fun j => j < w.heap.size) wB.drew (NamesW.Wr.upd HWr.out HUBd.out id (fun _ _ => id)) Ho1.out (fun j hj => ⟨by omega, by omega, fun h => by have := hvlt j h; omega⟩)
            (by show (allD ls).length + (newsD o).length ≤ _; omega) (by show o.ss.length ≤ _; omega) (fun _ => by show (allD ls).length + o.st.length ≤ _; omega) (fun _ => by show (allD ls).length + o.xs.length ≤ _; omega))
          have HE : Hid (∀ w', Upd (fun i => i = wb ∨ own v i) wB w' → w'.cell? ⟨eg, m1, none⟩ = some (.int .i64 (p0 : Int))) := fun w' hu' => hu'.cell (HUB.out.cell HE0.out id) (fun e => by
            rcases e with e | e
            · have e : eg = wb := e; have := HEv.out eg rfl; omega
            · exact ReadT.rows_apart HEo.out HWr.out.2 (by decide) (k := eg) rfl e)
          obtain ⟨CB, hCB⟩ : ∃ x, x = cs.set 3 (.int .i64 (nd : Int)) := ⟨_, rfl⟩
          rw [← hCB] at HLy HRowB HCE
          have HRX : Hid (∀ w', Upd (fun i => i = wb ∨ own v i) wB w' → Row w' wq.heap.size 54 CB) := fun w' hu' => HRowB.out.upd hu' (fun e => by
            rcases e with e | e
            · have e : wq.heap.size = wb := e; have := HU.out.size; omega
            · have := hvlt _ e; omega)
          have HCz : Hid ((Try.prog.info? 54).map (·.size) = some CB.length) := by show _ = _; rw [sizeO, HCE.out]; rfl
          have HCB := Lib.hid hCB
          clear hCB
          have HS_0 : Hid (Upd (fun i => i = wb ∨ own v i) wB wB.drew) := (Upd.refl _ _).drew
          go_wp2_with fail
          refine wp_region_held_drew (S := Upd (fun i => i = wb ∨ own v i) wB) (by kernel_rfl) HS_0.out (fun _ => ?_)
          refine wpAnyH_take (i := 0) (oi := ⟨some 56, _, _, _, _, _⟩) (v := .pointer (some ⟨wb, 0, none⟩)) rfl (by kernel_rfl) (by kernel_rfl) (by kernel_rfl) (fun _ _ _ h => h) (Or.inl ⟨by rfl, fun w hS => by go_simp⟩) HS_0.out ?_
          try simp only [Act.put, List.setIfInBounds_toArray, List.set_cons_zero, List.set_cons_succ]
          refine wpAnyH_take (i := 1) (oi := ⟨some 57, _, _, _, _, _⟩) rfl (by kernel_rfl) (by kernel_rfl) (by kernel_rfl) (fun _ _ _ h => h) (yieldsIf_load_mid (by rfl) _ _ rfl wq.heap.size 0 rfl CB _ (fun w h => fun j u hu => by rw [Nat.zero_add, (HRX.out w h).cell]; exact hu) Try.underlying54 rfl HCz.out) HS_0.out ?_
          try simp only [Act.put, List.setIfInBounds_toArray, List.set_cons_zero, List.set_cons_succ]
          refine wpAnyH_ready (rs := [2]) (by kernel_rfl) (by simp) ?_
          refine AllReadyH.cons rfl (fun K hK => ?_) AllReadyH.nil
          go_simp
          by_cases he : errD o = 0
          · have hbe : (errD { o with many := (nd : Int) } == 0) = true := by show (errD o == 0) = true; rw [he]; rfl
            have hif : (if errD { o with many := (nd : Int) } = 0 then newsD { o with many := (nd : Int) } else []) = newsD o := if_pos he
            rw [hbe, hif] at HLy
            clear hbe hif
            refine HLy.out.mono ?_
            rintro e wC ⟨rfl, v', hwC, huC, hoC⟩
            have HS_1 : Hid (Upd (fun i => i = wb ∨ own v i) wB wC) := HS_0.out.trans (huC.mono (fun _ _ e => .inl e))
            have HREL0 : newsD o = [] → (k + 1 ≤ os.length ∧ Wr wC wb v' (allD ls) ∧ (∀ j, own v' j → w2.heap.size ≤ j) ∧ wC.ownsRow 0 54 12 u6 ls.length cl.flatten ∧ (∀ j, own u6 j → w2.heap.size ≤ j) ∧ wC.ownsRow 0 3 1 (.slice (some ⟨eg, 0, none⟩) (m1 + 1) ec) ls.length (endsOf ls) ∧ (∀ j, own (.slice (some ⟨eg, 0, none⟩) (m1 + 1) ec) j → w2.heap.size ≤ j) ∧ LaidOk w ls cl od ∧ (allD ls).length ≤ 4 + 2 * costs (os.take (k + 1)) ∧ ls.length ≤ k + 1 + 1 ∧ 0 < ls.length ∧ (∀ o ∈ ls, 0 < (newsD o).length) ∧ Upd (fun j => j = wb) w2 wC) := by
              intro hn
              rw [hn, List.append_nil] at hwC
              have hzU := HU.out.size
              refine ⟨hkt, hwC, fun j hj => ?_, ?_, HLv.out, ?_, HEv.out, HLd.out, by omega, by omega, by rw [Hm1.out]; omega, Hnes.out, ?_⟩
              · rcases hoC j hj with h | h
                · exact (hvlt j h).1
                · omega
              · exact ReadT.own_upd (ReadT.own_upd HLo.out HUBd.out (fun _ _ => id)) huC (fun j hj e => by
                  rcases e with e | e
                  · have := hllt j hj; omega
                  · exact ReadT.rows_apart HLo.out HWr.out.2 (by decide) hj e)
              · exact ReadT.own_upd (ReadT.own_upd HEo.out HUBd.out (fun _ _ => id)) huC (fun j hj e => by
                  rcases e with e | e
                  · have := HEv.out j hj; omega
                  · exact ReadT.rows_apart HEo.out HWr.out.2 (by decide) hj e)
              · exact (HU.out.trans (HUBd.out.mono (fun _ _ e => e.elim))).trans (huC.mono (fun j _ e => by
                  rcases e with e | e
                  · exact .inl e
                  · exact .inr (hvlt j e).1))
            have HREL0 := Lib.hid HREL0
            have HOC := Lib.hid hoC
            have HWC := Lib.hid hwC
            clear hwC huC hoC HLy
            obtain ⟨pn, hpn⟩ : ∃ x, x = (allD ls ++ newsD o).length := ⟨_, rfl⟩
            have HLn := Lib.hid (WriterW.len_any wb v' (allD ls ++ newsD o) wC HWC.out)
            rw [← hpn] at HLn
            have Hpn := Lib.hid hpn
            clear hpn
            refine hK.out _ _ HS_1.out (fun hHeld => ?_)
            clear hK K hHeld
            try simp only [Act.put, List.setIfInBounds_toArray, List.set_cons_zero, List.set_cons_succ]
            refine wpAnyH_take (i := 3) (oi := ⟨some 59, _, _, _, _, _⟩) (v := .bool true) rfl (by kernel_rfl) (by kernel_rfl) (by kernel_rfl) (fun _ _ _ h => h) (Or.inl ⟨by rfl, fun w hS => by go_simp⟩) HS_1.out ?_
            try simp only [Act.put, List.setIfInBounds_toArray, List.set_cons_zero, List.set_cons_succ]
            refine wpAnyH_take (i := 4) (oi := ⟨some 60, _, _, _, _, _⟩) (v := .pointer (some ⟨wb, 0, none⟩)) rfl (by kernel_rfl) (by kernel_rfl) (by kernel_rfl) (fun _ _ _ h => h) (Or.inl ⟨by rfl, fun w hS => by go_simp⟩) HS_1.out ?_
            try simp only [Act.put, List.setIfInBounds_toArray, List.set_cons_zero, List.set_cons_succ]
            refine wpAnyH_take (i := 6) (oi := ⟨some 62, _, _, _, _, _⟩) (v := .slice (some ⟨eg, 0, none⟩) (m1 + 1) ec) rfl (by kernel_rfl) (by kernel_rfl) (by kernel_rfl) (fun _ _ _ h => h) (Or.inl ⟨by rfl, fun w hS => by go_simp⟩) HS_1.out ?_
            try simp only [Act.put, List.setIfInBounds_toArray, List.set_cons_zero, List.set_cons_succ]
            refine wpAnyH_take (i := 7) (oi := ⟨some 63, _, _, _, _, _⟩) (v := .slice (some ⟨eg, 0, none⟩) (m1 + 1) ec) rfl (by kernel_rfl) (by kernel_rfl) (by kernel_rfl) (fun _ _ _ h => h) (Or.inl ⟨by rfl, fun w hS => by go_simp⟩) HS_1.out ?_
            try simp only [Act.put, List.setIfInBounds_toArray, List.set_cons_zero, List.set_cons_succ]
            refine wpAnyH_take (i := 8) (oi := ⟨some 64, _, _, _, _, _⟩) (v := .int .i64 ((m1 : Int) + 1)) rfl (by kernel_rfl) (by kernel_rfl) (by kernel_rfl) (fun _ _ _ h => h) (Or.inl ⟨by rfl, fun w hS => by go_simp⟩) HS_1.out ?_
            try simp only [Act.put, List.setIfInBounds_toArray, List.set_cons_zero, List.set_cons_succ]
            refine wpAnyH_take (i := 9) (oi := ⟨some 65, _, _, _, _, _⟩) (v := .int .i64 (m1 : Int)) rfl (by kernel_rfl) (by kernel_rfl) (by kernel_rfl) (fun _ _ _ h => h) (Or.inl ⟨by rfl, fun w hS => by go_simp⟩) HS_1.out ?_
            try simp only [Act.put, List.setIfInBounds_toArray, List.set_cons_zero, List.set_cons_succ]
            refine wpAnyH_take (i := 10) (oi := ⟨some 66, _, _, _, _, _⟩) (v := .pointer (some ⟨eg, m1, none⟩)) rfl (by kernel_rfl) (by kernel_rfl) (by kernel_rfl) (fun _ _ _ h => h) (Or.inl ⟨by rfl, fun w hS => by (go_simp; try (intro h; omega))⟩) HS_1.out ?_
            try simp only [Act.put, List.setIfInBounds_toArray, List.set_cons_zero, List.set_cons_succ]
            refine wpAnyH_take (i := 11) (oi := ⟨some 67, _, _, _, _, _⟩) (v := .int .i64 (p0 : Int)) rfl (by kernel_rfl) (by kernel_rfl) (by kernel_rfl) (fun _ _ _ h => h) (Or.inl ⟨by rfl, fun w hS => by (have hc := HE.out w hS; go_simp)⟩) HS_1.out ?_
            try simp only [Act.put, List.setIfInBounds_toArray, List.set_cons_zero, List.set_cons_succ]
            refine wpAnyH_ready (rs := [5]) (by kernel_rfl) (by simp) ?_
            refine AllReadyH.cons rfl (fun K hK => ?_) AllReadyH.nil
            go_simp
            refine HLn.out.mono ?_
            rintro e wC' ⟨rfl, rfl⟩
            refine hK.out _ _ HS_1.out (fun hHeld => ?_)
            clear hK K hHeld
            try simp only [Act.put, List.setIfInBounds_toArray, List.set_cons_zero, List.set_cons_succ]
            by_cases hgt : p0 < pn
            · have hgtI : decide ((p0 : Int) < (pn : Int)) = true := by simpa using hgt
              refine wpAnyH_take (i := 12) (oi := ⟨some 68, _, _, _, _, _⟩) (v := .bool true) rfl (by kernel_rfl) (by kernel_rfl) (by kernel_rfl) (fun _ _ _ h => h) (Or.inl ⟨by rfl, fun w hS => by go_simp⟩) HS_1.out ?_
              try simp only [Act.put, List.setIfInBounds_toArray, List.set_cons_zero, List.set_cons_succ]
              refine wpAnyH_take (i := 13) (oi := ⟨some 69, _, _, _, _, _⟩) (v := .bool true) rfl (by kernel_rfl) (by kernel_rfl) (by kernel_rfl) (fun _ _ _ h => h) (Or.inl ⟨by rfl, fun w hS => by go_simp⟩) HS_1.out ?_
              try simp only [Act.put, List.setIfInBounds_toArray, List.set_cons_zero, List.set_cons_succ]
              refine wpAnyH_done (by kernel_rfl) ?_ _
              have hRC : Row wC wq.heap.size 54 CB := HRX.out wC HS_1.out
              have HRE : Hid (wC.heap[wq.heap.size]? = some (.cells #[.int .i64 6, x1, c2, .int .i64 (nd : Int), c4, .slice dao nd dcap, x6, .slice pao np pcap, c8, lw, c10, c11] 54 (0, 0))) := by show _ = _; rw [HCE.out] at hRC; exact hRC
              have hLC : wC.ownsRow 0 54 12 u6 ls.length cl.flatten := ReadT.own_upd (ReadT.own_upd HLo.out HUB.out (fun _ _ => id)) HS_1.out (fun j hj e => by
                rcases e with e | e
                · have := hllt j hj; omega
                · exact ReadT.rows_apart HLo.out HWr.out.2 (by decide) hj e)
              have HLC : Hid ((wC.alloc (.cells #[.int .i64 6, x1, c2, .int .i64 (nd : Int), c4, .slice dao nd dcap, x6, .slice pao np pcap, c8, lw, c10, c11] 54)).ownsRow 0 54 12 u6 ls.length cl.flatten) := ReadT.own_upd hLC ((Upd.refl (fun _ => False) wC).alloc _) (fun _ _ => id)
              have hEC : wC.ownsRow 0 3 1 (.slice (some ⟨eg, 0, none⟩) (m1 + 1) ec) ls.length (endsOf ls) := ReadT.own_upd (ReadT.own_upd HEo.out HUB.out (fun _ _ => id)) HS_1.out (fun j hj e => by
                rcases e with e | e
                · have := HEv.out j hj; omega
                · exact ReadT.rows_apart HEo.out HWr.out.2 (by decide) hj e)
              have HEC := Lib.hid hEC
              have HXE : Hid ((Try.prog.info? 54).map (·.size) = some (#[.int .i64 6, x1, c2, .int .i64 (nd : Int), c4, .slice dao nd dcap, x6, .slice pao np pcap, c8, lw, c10, c11] : Array Value).size) := by show _ = _; rw [sizeO]; rfl
              have HLa' : Hid (LaidOne w [.int .i64 6, x1, c2, .int .i64 (nd : Int), c4, .slice dao nd dcap, x6, .slice pao np pcap, c8, lw, c10, c11] { o with many := (nd : Int) }) := HLa.out.resolve_right (fun h => h he)
              have hlb : ls.length + 1 ≤ 4294967296 := by omega
              clear hLC hRC hEC HREL0 hCE Ho1 HLn
              go_wp2_with (first
                | ((with_reducible refine wpList_load_row (o := ⟨some 71, _, _, _, _, _⟩) ?_ 54 (.tmp 9) ?_ wq.heap.size ?_ 54 #[.int .i64 6, x1, c2, .int .i64 (nd : Int), c4, .slice dao nd dcap, x6, .slice pao np pcap, c8, lw, c10, c11] (0, 0) _ HRE.out Try.underlying54 ?_ HXE.out ?_); rfl; rfl; rfl; rfl)
                | (at_builtin; (refine wpList_append_op _ (o := ⟨some 73, _, _, _, _, _⟩) ?_ (.tmp 70) (.tmp 72) ?_ u6 ls.length cl.flatten [.int .i64 6, x1, c2, .int .i64 (nd : Int), c4, .slice dao nd dcap, x6, .slice pao np pcap, c8, lw, c10, c11] ?_ HLC.out wC.heap.size 1 ?_ (heap_alloc_new _ _) rfl HLa'.out.one hlb ?_); rfl; rfl; rfl; rfl; intro a5 c5' wD HO5 HG5 HA5))
              have hUD : Upd (own u6) wC wD := ((Upd.refl (own u6) wC).alloc _).trans ((Upd.grown HG5.out (fun j hj => hj) : Upd (own u6) _ wD).mono (fun j _ e => .inl e))
              have HUD := Lib.hid hUD
              have HOC2 : Hid (∀ j, own v' j → own v j ∨ wB.heap.size ≤ j) := HOC.out
              have HWD : Hid (Wr wD wb v' (allD ls ++ newsD o)) := NamesW.Wr.upd HWC.out hUD (fun e => by have := hllt wb e; omega) (fun j hj e => by
                rcases HOC2.out j hj with h | h
                · exact ReadT.rows_apart HLo.out HWr.out.2 (by decide) e h
                · have := hllt j e; omega)
              have hED : wD.ownsRow 0 3 1 (.slice (some ⟨eg, 0, none⟩) (m1 + 1) ec) (m1 + 1) (endsOf ls) := by
                have h := ReadT.own_upd HEC.out hUD (fun j hj e => by
                  have h1 := ReadT.own_upd HEo.out HUB.out (fun _ _ => id)
                  rcases IntsW.own_apart HEo.out HLo.out (by decide) with h2 | h2
                  · unfold own at hj; rw [h2] at hj; cases hj
                  · exact h2 (by unfold own at hj e; rw [hj, e]))
                rw [Hm1.out] at h
                exact h
              have HED : Hid ((wD.alloc (.cells #[.int .i64 (pn : Int)] 3)).ownsRow 0 3 1 (.slice (some ⟨eg, 0, none⟩) (m1 + 1) ec) (m1 + 1) (endsOf ls)) := ReadT.own_upd hED ((Upd.refl (fun _ => False) wD).alloc _) (fun _ _ => id)
              have HLn2 := Lib.hid (WriterW.len_any wb v' (allD ls ++ newsD o) wD HWD.out)
              rw [← Hpn.out] at HLn2
              have hm63 : m1 + 1 + 1 ≤ maxLen := by unfold maxLen; omega
              have hm8 : (m1 + 1 + 1) * 8 ≤ 140737488355328 := by omega
              have HED0 := Lib.hid hED
              clear hUD hED
              refine HLn2.out.mono ?_
              rintro e wD' ⟨rfl, rfl⟩
              go_wp2_with (at_builtin; (refine IntsW.wpList_append_int _ (o := ⟨some 78, _, _, _, _, _⟩) ?_ (.tmp 74) (.tmp 77) ?_ (.slice (some ⟨eg, 0, none⟩) (m1 + 1) ec) (m1 + 1) (endsOf ls) ?_ HED.out wD.heap.size 1 (pn : Int) ?_ (heap_alloc_new _ _) hm63 hm8 ?_); rfl; rfl; rfl; rfl; intro a6 c6 wE HO6 HG6 HA6)
              obtain ⟨CE, hCe⟩ : ∃ x : List Value, x = [.int .i64 6, x1, c2, .int .i64 (nd : Int), c4, .slice dao nd dcap, x6, .slice pao np pcap, c8, lw, c10, c11] := ⟨_, rfl⟩
              obtain ⟨o1, ho1⟩ : ∃ x, x = { o with many := (nd : Int) } := ⟨_, rfl⟩
              have hnw : newsD o1 = newsD o := by rw [ho1]; rfl
              rw [← hCe] at HLa'
              rw [← ho1] at HLa'
              have hUE : Upd (own (.slice (some ⟨eg, 0, none⟩) (m1 + 1) ec)) wD wE := ((Upd.refl (own (.slice (some ⟨eg, 0, none⟩) (m1 + 1) ec)) wD).alloc _).trans ((Upd.grown HG6.out (fun j hj => hj) : Upd (own (.slice (some ⟨eg, 0, none⟩) (m1 + 1) ec)) _ wE).mono (fun j _ e => .inl e))
              have hzC := HS_1.out.size
              have hzD := HUD.out.size
              have hzU := HU.out.size
              have hO5 : wD.ownsRow 0 54 12 (.slice a5 (ls.length + 1) c5') (ls.length + 1) (cl.flatten ++ CE) := by rw [hCe]; exact HO5.out
              have hA5 : ∀ j, own (Value.slice a5 (ls.length + 1) c5') j → own u6 j ∨ wC.heap.size ≤ j := fun j hj => by
                rcases HA5.out with h | h
                · left; unfold own at hj ⊢; rw [h] at hj; exact hj
                · right
                  unfold own at hj
                  rw [h] at hj
                  injection hj with hj
                  rw [← hj]
                  exact ((Upd.refl (fun _ => False) wC).alloc _).size
              have hA6 : ∀ j, own (Value.slice a6 (m1 + 1 + 1) c6) j → own (.slice (some ⟨eg, 0, none⟩) (m1 + 1) ec) j ∨ wD.heap.size ≤ j := fun j hj => by
                rcases HA6.out with h | h
                · left; unfold own at hj ⊢; rw [h] at hj; exact hj
                · right
                  unfold own at hj
                  rw [h] at hj
                  injection hj with hj
                  rw [← hj]
                  exact ((Upd.refl (fun _ => False) wD).alloc _).size
              have hvC : ∀ j, own v' j → w2.heap.size ≤ j := fun j hj => by
                rcases HOC2.out j hj with h | h
                · exact (hvlt j h).1
                · omega
              have hpo := Hp0.out
              have hpl := Hpn.out
              rw [List.length_append] at hpl
              refine ⟨⟨k + 1, v', ls ++ [o1], cl ++ [CE], hkt, by go_num, ?_, hvC, ?_, fun j hj => ?_, ?_, fun j hj => ?_, LaidOk.snoc HLd.out HLa'.out, ?_, ?_, ?_, ?_, ?_⟩, ?_⟩
              · rw [allD_snoc, hnw]
                exact NamesW.Wr.upd HWD.out hUE (fun e => by have := HEv.out wb e; omega) (fun j hj e => ReadT.rows_apart HED0.out HWD.out.2 (by decide) e hj)
              · rw [List.length_append, List.length_singleton, List.flatten_append, List.flatten_singleton]
                exact ReadT.own_upd hO5 hUE (fun j hj e => by
                  rcases IntsW.own_apart HED0.out hO5 (by decide) with h2 | h2
                  · unfold own at e; rw [h2] at e; cases e
                  · exact h2 (by unfold own at hj e; rw [hj, e]))
              · rcases hA5 j hj with h | h
                · exact (hllt j h).1
                · omega
              · rw [endsOf_snoc, hnw, ← Hpn.out, List.length_append, List.length_singleton, Hm1.out]
                exact HO6.out
              · rcases hA6 j hj with h | h
                · exact HEv.out j h
                · omega
              · rw [allD_snoc, hnw, List.length_append]; omega
              · rw [List.length_append, List.length_singleton]; omega
              · rw [List.length_append, List.length_singleton]; omega
              · intro o2 ho2
                rcases List.mem_append.1 ho2 with h | h
                · exact Hnes.out o2 h
                · rw [List.mem_singleton.1 h, hnw]; omega
              · exact (((HU.out.trans (HUB.out.mono (fun _ _ e => e.elim))).trans (HS_1.out.mono (fun j _ e => by
                  rcases e with e | e
                  · exact .inl e
                  · exact .inr (hvlt j e).1))).trans (HUD.out.mono (fun j _ e => .inr (hllt j e).1))).trans (hUE.mono (fun j _ e => .inr (HEv.out j e)))
              · simp [intOf]; omega
            · have hn : newsD o = [] := by
                have h1 := Hp0.out
                have h2 := Hpn.out
                rw [List.length_append] at h2
                exact List.eq_nil_of_length_eq_zero (by omega)
              have hgtI : decide ((p0 : Int) < (pn : Int)) = false := by simpa using hgt
              have HREL := Lib.hid (HREL0.out hn)
              refine wpAnyH_take (i := 12) (oi := ⟨some 68, _, _, _, _, _⟩) (v := .bool false) rfl (by kernel_rfl) (by kernel_rfl) (by kernel_rfl) (fun _ _ _ h => h) (Or.inl ⟨by rfl, fun w hS => by go_simp⟩) HS_1.out ?_
              try simp only [Act.put, List.setIfInBounds_toArray, List.set_cons_zero, List.set_cons_succ]
              refine wpAnyH_take (i := 13) (oi := ⟨some 69, _, _, _, _, _⟩) (v := .bool false) rfl (by kernel_rfl) (by kernel_rfl) (by kernel_rfl) (fun _ _ _ h => h) (Or.inl ⟨by rfl, fun w hS => by go_simp⟩) HS_1.out ?_
              try simp only [Act.put, List.setIfInBounds_toArray, List.set_cons_zero, List.set_cons_succ]
              refine wpAnyH_done (by kernel_rfl) ?_ _
              go_wp2
              go_roundw
              case rel =>
                obtain ⟨g1, g2⟩ := HREL.out
                exact ⟨k + 1, v', ls, cl, g1, by go_num, g2⟩
              case measure => simp [intOf]; omega
          · have hbe : (errD { o with many := (nd : Int) } == 0) = false := by show (errD o == 0) = false; simpa using he
            have hif : (if errD { o with many := (nd : Int) } = 0 then newsD { o with many := (nd : Int) } else []) = [] := if_neg he
            rw [hbe, hif] at HLy
            clear hbe hif
            refine HLy.out.mono ?_
            rintro e wC ⟨rfl, v', hwC, huC, hoC⟩
            rw [List.append_nil] at hwC
            have HS_1 : Hid (Upd (fun i => i = wb ∨ own v i) wB wC) := HS_0.out.trans (huC.mono (fun _ _ e => .inl e))
            have HREL : Hid (k + 1 ≤ os.length ∧ Wr wC wb v' (allD ls) ∧ (∀ j, own v' j → w2.heap.size ≤ j) ∧ wC.ownsRow 0 54 12 u6 ls.length cl.flatten ∧ (∀ j, own u6 j → w2.heap.size ≤ j) ∧ wC.ownsRow 0 3 1 (.slice (some ⟨eg, 0, none⟩) (m1 + 1) ec) ls.length (endsOf ls) ∧ (∀ j, own (.slice (some ⟨eg, 0, none⟩) (m1 + 1) ec) j → w2.heap.size ≤ j) ∧ LaidOk w ls cl od ∧ (allD ls).length ≤ 4 + 2 * costs (os.take (k + 1)) ∧ ls.length ≤ k + 1 + 1 ∧ 0 < ls.length ∧ (∀ o ∈ ls, 0 < (newsD o).length) ∧ Upd (fun j => j = wb) w2 wC) := by
              have hzU := HU.out.size
              refine ⟨hkt, hwC, fun j hj => ?_, ?_, HLv.out, ?_, HEv.out, HLd.out, by omega, by omega, by rw [Hm1.out]; omega, Hnes.out, ?_⟩
              · rcases hoC j hj with h | h
                · exact (hvlt j h).1
                · omega
              · exact ReadT.own_upd (ReadT.own_upd HLo.out HUBd.out (fun _ _ => id)) huC (fun j hj e => by
                  rcases e with e | e
                  · have := hllt j hj; omega
                  · exact ReadT.rows_apart HLo.out HWr.out.2 (by decide) hj e)
              · exact ReadT.own_upd (ReadT.own_upd HEo.out HUBd.out (fun _ _ => id)) huC (fun j hj e => by
                  rcases e with e | e
                  · have := HEv.out j hj; omega
                  · exact ReadT.rows_apart HEo.out HWr.out.2 (by decide) hj e)
              · exact (HU.out.trans (HUBd.out.mono (fun _ _ e => e.elim))).trans (huC.mono (fun j _ e => by
                  rcases e with e | e
                  · exact .inl e
                  · exact .inr (hvlt j e).1))
            clear hwC huC hoC HLy Ho1
            refine hK.out _ _ HS_1.out (fun hHeld => ?_)
            clear hK K hHeld
            try simp only [Act.put, List.setIfInBounds_toArray, List.set_cons_zero, List.set_cons_succ]
            refine wpAnyH_take (i := 3) (oi := ⟨some 59, _, _, _, _, _⟩) (v := .bool false) rfl (by kernel_rfl) (by kernel_rfl) (by kernel_rfl) (fun _ _ _ h => h) (Or.inl ⟨by rfl, fun w hS => by go_simp⟩) HS_1.out ?_
            try simp only [Act.put, List.setIfInBounds_toArray, List.set_cons_zero, List.set_cons_succ]
            refine wpAnyH_take (i := 4) (oi := ⟨some 60, _, _, _, _, _⟩) (v := undef) rfl (by kernel_rfl) (by kernel_rfl) (by kernel_rfl) (fun _ _ _ h => h) (Or.inr ⟨by rfl, rfl⟩) HS_1.out ?_
            try simp only [Act.put, List.setIfInBounds_toArray, List.set_cons_zero, List.set_cons_succ]
            refine wpAnyH_take (i := 5) (oi := ⟨some 61, _, _, _, _, _⟩) (v := undef) rfl (by kernel_rfl) (by kernel_rfl) (by kernel_rfl) (fun _ _ _ h => h) (Or.inr ⟨by rfl, rfl⟩) HS_1.out ?_
            try simp only [Act.put, List.setIfInBounds_toArray, List.set_cons_zero, List.set_cons_succ]
            refine wpAnyH_take (i := 6) (oi := ⟨some 62, _, _, _, _, _⟩) (v := undef) rfl (by kernel_rfl) (by kernel_rfl) (by kernel_rfl) (fun _ _ _ h => h) (Or.inr ⟨by rfl, rfl⟩) HS_1.out ?_
            try simp only [Act.put, List.setIfInBounds_toArray, List.set_cons_zero, List.set_cons_succ]
            refine wpAnyH_take (i := 7) (oi := ⟨some 63, _, _, _, _, _⟩) (v := undef) rfl (by kernel_rfl) (by kernel_rfl) (by kernel_rfl) (fun _ _ _ h => h) (Or.inr ⟨by rfl, rfl⟩) HS_1.out ?_
            try simp only [Act.put, List.setIfInBounds_toArray, List.set_cons_zero, List.set_cons_succ]
            refine wpAnyH_take (i := 8) (oi := ⟨some 64, _, _, _, _, _⟩) (v := undef) rfl (by kernel_rfl) (by kernel_rfl) (by kernel_rfl) (fun _ _ _ h => h) (Or.inr ⟨by rfl, rfl⟩) HS_1.out ?_
            try simp only [Act.put, List.setIfInBounds_toArray, List.set_cons_zero, List.set_cons_succ]
            refine wpAnyH_take (i := 9) (oi := ⟨some 65, _, _, _, _, _⟩) (v := undef) rfl (by kernel_rfl) (by kernel_rfl) (by kernel_rfl) (fun _ _ _ h => h) (Or.inr ⟨by rfl, rfl⟩) HS_1.out ?_
            try simp only [Act.put, List.setIfInBounds_toArray, List.set_cons_zero, List.set_cons_succ]
            refine wpAnyH_take (i := 10) (oi := ⟨some 66, _, _, _, _, _⟩) (v := undef) rfl (by kernel_rfl) (by kernel_rfl) (by kernel_rfl) (fun _ _ _ h => h) (Or.inr ⟨by rfl, rfl⟩) HS_1.out ?_
            try simp only [Act.put, List.setIfInBounds_toArray, List.set_cons_zero, List.set_cons_succ]
            refine wpAnyH_take (i := 11) (oi := ⟨some 67, _, _, _, _, _⟩) (v := undef) rfl (by kernel_rfl) (by kernel_rfl) (by kernel_rfl) (fun _ _ _ h => h) (Or.inr ⟨by rfl, rfl⟩) HS_1.out ?_
            try simp only [Act.put, List.setIfInBounds_toArray, List.set_cons_zero, List.set_cons_succ]
            refine wpAnyH_take (i := 12) (oi := ⟨some 68, _, _, _, _, _⟩) (v := undef) rfl (by kernel_rfl) (by kernel_rfl) (by kernel_rfl) (fun _ _ _ h => h) (Or.inr ⟨by rfl, rfl⟩) HS_1.out ?_
            try simp only [Act.put, List.setIfInBounds_toArray, List.set_cons_zero, List.set_cons_succ]
            refine wpAnyH_take (i := 13) (oi := ⟨some 69, _, _, _, _, _⟩) (v := .bool false) rfl (by kernel_rfl) (by kernel_rfl) (by kernel_rfl) (fun _ _ _ h => h) (Or.inl ⟨by rfl, fun w hS => by go_simp⟩) HS_1.out ?_
            try simp only [Act.put, List.setIfInBounds_toArray, List.set_cons_zero, List.set_cons_succ]
            refine wpAnyH_done (by kernel_rfl) ?_ _
            go_wp2
            go_roundw
            case rel =>
              obtain ⟨g1, g2⟩ := HREL.out
              exact ⟨k + 1, v', ls, cl, g1, by go_num, g2⟩
            case measure => simp [intOf]; omega
        · obtain ⟨XB, hXB⟩ : ∃ x, x = (cs.set 3 (.int .i64 (np : Int))).toArray := ⟨_, rfl⟩
          have HXBs : Hid ((Try.prog.info? 54).map (·.size) = some XB.size) := by show _ = _; rw [sizeO, hXB]; simp [HF.out.len]
          have HXB := Lib.hid hXB
          clear hXB
          go_wp2_with (first
            | ((with_reducible refine wpList_load_part (o := ⟨some 44, _, _, _, _, _⟩) ?_ _ (.tmp 43) ?_ og (oo + k * 12) ?_ cs _ ?_ Try.underlying54 ?_ HCs.out ?_); rfl; rfl; rfl; (exact HRa.out); rfl; rw [← HXA.out])
            | ((with_reducible refine wpList_store_new (o := ⟨none, .store 54 (.tmp 9) (.tmp 44), _, _, _, _⟩) ?_ _ (.tmp 9) (.tmp 44) ?_ wq.heap.size XA ?_ ?_ 54 #[.int .i64 0, .int .i64 0, .int .u64 0, .int .i64 0, .bool false, .slice none 0 0, .slice none 0 0, .slice none 0 0, .string ⟨#[]⟩, .slice none 0 0, .int .i64 0, .int .i64 0] (heap_alloc_new _ _) HXs.out HXz.out HX1.out ?_); rfl; rfl; rfl; rfl; intro wA HgA HuA; have HRA : Hid (Row wA wq.heap.size 54 cs) := (by show _ = _; rw [← HXA.out]; exact HgA.out); have c0 : wA.cell? ⟨wq.heap.size, 0, none⟩ = some (.int .i64 kk) := (by rw [HRA.out.cell, Hcs.out]; rfl); have c3 : wA.cell? ⟨wq.heap.size, 3, none⟩ = some (.int .i64 o.many) := (by rw [HRA.out.cell, Hcs.out]; rfl); have c7 : wA.cell? ⟨wq.heap.size, 7, none⟩ = some (.slice pao np pcap) := (by rw [HRA.out.cell, Hcs.out]; rfl); have f3 := HRA.out.frozen 3; have HRB : Hid (Row (wA.setCell ⟨wq.heap.size, 3, none⟩ (.int .i64 (np : Int))) wq.heap.size 54 (cs.set 3 (.int .i64 (np : Int)))) := HRA.out.set 3 _; have d0 : (wA.setCell ⟨wq.heap.size, 3, none⟩ (.int .i64 (np : Int))).cell? ⟨wq.heap.size, 0, none⟩ = some (.int .i64 kk) := (by rw [HRB.out.cell, Hcs.out]; rfl); have HRX : Hid ((wA.setCell ⟨wq.heap.size, 3, none⟩ (.int .i64 (np : Int))).heap[wq.heap.size]? = some (.cells XB 54 (0, 0))) := (by show _ = _; rw [HXB.out]; exact HRB.out)))
          obtain ⟨wB, hwB⟩ : ∃ x, x = (wA.setCell ⟨wq.heap.size, 3, none⟩ (.int .i64 (np : Int))) := ⟨_, rfl⟩
          have HRowB : Hid (Row wB wq.heap.size 54 (cs.set 3 (.int .i64 (np : Int)))) := by show Row _ _ _ _; rw [hwB]; exact HRB.out
          have HUB : Hid (Upd (fun _ => False) wq wB) := by
            show Upd _ _ _
            rw [hwB]
            have h1 : Upd (fun j => j = wq.heap.size) wA (wA.setCell ⟨wq.heap.size, 3, none⟩ (.int .i64 (np : Int))) := put1 (Upd.refl _ _) 3 _
            exact (((Upd.refl (fun _ => False) wq).alloc _).trans (HuA.out.mono (fun j _ e => .inr (by omega)))).trans (h1.mono (fun j _ e => .inr (by omega)))
          rw [← hwB]
          clear hwB
          have HUBd : Hid (Upd (fun _ => False) wq wB.drew) := HUB.out.drew
          have hzd : wB.drew.heap.size = wB.heap.size := rfl
          have hCE : cs.set 3 (.int .i64 (np : Int)) = [.int .i64 kk, x1, c2, .int .i64 (np : Int), c4, .slice dao nd dcap, x6, .slice pao np pcap, c8, lw, c10, c11] := by rw [Hcs.out]; rfl
          have HCE := Lib.hid hCE
          have Ho1 : Hid (OpH wB.drew (cs.set 3 (.int .i64 (np : Int))) { o with many := (np : Int) } (fun j => j < w.heap.size)) := OpH.many (OpH.upd HF.out.h (HUw.out.trans (HUBd.out.mono (fun _ _ e => e.elim)))) _
          have HLa : Hid (LaidOne w [.int .i64 kk, x1, c2, .int .i64 (np : Int), c4, .slice dao nd dcap, x6, .slice pao np pcap, c8, lw, c10, c11] { o with many := (np : Int) } ∨ errD o ≠ 0) := by
            by_cases he : errD o = 0
            · left
              refine ⟨?_, rfl, fun u hu => ?_, he, by show ((np : Nat) : Int) = if o.k = 6 then (o.ds.length : Int) else (o.xs.length : Int); rw [← Hkk.out, if_neg hk6, Hnp.out], HF.out.h32⟩
              · rw [← hCE]; exact OpH.many HF.out.h _
              · rw [← hCE] at hu
                rcases List.mem_or_eq_of_mem_set hu with h | h
                · exact HF.out.one u h
                · rw [h]; rfl
            · exact .inr he
          have hck := costs_take os od k hkt
          rw [← Hoe.out] at hck
          have hcl := costs_le os (k + 1)
          have hcb := HCo.out
          have hnc := news_cost o HF.out.h32
          have hts := totS_ge o.ss
          have hcd : costD o = 100 + o.xs.length + o.st.length + 32 * o.ds.length + totS o.ss := rfl
          have hln := HLn.out
          have hlk := HLk.out
          have hwb := Hwb.out
          have hwb2 := Hwb2.out
          have hzq := HUw.out.size
          have hzB := HUB.out.size
          have hz2 := HU2.out.size
          have hvlt : ∀ j, own v j → w2.heap.size ≤ j ∧ j < wq.heap.size := fun j hj => ⟨HVo.out j hj, (HWr.out.2.lt j hj).2⟩
          have hllt : ∀ j, own u6 j → w2.heap.size ≤ j ∧ j < wq.heap.size := fun j hj => ⟨HLv.out j hj, (HLo.out.lt j hj).2⟩
          have HLy := Lib.hid (laysd_any wb v (allD ls) (cs.set 3 (.int .i64 (np : Int))) { o with many := (np : Int) } (fun j => j < w.heap.size) wB.drew (NamesW.Wr.upd HWr.out HUBd.out id (fun _ _ => id)) Ho1.out (fun j hj => ⟨by omega, by omega, fun h => by have := hvlt j h; omega⟩)
            (by show (allD ls).length + (newsD o).length ≤ _; omega) (by show o.ss.length ≤ _; omega) (fun _ => by show (allD ls).length + o.st.length ≤ _; omega) (fun _ => by show (allD ls).length + o.xs.length ≤ _; omega))
          have HE : Hid (∀ w', Upd (fun i => i = wb ∨ own v i) wB w' → w'.cell? ⟨eg, m1, none⟩ = some (.int .i64 (p0 : Int))) := fun w' hu' => hu'.cell (HUB.out.cell HE0.out id) (fun e => by
            rcases e with e | e
            · have e : eg = wb := e; have := HEv.out eg rfl; omega
            · exact ReadT.rows_apart HEo.out HWr.out.2 (by decide) (k := eg) rfl e)
          obtain ⟨CB, hCB⟩ : ∃ x, x = cs.set 3 (.int .i64 (np : Int)) := ⟨_, rfl⟩
          rw [← hCB] at HLy HRowB HCE
          have HRX : Hid (∀ w', Upd (fun i => i = wb ∨ own v i) wB w' → Row w' wq.heap.size 54 CB) := fun w' hu' => HRowB.out.upd hu' (fun e => by
            rcases e with e | e
            · have e : wq.heap.size = wb := e; have := HU.out.size; omega
            · have := hvlt _ e; omega)
          have HCz : Hid ((Try.prog.info? 54).map (·.size) = some CB.length) := by show _ = _; rw [sizeO, HCE.out]; rfl
          have HCB := Lib.hid hCB
          clear hCB
          have HS_0 : Hid (Upd (fun i => i = wb ∨ own v i) wB wB.drew) := (Upd.refl _ _).drew
          go_wp2_with fail
          refine wp_region_held_drew (S := Upd (fun i => i = wb ∨ own v i) wB) (by kernel_rfl) HS_0.out (fun _ => ?_)
          refine wpAnyH_take (i := 0) (oi := ⟨some 56, _, _, _, _, _⟩) (v := .pointer (some ⟨wb, 0, none⟩)) rfl (by kernel_rfl) (by kernel_rfl) (by kernel_rfl) (fun _ _ _ h => h) (Or.inl ⟨by rfl, fun w hS => by go_simp⟩) HS_0.out ?_
          try simp only [Act.put, List.setIfInBounds_toArray, List.set_cons_zero, List.set_cons_succ]
          refine wpAnyH_take (i := 1) (oi := ⟨some 57, _, _, _, _, _⟩) rfl (by kernel_rfl) (by kernel_rfl) (by kernel_rfl) (fun _ _ _ h => h) (yieldsIf_load_mid (by rfl) _ _ rfl wq.heap.size 0 rfl CB _ (fun w h => fun j u hu => by rw [Nat.zero_add, (HRX.out w h).cell]; exact hu) Try.underlying54 rfl HCz.out) HS_0.out ?_
          try simp only [Act.put, List.setIfInBounds_toArray, List.set_cons_zero, List.set_cons_succ]
          refine wpAnyH_ready (rs := [2]) (by kernel_rfl) (by simp) ?_
          refine AllReadyH.cons rfl (fun K hK => ?_) AllReadyH.nil
          go_simp
          by_cases he : errD o = 0
          · have hbe : (errD { o with many := (np : Int) } == 0) = true := by show (errD o == 0) = true; rw [he]; rfl
            have hif : (if errD { o with many := (np : Int) } = 0 then newsD { o with many := (np : Int) } else []) = newsD o := if_pos he
            rw [hbe, hif] at HLy
            clear hbe hif
            refine HLy.out.mono ?_
            rintro e wC ⟨rfl, v', hwC, huC, hoC⟩
            have HS_1 : Hid (Upd (fun i => i = wb ∨ own v i) wB wC) := HS_0.out.trans (huC.mono (fun _ _ e => .inl e))
            have HREL0 : newsD o = [] → (k + 1 ≤ os.length ∧ Wr wC wb v' (allD ls) ∧ (∀ j, own v' j → w2.heap.size ≤ j) ∧ wC.ownsRow 0 54 12 u6 ls.length cl.flatten ∧ (∀ j, own u6 j → w2.heap.size ≤ j) ∧ wC.ownsRow 0 3 1 (.slice (some ⟨eg, 0, none⟩) (m1 + 1) ec) ls.length (endsOf ls) ∧ (∀ j, own (.slice (some ⟨eg, 0, none⟩) (m1 + 1) ec) j → w2.heap.size ≤ j) ∧ LaidOk w ls cl od ∧ (allD ls).length ≤ 4 + 2 * costs (os.take (k + 1)) ∧ ls.length ≤ k + 1 + 1 ∧ 0 < ls.length ∧ (∀ o ∈ ls, 0 < (newsD o).length) ∧ Upd (fun j => j = wb) w2 wC) := by
              intro hn
              rw [hn, List.append_nil] at hwC
              have hzU := HU.out.size
              refine ⟨hkt, hwC, fun j hj => ?_, ?_, HLv.out, ?_, HEv.out, HLd.out, by omega, by omega, by rw [Hm1.out]; omega, Hnes.out, ?_⟩
              · rcases hoC j hj with h | h
                · exact (hvlt j h).1
                · omega
              · exact ReadT.own_upd (ReadT.own_upd HLo.out HUBd.out (fun _ _ => id)) huC (fun j hj e => by
                  rcases e with e | e
                  · have := hllt j hj; omega
                  · exact ReadT.rows_apart HLo.out HWr.out.2 (by decide) hj e)
              · exact ReadT.own_upd (ReadT.own_upd HEo.out HUBd.out (fun _ _ => id)) huC (fun j hj e => by
                  rcases e with e | e
                  · have := HEv.out j hj; omega
                  · exact ReadT.rows_apart HEo.out HWr.out.2 (by decide) hj e)
              · exact (HU.out.trans (HUBd.out.mono (fun _ _ e => e.elim))).trans (huC.mono (fun j _ e => by
                  rcases e with e | e
                  · exact .inl e
                  · exact .inr (hvlt j e).1))
            have HREL0 := Lib.hid HREL0
            have HOC := Lib.hid hoC
            have HWC := Lib.hid hwC
            clear hwC huC hoC HLy
            obtain ⟨pn, hpn⟩ : ∃ x, x = (allD ls ++ newsD o).length := ⟨_, rfl⟩
            have HLn := Lib.hid (WriterW.len_any wb v' (allD ls ++ newsD o) wC HWC.out)
            rw [← hpn] at HLn
            have Hpn := Lib.hid hpn
            clear hpn
            refine hK.out _ _ HS_1.out (fun hHeld => ?_)
            clear hK K hHeld
            try simp only [Act.put, List.setIfInBounds_toArray, List.set_cons_zero, List.set_cons_succ]
            refine wpAnyH_take (i := 3) (oi := ⟨some 59, _, _, _, _, _⟩) (v := .bool true) rfl (by kernel_rfl) (by kernel_rfl) (by kernel_rfl) (fun _ _ _ h => h) (Or.inl ⟨by rfl, fun w hS => by go_simp⟩) HS_1.out ?_
            try simp only [Act.put, List.setIfInBounds_toArray, List.set_cons_zero, List.set_cons_succ]
            refine wpAnyH_take (i := 4) (oi := ⟨some 60, _, _, _, _, _⟩) (v := .pointer (some ⟨wb, 0, none⟩)) rfl (by kernel_rfl) (by kernel_rfl) (by kernel_rfl) (fun _ _ _ h => h) (Or.inl ⟨by rfl, fun w hS => by go_simp⟩) HS_1.out ?_
            try simp only [Act.put, List.setIfInBounds_toArray, List.set_cons_zero, List.set_cons_succ]
            refine wpAnyH_take (i := 6) (oi := ⟨some 62, _, _, _, _, _⟩) (v := .slice (some ⟨eg, 0, none⟩) (m1 + 1) ec) rfl (by kernel_rfl) (by kernel_rfl) (by kernel_rfl) (fun _ _ _ h => h) (Or.inl ⟨by rfl, fun w hS => by go_simp⟩) HS_1.out ?_
            try simp only [Act.put, List.setIfInBounds_toArray, List.set_cons_zero, List.set_cons_succ]
            refine wpAnyH_take (i := 7) (oi := ⟨some 63, _, _, _, _, _⟩) (v := .slice (some ⟨eg, 0, none⟩) (m1 + 1) ec) rfl (by kernel_rfl) (by kernel_rfl) (by kernel_rfl) (fun _ _ _ h => h) (Or.inl ⟨by rfl, fun w hS => by go_simp⟩) HS_1.out ?_
            try simp only [Act.put, List.setIfInBounds_toArray, List.set_cons_zero, List.set_cons_succ]
            refine wpAnyH_take (i := 8) (oi := ⟨some 64, _, _, _, _, _⟩) (v := .int .i64 ((m1 : Int) + 1)) rfl (by kernel_rfl) (by kernel_rfl) (by kernel_rfl) (fun _ _ _ h => h) (Or.inl ⟨by rfl, fun w hS => by go_simp⟩) HS_1.out ?_
            try simp only [Act.put, List.setIfInBounds_toArray, List.set_cons_zero, List.set_cons_succ]
            refine wpAnyH_take (i := 9) (oi := ⟨some 65, _, _, _, _, _⟩) (v := .int .i64 (m1 : Int)) rfl (by kernel_rfl) (by kernel_rfl) (by kernel_rfl) (fun _ _ _ h => h) (Or.inl ⟨by rfl, fun w hS => by go_simp⟩) HS_1.out ?_
            try simp only [Act.put, List.setIfInBounds_toArray, List.set_cons_zero, List.set_cons_succ]
            refine wpAnyH_take (i := 10) (oi := ⟨some 66, _, _, _, _, _⟩) (v := .pointer (some ⟨eg, m1, none⟩)) rfl (by kernel_rfl) (by kernel_rfl) (by kernel_rfl) (fun _ _ _ h => h) (Or.inl ⟨by rfl, fun w hS => by (go_simp; try (intro h; omega))⟩) HS_1.out ?_
            try simp only [Act.put, List.setIfInBounds_toArray, List.set_cons_zero, List.set_cons_succ]
            refine wpAnyH_take (i := 11) (oi := ⟨some 67, _, _, _, _, _⟩) (v := .int .i64 (p0 : Int)) rfl (by kernel_rfl) (by kernel_rfl) (by kernel_rfl) (fun _ _ _ h => h) (Or.inl ⟨by rfl, fun w hS => by (have hc := HE.out w hS; go_simp)⟩) HS_1.out ?_
            try simp only [Act.put, List.setIfInBounds_toArray, List.set_cons_zero, List.set_cons_succ]
            refine wpAnyH_ready (rs := [5]) (by kernel_rfl) (by simp) ?_
            refine AllReadyH.cons rfl (fun K hK => ?_) AllReadyH.nil
            go_simp
            refine HLn.out.mono ?_
            rintro e wC' ⟨rfl, rfl⟩
            refine hK.out _ _ HS_1.out (fun hHeld => ?_)
            clear hK K hHeld
            try simp only [Act.put, List.setIfInBounds_toArray, List.set_cons_zero, List.set_cons_succ]
            by_cases hgt : p0 < pn
            · have hgtI : decide ((p0 : Int) < (pn : Int)) = true := by simpa using hgt
              refine wpAnyH_take (i := 12) (oi := ⟨some 68, _, _, _, _, _⟩) (v := .bool true) rfl (by kernel_rfl) (by kernel_rfl) (by kernel_rfl) (fun _ _ _ h => h) (Or.inl ⟨by rfl, fun w hS => by go_simp⟩) HS_1.out ?_
              try simp only [Act.put, List.setIfInBounds_toArray, List.set_cons_zero, List.set_cons_succ]
              refine wpAnyH_take (i := 13) (oi := ⟨some 69, _, _, _, _, _⟩) (v := .bool true) rfl (by kernel_rfl) (by kernel_rfl) (by kernel_rfl) (fun _ _ _ h => h) (Or.inl ⟨by rfl, fun w hS => by go_simp⟩) HS_1.out ?_
              try simp only [Act.put, List.setIfInBounds_toArray, List.set_cons_zero, List.set_cons_succ]
              refine wpAnyH_done (by kernel_rfl) ?_ _
              have hRC : Row wC wq.heap.size 54 CB := HRX.out wC HS_1.out
              have HRE : Hid (wC.heap[wq.heap.size]? = some (.cells #[.int .i64 kk, x1, c2, .int .i64 (np : Int), c4, .slice dao nd dcap, x6, .slice pao np pcap, c8, lw, c10, c11] 54 (0, 0))) := by show _ = _; rw [HCE.out] at hRC; exact hRC
              have hLC : wC.ownsRow 0 54 12 u6 ls.length cl.flatten := ReadT.own_upd (ReadT.own_upd HLo.out HUB.out (fun _ _ => id)) HS_1.out (fun j hj e => by
                rcases e with e | e
                · have := hllt j hj; omega
                · exact ReadT.rows_apart HLo.out HWr.out.2 (by decide) hj e)
              have HLC : Hid ((wC.alloc (.cells #[.int .i64 kk, x1, c2, .int .i64 (np : Int), c4, .slice dao nd dcap, x6, .slice pao np pcap, c8, lw, c10, c11] 54)).ownsRow 0 54 12 u6 ls.length cl.flatten) := ReadT.own_upd hLC ((Upd.refl (fun _ => False) wC).alloc _) (fun _ _ => id)
              have hEC : wC.ownsRow 0 3 1 (.slice (some ⟨eg, 0, none⟩) (m1 + 1) ec) ls.length (endsOf ls) := ReadT.own_upd (ReadT.own_upd HEo.out HUB.out (fun _ _ => id)) HS_1.out (fun j hj e => by
                rcases e with e | e
                · have := HEv.out j hj; omega
                · exact ReadT.rows_apart HEo.out HWr.out.2 (by decide) hj e)
              have HEC := Lib.hid hEC
              have HXE : Hid ((Try.prog.info? 54).map (·.size) = some (#[.int .i64 kk, x1, c2, .int .i64 (np : Int), c4, .slice dao nd dcap, x6, .slice pao np pcap, c8, lw, c10, c11] : Array Value).size) := by show _ = _; rw [sizeO]; rfl
              have HLa' : Hid (LaidOne w [.int .i64 kk, x1, c2, .int .i64 (np : Int), c4, .slice dao nd dcap, x6, .slice pao np pcap, c8, lw, c10, c11] { o with many := (np : Int) }) := HLa.out.resolve_right (fun h => h he)
              have hlb : ls.length + 1 ≤ 4294967296 := by omega
              clear hLC hRC hEC HREL0 hCE Ho1 HLn
              go_wp2_with (first
                | ((with_reducible refine wpList_load_row (o := ⟨some 71, _, _, _, _, _⟩) ?_ 54 (.tmp 9) ?_ wq.heap.size ?_ 54 #[.int .i64 kk, x1, c2, .int .i64 (np : Int), c4, .slice dao nd dcap, x6, .slice pao np pcap, c8, lw, c10, c11] (0, 0) _ HRE.out Try.underlying54 ?_ HXE.out ?_); rfl; rfl; rfl; rfl)
                | (at_builtin; (refine wpList_append_op _ (o := ⟨some 73, _, _, _, _, _⟩) ?_ (.tmp 70) (.tmp 72) ?_ u6 ls.length cl.flatten [.int .i64 kk, x1, c2, .int .i64 (np : Int), c4, .slice dao nd dcap, x6, .slice pao np pcap, c8, lw, c10, c11] ?_ HLC.out wC.heap.size 1 ?_ (heap_alloc_new _ _) rfl HLa'.out.one hlb ?_); rfl; rfl; rfl; rfl; intro a5 c5' wD HO5 HG5 HA5))
              have hUD : Upd (own u6) wC wD := ((Upd.refl (own u6) wC).alloc _).trans ((Upd.grown HG5.out (fun j hj => hj) : Upd (own u6) _ wD).mono (fun j _ e => .inl e))
              have HUD := Lib.hid hUD
              have HOC2 : Hid (∀ j, own v' j → own v j ∨ wB.heap.size ≤ j) := HOC.out
              have HWD : Hid (Wr wD wb v' (allD ls ++ newsD o)) := NamesW.Wr.upd HWC.out hUD (fun e => by have := hllt wb e; omega) (fun j hj e => by
                rcases HOC2.out j hj with h | h
                · exact ReadT.rows_apart HLo.out HWr.out.2 (by decide) e h
                · have := hllt j e; omega)
              have hED : wD.ownsRow 0 3 1 (.slice (some ⟨eg, 0, none⟩) (m1 + 1) ec) (m1 + 1) (endsOf ls) := by
                have h := ReadT.own_upd HEC.out hUD (fun j hj e => by
                  have h1 := ReadT.own_upd HEo.out HUB.out (fun _ _ => id)
                  rcases IntsW.own_apart HEo.out HLo.out (by decide) with h2 | h2
                  · unfold own at hj; rw [h2] at hj; cases hj
                  · exact h2 (by unfold own at hj e; rw [hj, e]))
                rw [Hm1.out] at h
                exact h
              have HED : Hid ((wD.alloc (.cells #[.int .i64 (pn : Int)] 3)).ownsRow 0 3 1 (.slice (some ⟨eg, 0, none⟩) (m1 + 1) ec) (m1 + 1) (endsOf ls)) := ReadT.own_upd hED ((Upd.refl (fun _ => False) wD).alloc _) (fun _ _ => id)
              have HLn2 := Lib.hid (WriterW.len_any wb v' (allD ls ++ newsD o) wD HWD.out)
              rw [← Hpn.out] at HLn2
              have hm63 : m1 + 1 + 1 ≤ maxLen := by unfold maxLen; omega
              have hm8 : (m1 + 1 + 1) * 8 ≤ 140737488355328 := by omega
              have HED0 := Lib.hid hED
              clear hUD hED
              refine HLn2.out.mono ?_
              rintro e wD' ⟨rfl, rfl⟩
              go_wp2_with (at_builtin; (refine IntsW.wpList_append_int _ (o := ⟨some 78, _, _, _, _, _⟩) ?_ (.tmp 74) (.tmp 77) ?_ (.slice (some ⟨eg, 0, none⟩) (m1 + 1) ec) (m1 + 1) (endsOf ls) ?_ HED.out wD.heap.size 1 (pn : Int) ?_ (heap_alloc_new _ _) hm63 hm8 ?_); rfl; rfl; rfl; rfl; intro a6 c6 wE HO6 HG6 HA6)
              obtain ⟨CE, hCe⟩ : ∃ x : List Value, x = [.int .i64 kk, x1, c2, .int .i64 (np : Int), c4, .slice dao nd dcap, x6, .slice pao np pcap, c8, lw, c10, c11] := ⟨_, rfl⟩
              obtain ⟨o1, ho1⟩ : ∃ x, x = { o with many := (np : Int) } := ⟨_, rfl⟩
              have hnw : newsD o1 = newsD o := by rw [ho1]; rfl
              rw [← hCe] at HLa'
              rw [← ho1] at HLa'
              have hUE : Upd (own (.slice (some ⟨eg, 0, none⟩) (m1 + 1) ec)) wD wE := ((Upd.refl (own (.slice (some ⟨eg, 0, none⟩) (m1 + 1) ec)) wD).alloc _).trans ((Upd.grown HG6.out (fun j hj => hj) : Upd (own (.slice (some ⟨eg, 0, none⟩) (m1 + 1) ec)) _ wE).mono (fun j _ e => .inl e))
              have hzC := HS_1.out.size
              have hzD := HUD.out.size
              have hzU := HU.out.size
              have hO5 : wD.ownsRow 0 54 12 (.slice a5 (ls.length + 1) c5') (ls.length + 1) (cl.flatten ++ CE) := by rw [hCe]; exact HO5.out
              have hA5 : ∀ j, own (Value.slice a5 (ls.length + 1) c5') j → own u6 j ∨ wC.heap.size ≤ j := fun j hj => by
                rcases HA5.out with h | h
                · left; unfold own at hj ⊢; rw [h] at hj; exact hj
                · right
                  unfold own at hj
                  rw [h] at hj
                  injection hj with hj
                  rw [← hj]
                  exact ((Upd.refl (fun _ => False) wC).alloc _).size
              have hA6 : ∀ j, own (Value.slice a6 (m1 + 1 + 1) c6) j → own (.slice (some ⟨eg, 0, none⟩) (m1 + 1) ec) j ∨ wD.heap.size ≤ j := fun j hj => by
                rcases HA6.out with h | h
                · left; unfold own at hj ⊢; rw [h] at hj; exact hj
                · right
                  unfold own at hj
                  rw [h] at hj
                  injection hj with hj
                  rw [← hj]
                  exact ((Upd.refl (fun _ => False) wD).alloc _).size
              have hvC : ∀ j, own v' j → w2.heap.size ≤ j := fun j hj => by
                rcases HOC2.out j hj with h | h
                · exact (hvlt j h).1
                · omega
              have hpo := Hp0.out
              have hpl := Hpn.out
              rw [List.length_append] at hpl
              refine ⟨⟨k + 1, v', ls ++ [o1], cl ++ [CE], hkt, by go_num, ?_, hvC, ?_, fun j hj => ?_, ?_, fun j hj => ?_, LaidOk.snoc HLd.out HLa'.out, ?_, ?_, ?_, ?_, ?_⟩, ?_⟩
              · rw [allD_snoc, hnw]
                exact NamesW.Wr.upd HWD.out hUE (fun e => by have := HEv.out wb e; omega) (fun j hj e => ReadT.rows_apart HED0.out HWD.out.2 (by decide) e hj)
              · rw [List.length_append, List.length_singleton, List.flatten_append, List.flatten_singleton]
                exact ReadT.own_upd hO5 hUE (fun j hj e => by
                  rcases IntsW.own_apart HED0.out hO5 (by decide) with h2 | h2
                  · unfold own at e; rw [h2] at e; cases e
                  · exact h2 (by unfold own at hj e; rw [hj, e]))
              · rcases hA5 j hj with h | h
                · exact (hllt j h).1
                · omega
              · rw [endsOf_snoc, hnw, ← Hpn.out, List.length_append, List.length_singleton, Hm1.out]
                exact HO6.out
              · rcases hA6 j hj with h | h
                · exact HEv.out j h
                · omega
              · rw [allD_snoc, hnw, List.length_append]; omega
              · rw [List.length_append, List.length_singleton]; omega
              · rw [List.length_append, List.length_singleton]; omega
              · intro o2 ho2
                rcases List.mem_append.1 ho2 with h | h
                · exact Hnes.out o2 h
                · rw [List.mem_singleton.1 h, hnw]; omega
              · exact (((HU.out.trans (HUB.out.mono (fun _ _ e => e.elim))).trans (HS_1.out.mono (fun j _ e => by
                  rcases e with e | e
                  · exact .inl e
                  · exact .inr (hvlt j e).1))).trans (HUD.out.mono (fun j _ e => .inr (hllt j e).1))).trans (hUE.mono (fun j _ e => .inr (HEv.out j e)))
              · simp [intOf]; omega
            · have hn : newsD o = [] := by
                have h1 := Hp0.out
                have h2 := Hpn.out
                rw [List.length_append] at h2
                exact List.eq_nil_of_length_eq_zero (by omega)
              have hgtI : decide ((p0 : Int) < (pn : Int)) = false := by simpa using hgt
              have HREL := Lib.hid (HREL0.out hn)
              refine wpAnyH_take (i := 12) (oi := ⟨some 68, _, _, _, _, _⟩) (v := .bool false) rfl (by kernel_rfl) (by kernel_rfl) (by kernel_rfl) (fun _ _ _ h => h) (Or.inl ⟨by rfl, fun w hS => by go_simp⟩) HS_1.out ?_
              try simp only [Act.put, List.setIfInBounds_toArray, List.set_cons_zero, List.set_cons_succ]
              refine wpAnyH_take (i := 13) (oi := ⟨some 69, _, _, _, _, _⟩) (v := .bool false) rfl (by kernel_rfl) (by kernel_rfl) (by kernel_rfl) (fun _ _ _ h => h) (Or.inl ⟨by rfl, fun w hS => by go_simp⟩) HS_1.out ?_
              try simp only [Act.put, List.setIfInBounds_toArray, List.set_cons_zero, List.set_cons_succ]
              refine wpAnyH_done (by kernel_rfl) ?_ _
              go_wp2
              go_roundw
              case rel =>
                obtain ⟨g1, g2⟩ := HREL.out
                exact ⟨k + 1, v', ls, cl, g1, by go_num, g2⟩
              case measure => simp [intOf]; omega
          · have hbe : (errD { o with many := (np : Int) } == 0) = false := by show (errD o == 0) = false; simpa using he
            have hif : (if errD { o with many := (np : Int) } = 0 then newsD { o with many := (np : Int) } else []) = [] := if_neg he
            rw [hbe, hif] at HLy
            clear hbe hif
            refine HLy.out.mono ?_
            rintro e wC ⟨rfl, v', hwC, huC, hoC⟩
            rw [List.append_nil] at hwC
            have HS_1 : Hid (Upd (fun i => i = wb ∨ own v i) wB wC) := HS_0.out.trans (huC.mono (fun _ _ e => .inl e))
            have HREL : Hid (k + 1 ≤ os.length ∧ Wr wC wb v' (allD ls) ∧ (∀ j, own v' j → w2.heap.size ≤ j) ∧ wC.ownsRow 0 54 12 u6 ls.length cl.flatten ∧ (∀ j, own u6 j → w2.heap.size ≤ j) ∧ wC.ownsRow 0 3 1 (.slice (some ⟨eg, 0, none⟩) (m1 + 1) ec) ls.length (endsOf ls) ∧ (∀ j, own (.slice (some ⟨eg, 0, none⟩) (m1 + 1) ec) j → w2.heap.size ≤ j) ∧ LaidOk w ls cl od ∧ (allD ls).length ≤ 4 + 2 * costs (os.take (k + 1)) ∧ ls.length ≤ k + 1 + 1 ∧ 0 < ls.length ∧ (∀ o ∈ ls, 0 < (newsD o).length) ∧ Upd (fun j => j = wb) w2 wC) := by
              have hzU := HU.out.size
              refine ⟨hkt, hwC, fun j hj => ?_, ?_, HLv.out, ?_, HEv.out, HLd.out, by omega, by omega, by rw [Hm1.out]; omega, Hnes.out, ?_⟩
              · rcases hoC j hj with h | h
                · exact (hvlt j h).1
                · omega
              · exact ReadT.own_upd (ReadT.own_upd HLo.out HUBd.out (fun _ _ => id)) huC (fun j hj e => by
                  rcases e with e | e
                  · have := hllt j hj; omega
                  · exact ReadT.rows_apart HLo.out HWr.out.2 (by decide) hj e)
              · exact ReadT.own_upd (ReadT.own_upd HEo.out HUBd.out (fun _ _ => id)) huC (fun j hj e => by
                  rcases e with e | e
                  · have := HEv.out j hj; omega
                  · exact ReadT.rows_apart HEo.out HWr.out.2 (by decide) hj e)
              · exact (HU.out.trans (HUBd.out.mono (fun _ _ e => e.elim))).trans (huC.mono (fun j _ e => by
                  rcases e with e | e
                  · exact .inl e
                  · exact .inr (hvlt j e).1))
            clear hwC huC hoC HLy Ho1
            refine hK.out _ _ HS_1.out (fun hHeld => ?_)
            clear hK K hHeld
            try simp only [Act.put, List.setIfInBounds_toArray, List.set_cons_zero, List.set_cons_succ]
            refine wpAnyH_take (i := 3) (oi := ⟨some 59, _, _, _, _, _⟩) (v := .bool false) rfl (by kernel_rfl) (by kernel_rfl) (by kernel_rfl) (fun _ _ _ h => h) (Or.inl ⟨by rfl, fun w hS => by go_simp⟩) HS_1.out ?_
            try simp only [Act.put, List.setIfInBounds_toArray, List.set_cons_zero, List.set_cons_succ]
            refine wpAnyH_take (i := 4) (oi := ⟨some 60, _, _, _, _, _⟩) (v := undef) rfl (by kernel_rfl) (by kernel_rfl) (by kernel_rfl) (fun _ _ _ h => h) (Or.inr ⟨by rfl, rfl⟩) HS_1.out ?_
            try simp only [Act.put, List.setIfInBounds_toArray, List.set_cons_zero, List.set_cons_succ]
            refine wpAnyH_take (i := 5) (oi := ⟨some 61, _, _, _, _, _⟩) (v := undef) rfl (by kernel_rfl) (by kernel_rfl) (by kernel_rfl) (fun _ _ _ h => h) (Or.inr ⟨by rfl, rfl⟩) HS_1.out ?_
            try simp only [Act.put, List.setIfInBounds_toArray, List.set_cons_zero, List.set_cons_succ]
            refine wpAnyH_take (i := 6) (oi := ⟨some 62, _, _, _, _, _⟩) (v := undef) rfl (by kernel_rfl) (by kernel_rfl) (by kernel_rfl) (fun _ _ _ h => h) (Or.inr ⟨by rfl, rfl⟩) HS_1.out ?_
            try simp only [Act.put, List.setIfInBounds_toArray, List.set_cons_zero, List.set_cons_succ]
            refine wpAnyH_take (i := 7) (oi := ⟨some 63, _, _, _, _, _⟩) (v := undef) rfl (by kernel_rfl) (by kernel_rfl) (by kernel_rfl) (fun _ _ _ h => h) (Or.inr ⟨by rfl, rfl⟩) HS_1.out ?_
            try simp only [Act.put, List.setIfInBounds_toArray, List.set_cons_zero, List.set_cons_succ]
            refine wpAnyH_take (i := 8) (oi := ⟨some 64, _, _, _, _, _⟩) (v := undef) rfl (by kernel_rfl) (by kernel_rfl) (by kernel_rfl) (fun _ _ _ h => h) (Or.inr ⟨by rfl, rfl⟩) HS_1.out ?_
            try simp only [Act.put, List.setIfInBounds_toArray, List.set_cons_zero, List.set_cons_succ]
            refine wpAnyH_take (i := 9) (oi := ⟨some 65, _, _, _, _, _⟩) (v := undef) rfl (by kernel_rfl) (by kernel_rfl) (by kernel_rfl) (fun _ _ _ h => h) (Or.inr ⟨by rfl, rfl⟩) HS_1.out ?_
            try simp only [Act.put, List.setIfInBounds_toArray, List.set_cons_zero, List.set_cons_succ]
            refine wpAnyH_take (i := 10) (oi := ⟨some 66, _, _, _, _, _⟩) (v := undef) rfl (by kernel_rfl) (by kernel_rfl) (by kernel_rfl) (fun _ _ _ h => h) (Or.inr ⟨by rfl, rfl⟩) HS_1.out ?_
            try simp only [Act.put, List.setIfInBounds_toArray, List.set_cons_zero, List.set_cons_succ]
            refine wpAnyH_take (i := 11) (oi := ⟨some 67, _, _, _, _, _⟩) (v := undef) rfl (by kernel_rfl) (by kernel_rfl) (by kernel_rfl) (fun _ _ _ h => h) (Or.inr ⟨by rfl, rfl⟩) HS_1.out ?_
            try simp only [Act.put, List.setIfInBounds_toArray, List.set_cons_zero, List.set_cons_succ]
            refine wpAnyH_take (i := 12) (oi := ⟨some 68, _, _, _, _, _⟩) (v := undef) rfl (by kernel_rfl) (by kernel_rfl) (by kernel_rfl) (fun _ _ _ h => h) (Or.inr ⟨by rfl, rfl⟩) HS_1.out ?_
            try simp only [Act.put, List.setIfInBounds_toArray, List.set_cons_zero, List.set_cons_succ]
            refine wpAnyH_take (i := 13) (oi := ⟨some 69, _, _, _, _, _⟩) (v := .bool false) rfl (by kernel_rfl) (by kernel_rfl) (by kernel_rfl) (fun _ _ _ h => h) (Or.inl ⟨by rfl, fun w hS => by go_simp⟩) HS_1.out ?_
            try simp only [Act.put, List.setIfInBounds_toArray, List.set_cons_zero, List.set_cons_succ]
            refine wpAnyH_done (by kernel_rfl) ?_ _
            go_wp2
            go_roundw
            case rel =>
              obtain ⟨g1, g2⟩ := HREL.out
              exact ⟨k + 1, v', ls, cl, g1, by go_num, g2⟩
            case measure => simp [intOf]; omega
      · obtain rfl : on = k := by omega
        have hnlt : ¬ ((on : Int) < (on : Int)) := by omega
        have hcl := costs_le os on
        have hcb := HCo.out
        have hln := HLn.out
        have hlk := HLk.out
        have Hb : Hid ((allD ls).length ≤ 140737488351232) := by show _ ≤ _; omega
        obtain ⟨a4, c4, rfl⟩ := ReadT.slice_form HLo.out
        obtain ⟨ln, hln2⟩ : ∃ x, x = ls.length := ⟨_, rfl⟩
        rw [← hln2] at HLo ⊢
        have hlnb : ln ≤ 21474837 := by rw [hln2]; omega
        have hlm : ln = m1 + 1 := by rw [hln2]; exact Hm1.out
        have Hln := Lib.hid hln2
        have Hp : Hid (0 < p0) := by
          show 0 < p0
          rw [Hp0.out]
          have h1 := Hnes.out (ls.getD 0 od) (by rw [List.getD_eq_getElem?_getD, List.getElem?_eq_getElem (by omega)]; exact List.getElem_mem _)
          have h2 := (allD_seg ls od 0 (by omega)).2
          omega
        have Hlm := Lib.hid hlm
        clear hcl hcb hln hlk hln2 hlm
        go_wp2_with fail
        refine (WriterW.all_any wb v (allD ls) wq HWr.out (by have := Hb.out; omega)).mono ?_
        rintro e wa ⟨va, rfl, hown, hua⟩
        obtain ⟨aa, ca, rfl⟩ := StrW.row_form hown
        have HSa := Lib.hid (WriterW.Sl.of_row hown)
        have HUa : Hid (Upd (fun _ => False) wq wa) := hua
        have hE0 : wa.cell? ⟨eg, m1, none⟩ = some (.int .i64 (p0 : Int)) := HUa.out.cell HE0.out id
        have hca : (allD ls).length ≤ ca := by
          obtain ⟨_, _, he, h1, _⟩ := HSa.out
          injection he with e1 e2 e3
          omega
        obtain ⟨ag, hag⟩ : ∃ g, aa = some ⟨g, 0, none⟩ := by
          rcases hown.2 with ⟨h, h2⟩ | ⟨g, cap, cur, h, _⟩
          · have := Hp.out; have := Hp0.out; omega
          · injection h with h; exact ⟨g, h⟩
        subst hag
        rw [← Hp0.out] at hca HSa ⊢
        have hpp : ((p0 : Int) != (p0 : Int)) = false := by simp
        clear hown hua
        have hpb : p0 ≤ 140737488351232 := by rw [Hp0.out]; exact Hb.out
        have HWi := Lib.hid (WithinW.within_any at_ ((p0 : Int) - 1) wa Hat.out (by have := Hp.out; omega) (by omega))
        go_wp2_with fail
        refine HWi.out.mono ?_
        rintro e w4 ⟨x, rfl, hx0, hx1, rfl⟩
        obtain ⟨nn, rfl⟩ : ∃ nn : Nat, x = nn := ⟨x.toNat, by omega⟩
        have hnn : nn < p0 := by omega
        have hnc : (nn : Int) ≤ (ca : Int) := by omega
        clear HWi hx0 hx1
        have HSb : Hid (Sl wa (.slice (some ⟨ag, 0, none⟩) nn ca) ((allD ls).take nn)) := by
          have h := HSa.out
          exact WithinW.sl_take' h (by rw [← Hp0.out]; omega)
        have hnl : ((allD ls).take nn).length = nn := by rw [List.length_take, ← Hp0.out]; omega
        have Hnl := Lib.hid hnl
        have HRe := Lib.hid (TakeW.read_any (.slice (some ⟨ag, 0, none⟩) nn ca) ((allD ls).take nn) wa HSb.out (by rw [hnl]; omega))
        clear hnl
        go_wp2_with fail
        refine HRe.out.mono ?_
        rintro e w5 ⟨rb, rv, rfl, hrd1, hu1, hrb, hrvo⟩
        have HRd := Lib.hid hrd1
        have HU5 : Hid (Upd (fun _ => False) wq w5) := HUa.out.trans (hu1.mono (fun _ _ e => e.elim))
        have Hrb : Hid (wq.heap.size ≤ rb) := Nat.le_trans HUa.out.size (by omega)
        clear hrd1 hu1 hrb hrvo HSa HSb HUa HRe
        go_wp2
        go_loopw [13, 14] (fun b i wr => LC2 w5 ls rb rv nn b i wr) (fun _ i _ => (ln - (intOf i).toNat))
        case atStart => exact ⟨0, Nat.zero_le _, rfl, rfl, HRd.out, Nat.zero_le _, Upd.refl _ _⟩
        case round =>
          obtain ⟨j, hj, rfl, rfl, hrd, hjn, hu⟩ := hrel
          obtain ⟨wp, rfl⟩ : ∃ x : World, x = wr := ⟨_, rfl⟩
          obtain ⟨q0, hq0⟩ : ∃ x, x = (allD (ls.take j)).length := ⟨_, rfl⟩
          rw [← hq0] at hrd hjn ⊢
          have Hq0 := Lib.hid hq0
          have HRd2 := Lib.hid hrd
          have HUp : Hid (Upd (fun _ => False) w wp) := (HUw.out.trans (HU5.out.mono (fun _ _ e => e.elim))).trans (hu.mono (fun i _ e => .inr (by have := Hrb.out; have := HUw.out.size; omega)))
          have HLo2 : Hid (wp.ownsRow 0 54 12 (.slice a4 ln c4) ln cl.flatten) := ReadT.own_upd (ReadT.own_upd HLo.out HU5.out (fun _ _ => id)) hu (fun i hi e => by have := (HLo.out.lt i hi).2; have := Hrb.out; omega)
          have HEo2 : Hid (wp.ownsRow 0 3 1 (.slice (some ⟨eg, 0, none⟩) (m1 + 1) ec) ls.length (endsOf ls)) := ReadT.own_upd (ReadT.own_upd HEo.out HU5.out (fun _ _ => id)) hu (fun i hi e => by have := (HEo.out.lt i hi).2; have := Hrb.out; omega)
          have HUr := Lib.hid hu
          have hjl : j ≤ ln := by rw [Hln.out]; exact hj
          clear hrd hu hj hq0
          by_cases hlt2 : j < ln
          · have hltJ : (j : Int) < (ln : Int) := by omega
            have hjm : (j : Int) < (m1 : Int) + 1 := by have := Hlm.out; omega
            have hjs : j < ls.length := by rw [← Hln.out]; exact hlt2
            have h1 := HLd.out.2 j hjs
            obtain ⟨o, ho⟩ : ∃ o, o = ls.getD j od := ⟨_, rfl⟩
            obtain ⟨cs, hcs⟩ : ∃ c, c = cl.getD j [] := ⟨_, rfl⟩
            rw [← ho, ← hcs] at h1
            have H1 := Lib.hid h1
            obtain ⟨lg, hlg⟩ : ∃ lg, a4 = some ⟨lg, 0, none⟩ := by
              rcases HLo2.out.2 with ⟨h, _⟩ | ⟨g, cap, cur, h, _⟩
              · injection h with h1 h2; omega
              · injection h with h1 h2; exact ⟨g, h1⟩
            subst hlg
            have HCl : Hid (∀ w', Upd (fun i => i = rb) wp w' → w'.rangeAt lg (j * 12) cs) := fun w' hu' i u hi => by
              have h12 : i < 12 := by
                have := (List.getElem?_eq_some_iff.1 hi).1
                rw [H1.out.len] at this
                exact this
              have hjc : j < cl.length := by rw [HLd.out.1, ← Hln.out]; exact hlt2
              have hfl : cl.flatten[j * 12 + i]? = some u := by
                rw [flat_at (fun j' hj' => (HLd.out.2 j' (by rw [← HLd.out.1]; exact hj')).len) j i hjc h12, ← hcs]
                exact hi
              have h := World.ownsRow.cells HLo2.out (g := lg) rfl _ _ hfl
              rw [RowW.add_none, Nat.zero_add] at h
              exact hu'.cell h (fun e => by have e : lg = rb := e; have := (HLo.out.lt lg rfl).2; have := Hrb.out; omega)
            obtain ⟨q1, hq1⟩ : ∃ x, x = (allD (ls.take (j + 1))).length := ⟨_, rfl⟩
            have HE1 : Hid (∀ w', Upd (fun i => i = rb) wp w' → w'.cell? ⟨eg, j, none⟩ = some (.int .i64 (q1 : Int))) := fun w' hu' => by
              have h := World.ownsRow.cells HEo2.out (g := eg) rfl j _ (endsOf_at ls j hjs)
              rw [RowW.add_none, Nat.zero_add] at h
              rw [hq1]
              exact hu'.cell h (fun e => by have e : eg = rb := e; have := (HEo.out.lt eg rfl).2; have := Hrb.out; omega)
            have hsg := allD_seg ls od j hjs
            have htk := allD_take ls od j hjs
            rw [← ho, ← Hq0.out] at hsg
            rw [← ho] at htk
            have hq1' : q1 = q0 + (newsD o).length := by rw [hq1, htk, List.length_append, Hq0.out]
            have HOc : Hid (OpC cs (o.k, o.many, o.most, o.each)) := by
              obtain ⟨x1, dv, x6, pv, lv, hc, _⟩ := H1.out.h.cells
              show OpC _ _
              rw [hc]
              exact ⟨rfl, rfl, rfl, rfl, rfl⟩
            have HCz : Hid ((Try.prog.info? 54).map (·.size) = some cs.length) := by show _ = _; rw [sizeO, H1.out.len]
            have hlen := Hnl.out
            have HLf : Hid (∀ (q : Nat) (y : Int) (w' : World), Rd w' rb rv ((allD ls).take nn) (q, y) → Calls Try.prog 22 #[.pointer (some ⟨rb, 0, none⟩)] w' fun e w'' => e = .returned (.int .i64 ((nn : Int) - (q : Int))) ∧ w'' = w'.drew) := fun q y w' h => by
              have h2 := left_any rb rv ((allD ls).take nn) (q, y) w' h (by rw [hlen]; omega)
              rw [hlen] at h2
              exact h2
            have HSt : Hid ((nn < q1 ∧ stepM o.k o.most o.each o.many ((allD ls).take nn) (q0, 0) = (q0, 8)) ∨ (q1 ≤ nn ∧ stepM o.k o.most o.each o.many ((allD ls).take nn) (q0, 0) = (q1, 0) ∧ Vals o o.most o.each o.many ((allD ls).take nn) (q0, 0))) := by
              by_cases hc : nn < q1
              · exact .inl ⟨hc, CutL.cut o ((allD ls).take nn) q0 H1.out.err (Pre.of_take hsg.1 (by omega)) (by rw [hlen]; exact hjn) (by rw [hlen]; omega) H1.out.many H1.out.h32⟩
              · refine .inr ⟨by omega, ?_⟩
                rw [hq1']
                have hsg2 : seg ((allD ls).take nn) q0 (newsD o).length = newsD o := by
                  rw [seg_take _ _ _ _ (by omega)]; exact hsg.1
                exact back o ((allD ls).take nn) q0 H1.out.h.n64 H1.out.err hsg2 (by rw [hlen]; omega) H1.out.many H1.out.h32 (by rw [hlen]; omega)
            have Ho1 := Lib.hid ho
            have Hc1 := Lib.hid hcs
            have Hq1 := Lib.hid hq1
            clear h1 ho hcs hsg htk hq1 hq1'
            go_wp2_with ((with_reducible refine wpList_load_part (o := ⟨some 111, _, _, _, _, _⟩) ?_ _ (.tmp 110) ?_ lg (j * 12) ?_ cs _ ?_ Try.underlying54 ?_ HCz.out ?_); rfl; rfl; rfl; (exact HCl.out wp (Upd.refl _ _)); rfl; skip)
            refine (again_any o.k o.many o.most o.each rb rv ((allD ls).take nn) (q0, 0) cs wp HRd2.out (by rw [hlen]; omega) HOc.out).mono ?_
            rintro e w6 ⟨L, rfl, hL, hL1, hrd6, hu6, hal⟩
            have HL1 : Hid (L.toArray.all (·.oneCell') = true) := by show _ = _; simpa using hL1
            have HLs : Hid ((Try.prog.info? 54).map (·.size) = some L.toArray.size) := by show _ = _; rw [sizeO]; simp [hL]
            have HLz : Hid ((Try.prog.info? 54).map (·.size) = some L.length) := by show _ = _; rw [sizeO, hL]
            have HZz : Hid ((#[.int .i64 0, .int .i64 0, .int .u64 0, .int .i64 0, .bool false, .slice none 0 0, .slice none 0 0, .slice none 0 0, .string ⟨#[]⟩, .slice none 0 0, .int .i64 0, .int .i64 0] : Array Value).size = L.toArray.size) := by show _ = _; simp [hL]
            have HU6 := Lib.hid hu6
            have HR6 := Lib.hid hrd6
            have HAl0 := Lib.hid hal
            have hrlt : rb < w6.heap.size := lt_of_block hrd6.1
            clear hL hL1 hrd6 hu6 hal
            rcases HSt.out with ⟨hcut, hst⟩ | ⟨hful, hst, hvals⟩
            · rw [hst] at HR6
              have hcI : decide ((nn : Int) < (q1 : Int)) = true := by simp; omega
              clear hst
              go_wp2_with ((with_reducible refine wpList_store_new (o := ⟨none, .store 54 (.tmp 15) (.tmp 112), _, _, _, _⟩) ?_ _ (.tmp 15) (.tmp 112) ?_ w6.heap.size L.toArray ?_ ?_ 54 #[.int .i64 0, .int .i64 0, .int .u64 0, .int .i64 0, .bool false, .slice none 0 0, .slice none 0 0, .slice none 0 0, .string ⟨#[]⟩, .slice none 0 0, .int .i64 0, .int .i64 0] (heap_alloc_new _ _) HLs.out HZz.out HL1.out ?_); rfl; rfl; rfl; rfl; intro wA HgA HuA; have he1 := HE1.out wA (((HU6.out.alloc _).trans (HuA.out.mono (fun k _ e => .inr (by have := HU6.out.size; omega)))).mono (fun _ _ e => e)))
              have HUx : Hid (Upd (fun _ => False) w6 wA) := ((Upd.refl _ w6).alloc _).trans (HuA.out.mono (fun k _ e => .inr (by omega)))
              have HUA : Hid (Upd (fun i => i = rb) wp wA) := HU6.out.trans (HUx.out.mono (fun _ _ e => e.elim))
              have HRA : Hid (Rd wA rb rv ((allD ls).take nn) (q0, 8)) := HR6.out.upd HUx.out id (fun _ _ => id)
              have hdm : doneM ((allD ls).take nn) (q0, 8) = 8 := rfl
              have HDn := Lib.hid (done_any rb rv ((allD ls).take nn) (q0, 8) wA HRA.out (by rw [hlen]; omega))
              rw [hdm] at HDn
              have hll : (((nn : Int) - (q0 : Int)) == ((nn : Int) - (q0 : Int))) = true := by simp
              clear hdm hlen
              refine (ReaderW.why_any rb rv ((allD ls).take nn) (q0, 8) wA HRA.out).mono ?_
              rintro e w' ⟨rfl, rfl⟩
              go_wp2_with fail
              refine HDn.out.mono ?_
              rintro e w7 ⟨rfl, hu7⟩
              have HR7 : Hid (Rd w7 rb rv ((allD ls).take nn) (q0, 8)) := HRA.out.upd hu7 id (fun _ _ => id)
              have HU7 : Hid (Upd (fun _ => False) w w7) := (HUp.out.trans (HUA.out.mono (fun i _ e => .inr (by have e : i = rb := e; have := Hrb.out; have := HUw.out.size; omega)))).trans (hu7.mono (fun _ _ e => e.elim))
              clear hu7 HDn
              go_wp2_with fail
              refine (HLf.out q0 8 w7 HR7.out).mono ?_
              rintro e w8 ⟨rfl, rfl⟩
              go_wp2
              go_ret
              exact ⟨rfl, HU7.out.drew⟩
            · rw [hst] at HR6
              have hcI : decide ((nn : Int) < (q1 : Int)) = false := by simp; omega
              have Hv := Lib.hid hvals
              clear hst hvals hlen
              go_wp2_with ((with_reducible refine wpList_store_new (o := ⟨none, .store 54 (.tmp 15) (.tmp 112), _, _, _, _⟩) ?_ _ (.tmp 15) (.tmp 112) ?_ w6.heap.size L.toArray ?_ ?_ 54 #[.int .i64 0, .int .i64 0, .int .u64 0, .int .i64 0, .bool false, .slice none 0 0, .slice none 0 0, .slice none 0 0, .string ⟨#[]⟩, .slice none 0 0, .int .i64 0, .int .i64 0] (heap_alloc_new _ _) HLs.out HZz.out HL1.out ?_); rfl; rfl; rfl; rfl; intro wA HgA HuA; have he1 := HE1.out wA (((HU6.out.alloc _).trans (HuA.out.mono (fun k _ e => .inr (by have := HU6.out.size; omega)))).mono (fun _ _ e => e)))
              have HUx : Hid (Upd (fun _ => False) w6 wA) := ((Upd.refl _ w6).alloc _).trans (HuA.out.mono (fun k _ e => .inr (by omega)))
              have HUA : Hid (Upd (fun i => i = rb) wp wA) := HU6.out.trans (HUx.out.mono (fun _ _ e => e.elim))
              have HRA : Hid (Rd wA rb rv ((allD ls).take nn) (q1, 0)) := HR6.out.upd HUx.out id (fun _ _ => id)
              obtain ⟨bx, hbx⟩ : ∃ x, x = w6.heap.size := ⟨_, rfl⟩
              have HBx : Hid (∀ w', Upd (fun i => i = rb) wA w' → w'.rangeAt bx 0 L) := fun w' hu' i u hi => by
                have h1 : wA.cell? ⟨bx, 0 + i, none⟩ = some u := by
                  rw [hbx, cell_of_row _ _ _ _ _ _ HgA.out, Nat.zero_add]
                  simpa using hi
                exact hu'.cell h1 (fun e => by have e : bx = rb := e; omega)
              have HClA : Hid (∀ w', Upd (fun i => i = rb) wA w' → w'.rangeAt lg (j * 12) cs) := fun w' h => HCl.out w' (HUA.out.trans (h.mono (fun _ _ e => .inl e)))
              have HEA : Hid (∀ w', Upd (fun i => i = rb) wA w' → w'.cell? ⟨eg, j, none⟩ = some (.int .i64 (q1 : Int))) := fun w' h => HE1.out w' (HUA.out.trans (h.mono (fun _ _ e => .inl e)))
              have HUd : Hid (Upd (fun _ => False) w wA.drew) := (HUp.out.trans (HUA.out.mono (fun i _ e => .inr (by have e : i = rb := e; have := Hrb.out; have := HUw.out.size; omega)))).drew
              have HAl := Lib.hid (HAl0.out wA.drew cs o (fun i => i < w.heap.size) (HUx.out.drew.mono (fun _ _ e => e.elim)) (OpH.upd H1.out.h HUd.out) rfl Hv.out)
              have hw155 : IntKind.i64.wrap ((nn : Int) - (q1 : Int)) = (nn : Int) - (q1 : Int) := IntWalk.i64_in _ (by omega)
              have hnq : (((nn : Int) - (q1 : Int)) != ((nn : Int) - (q1 : Int))) = false := by simp
              rw [← hbx]
              clear he1 hbx
              have HS_0 : Hid (Upd (fun i => i = rb) wA wA.drew) := (Upd.refl _ _).drew
              refine wp_region_held_drew (S := Upd (fun i => i = rb) wA) (by kernel_rfl) HS_0.out (fun _ => ?_)
              refine wpAnyH_take (i := 0) (oi := ⟨some 135, _, _, _, _, _⟩) (v := .slice (some ⟨lg, 0, none⟩) ln c4) rfl (by kernel_rfl) (by kernel_rfl) (by kernel_rfl) (fun _ _ _ h => h) (Or.inl ⟨by rfl, fun w hS => by go_simp⟩) HS_0.out ?_
              try simp only [Act.put, List.setIfInBounds_toArray, List.set_cons_zero, List.set_cons_succ]
              refine wpAnyH_take (i := 1) (oi := ⟨some 136, _, _, _, _, _⟩) (v := .int .i64 (j : Int)) rfl (by kernel_rfl) (by kernel_rfl) (by kernel_rfl) (fun _ _ _ h => h) (Or.inl ⟨by rfl, fun w hS => by go_simp⟩) HS_0.out ?_
              try simp only [Act.put, List.setIfInBounds_toArray, List.set_cons_zero, List.set_cons_succ]
              refine wpAnyH_take (i := 2) (oi := ⟨some 137, _, _, _, _, _⟩) (v := .pointer (some ⟨lg, j * 12, none⟩)) rfl (by kernel_rfl) (by kernel_rfl) (by kernel_rfl) (fun _ _ _ h => h) (Or.inl ⟨by rfl, fun w hS => by go_simp⟩) HS_0.out ?_
              try simp only [Act.put, List.setIfInBounds_toArray, List.set_cons_zero, List.set_cons_succ]
              refine wpAnyH_take (i := 3) (oi := ⟨some 138, _, _, _, _, _⟩) rfl (by kernel_rfl) (by kernel_rfl) (by kernel_rfl) (fun _ _ _ h => h) (yieldsIf_load_mid (by rfl) _ _ rfl lg (j * 12) rfl cs _ (fun w h => HClA.out w h) Try.underlying54 rfl HCz.out) HS_0.out ?_
              try simp only [Act.put, List.setIfInBounds_toArray, List.set_cons_zero, List.set_cons_succ]
              refine wpAnyH_take (i := 4) (oi := ⟨some 139, _, _, _, _, _⟩) rfl (by kernel_rfl) (by kernel_rfl) (by kernel_rfl) (fun _ _ _ h => h) (yieldsIf_load_mid (by rfl) _ _ rfl bx (0) rfl L _ (fun w h => HBx.out w h) Try.underlying54 rfl HLz.out) HS_0.out ?_
              try simp only [Act.put, List.setIfInBounds_toArray, List.set_cons_zero, List.set_cons_succ]
              refine wpAnyH_ready (rs := [5]) (by kernel_rfl) (by simp) ?_
              refine AllReadyH.cons rfl (fun K hK => ?_) AllReadyH.nil
              go_simp
              refine HAl.out.mono ?_
              rintro e w7 ⟨rfl, hu7⟩
              have HS_1 : Hid (Upd (fun i => i = rb) wA w7) := HS_0.out.trans (hu7.mono (fun _ _ e => e.elim))
              have HR7 : Hid (Rd w7 rb rv ((allD ls).take nn) (q1, 0)) := HRA.out.drew.upd hu7 id (fun _ _ => id)
              clear hu7
              refine hK.out _ _ HS_1.out (fun hHeld => ?_)
              clear hK K hHeld
              try simp only [Act.put, List.setIfInBounds_toArray, List.set_cons_zero, List.set_cons_succ]
              refine wpAnyH_take (i := 6) (oi := ⟨some 141, _, _, _, _, _⟩) (v := .bool false) rfl (by kernel_rfl) (by kernel_rfl) (by kernel_rfl) (fun _ _ _ h => h) (Or.inl ⟨by rfl, fun w hS => by go_simp⟩) HS_1.out ?_
              try simp only [Act.put, List.setIfInBounds_toArray, List.set_cons_zero, List.set_cons_succ]
              refine wpAnyH_take (i := 7) (oi := ⟨some 142, _, _, _, _, _⟩) (v := .bool false) rfl (by kernel_rfl) (by kernel_rfl) (by kernel_rfl) (fun _ _ _ h => h) (Or.inl ⟨by rfl, fun w hS => by go_simp⟩) HS_1.out ?_
              try simp only [Act.put, List.setIfInBounds_toArray, List.set_cons_zero, List.set_cons_succ]
              refine wpAnyH_take (i := 8) (oi := ⟨some 143, _, _, _, _, _⟩) (v := .pointer (some ⟨rb, 0, none⟩)) rfl (by kernel_rfl) (by kernel_rfl) (by kernel_rfl) (fun _ _ _ h => h) (Or.inl ⟨by rfl, fun w hS => by go_simp⟩) HS_1.out ?_
              try simp only [Act.put, List.setIfInBounds_toArray, List.set_cons_zero, List.set_cons_succ]
              refine wpAnyH_ready (rs := [9]) (by kernel_rfl) (by simp) ?_
              refine AllReadyH.cons rfl (fun K hK => ?_) AllReadyH.nil
              go_simp
              refine (ReaderW.why_any rb rv ((allD ls).take nn) (q1, 0) w7 HR7.out).mono ?_
              rintro e w8 ⟨rfl, rfl⟩
              refine hK.out _ _ HS_1.out (fun hHeld => ?_)
              clear hK K hHeld
              try simp only [Act.put, List.setIfInBounds_toArray, List.set_cons_zero, List.set_cons_succ]
              refine wpAnyH_take (i := 10) (oi := ⟨some 145, _, _, _, _, _⟩) (v := .bool false) rfl (by kernel_rfl) (by kernel_rfl) (by kernel_rfl) (fun _ _ _ h => h) (Or.inl ⟨by rfl, fun w hS => by go_simp⟩) HS_1.out ?_
              try simp only [Act.put, List.setIfInBounds_toArray, List.set_cons_zero, List.set_cons_succ]
              refine wpAnyH_take (i := 11) (oi := ⟨some 146, _, _, _, _, _⟩) (v := .bool false) rfl (by kernel_rfl) (by kernel_rfl) (by kernel_rfl) (fun _ _ _ h => h) (Or.inl ⟨by rfl, fun w hS => by go_simp⟩) HS_1.out ?_
              try simp only [Act.put, List.setIfInBounds_toArray, List.set_cons_zero, List.set_cons_succ]
              refine wpAnyH_take (i := 12) (oi := ⟨some 147, _, _, _, _, _⟩) (v := .bool false) rfl (by kernel_rfl) (by kernel_rfl) (by kernel_rfl) (fun _ _ _ h => h) (Or.inl ⟨by rfl, fun w hS => by go_simp⟩) HS_1.out ?_
              try simp only [Act.put, List.setIfInBounds_toArray, List.set_cons_zero, List.set_cons_succ]
              refine wpAnyH_take (i := 13) (oi := ⟨some 148, _, _, _, _, _⟩) (v := .pointer (some ⟨rb, 0, none⟩)) rfl (by kernel_rfl) (by kernel_rfl) (by kernel_rfl) (fun _ _ _ h => h) (Or.inl ⟨by rfl, fun w hS => by go_simp⟩) HS_1.out ?_
              try simp only [Act.put, List.setIfInBounds_toArray, List.set_cons_zero, List.set_cons_succ]
              refine wpAnyH_take (i := 15) (oi := ⟨some 150, _, _, _, _, _⟩) (v := .int .i64 (nn : Int)) rfl (by kernel_rfl) (by kernel_rfl) (by kernel_rfl) (fun _ _ _ h => h) (Or.inl ⟨by rfl, fun w hS => by go_simp⟩) HS_1.out ?_
              try simp only [Act.put, List.setIfInBounds_toArray, List.set_cons_zero, List.set_cons_succ]
              refine wpAnyH_take (i := 16) (oi := ⟨some 151, _, _, _, _, _⟩) (v := .slice (some ⟨eg, 0, none⟩) (m1 + 1) ec) rfl (by kernel_rfl) (by kernel_rfl) (by kernel_rfl) (fun _ _ _ h => h) (Or.inl ⟨by rfl, fun w hS => by go_simp⟩) HS_1.out ?_
              try simp only [Act.put, List.setIfInBounds_toArray, List.set_cons_zero, List.set_cons_succ]
              refine wpAnyH_take (i := 17) (oi := ⟨some 152, _, _, _, _, _⟩) (v := .int .i64 (j : Int)) rfl (by kernel_rfl) (by kernel_rfl) (by kernel_rfl) (fun _ _ _ h => h) (Or.inl ⟨by rfl, fun w hS => by go_simp⟩) HS_1.out ?_
              try simp only [Act.put, List.setIfInBounds_toArray, List.set_cons_zero, List.set_cons_succ]
              refine wpAnyH_take (i := 18) (oi := ⟨some 153, _, _, _, _, _⟩) (v := .pointer (some ⟨eg, j, none⟩)) rfl (by kernel_rfl) (by kernel_rfl) (by kernel_rfl) (fun _ _ _ h => h) (Or.inl ⟨by rfl, fun w hS => by (go_simp; try (intro h; omega))⟩) HS_1.out ?_
              try simp only [Act.put, List.setIfInBounds_toArray, List.set_cons_zero, List.set_cons_succ]
              refine wpAnyH_take (i := 19) (oi := ⟨some 154, _, _, _, _, _⟩) (v := .int .i64 (q1 : Int)) rfl (by kernel_rfl) (by kernel_rfl) (by kernel_rfl) (fun _ _ _ h => h) (Or.inl ⟨by rfl, fun w hS => by (have hc := HEA.out w hS; go_simp)⟩) HS_1.out ?_
              try simp only [Act.put, List.setIfInBounds_toArray, List.set_cons_zero, List.set_cons_succ]
              refine wpAnyH_take (i := 20) (oi := ⟨some 155, _, _, _, _, _⟩) (v := .int .i64 ((nn : Int) - (q1 : Int))) rfl (by kernel_rfl) (by kernel_rfl) (by kernel_rfl) (fun _ _ _ h => h) (Or.inl ⟨by rfl, fun w hS => by go_simp⟩) HS_1.out ?_
              try simp only [Act.put, List.setIfInBounds_toArray, List.set_cons_zero, List.set_cons_succ]
              refine wpAnyH_ready (rs := [14]) (by kernel_rfl) (by simp) ?_
              refine AllReadyH.cons rfl (fun K hK => ?_) AllReadyH.nil
              go_simp
              refine (HLf.out q1 0 w7 HR7.out).mono ?_
              rintro e w9 ⟨rfl, rfl⟩
              have HS_2 : Hid (Upd (fun i => i = rb) wA w7.drew) := HS_1.out.drew
              refine hK.out _ _ HS_2.out (fun hHeld => ?_)
              clear hK K hHeld
              try simp only [Act.put, List.setIfInBounds_toArray, List.set_cons_zero, List.set_cons_succ]
              refine wpAnyH_take (i := 21) (oi := ⟨some 156, _, _, _, _, _⟩) (v := .bool false) rfl (by kernel_rfl) (by kernel_rfl) (by kernel_rfl) (fun _ _ _ h => h) (Or.inl ⟨by rfl, fun w hS => by go_simp⟩) HS_2.out ?_
              try simp only [Act.put, List.setIfInBounds_toArray, List.set_cons_zero, List.set_cons_succ]
              refine wpAnyH_take (i := 22) (oi := ⟨some 157, _, _, _, _, _⟩) (v := .bool false) rfl (by kernel_rfl) (by kernel_rfl) (by kernel_rfl) (fun _ _ _ h => h) (Or.inl ⟨by rfl, fun w hS => by go_simp⟩) HS_2.out ?_
              try simp only [Act.put, List.setIfInBounds_toArray, List.set_cons_zero, List.set_cons_succ]
              refine wpAnyH_done (by kernel_rfl) ?_ _
              have hc34 := HEA.out w7.drew HS_2.out
              go_wp2
              go_roundw
              case rel => exact ⟨j + 1, hjs, by go_num, by rw [Hq1.out], by rw [← Hq1.out]; exact HR7.out.drew, by rw [← Hq1.out]; omega, (HUr.out.trans (HUA.out.mono (fun _ _ e => .inl e))).trans (HS_2.out.mono (fun _ _ e => .inl e))⟩
              case measure => simp [intOf]; omega
          · have hjn2 : j = ln := by omega
            have h := Hq0.out
            rw [hjn2, Hln.out, List.take_length, ← Hp0.out] at h
            omega
end Go.Proofs.Ytcdgimapkbaboaa.OcD
