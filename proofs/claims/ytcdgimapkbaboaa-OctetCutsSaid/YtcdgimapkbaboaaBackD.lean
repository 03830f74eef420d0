/-
  docketlaw1.OctetBack, walked.
-/
import Derived.Test.YtcdgimapkbaboaaBackW
import Derived.Deep.MidRow
namespace Go.Proofs.Ytcdgimapkbaboaa.BackD
open Go.RowKit Mem RowW PutW TakeW FlagW ReaderW ReadB ReadT ReadD ReadG StrW RawW TextsW DigW ForthL LaysW OpenOp ListsB LaysD OpenF BeyW AgainB BackL BackW
open AgainW (ZO zeroO sizeO)
open ForthW (wpList_load_part)
set_option linter.unusedVariables false
set_option linter.unusedSimpArgs false

theorem zeroX (w : World) : (zeroValue 54).run Try.prog w = .ok (.agg #[.int .i64 0, .int .i64 0, .int .u64 0, .int .i64 0, .bool false, .slice none 0 0, .slice none 0 0, .slice none 0 0, .string ⟨#[]⟩, .slice none 0 0, .int .i64 0, .int .i64 0]) w := by kernel_rfl
def l8 : List Value := [.int .i64 8, .int .i64 0, .int .u64 0, .int .i64 0, .bool false, .slice none 0 0, .slice none 0 0, .slice none 0 0, .string ⟨#[97, 98]⟩, .slice none 0 0, .int .i64 2, .int .i64 0]
def o8 : OpD := ⟨8, 0, 0, false, [], [], [97, 98], [], 2, 0⟩
theorem len8 : (allD [o8]).length = 4 := by decide
theorem laid8 (w : World) : LaidOne w l8 o8 :=
  ⟨⟨⟨_, _, _, _, _, rfl, ⟨none, 0, rfl, fun h => absurd rfl h⟩, ⟨none, 0, rfl, Nat.le_refl _, Nat.zero_le _, fun _ => rfl, fun h => absurd rfl h⟩, fun h => absurd rfl h, ⟨none, 0, rfl, fun h => absurd rfl h⟩⟩, by decide⟩, rfl, by
    intro u hu
    have : l8.all (·.oneCell') = true := rfl
    exact List.all_eq_true.1 this u hu, rfl, rfl, fun d hd => by cases hd⟩

theorem flat_at {cl : List (List Value)} (h : ∀ j, j < cl.length → (cl.getD j []).length = 12) (j i : Nat) (hj : j < cl.length) (hi : i < 12) : cl.flatten[j * 12 + i]? = (cl.getD j [])[i]? := by
  induction cl generalizing j with
  | nil => simp at hj
  | cons c cl ih =>
    have h0 : c.length = 12 := h 0 (by simp)
    cases j with
    | zero =>
      rw [List.flatten_cons, List.getElem?_append_left (by omega)]
      simp
    | succ j =>
      rw [List.flatten_cons, List.getElem?_append_right (by omega), h0, show (j + 1) * 12 + i - 12 = j * 12 + i from by omega, ih (fun j' hj' => by have := h (j' + 1) (by simpa using hj'); simpa using this) j (by simpa using hj)]
      simp
/-- behind j of the accepted -/
def LB2 (w5 : World) (ls : List OpD) (od : OpD) (rb : Nat) (rv i : Value) (wr : World) : Prop :=
  ∃ j : Nat, j ≤ ls.length ∧ i = .int .i64 j ∧ Rd wr rb rv (allD ls) ((allD (ls.take j)).length, 0) ∧ Upd (fun i => i = rb) w5 wr
set_option maxHeartbeats 16000000 in
set_option maxRecDepth 100000 in
theorem walk (oa : Option Addr) (on oc : Nat) (os : List OpD) (od : OpD) (w : World) (ho : OpsF w (.slice oa on oc) os od) (hon : on = os.length) (hkl : on ≤ 9223372036854775807) :
    Calls Try.prog 6 #[.slice oa on oc] w fun e w' => e = .returned (.bool true) ∧ Upd (fun _ => False) w w' := by
  have HBey := Lib.hid (beyond_any oa on oc os od w ho hkl)
  have Ho : Hid (OpsF w (.slice oa on oc) os od) := ho
  have Hon := Lib.hid hon
  have hz := zeroX
  clear ho hon hkl
  go_enter Try.func6, Try.ntmps6
  go_wp2_with fail
  refine HBey.out.mono ?_
  rintro e w1 ⟨bb, rfl, hbey, hu1⟩
  have HU1 := Lib.hid hu1
  clear hu1 HBey
  cases bb with
  | true =>
    clear hbey
    go_wp2_with fail
    go_ret
    exact ⟨rfl, HU1.out⟩
  | false =>
    have HCo : Hid (costs os ≤ 2147483647) := hbey rfl
    clear hbey
    go_wp2_with fail
    refine (WriterW.new_any w1).mono ?_
    rintro e w2 ⟨rfl, hwr2, hu2⟩
    obtain ⟨wb, hwb⟩ : ∃ x, x = w1.heap.size := ⟨_, rfl⟩
    rw [← hwb] at hwr2 ⊢
    have hwb2 : wb < w2.heap.size := lt_of_block hwr2.1
    have Hwb : Hid (w.heap.size ≤ wb) := by show _ ≤ _; rw [hwb]; exact HU1.out.size
    have HU2 : Hid (Upd (fun _ => False) w w2) := HU1.out.trans (hu2.mono (fun _ _ e => e.elim))
    have Hwb2 := Lib.hid hwb2
    have HLy0 : Hid (Calls Try.prog 37 #[.pointer (some ⟨wb, 0, none⟩), .agg l8.toArray] w2 fun e w' => e = .returned (.bool true) ∧ Grew wb (.slice none 0 0) [] (be ([97, 98] : List UInt8).length 2 ++ [97, 98]) w2 w') :=
      lays_8 wb (.slice none 0 0) [] [97, 98] 2 _ _ _ _ _ _ _ _ _ w2 hwr2 (by decide) (by decide)
    clear hwr2 hu2 hwb hwb2
    go_wp2_with fail
    change Calls Try.prog 37 #[.pointer (some ⟨wb, 0, none⟩), .agg l8.toArray] w2 _
    refine HLy0.out.mono ?_
    rintro e w3 ⟨rfl, v3, hw3, hu3, ho3⟩
    have HW3 : Hid (Wr w3 wb v3 (allD [o8])) := by
      have h : allD [o8] = [] ++ (be ([97, 98] : List UInt8).length 2 ++ [97, 98]) := by unfold allD; simp [cat, newsD, o8]
      show Wr _ _ _ _
      rw [h]
      exact hw3
    have HU3 : Hid (Upd (fun j => j = wb) w2 w3) := hu3.mono (fun k _ e => by
      rcases e with e | e
      · exact e
      · simp [own, Value.ownBlock] at e)
    have HO3 : Hid (∀ j, own v3 j → w2.heap.size ≤ j) := fun j hj => by
      rcases ho3 j hj with h | h
      · simp [own, Value.ownBlock] at h
      · exact h
    clear hw3 hu3 ho3 HLy0
    go_wp2
    obtain ⟨w4, hw4⟩ : ∃ x, x = w3.alloc (.cells l8.toArray 54) := ⟨_, rfl⟩
    have hu4 : Upd (fun _ => False) w3 w4 := by rw [hw4]; exact (Upd.refl _ w3).alloc _
    have h4 : w4.heap[w3.heap.size]? = some (.cells l8.toArray 54 (0, 0)) := by rw [hw4]; exact heap_alloc_new w3 _
    unfold l8 at hw4
    rw [← hw4]
    have HLB : Hid (LB1 w w2 os od wb (.slice (some ⟨w3.heap.size, 0, none⟩) 1 1) (.int .i64 0) w4) := by
      refine ⟨0, v3, [o8], [l8], Nat.zero_le _, rfl, NamesW.Wr.upd HW3.out hu4 id (fun _ _ => id), HO3.out, ?_, fun j hj => ?_, LaidOk.snoc (ls := []) (cl := []) ⟨rfl, fun j hj => absurd hj (Nat.not_lt_zero _)⟩ (laid8 w), Nat.le_trans (Nat.le_of_eq len8) (Nat.le_add_right _ _), by simp, ?_⟩
      · exact ⟨rfl, .inr ⟨w3.heap.size, 1, l8.toArray, rfl, Nat.zero_le _, h4, Nat.le_refl _, by unfold maxLen; decide, rfl, rfl⟩⟩
      · have := HU3.out.size
        simp [own, Value.ownBlock] at hj
        omega
      · exact HU3.out.trans (hu4.mono (fun _ _ e => e.elim))
    clear hw4 hu4 h4 HW3 HU3 HO3
    go_loopw [4, 5, 6] (fun lv i _ wr => LB1 w w2 os od wb lv i wr) (fun _ i _ _ => (on - (intOf i).toNat))
    case atStart => exact HLB.out
    case round =>
      clear HLB
      obtain ⟨k, v, ls, cl, hk, rfl, hwr, hvo, hlo, hlvo, hlaid, hlen, hlsk, hu⟩ := hrel
      obtain ⟨wq, rfl⟩ : ∃ x : World, x = wr := ⟨_, rfl⟩
      have HWr := Lib.hid hwr
      have HVo := Lib.hid hvo
      have HLo := Lib.hid hlo
      have HLv := Lib.hid hlvo
      have HLd := Lib.hid hlaid
      have HLn := Lib.hid hlen
      have HLk := Lib.hid hlsk
      have HU := Lib.hid hu
      have HUw : Hid (Upd (fun _ => False) w wq) := HU2.out.trans (hu.mono (fun j _ e => .inr (by have := Hwb.out; omega)))
      have hkn : k ≤ on := by rw [Hon.out]; exact hk
      have hcl := costs_len os
      have hcb := HCo.out
      have hkb : on ≤ 21474836 := by rw [Hon.out]; omega
      clear hwr hvo hlo hlvo hlaid hlen hlsk hu hk hcl hcb
      by_cases hlt : k < on
      · have hltI : (k : Int) < (on : Int) := by omega
        have hkt : k < os.length := by rw [← Hon.out]; exact hlt
        obtain ⟨oa', oc', he, h3, h4⟩ := Ho.out
        injection he with e1 e2 e3
        subst e1 e3
        clear e2
        obtain ⟨⟨og, oo, osp⟩, rfl⟩ : ∃ ad, oa = some ad := by
          cases oa with
          | some ad => exact ⟨ad, rfl⟩
          | none => have := h3 rfl; omega
        obtain ⟨hsp, hob, h5⟩ := h4 _ rfl
        obtain rfl : osp = none := hsp
        obtain ⟨cs, hf, hra⟩ := h5 k hkt
        obtain ⟨o, ho⟩ : ∃ o, o = os.getD k od := ⟨_, rfl⟩
        rw [← ho] at hf
        have HF := Lib.hid hf
        have Hoe := Lib.hid ho
        obtain ⟨⟨⟨x1, dv, x6, pv, lw, hcs, hd, hp, hpo, hst⟩, hn64⟩, _⟩ := hf
        obtain ⟨dao, dcap, rfl, _⟩ := hd
        obtain ⟨pao, pcap, rfl, _⟩ := id hp
        obtain ⟨nd, hnd⟩ : ∃ x, x = o.ds.length := ⟨_, rfl⟩
        obtain ⟨np, hnp⟩ : ∃ x, x = o.xs.length := ⟨_, rfl⟩
        obtain ⟨kk, hkk⟩ : ∃ x, x = o.k := ⟨_, rfl⟩
        rw [← hnd, ← hnp, ← hkk] at hcs
        obtain ⟨XA, hXA⟩ : ∃ x, x = cs.toArray := ⟨_, rfl⟩
        have HRa : Hid (∀ (j : Nat) u, cs[j]? = some u → wq.cell? ⟨og, oo + k * 12 + j, none⟩ = some u) := fun j u h => HUw.out.cell (hra j u h) id
        have HCs : Hid ((Try.prog.info? 54).map (·.size) = some cs.length) := by show _ = _; rw [sizeO, HF.out.len]
        have HXs : Hid ((Try.prog.info? 54).map (·.size) = some XA.size) := by show _ = _; rw [sizeO, hXA]; simp [HF.out.len]
        have HXz : Hid ((#[.int .i64 0, .int .i64 0, .int .u64 0, .int .i64 0, .bool false, .slice none 0 0, .slice none 0 0, .slice none 0 0, .string ⟨#[]⟩, .slice none 0 0, .int .i64 0, .int .i64 0] : Array Value).size = XA.size) := by show _ = _; rw [hXA]; simp [HF.out.len]
        have hone := HF.out.one
        have HX1 : Hid (XA.all (·.oneCell') = true) := by show _ = _; rw [hXA]; simpa using hone
        have HXA := Lib.hid hXA
        have Hcs := Lib.hid hcs
        obtain ⟨c2, hc2⟩ : ∃ c, c = Value.int .u64 (o.n : Int) := ⟨_, rfl⟩
        obtain ⟨c4, hc4⟩ : ∃ c, c = Value.bool o.y := ⟨_, rfl⟩
        obtain ⟨c8, hc8⟩ : ∃ c, c = Value.string ⟨o.st.toArray⟩ := ⟨_, rfl⟩
        obtain ⟨c10, hc10⟩ : ∃ c, c = Value.int .i64 o.most := ⟨_, rfl⟩
        obtain ⟨c11, hc11⟩ : ∃ c, c = Value.int .i64 o.each := ⟨_, rfl⟩
        rw [← hc2, ← hc4, ← hc8, ← hc10, ← hc11] at hcs
        have Hcs := Lib.hid hcs
        clear hc2 hc4 hc8 hc10 hc11
        have Hnd := Lib.hid hnd
        have Hnp := Lib.hid hnp
        have Hkk := Lib.hid hkk
        clear hnd hnp hkk
        clear h3 h4 h5 hob hra ho hXA hp hpo hst hn64 hone hcs
        by_cases hk6 : kk = 6
        · subst hk6
          obtain ⟨XB, hXB⟩ : ∃ x, x = (cs.set 3 (.int .i64 (nd : Int))).toArray := ⟨_, rfl⟩
          have HXBs : Hid ((Try.prog.info? 54).map (·.size) = some XB.size) := by show _ = _; rw [sizeO, hXB]; simp [HF.out.len]
          have HXB := Lib.hid hXB
          clear hXB
          go_wp2_with (first
            | ((with_reducible refine wpList_load_part (o := ⟨some 31, _, _, _, _, _⟩) ?_ _ (.tmp 30) ?_ og (oo + k * 12) ?_ cs _ ?_ Try.underlying54 ?_ HCs.out ?_); rfl; rfl; rfl; (exact HRa.out); rfl; rw [← HXA.out])
            | ((with_reducible refine wpList_store_new (o := ⟨none, .store 54 (.tmp 6) (.tmp 31), _, _, _, _⟩) ?_ _ (.tmp 6) (.tmp 31) ?_ wq.heap.size XA ?_ ?_ 54 #[.int .i64 0, .int .i64 0, .int .u64 0, .int .i64 0, .bool false, .slice none 0 0, .slice none 0 0, .slice none 0 0, .string ⟨#[]⟩, .slice none 0 0, .int .i64 0, .int .i64 0] (heap_alloc_new _ _) HXs.out HXz.out HX1.out ?_); rfl; rfl; rfl; rfl; intro wA HgA HuA; have HRA : Hid (Row wA wq.heap.size 54 cs) := (by show _ = _; rw [← HXA.out]; exact HgA.out); have c0 : wA.cell? ⟨wq.heap.size, 0, none⟩ = some (.int .i64 6) := (by rw [HRA.out.cell, Hcs.out]; rfl); have c3 : wA.cell? ⟨wq.heap.size, 3, none⟩ = some (.int .i64 o.many) := (by rw [HRA.out.cell, Hcs.out]; rfl); have c7 : wA.cell? ⟨wq.heap.size, 7, none⟩ = some (.slice pao np pcap) := (by rw [HRA.out.cell, Hcs.out]; rfl); have f3 := HRA.out.frozen 3; have HRB : Hid (Row (wA.setCell ⟨wq.heap.size, 3, none⟩ (.int .i64 (np : Int))) wq.heap.size 54 (cs.set 3 (.int .i64 (np : Int)))) := HRA.out.set 3 _; have d0 : (wA.setCell ⟨wq.heap.size, 3, none⟩ (.int .i64 (np : Int))).cell? ⟨wq.heap.size, 0, none⟩ = some (.int .i64 6) := (by rw [HRB.out.cell, Hcs.out]; rfl); have c5 : wA.cell? ⟨wq.heap.size, 5, none⟩ = some (.slice dao nd dcap) := (by rw [HRA.out.cell, Hcs.out]; rfl); have d5 : (wA.setCell ⟨wq.heap.size, 3, none⟩ (.int .i64 (np : Int))).cell? ⟨wq.heap.size, 5, none⟩ = some (.slice dao nd dcap) := (by rw [HRB.out.cell, Hcs.out]; rfl); have d3 : (wA.setCell ⟨wq.heap.size, 3, none⟩ (.int .i64 (np : Int))).cell? ⟨wq.heap.size, 3, none⟩ = some (.int .i64 (np : Int)) := (by rw [HRB.out.cell, Hcs.out]; rfl); have g3 := HRB.out.frozen 3; have HRC : Hid (Row ((wA.setCell ⟨wq.heap.size, 3, none⟩ (.int .i64 (np : Int))).setCell ⟨wq.heap.size, 3, none⟩ (.int .i64 (nd : Int))) wq.heap.size 54 (cs.set 3 (.int .i64 (nd : Int)))) := (by have h := HRB.out.set 3 (.int .i64 (nd : Int)); rw [List.set_set] at h; exact h); have HRX : Hid (((wA.setCell ⟨wq.heap.size, 3, none⟩ (.int .i64 (np : Int))).setCell ⟨wq.heap.size, 3, none⟩ (.int .i64 (nd : Int))).heap[wq.heap.size]? = some (.cells XB 54 (0, 0))) := (by show _ = _; rw [HXB.out]; exact HRC.out))
            | ((with_reducible refine wpList_load_row (o := ⟨some 44, _, _, _, _, _⟩) ?_ 54 (.tmp 6) ?_ wq.heap.size ?_ 54 XB (0, 0) _ HRX.out Try.underlying54 ?_ HXBs.out ?_); rfl; rfl; rfl; rfl))
          obtain ⟨wB, hwB⟩ : ∃ x, x = ((wA.setCell ⟨wq.heap.size, 3, none⟩ (.int .i64 (np : Int))).setCell ⟨wq.heap.size, 3, none⟩ (.int .i64 (nd : Int))) := ⟨_, rfl⟩
          have HRowB : Hid (Row wB wq.heap.size 54 (cs.set 3 (.int .i64 (nd : Int)))) := by show Row _ _ _ _; rw [hwB]; exact HRC.out
          have HUB : Hid (Upd (fun _ => False) wq wB) := by
            show Upd _ _ _
            rw [hwB]
            have h1 : Upd (fun j => j = wq.heap.size) wA ((wA.setCell ⟨wq.heap.size, 3, none⟩ (.int .i64 (np : Int))).setCell ⟨wq.heap.size, 3, none⟩ (.int .i64 (nd : Int))) := put1 (put1 (Upd.refl _ _) 3 _) 3 _
            exact (((Upd.refl (fun _ => False) wq).alloc _).trans (HuA.out.mono (fun j _ e => .inr (by omega)))).trans (h1.mono (fun j _ e => .inr (by omega)))
          rw [← hwB]
          clear hwB
          have hCE : cs.set 3 (.int .i64 (nd : Int)) = [.int .i64 6, x1, c2, .int .i64 (nd : Int), c4, .slice dao nd dcap, x6, .slice pao np pcap, c8, lw, c10, c11] := by rw [Hcs.out]; rfl
          have HCE := Lib.hid hCE
          have Ho1 : Hid (OpH wB (cs.set 3 (.int .i64 (nd : Int))) { o with many := (nd : Int) } (fun j => j < w.heap.size)) := OpH.many (OpH.upd HF.out.h (HUw.out.trans (HUB.out.mono (fun _ _ e => e.elim)))) _
          have HLa : Hid (LaidOne w [.int .i64 6, x1, c2, .int .i64 (nd : Int), c4, .slice dao nd dcap, x6, .slice pao np pcap, c8, lw, c10, c11] { o with many := (nd : Int) } ∨ errD o ≠ 0) := by
            by_cases he : errD o = 0
            · left
              refine ⟨?_, rfl, fun u hu => ?_, he, by show ((nd : Nat) : Int) = if o.k = 6 then (o.ds.length : Int) else (o.xs.length : Int); rw [← Hkk.out, if_pos rfl, Hnd.out], HF.out.h32⟩
              · rw [← hCE]; exact OpH.many HF.out.h _
              · rw [← hCE] at hu
                rcases List.mem_or_eq_of_mem_set hu with h | h
                · exact HF.out.one u h
                · rw [h]; rfl
            · exact .inr he
          have hck := costs_take os od k hkt
          rw [← Hoe.out] at hck
          have hcl := costs_le os (k + 1)
          have hcb := HCo.out
          have hnc := news_cost o HF.out.h32
          have hts := totS_ge o.ss
          have hcd : costD o = 100 + o.xs.length + o.st.length + 32 * o.ds.length + totS o.ss := rfl
          have hln := HLn.out
          have hlk := HLk.out
          have hwb := Hwb.out
          have hwb2 := Hwb2.out
          have hzq := HUw.out.size
          have hzB := HUB.out.size
          have hz2 := HU2.out.size
          have hvlt : ∀ j, own v j → w2.heap.size ≤ j ∧ j < wq.heap.size := fun j hj => ⟨HVo.out j hj, (HWr.out.2.lt j hj).2⟩
          have hllt : ∀ j, own u4 j → w2.heap.size ≤ j ∧ j < wq.heap.size := fun j hj => ⟨HLv.out j hj, (HLo.out.lt j hj).2⟩
          have HLy := Lib.hid (laysd_any wb v (allD ls) (cs.set 3 (.int .i64 (nd : Int))) { o with many := (nd : Int) } (fun j => j < w.heap.size) wB (NamesW.Wr.upd HWr.out HUB.out id (fun _ _ => id)) Ho1.out (fun j hj => ⟨by omega, by omega, fun h => by have := hvlt j h; omega⟩)
            (by show (allD ls).length + (newsD o).length ≤ _; omega) (by show o.ss.length ≤ _; omega) (fun _ => by show (allD ls).length + o.st.length ≤ _; omega) (fun _ => by show (allD ls).length + o.xs.length ≤ _; omega))
          rw [← HXB.out] at HLy
          by_cases he : errD o = 0
          · have hbe : (errD { o with many := (nd : Int) } == 0) = true := by show (errD o == 0) = true; rw [he]; rfl
            have hif : (if errD { o with many := (nd : Int) } = 0 then newsD { o with many := (nd : Int) } else []) = newsD o := if_pos he
            rw [hbe, hif] at HLy
            have HLa' : Hid (LaidOne w [.int .i64 6, x1, c2, .int .i64 (nd : Int), c4, .slice dao nd dcap, x6, .slice pao np pcap, c8, lw, c10, c11] { o with many := (nd : Int) }) := HLa.out.resolve_right (fun h => h he)
            clear hbe hif
            refine HLy.out.mono ?_
            rintro e wC ⟨rfl, v', hwC, huC, hoC⟩
            have hRC : Row wC wq.heap.size 54 [.int .i64 6, x1, c2, .int .i64 (nd : Int), c4, .slice dao nd dcap, x6, .slice pao np pcap, c8, lw, c10, c11] := by
              have h := HRowB.out.upd huC (fun e => by
                rcases e with e | e
                · have := HU.out.size; omega
                · have := hvlt _ e; omega)
              rw [hCE] at h
              exact h
            have HRE : Hid (wC.heap[wq.heap.size]? = some (.cells #[.int .i64 6, x1, c2, .int .i64 (nd : Int), c4, .slice dao nd dcap, x6, .slice pao np pcap, c8, lw, c10, c11] 54 (0, 0))) := hRC
            have hLC : wC.ownsRow 0 54 12 u4 ls.length cl.flatten := ReadT.own_upd (ReadT.own_upd HLo.out HUB.out (fun _ _ => id)) huC (fun j hj e => by
              rcases e with e | e
              · have := hllt j hj; omega
              · exact ReadT.rows_apart HLo.out HWr.out.2 (by decide) hj e)
            have HLC : Hid ((wC.alloc (.cells #[.int .i64 6, x1, c2, .int .i64 (nd : Int), c4, .slice dao nd dcap, x6, .slice pao np pcap, c8, lw, c10, c11] 54)).ownsRow 0 54 12 u4 ls.length cl.flatten) := ReadT.own_upd hLC ((Upd.refl (fun _ => False) wC).alloc _) (fun _ _ => id)
            have HXE : Hid ((Try.prog.info? 54).map (·.size) = some (#[.int .i64 6, x1, c2, .int .i64 (nd : Int), c4, .slice dao nd dcap, x6, .slice pao np pcap, c8, lw, c10, c11] : Array Value).size) := by show _ = _; rw [sizeO]; rfl
            have HWC := Lib.hid hwC
            have HUC := Lib.hid huC
            have HOC := Lib.hid hoC
            have hlb : ls.length + 1 ≤ 4294967296 := by omega
            clear hwC huC hoC hLC hRC HLy Ho1 hCE
            go_wp2_with (first
              | ((with_reducible refine wpList_load_row (o := ⟨some 47, _, _, _, _, _⟩) ?_ 54 (.tmp 6) ?_ wq.heap.size ?_ 54 #[.int .i64 6, x1, c2, .int .i64 (nd : Int), c4, .slice dao nd dcap, x6, .slice pao np pcap, c8, lw, c10, c11] (0, 0) _ HRE.out Try.underlying54 ?_ HXE.out ?_); rfl; rfl; rfl; rfl)
              | (at_builtin; (refine wpList_append_op _ (o := ⟨some 49, _, _, _, _, _⟩) ?_ (.tmp 46) (.tmp 48) ?_ u4 ls.length cl.flatten [.int .i64 6, x1, c2, .int .i64 (nd : Int), c4, .slice dao nd dcap, x6, .slice pao np pcap, c8, lw, c10, c11] ?_ HLC.out wC.heap.size 1 ?_ (heap_alloc_new _ _) rfl HLa'.out.one hlb ?_); rfl; rfl; rfl; rfl; intro a5 c5' wD HO5 HG5 HA5))
            obtain ⟨CE, hCe⟩ : ∃ x : List Value, x = [.int .i64 6, x1, c2, .int .i64 (nd : Int), c4, .slice dao nd dcap, x6, .slice pao np pcap, c8, lw, c10, c11] := ⟨_, rfl⟩
            obtain ⟨o1, ho1⟩ : ∃ x, x = { o with many := (nd : Int) } := ⟨_, rfl⟩
            have hnw : newsD o1 = newsD o := by rw [ho1]; rfl
            rw [← hCe] at HLa'
            rw [← ho1] at HLa'
            have hUD : Upd (own u4) wC wD := ((Upd.refl (own u4) wC).alloc _).trans ((Upd.grown HG5.out (fun j hj => hj) : Upd (own u4) _ wD).mono (fun j _ e => .inl e))
            have hzC := HUC.out.size
            have hzU := HU.out.size
            have hO5 := HO5.out
            have hA5 : ∀ j, own (Value.slice a5 (ls.length + 1) c5') j → own u4 j ∨ wC.heap.size ≤ j := fun j hj => by
              rcases HA5.out with h | h
              · left; unfold own at hj ⊢; rw [h] at hj; exact hj
              · right
                unfold own at hj
                rw [h] at hj
                injection hj with hj
                rw [← hj]
                exact ((Upd.refl (fun _ => False) wC).alloc _).size
            have hoC := HOC.out
            have hvC : ∀ j, own v' j → w2.heap.size ≤ j := fun j hj => by
              rcases hoC j hj with h | h
              · exact (hvlt j h).1
              · omega
            refine ⟨⟨k + 1, v', ls ++ [o1], cl ++ [CE], hkt, by go_num, ?_, hvC, ?_, fun j hj => ?_, LaidOk.snoc HLd.out HLa'.out, ?_, ?_, ?_⟩, ?_⟩
            · rw [allD_snoc, hnw]
              refine NamesW.Wr.upd HWC.out hUD (fun e => ?_) (fun j hj e => ?_)
              · have := hllt wb e; omega
              · rcases hoC j hj with h | h
                · exact ReadT.rows_apart HLo.out HWr.out.2 (by decide) e h
                · have := hllt j e; omega
            · rw [List.length_append, List.length_singleton, List.flatten_append, List.flatten_singleton, hCe]
              exact hO5
            · rcases hA5 j hj with h | h
              · exact (hllt j h).1
              · omega
            · rw [allD_snoc, hnw, List.length_append]; omega
            · rw [List.length_append, List.length_singleton]; omega
            · exact ((HU.out.trans (HUB.out.mono (fun _ _ e => e.elim))).trans (HUC.out.mono (fun j _ e => by
                rcases e with e | e
                · exact .inl e
                · exact .inr (hvlt j e).1))).trans (hUD.mono (fun j _ e => .inr (hllt j e).1))
            · simp [intOf]; omega
          · have hbe : (errD { o with many := (nd : Int) } == 0) = false := by show (errD o == 0) = false; simpa using he
            have hif : (if errD { o with many := (nd : Int) } = 0 then newsD { o with many := (nd : Int) } else []) = [] := if_neg he
            rw [hbe, hif] at HLy
            clear hbe hif
            refine HLy.out.mono ?_
            rintro e wC ⟨rfl, v', hwC, huC, hoC⟩
            rw [List.append_nil] at hwC
            have HREL : Hid (k + 1 ≤ os.length ∧ Wr wC wb v' (allD ls) ∧ (∀ j, own v' j → w2.heap.size ≤ j) ∧ wC.ownsRow 0 54 12 u4 ls.length cl.flatten ∧ (∀ j, own u4 j → w2.heap.size ≤ j) ∧ LaidOk w ls cl od ∧ (allD ls).length ≤ 4 + 2 * costs (os.take (k + 1)) ∧ ls.length ≤ k + 1 + 1 ∧ Upd (fun j => j = wb) w2 wC) := by
              refine ⟨hkt, hwC, fun j hj => ?_, ?_, HLv.out, HLd.out, by omega, by omega, ?_⟩
              · rcases hoC j hj with h | h
                · exact (hvlt j h).1
                · have := HU.out.size; omega
              · exact ReadT.own_upd (ReadT.own_upd HLo.out HUB.out (fun _ _ => id)) huC (fun j hj e => by
                  rcases e with e | e
                  · have := hllt j hj; omega
                  · exact ReadT.rows_apart HLo.out HWr.out.2 (by decide) hj e)
              · exact (HU.out.trans (HUB.out.mono (fun _ _ e => e.elim))).trans (huC.mono (fun j _ e => by
                  rcases e with e | e
                  · exact .inl e
                  · exact .inr (hvlt j e).1))
            clear hwC huC hoC HLy Ho1 hCE
            go_wp2
            go_roundw
            case rel =>
              obtain ⟨g1, g2⟩ := HREL.out
              exact ⟨k + 1, v', ls, cl, g1, by go_num, g2⟩
            case measure => simp [intOf]; omega
        · obtain ⟨XB, hXB⟩ : ∃ x, x = (cs.set 3 (.int .i64 (np : Int))).toArray := ⟨_, rfl⟩
          have HXBs : Hid ((Try.prog.info? 54).map (·.size) = some XB.size) := by show _ = _; rw [sizeO, hXB]; simp [HF.out.len]
          have HXB := Lib.hid hXB
          clear hXB
          go_wp2_with (first
            | ((with_reducible refine wpList_load_part (o := ⟨some 31, _, _, _, _, _⟩) ?_ _ (.tmp 30) ?_ og (oo + k * 12) ?_ cs _ ?_ Try.underlying54 ?_ HCs.out ?_); rfl; rfl; rfl; (exact HRa.out); rfl; rw [← HXA.out])
            | ((with_reducible refine wpList_store_new (o := ⟨none, .store 54 (.tmp 6) (.tmp 31), _, _, _, _⟩) ?_ _ (.tmp 6) (.tmp 31) ?_ wq.heap.size XA ?_ ?_ 54 #[.int .i64 0, .int .i64 0, .int .u64 0, .int .i64 0, .bool false, .slice none 0 0, .slice none 0 0, .slice none 0 0, .string ⟨#[]⟩, .slice none 0 0, .int .i64 0, .int .i64 0] (heap_alloc_new _ _) HXs.out HXz.out HX1.out ?_); rfl; rfl; rfl; rfl; intro wA HgA HuA; have HRA : Hid (Row wA wq.heap.size 54 cs) := (by show _ = _; rw [← HXA.out]; exact HgA.out); have c0 : wA.cell? ⟨wq.heap.size, 0, none⟩ = some (.int .i64 kk) := (by rw [HRA.out.cell, Hcs.out]; rfl); have c3 : wA.cell? ⟨wq.heap.size, 3, none⟩ = some (.int .i64 o.many) := (by rw [HRA.out.cell, Hcs.out]; rfl); have c7 : wA.cell? ⟨wq.heap.size, 7, none⟩ = some (.slice pao np pcap) := (by rw [HRA.out.cell, Hcs.out]; rfl); have f3 := HRA.out.frozen 3; have HRB : Hid (Row (wA.setCell ⟨wq.heap.size, 3, none⟩ (.int .i64 (np : Int))) wq.heap.size 54 (cs.set 3 (.int .i64 (np : Int)))) := HRA.out.set 3 _; have d0 : (wA.setCell ⟨wq.heap.size, 3, none⟩ (.int .i64 (np : Int))).cell? ⟨wq.heap.size, 0, none⟩ = some (.int .i64 kk) := (by rw [HRB.out.cell, Hcs.out]; rfl); have HRX : Hid ((wA.setCell ⟨wq.heap.size, 3, none⟩ (.int .i64 (np : Int))).heap[wq.heap.size]? = some (.cells XB 54 (0, 0))) := (by show _ = _; rw [HXB.out]; exact HRB.out))
            | ((with_reducible refine wpList_load_row (o := ⟨some 44, _, _, _, _, _⟩) ?_ 54 (.tmp 6) ?_ wq.heap.size ?_ 54 XB (0, 0) _ HRX.out Try.underlying54 ?_ HXBs.out ?_); rfl; rfl; rfl; rfl))
          obtain ⟨wB, hwB⟩ : ∃ x, x = (wA.setCell ⟨wq.heap.size, 3, none⟩ (.int .i64 (np : Int))) := ⟨_, rfl⟩
          have HRowB : Hid (Row wB wq.heap.size 54 (cs.set 3 (.int .i64 (np : Int)))) := by show Row _ _ _ _; rw [hwB]; exact HRB.out
          have HUB : Hid (Upd (fun _ => False) wq wB) := by
            show Upd _ _ _
            rw [hwB]
            have h1 : Upd (fun j => j = wq.heap.size) wA (wA.setCell ⟨wq.heap.size, 3, none⟩ (.int .i64 (np : Int))) := put1 (Upd.refl _ _) 3 _
            exact (((Upd.refl (fun _ => False) wq).alloc _).trans (HuA.out.mono (fun j _ e => .inr (by omega)))).trans (h1.mono (fun j _ e => .inr (by omega)))
          rw [← hwB]
          clear hwB
          have hCE : cs.set 3 (.int .i64 (np : Int)) = [.int .i64 kk, x1, c2, .int .i64 (np : Int), c4, .slice dao nd dcap, x6, .slice pao np pcap, c8, lw, c10, c11] := by rw [Hcs.out]; rfl
          have HCE := Lib.hid hCE
          have Ho1 : Hid (OpH wB (cs.set 3 (.int .i64 (np : Int))) { o with many := (np : Int) } (fun j => j < w.heap.size)) := OpH.many (OpH.upd HF.out.h (HUw.out.trans (HUB.out.mono (fun _ _ e => e.elim)))) _
          have HLa : Hid (LaidOne w [.int .i64 kk, x1, c2, .int .i64 (np : Int), c4, .slice dao nd dcap, x6, .slice pao np pcap, c8, lw, c10, c11] { o with many := (np : Int) } ∨ errD o ≠ 0) := by
            by_cases he : errD o = 0
            · left
              refine ⟨?_, rfl, fun u hu => ?_, he, by show ((np : Nat) : Int) = if o.k = 6 then (o.ds.length : Int) else (o.xs.length : Int); rw [← Hkk.out, if_neg hk6, Hnp.out], HF.out.h32⟩
              · rw [← hCE]; exact OpH.many HF.out.h _
              · rw [← hCE] at hu
                rcases List.mem_or_eq_of_mem_set hu with h | h
                · exact HF.out.one u h
                · rw [h]; rfl
            · exact .inr he
          have hck := costs_take os od k hkt
          rw [← Hoe.out] at hck
          have hcl := costs_le os (k + 1)
          have hcb := HCo.out
          have hnc := news_cost o HF.out.h32
          have hts := totS_ge o.ss
          have hcd : costD o = 100 + o.xs.length + o.st.length + 32 * o.ds.length + totS o.ss := rfl
          have hln := HLn.out
          have hlk := HLk.out
          have hwb := Hwb.out
          have hwb2 := Hwb2.out
          have hzq := HUw.out.size
          have hzB := HUB.out.size
          have hz2 := HU2.out.size
          have hvlt : ∀ j, own v j → w2.heap.size ≤ j ∧ j < wq.heap.size := fun j hj => ⟨HVo.out j hj, (HWr.out.2.lt j hj).2⟩
          have hllt : ∀ j, own u4 j → w2.heap.size ≤ j ∧ j < wq.heap.size := fun j hj => ⟨HLv.out j hj, (HLo.out.lt j hj).2⟩
          have HLy := Lib.hid (laysd_any wb v (allD ls) (cs.set 3 (.int .i64 (np : Int))) { o with many := (np : Int) } (fun j => j < w.heap.size) wB (NamesW.Wr.upd HWr.out HUB.out id (fun _ _ => id)) Ho1.out (fun j hj => ⟨by omega, by omega, fun h => by have := hvlt j h; omega⟩)
            (by show (allD ls).length + (newsD o).length ≤ _; omega) (by show o.ss.length ≤ _; omega) (fun _ => by show (allD ls).length + o.st.length ≤ _; omega) (fun _ => by show (allD ls).length + o.xs.length ≤ _; omega))
          rw [← HXB.out] at HLy
          by_cases he : errD o = 0
          · have hbe : (errD { o with many := (np : Int) } == 0) = true := by show (errD o == 0) = true; rw [he]; rfl
            have hif : (if errD { o with many := (np : Int) } = 0 then newsD { o with many := (np : Int) } else []) = newsD o := if_pos he
            rw [hbe, hif] at HLy
            have HLa' : Hid (LaidOne w [.int .i64 kk, x1, c2, .int .i64 (np : Int), c4, .slice dao nd dcap, x6, .slice pao np pcap, c8, lw, c10, c11] { o with many := (np : Int) }) := HLa.out.resolve_right (fun h => h he)
            clear hbe hif
            refine HLy.out.mono ?_
            rintro e wC ⟨rfl, v', hwC, huC, hoC⟩
            have hRC : Row wC wq.heap.size 54 [.int .i64 kk, x1, c2, .int .i64 (np : Int), c4, .slice dao nd dcap, x6, .slice pao np pcap, c8, lw, c10, c11] := by
              have h := HRowB.out.upd huC (fun e => by
                rcases e with e | e
                · have := HU.out.size; omega
                · have := hvlt _ e; omega)
              rw [hCE] at h
              exact h
            have HRE : Hid (wC.heap[wq.heap.size]? = some (.cells #[.int .i64 kk, x1, c2, .int .i64 (np : Int), c4, .slice dao nd dcap, x6, .slice pao np pcap, c8, lw, c10, c11] 54 (0, 0))) := hRC
            have hLC : wC.ownsRow 0 54 12 u4 ls.length cl.flatten := ReadT.own_upd (ReadT.own_upd HLo.out HUB.out (fun _ _ => id)) huC (fun j hj e => by
              rcases e with e | e
              · have := hllt j hj; omega
              · exact ReadT.rows_apart HLo.out HWr.out.2 (by decide) hj e)
            have HLC : Hid ((wC.alloc (.cells #[.int .i64 kk, x1, c2, .int .i64 (np : Int), c4, .slice dao nd dcap, x6, .slice pao np pcap, c8, lw, c10, c11] 54)).ownsRow 0 54 12 u4 ls.length cl.flatten) := ReadT.own_upd hLC ((Upd.refl (fun _ => False) wC).alloc _) (fun _ _ => id)
            have HXE : Hid ((Try.prog.info? 54).map (·.size) = some (#[.int .i64 kk, x1, c2, .int .i64 (np : Int), c4, .slice dao nd dcap, x6, .slice pao np pcap, c8, lw, c10, c11] : Array Value).size) := by show _ = _; rw [sizeO]; rfl
            have HWC := Lib.hid hwC
            have HUC := Lib.hid huC
            have HOC := Lib.hid hoC
            have hlb : ls.length + 1 ≤ 4294967296 := by omega
            clear hwC huC hoC hLC hRC HLy Ho1 hCE
            go_wp2_with (first
              | ((with_reducible refine wpList_load_row (o := ⟨some 47, _, _, _, _, _⟩) ?_ 54 (.tmp 6) ?_ wq.heap.size ?_ 54 #[.int .i64 kk, x1, c2, .int .i64 (np : Int), c4, .slice dao nd dcap, x6, .slice pao np pcap, c8, lw, c10, c11] (0, 0) _ HRE.out Try.underlying54 ?_ HXE.out ?_); rfl; rfl; rfl; rfl)
              | (at_builtin; (refine wpList_append_op _ (o := ⟨some 49, _, _, _, _, _⟩) ?_ (.tmp 46) (.tmp 48) ?_ u4 ls.length cl.flatten [.int .i64 kk, x1, c2, .int .i64 (np : Int), c4, .slice dao nd dcap, x6, .slice pao np pcap, c8, lw, c10, c11] ?_ HLC.out wC.heap.size 1 ?_ (heap_alloc_new _ _) rfl HLa'.out.one hlb ?_); rfl; rfl; rfl; rfl; intro a5 c5' wD HO5 HG5 HA5))
            obtain ⟨CE, hCe⟩ : ∃ x : List Value, x = [.int .i64 kk, x1, c2, .int .i64 (np : Int), c4, .slice dao nd dcap, x6, .slice pao np pcap, c8, lw, c10, c11] := ⟨_, rfl⟩
            obtain ⟨o1, ho1⟩ : ∃ x, x = { o with many := (np : Int) } := ⟨_, rfl⟩
            have hnw : newsD o1 = newsD o := by rw [ho1]; rfl
            rw [← hCe] at HLa'
            rw [← ho1] at HLa'
            have hUD : Upd (own u4) wC wD := ((Upd.refl (own u4) wC).alloc _).trans ((Upd.grown HG5.out (fun j hj => hj) : Upd (own u4) _ wD).mono (fun j _ e => .inl e))
            have hzC := HUC.out.size
            have hzU := HU.out.size
            have hO5 := HO5.out
            have hA5 : ∀ j, own (Value.slice a5 (ls.length + 1) c5') j → own u4 j ∨ wC.heap.size ≤ j := fun j hj => by
              rcases HA5.out with h | h
              · left; unfold own at hj ⊢; rw [h] at hj; exact hj
              · right
                unfold own at hj
                rw [h] at hj
                injection hj with hj
                rw [← hj]
                exact ((Upd.refl (fun _ => False) wC).alloc _).size
            have hoC := HOC.out
            have hvC : ∀ j, own v' j → w2.heap.size ≤ j := fun j hj => by
              rcases hoC j hj with h | h
              · exact (hvlt j h).1
              · omega
            refine ⟨⟨k + 1, v', ls ++ [o1], cl ++ [CE], hkt, by go_num, ?_, hvC, ?_, fun j hj => ?_, LaidOk.snoc HLd.out HLa'.out, ?_, ?_, ?_⟩, ?_⟩
            · rw [allD_snoc, hnw]
              refine NamesW.Wr.upd HWC.out hUD (fun e => ?_) (fun j hj e => ?_)
              · have := hllt wb e; omega
              · rcases hoC j hj with h | h
                · exact ReadT.rows_apart HLo.out HWr.out.2 (by decide) e h
                · have := hllt j e; omega
            · rw [List.length_append, List.length_singleton, List.flatten_append, List.flatten_singleton, hCe]
              exact hO5
            · rcases hA5 j hj with h | h
              · exact (hllt j h).1
              · omega
            · rw [allD_snoc, hnw, List.length_append]; omega
            · rw [List.length_append, List.length_singleton]; omega
            · exact ((HU.out.trans (HUB.out.mono (fun _ _ e => e.elim))).trans (HUC.out.mono (fun j _ e => by
                rcases e with e | e
                · exact .inl e
                · exact .inr (hvlt j e).1))).trans (hUD.mono (fun j _ e => .inr (hllt j e).1))
            · simp [intOf]; omega
          · have hbe : (errD { o with many := (np : Int) } == 0) = false := by show (errD o == 0) = false; simpa using he
            have hif : (if errD { o with many := (np : Int) } = 0 then newsD { o with many := (np : Int) } else []) = [] := if_neg he
            rw [hbe, hif] at HLy
            clear hbe hif
            refine HLy.out.mono ?_
            rintro e wC ⟨rfl, v', hwC, huC, hoC⟩
            rw [List.append_nil] at hwC
            have HREL : Hid (k + 1 ≤ os.length ∧ Wr wC wb v' (allD ls) ∧ (∀ j, own v' j → w2.heap.size ≤ j) ∧ wC.ownsRow 0 54 12 u4 ls.length cl.flatten ∧ (∀ j, own u4 j → w2.heap.size ≤ j) ∧ LaidOk w ls cl od ∧ (allD ls).length ≤ 4 + 2 * costs (os.take (k + 1)) ∧ ls.length ≤ k + 1 + 1 ∧ Upd (fun j => j = wb) w2 wC) := by
              refine ⟨hkt, hwC, fun j hj => ?_, ?_, HLv.out, HLd.out, by omega, by omega, ?_⟩
              · rcases hoC j hj with h | h
                · exact (hvlt j h).1
                · have := HU.out.size; omega
              · exact ReadT.own_upd (ReadT.own_upd HLo.out HUB.out (fun _ _ => id)) huC (fun j hj e => by
                  rcases e with e | e
                  · have := hllt j hj; omega
                  · exact ReadT.rows_apart HLo.out HWr.out.2 (by decide) hj e)
              · exact (HU.out.trans (HUB.out.mono (fun _ _ e => e.elim))).trans (huC.mono (fun j _ e => by
                  rcases e with e | e
                  · exact .inl e
                  · exact .inr (hvlt j e).1))
            clear hwC huC hoC HLy Ho1 hCE
            go_wp2
            go_roundw
            case rel =>
              obtain ⟨g1, g2⟩ := HREL.out
              exact ⟨k + 1, v', ls, cl, g1, by go_num, g2⟩
            case measure => simp [intOf]; omega
      · obtain rfl : on = k := by omega
        have hnlt : ¬ ((on : Int) < (on : Int)) := by omega
        have hcl := costs_le os on
        have hcb := HCo.out
        have hln := HLn.out
        have hlk := HLk.out
        have Hb : Hid ((allD ls).length ≤ 140737488351232) := by show _ ≤ _; omega
        obtain ⟨a4, c4, rfl⟩ := ReadT.slice_form HLo.out
        obtain ⟨ln, hln2⟩ : ∃ x, x = ls.length := ⟨_, rfl⟩
        rw [← hln2] at HLo ⊢
        have hlnb : ln ≤ 21474837 := by rw [hln2]; omega
        have Hln := Lib.hid hln2
        clear hcl hcb hln hlk hln2
        go_wp2_with fail
        refine (WriterW.all_any wb v (allD ls) wq HWr.out (by have := Hb.out; omega)).mono ?_
        rintro e wa ⟨va, rfl, hown, hua⟩
        obtain ⟨aa, ca, rfl⟩ := StrW.row_form hown
        have HSa := Lib.hid (WriterW.Sl.of_row hown)
        have HUa : Hid (Upd (fun _ => False) wq wa) := hua
        clear hown hua
        go_wp2_with fail
        refine (TakeW.read_any _ (allD ls) wa HSa.out (by have := Hb.out; omega)).mono ?_
        rintro e w5 ⟨rb, rv, rfl, hrd1, hu1, hrb, hrvo⟩
        have HRd := Lib.hid hrd1
        have HU5 : Hid (Upd (fun _ => False) wq w5) := HUa.out.trans (hu1.mono (fun _ _ e => e.elim))
        have Hrb : Hid (wq.heap.size ≤ rb) := Nat.le_trans HUa.out.size (by omega)
        clear hrd1 hu1 hrb hrvo HSa HUa
        go_wp2
        go_loopw [8] (fun i wr => LB2 w5 ls od rb rv i wr) (fun i _ => (ln - (intOf i).toNat))
        case atStart => exact ⟨0, Nat.zero_le _, rfl, HRd.out, Upd.refl _ _⟩
        case round =>
          obtain ⟨j, hj, rfl, hrd, hu⟩ := hrel
          obtain ⟨wp, rfl⟩ : ∃ x : World, x = wr := ⟨_, rfl⟩
          have HRd2 := Lib.hid hrd
          have HUp : Hid (Upd (fun _ => False) w wp) := (HUw.out.trans (HU5.out.mono (fun _ _ e => e.elim))).trans (hu.mono (fun i _ e => .inr (by have := Hrb.out; have := HUw.out.size; omega)))
          have HLo2 : Hid (wp.ownsRow 0 54 12 (.slice a4 ln c4) ln cl.flatten) := ReadT.own_upd (ReadT.own_upd HLo.out HU5.out (fun _ _ => id)) hu (fun i hi e => by have := (HLo.out.lt i hi).2; have := Hrb.out; omega)
          have HUr := Lib.hid hu
          have hjl : j ≤ ln := by rw [Hln.out]; exact hj
          clear hrd hu hj
          by_cases hlt2 : j < ln
          · have hltJ : (j : Int) < (ln : Int) := by omega
            have h1 := HLd.out.2 j (by rw [← Hln.out]; exact hlt2)
            obtain ⟨o, ho⟩ : ∃ o, o = ls.getD j od := ⟨_, rfl⟩
            obtain ⟨cs, hcs⟩ : ∃ c, c = cl.getD j [] := ⟨_, rfl⟩
            rw [← ho, ← hcs] at h1
            have H1 := Lib.hid h1
            obtain ⟨lg, hlg⟩ : ∃ lg, a4 = some ⟨lg, 0, none⟩ := by
              rcases HLo2.out.2 with ⟨h, _⟩ | ⟨g, cap, cur, h, _⟩
              · injection h with h1 h2; omega
              · injection h with h1 h2; exact ⟨g, h1⟩
            subst hlg
            have HCl : Hid (∀ w', Upd (fun i => i = rb) wp w' → w'.rangeAt lg (j * 12) cs) := fun w' hu' i u hi => by
              have h12 : i < 12 := by
                have := (List.getElem?_eq_some_iff.1 hi).1
                rw [H1.out.len] at this
                exact this
              have hjc : j < cl.length := by rw [HLd.out.1, ← Hln.out]; exact hlt2
              have hfl : cl.flatten[j * 12 + i]? = some u := by
                rw [flat_at (fun j' hj' => (HLd.out.2 j' (by rw [← HLd.out.1]; exact hj')).len) j i hjc h12, ← hcs]
                exact hi
              have h := World.ownsRow.cells HLo2.out (g := lg) rfl _ _ hfl
              rw [RowW.add_none, Nat.zero_add] at h
              exact hu'.cell h (fun e => by have e : lg = rb := e; have := (HLo.out.lt lg rfl).2; have := Hrb.out; omega)
            have Ho1 := Lib.hid ho
            have Hc1 := Lib.hid hcs
            clear h1 ho hcs
            go_wp2_with fail
            obtain ⟨p0, hp0⟩ : ∃ x, x = (allD (ls.take j)).length := ⟨_, rfl⟩
            obtain ⟨p1, hp1⟩ : ∃ x, x = p0 + (newsD o).length := ⟨_, rfl⟩
            have HRd2 : Hid (Rd wp rb rv (allD ls) (p0, 0)) := by show Rd _ _ _ _ _; rw [hp0]; exact HRd2.out
            have hjs : j < ls.length := by rw [← Hln.out]; exact hlt2
            have hsg := allD_seg ls od j hjs
            have htk := allD_take ls od j hjs
            rw [← Ho1.out, ← hp0] at hsg
            rw [← Ho1.out] at htk
            have HBk : Hid (stepM o.k o.most o.each o.many (allD ls) (p0, 0) = (p1, 0) ∧ Vals o o.most o.each o.many (allD ls) (p0, 0)) := by
              rw [hp1]
              exact back o (allD ls) p0 H1.out.h.n64 H1.out.err hsg.1 hsg.2 H1.out.many H1.out.h32 (by have := Hb.out; omega)
            have Hp1 : Hid (p1 = (allD (ls.take (j + 1))).length) := by show _ = _; rw [htk, List.length_append, hp1, hp0]
            have HOc : Hid (OpC cs (o.k, o.many, o.most, o.each)) := by
              obtain ⟨x1, dv, x6, pv, lv, hc, _⟩ := H1.out.h.cells
              show OpC _ _
              rw [hc]
              exact ⟨rfl, rfl, rfl, rfl, rfl⟩
            have HCz : Hid ((Try.prog.info? 54).map (·.size) = some cs.length) := by show _ = _; rw [sizeO, H1.out.len]
            clear hp0 hp1 hsg htk
            have HS_0 : Hid (Upd (fun i => i = rb) wp wp.drew) := (Upd.refl _ _).drew
            refine wp_region_held_drew (S := Upd (fun i => i = rb) wp) (by kernel_rfl) HS_0.out (fun _ => ?_)
            refine wpAnyH_take (i := 0) (oi := ⟨some 61, _, _, _, _, _⟩) (v := .slice (some ⟨lg, 0, none⟩) ln c4) rfl (by kernel_rfl) (by kernel_rfl) (by kernel_rfl) (fun _ _ _ h => h) (Or.inl ⟨by rfl, fun w hS => by go_simp⟩) HS_0.out ?_
            try simp only [Act.put, List.setIfInBounds_toArray, List.set_cons_zero, List.set_cons_succ]
            refine wpAnyH_take (i := 1) (oi := ⟨some 62, _, _, _, _, _⟩) (v := .int .i64 (j : Int)) rfl (by kernel_rfl) (by kernel_rfl) (by kernel_rfl) (fun _ _ _ h => h) (Or.inl ⟨by rfl, fun w hS => by go_simp⟩) HS_0.out ?_
            try simp only [Act.put, List.setIfInBounds_toArray, List.set_cons_zero, List.set_cons_succ]
            refine wpAnyH_take (i := 2) (oi := ⟨some 63, _, _, _, _, _⟩) (v := .pointer (some ⟨lg, j * 12, none⟩)) rfl (by kernel_rfl) (by kernel_rfl) (by kernel_rfl) (fun _ _ _ h => h) (Or.inl ⟨by rfl, fun w hS => by go_simp⟩) HS_0.out ?_
            try simp only [Act.put, List.setIfInBounds_toArray, List.set_cons_zero, List.set_cons_succ]
            refine wpAnyH_take (i := 3) (oi := ⟨some 64, _, _, _, _, _⟩) rfl (by kernel_rfl) (by kernel_rfl) (by kernel_rfl) (fun _ _ _ h => h) (yieldsIf_load_mid (by rfl) _ _ rfl lg (j * 12) rfl cs _ (fun w h => HCl.out w h) Try.underlying54 rfl HCz.out) HS_0.out ?_
            try simp only [Act.put, List.setIfInBounds_toArray, List.set_cons_zero, List.set_cons_succ]
            refine wpAnyH_take (i := 4) (oi := ⟨some 65, _, _, _, _, _⟩) (v := .pointer (some ⟨rb, 0, none⟩)) rfl (by kernel_rfl) (by kernel_rfl) (by kernel_rfl) (fun _ _ _ h => h) (Or.inl ⟨by rfl, fun w hS => by go_simp⟩) HS_0.out ?_
            try simp only [Act.put, List.setIfInBounds_toArray, List.set_cons_zero, List.set_cons_succ]
            refine wpAnyH_take (i := 5) (oi := ⟨some 66, _, _, _, _, _⟩) (v := .slice (some ⟨lg, 0, none⟩) ln c4) rfl (by kernel_rfl) (by kernel_rfl) (by kernel_rfl) (fun _ _ _ h => h) (Or.inl ⟨by rfl, fun w hS => by go_simp⟩) HS_0.out ?_
            try simp only [Act.put, List.setIfInBounds_toArray, List.set_cons_zero, List.set_cons_succ]
            refine wpAnyH_take (i := 6) (oi := ⟨some 67, _, _, _, _, _⟩) (v := .int .i64 (j : Int)) rfl (by kernel_rfl) (by kernel_rfl) (by kernel_rfl) (fun _ _ _ h => h) (Or.inl ⟨by rfl, fun w hS => by go_simp⟩) HS_0.out ?_
            try simp only [Act.put, List.setIfInBounds_toArray, List.set_cons_zero, List.set_cons_succ]
            refine wpAnyH_take (i := 7) (oi := ⟨some 68, _, _, _, _, _⟩) (v := .pointer (some ⟨lg, j * 12, none⟩)) rfl (by kernel_rfl) (by kernel_rfl) (by kernel_rfl) (fun _ _ _ h => h) (Or.inl ⟨by rfl, fun w hS => by go_simp⟩) HS_0.out ?_
            try simp only [Act.put, List.setIfInBounds_toArray, List.set_cons_zero, List.set_cons_succ]
            refine wpAnyH_take (i := 8) (oi := ⟨some 69, _, _, _, _, _⟩) rfl (by kernel_rfl) (by kernel_rfl) (by kernel_rfl) (fun _ _ _ h => h) (yieldsIf_load_mid (by rfl) _ _ rfl lg (j * 12) rfl cs _ (fun w h => HCl.out w h) Try.underlying54 rfl HCz.out) HS_0.out ?_
            try simp only [Act.put, List.setIfInBounds_toArray, List.set_cons_zero, List.set_cons_succ]
            refine wpAnyH_ready (rs := [9]) (by kernel_rfl) (by simp) ?_
            refine AllReadyH.cons rfl (fun K hK => ?_) AllReadyH.nil
            go_simp
            refine (again_any o.k o.many o.most o.each rb rv (allD ls) (p0, 0) cs wp.drew HRd2.out.drew Hb.out HOc.out).mono ?_
            rintro e w6 ⟨L, rfl, hL, hL1, hrd6, hu6, hal⟩
            rw [HBk.out.1] at hrd6
            have HS_1 : Hid (Upd (fun i => i = rb) wp w6) := HS_0.out.trans (hu6.mono (fun _ _ e => .inl e))
            have HU6 : Hid (Upd (fun _ => False) w w6) := HUp.out.trans (HS_1.out.mono (fun i _ e => .inr (by have e : i = rb := e; have := Hrb.out; have := HUw.out.size; omega)))
            have HAl := Lib.hid (hal w6 cs o (fun i => i < w.heap.size) (Upd.refl _ _) (OpH.upd H1.out.h HU6.out) rfl HBk.out.2)
            have HR6 := Lib.hid hrd6
            clear hal hrd6 hu6
            refine hK.out _ _ HS_1.out (fun hHeld => ?_)
            clear hK K hHeld
            try simp only [Act.put, List.setIfInBounds_toArray, List.set_cons_zero, List.set_cons_succ]
            refine wpAnyH_ready (rs := [10]) (by kernel_rfl) (by simp) ?_
            refine AllReadyH.cons rfl (fun K hK => ?_) AllReadyH.nil
            go_simp
            refine HAl.out.mono ?_
            rintro e w7 ⟨rfl, hu7⟩
            have HS_2 : Hid (Upd (fun i => i = rb) wp w7) := HS_1.out.trans (hu7.mono (fun _ _ e => e.elim))
            have HR7 : Hid (Rd w7 rb rv (allD ls) (p1, 0)) := HR6.out.upd hu7 id (fun _ _ => id)
            clear hu7
            refine hK.out _ _ HS_2.out (fun hHeld => ?_)
            clear hK K hHeld
            try simp only [Act.put, List.setIfInBounds_toArray, List.set_cons_zero, List.set_cons_succ]
            refine wpAnyH_take (i := 11) (oi := ⟨some 72, _, _, _, _, _⟩) (v := .bool false) rfl (by kernel_rfl) (by kernel_rfl) (by kernel_rfl) (fun _ _ _ h => h) (Or.inl ⟨by rfl, fun w hS => by go_simp⟩) HS_2.out ?_
            try simp only [Act.put, List.setIfInBounds_toArray, List.set_cons_zero, List.set_cons_succ]
            refine wpAnyH_take (i := 12) (oi := ⟨some 73, _, _, _, _, _⟩) (v := .bool false) rfl (by kernel_rfl) (by kernel_rfl) (by kernel_rfl) (fun _ _ _ h => h) (Or.inl ⟨by rfl, fun w hS => by go_simp⟩) HS_2.out ?_
            try simp only [Act.put, List.setIfInBounds_toArray, List.set_cons_zero, List.set_cons_succ]
            refine wpAnyH_take (i := 13) (oi := ⟨some 74, _, _, _, _, _⟩) (v := .pointer (some ⟨rb, 0, none⟩)) rfl (by kernel_rfl) (by kernel_rfl) (by kernel_rfl) (fun _ _ _ h => h) (Or.inl ⟨by rfl, fun w hS => by go_simp⟩) HS_2.out ?_
            try simp only [Act.put, List.setIfInBounds_toArray, List.set_cons_zero, List.set_cons_succ]
            refine wpAnyH_ready (rs := [14]) (by kernel_rfl) (by simp) ?_
            refine AllReadyH.cons rfl (fun K hK => ?_) AllReadyH.nil
            go_simp
            refine (ReaderW.why_any rb rv (allD ls) (p1, 0) w7 HR7.out).mono ?_
            rintro e w8 ⟨rfl, rfl⟩
            refine hK.out _ _ HS_2.out (fun hHeld => ?_)
            clear hK K hHeld
            try simp only [Act.put, List.setIfInBounds_toArray, List.set_cons_zero, List.set_cons_succ]
            refine wpAnyH_take (i := 15) (oi := ⟨some 76, _, _, _, _, _⟩) (v := .bool false) rfl (by kernel_rfl) (by kernel_rfl) (by kernel_rfl) (fun _ _ _ h => h) (Or.inl ⟨by rfl, fun w hS => by go_simp⟩) HS_2.out ?_
            try simp only [Act.put, List.setIfInBounds_toArray, List.set_cons_zero, List.set_cons_succ]
            refine wpAnyH_take (i := 16) (oi := ⟨some 77, _, _, _, _, _⟩) (v := .bool false) rfl (by kernel_rfl) (by kernel_rfl) (by kernel_rfl) (fun _ _ _ h => h) (Or.inl ⟨by rfl, fun w hS => by go_simp⟩) HS_2.out ?_
            try simp only [Act.put, List.setIfInBounds_toArray, List.set_cons_zero, List.set_cons_succ]
            refine wpAnyH_done (by kernel_rfl) ?_ _
            go_wp2
            go_roundw
            case rel =>
              exact ⟨j + 1, hjs, by go_num, by rw [← Hp1.out]; exact HR7.out, HUr.out.trans (HS_2.out.mono (fun _ _ e => .inl e))⟩
            case measure => simp [intOf]; omega
          · obtain rfl : ln = j := by omega
            have hnl2 : ¬ ((ln : Int) < (ln : Int)) := by omega
            have htk : ls.take ln = ls := List.take_of_length_le (by rw [← Hln.out]; exact Nat.le_refl _)
            rw [htk] at HRd2
            have hdm : doneM (allD ls) ((allD ls).length, 0) = 0 := by unfold doneM; simp
            have hll : (((allD ls).length : Int) - ((allD ls).length : Int)) = 0 := by omega
            have HDn := Lib.hid (done_any rb rv (allD ls) ((allD ls).length, 0) wp HRd2.out (by have := Hb.out; omega))
            rw [hdm] at HDn
            clear htk hdm
            go_wp2_with fail
            refine HDn.out.mono ?_
            rintro e w6 ⟨rfl, hu6⟩
            have HR6 : Hid (Rd w6 rb rv (allD ls) ((allD ls).length, 0)) := HRd2.out.upd hu6 id (fun _ _ => id)
            have HU6 : Hid (Upd (fun _ => False) w w6) := HUp.out.trans (hu6.mono (fun _ _ e => e.elim))
            clear hu6 HDn
            go_wp2_with fail
            refine (left_any rb rv (allD ls) ((allD ls).length, 0) w6 HR6.out (by have := Hb.out; omega)).mono ?_
            rintro e w7 ⟨rfl, rfl⟩
            rw [hll]
            go_wp2_with fail
            go_ret
            exact ⟨rfl, HU6.out.drew⟩
end Go.Proofs.Ytcdgimapkbaboaa.BackD
