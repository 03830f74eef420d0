/-
  docketlaw1.forth: what is taken whole is laid again as it stood.
-/
import Derived.Test.YtcdgimapkbaboaaAgainW
import Derived.Test.YtcdgimapkbaboaaConvS
import Derived.Deep.RegionHeld
namespace Go.Proofs.Ytcdgimapkbaboaa.ForthW
open Go.RowKit Mem RowW PutW TakeW FlagW ReaderW ReadB ReadT ReadD ReadG StrW RawW TextsW DigW ForthL LaysW OpenOp AgainW
set_option linter.unusedVariables false
set_option linter.unusedSimpArgs false

theorem run_loadVar_part {P : Program} (w : World) (g o : Nat) (ty : TypeId) (cs : List Value) (d : TypeDesc) (hc : ∀ (j : Nat) v, cs[j]? = some v → w.cell? ⟨g, o + j, none⟩ = some v)
    (hu : P.underlying ty = some d) (hd : (match d with | .struct _ | .array _ _ => true | _ => false) = true) (hi : (P.info? ty).map (·.size) = some cs.length) :
    (loadVar ty ⟨g, o, none⟩).run P w = .ok (.agg cs.toArray) w := by
  have hl : (loadCells ⟨g, o, none⟩ cs.length).run P w = .ok cs.toArray w :=
    run_loadCells_list (P := P) w ⟨g, o, none⟩ cs (fun j v hv => by rw [OpenOp.add_none]; exact hc j v hv)
  cases hq : P.info? ty with
  | none => simp [hq] at hi
  | some i =>
    have hs : i.size = cs.length := by simpa [hq] using hi
    have hagg : (isAgg ty).run P w = .ok true w := by
      unfold isAgg
      rw [Sem.run_bind, run_underlying hu w]
      cases d <;> simp_all
    simp [loadVar, Sem.run_bind, hagg, sizeOf, typeInfo, hq, hs, hl]
theorem wp_load_part {P : Program} {o : Oper} {a : Act} {w : World} {K : Act → World → Prop} {Q : Exit → Act → World → Prop} (ty : TypeId) (x : Operand) (ho : o.op = .load ty x)
    (g off : Nat) (hx : a.eval x = .pointer (some ⟨g, off, none⟩)) (cs : List Value) (d : TypeDesc) (hc : ∀ (j : Nat) v, cs[j]? = some v → w.cell? ⟨g, off + j, none⟩ = some v)
    (hu : P.underlying ty = some d) (hd : (match d with | .struct _ | .array _ _ => true | _ => false) = true) (hi : (P.info? ty).map (·.size) = some cs.length)
    (h : K (a.put o.dst (.agg cs.toArray)) w) : o.wp P a w K Q := by
  unfold Oper.wp execOp
  simp only [ho, hx, Instr.loadAt, Instr.sureAddr, Sem.run_bind, Sem.run_pure, Result.andThen_ok, run_loadVar_part w g off ty cs d hc hu hd hi]
  exact h
theorem wpList_load_part {P : Program} {ops : Array Oper} {rest : List Oper} {o : Oper} {a : Act} {w : World} {Q : Exit → Act → World → Prop} (hgd : o.guard = none) (ty : TypeId) (x : Operand) (ho : o.op = .load ty x)
    (g off : Nat) (hx : a.eval x = .pointer (some ⟨g, off, none⟩)) (cs : List Value) (d : TypeDesc) (hc : ∀ (j : Nat) v, cs[j]? = some v → w.cell? ⟨g, off + j, none⟩ = some v)
    (hu : P.underlying ty = some d) (hd : (match d with | .struct _ | .array _ _ => true | _ => false) = true) (hi : (P.info? ty).map (·.size) = some cs.length)
    (h : wpList P ops Q rest (a.put o.dst (.agg cs.toArray)) w) : wpList P ops Q (o :: rest) a w :=
  wpList_plain hgd fun _ hK => wp_load_part ty x ho g off hx cs d hc hu hd hi (hK _ _ h)
theorem wpAnyH_narrow {P : Program} {md : Region.Mode} {ops : Array Oper} {Q : Exit → Act → World → Prop} {S S' : World → Prop} (h : ∀ w, S' w → S w) : ∀ (fuel : Nat) (listed : Array Bool) (a : Act) (w : World), wpAnyH P md ops Q S' fuel listed a w → wpAnyH P md ops Q S fuel listed a w
  | 0, _, _, _, hh => hh
  | fuel + 1, _, _, _, hh => ⟨hh.1, fun i hi => wpOp_mono (fun a' w' h' => ⟨h _ h'.1, wpAnyH_narrow h fuel _ a' w' h'.2⟩) (hh.2 i hi)⟩
/-- where the reader stands behind k steps -/
def stK (l : List UInt8) (ks : List (Int × Int × Int × Int)) (k : Nat) : Nat × Int := (ks.take k).foldl (fun s q => stepM q.1 q.2.2.1 q.2.2.2 q.2.1 l s) (0, 0)
theorem stK_succ (l : List UInt8) (ks : List (Int × Int × Int × Int)) (k : Nat) (h : k < ks.length) :
    stK l ks (k + 1) = stepM (ks.getD k (0, 0, 0, 0)).1 (ks.getD k (0, 0, 0, 0)).2.2.1 (ks.getD k (0, 0, 0, 0)).2.2.2 (ks.getD k (0, 0, 0, 0)).2.1 l (stK l ks k) := by
  unfold stK
  rw [List.take_succ_eq_append_getElem h, List.foldl_append, List.getD_eq_getElem?_getD, List.getElem?_eq_getElem h]
  rfl
def LF (l : List UInt8) (ks : List (Int × Int × Int × Int)) (w2 : World) (rb : Nat) (rv : Value) (wb : Nat) (i : Value) (wr : World) : Prop :=
  ∃ (k : Nat) (v : Value), k ≤ ks.length ∧ i = .int .i64 k ∧ (stK l ks k).2 = 0 ∧ Rd wr rb rv l (stK l ks k) ∧ Wr wr wb v (l.take (stK l ks k).1) ∧ (∀ j, own v j → w2.heap.size ≤ j) ∧ Upd (fun k => k = rb ∨ k = wb) w2 wr

set_option maxHeartbeats 8000000 in
set_option maxRecDepth 100000 in
theorem forth_any (ba : Option Addr) (bn bc : Nat) (oa : Option Addr) (on oc : Nat) (l : List UInt8) (ks : List (Int × Int × Int × Int)) (must : Bool) (w : World) (hs : Sl w (.slice ba bn bc) l) (hbn : bn = l.length) (hl : l.length ≤ 140737488351232)
    (ho : OpsL w (.slice oa on oc) ks) (hon : on = ks.length) (hkl : on ≤ 9223372036854775807)
    (hm : must = true → (∀ k, k ≤ ks.length → (stK l ks k).2 = 0) ∧ (stK l ks ks.length).1 = l.length) :
    Calls Try.prog 40 #[.slice ba bn bc, .slice oa on oc, .bool must] w fun e w' => e = .returned (.bool true) ∧ Upd (fun _ => False) w w' := by
  have Hs : Hid (Sl w (.slice ba bn bc) l) := hs
  have Hbn := Lib.hid hbn
  have Hl := Lib.hid hl
  have Ho : Hid (OpsL w (.slice oa on oc) ks) := ho
  have Hon := Lib.hid hon
  have Hkl := Lib.hid hkl
  have Hm : Hid (must = true → (∀ k, k ≤ ks.length → (stK l ks k).2 = 0) ∧ (stK l ks ks.length).1 = l.length) := hm
  have hz := zeroO
  clear hs hbn hl ho hon hkl hm
  go_enter Try.func40, Try.ntmps40
  go_wp2_with fail
  refine (read_any _ l w Hs.out (by have := Hl.out; omega)).mono ?_
  rintro e w1 ⟨rb, rv, rfl, hrd1, hu1, hrb, hrvo⟩
  have hrb1 : rb < w1.heap.size := lt_of_block hrd1.1
  have HRv1 : Hid (∀ k, own rv k → w.heap.size ≤ k ∧ k < w1.heap.size) := fun k hk => ⟨hrvo k hk, (hrd1.2.1.lt k hk).2⟩
  have HRd1 := Lib.hid hrd1
  have HU1 := Lib.hid hu1
  have Hrb := Lib.hid hrb
  have Hrb1 := Lib.hid hrb1
  clear hrd1 hu1 hrb hrvo hrb1
  go_wp2_with fail
  refine (WriterW.new_any w1).mono ?_
  rintro e w2 ⟨rfl, hwr2, hu2⟩
  obtain ⟨wb, hwb⟩ : ∃ x, x = w1.heap.size := ⟨_, rfl⟩
  rw [← hwb] at hwr2 ⊢
  have hwb2 : wb < w2.heap.size := lt_of_block hwr2.1
  have HRd2 : Hid (Rd w2 rb rv l (0, 0)) := HRd1.out.upd hu2 id (fun _ _ => id)
  have HU2 : Hid (Upd (fun _ => False) w w2) := HU1.out.trans (hu2.mono (fun _ _ e => e.elim))
  have HL0 : Hid (LF l ks w2 rb rv wb (.int .i64 0) w2) := ⟨0, _, Nat.zero_le _, rfl, rfl, HRd2.out, by simpa [stK] using hwr2, fun j hj => by simp [own, Value.ownBlock] at hj, Upd.refl _ _⟩
  have Hwb2 := Lib.hid hwb2
  have Hwb : Hid (w.heap.size ≤ wb ∧ rb < wb ∧ ∀ k, own rv k → k < wb) := by
    refine ⟨?_, ?_, fun k hk => ?_⟩
    · rw [hwb]; exact HU1.out.size
    · rw [hwb]; exact Hrb1.out
    · rw [hwb]; exact (HRv1.out k hk).2
  clear hwr2 hu2 hwb hwb2
  go_wp2
  go_loopw [9, 10] (fun i _ wr => LF l ks w2 rb rv wb i wr) (fun i _ _ => (on - (intOf i).toNat))
  case atStart => exact HL0.out
  case round =>
    clear HL0
    obtain ⟨k, v, hk, rfl, hz0, hrd, hwr, hvo, hu⟩ := hrel
    obtain ⟨wq, rfl⟩ : ∃ x : World, x = wr := ⟨_, rfl⟩
    have HZ0 := Lib.hid hz0
    have HRd := Lib.hid hrd
    have HWr := Lib.hid hwr
    have HVo := Lib.hid hvo
    have HU := Lib.hid hu
    have HUw : Hid (Upd (fun _ => False) w wq) := HU2.out.trans (hu.mono (fun k _ e => by
      rcases e with e | e
      · exact .inr (by have := Hrb.out; omega)
      · exact .inr (by have := Hwb.out.1; omega)))
    have hkn : k ≤ on := by rw [Hon.out]; exact hk
    clear hz0 hrd hwr hvo hu hk
    by_cases hlt : k < on
    · have hltI : (k : Int) < (on : Int) := by omega
      have hkt : k < ks.length := by rw [← Hon.out]; exact hlt
      obtain ⟨oa', oc', he, h3, h4⟩ := Ho.out
      injection he with e1 e2 e3
      subst e1 e3
      clear e2
      obtain ⟨⟨og, oo, os⟩, rfl⟩ : ∃ ad, oa = some ad := by
        cases oa with
        | some ad => exact ⟨ad, rfl⟩
        | none => have := h3 rfl; omega
      obtain ⟨hsp, hob, h5⟩ := h4 _ rfl
      obtain rfl : os = none := hsp
      obtain ⟨cs, hc, hra⟩ := h5 k hkt
      have hss := stK_succ l ks k hkt
      obtain ⟨q, hq⟩ : ∃ q, q = ks.getD k (0, 0, 0, 0) := ⟨_, rfl⟩
      rw [← hq] at hc hss
      obtain ⟨kind, many, most, each⟩ := q
      have HRa : Hid (∀ (j : Nat) u, cs[j]? = some u → wq.cell? ⟨og, oo + k * 12 + j, none⟩ = some u) := fun j u h => HUw.out.cell (hra j u h) id
      have HCs : Hid ((Try.prog.info? 54).map (·.size) = some cs.length) := by show _ = _; rw [sizeO, hc.len]
      obtain ⟨s0, hs0⟩ : ∃ x, x = stK l ks k := ⟨_, rfl⟩
      rw [← hs0] at HZ0 HRd HWr hss
      have HAg := Lib.hid (again_any kind many most each rb rv l s0 cs wq HRd.out Hl.out hc)
      obtain ⟨s1, hs1⟩ : ∃ x, x = stepM kind most each many l s0 := ⟨_, rfl⟩
      have Hss : Hid (stK l ks (k + 1) = s1) := by rw [hs1]; exact hss
      have Hs1 := Lib.hid hs1
      have Hs0 := Lib.hid hs0
      clear h3 h4 h5 hob hc hra hq hss hs1 hs0
      go_wp2_with (first
        | ((with_reducible refine wpList_load_part (o := ⟨some 30, _, _, _, _, _⟩) ?_ _ (.tmp 29) ?_ og (oo + k * 12) ?_ cs _ ?_ Try.underlying54 ?_ HCs.out ?_); rfl; rfl; rfl; (exact HRa.out); rfl))
      refine HAg.out.mono ?_
      rintro e w3 ⟨L, rfl, hLl, hL1, hrd3, hu3, hform⟩
      rw [← Hs1.out] at hrd3 hform
      obtain ⟨LA, hLA⟩ : ∃ x, x = L.toArray := ⟨_, rfl⟩
      rw [← hLA]
      have HLs : Hid ((Try.prog.info? 54).map (·.size) = some LA.size) := by show _ = _; rw [sizeO, hLA]; simp [hLl]
      have HLz : Hid (ZO.size = LA.size) := by show _ = _; rw [hLA]; simp [hLl, ZO]
      have HL1 : Hid (LA.all (·.oneCell') = true) := by show _ = _; rw [hLA]; simpa using hL1
      have HLA := Lib.hid hLA
      have HRd3 := Lib.hid hrd3
      have HU3 := Lib.hid hu3
      have HFo := Lib.hid hform
      clear hLA hLl hL1 hrd3 hu3 hform HAg
      go_wp2_with (first
        | ((with_reducible refine wpList_store_new (o := ⟨none, .store 54 (.tmp 10) (.tmp 31), _, _, _, _⟩) ?_ _ (.tmp 10) (.tmp 31) ?_ w3.heap.size LA ?_ ?_ 54 ZO (heap_alloc_new _ _) HLs.out HLz.out HL1.out ?_); rfl; rfl; rfl; rfl; intro w4 Hg4 Hu4))
      have HU34 : Hid (Upd (fun _ => False) w3 w4) := ((Upd.refl (fun _ => False) w3).alloc _).trans (Hu4.out.mono (fun k _ e => .inr (by omega)))
      have HRd4 : Hid (Rd w4 rb rv l s1) := HRd3.out.upd HU34.out id (fun _ _ => id)
      have HUw4 : Hid (Upd (fun _ => False) w w4) := (HUw.out.trans (HU3.out.mono (fun k _ e => .inr (by have := Hrb.out; omega)))).trans (HU34.out.mono (fun _ _ e => e.elim))
      refine (why_any rb rv l s1 w4 HRd4.out).mono ?_
      rintro e w5 ⟨rfl, hw⟩
      subst hw
      obtain ⟨y, hy⟩ : ∃ y, y = s1.2 := ⟨_, rfl⟩
      rw [← hy]
      by_cases hy0 : y = 0
      · subst hy0
        have Hy := Lib.hid hy
        clear hy
        obtain ⟨a, ha⟩ : ∃ a, s0 = (a, 0) := ⟨s0.1, Prod.ext rfl HZ0.out⟩
        obtain ⟨a', ha', hle, hle', hok⟩ := HFo.out a ha Hy.out.symm
        rw [ha] at HWr
        have hrb := Hrb.out
        have hwb := Hwb.out
        have hwb2 := Hwb2.out
        have hsq := HU.out.size
        have hs3q := HU3.out.size
        have hs34 := HU34.out.size
        have hvlt : ∀ j, own v j → w2.heap.size ≤ j ∧ j < wq.heap.size := fun j hj => ⟨HVo.out j hj, (HWr.out.2.lt j hj).2⟩
        have hwr4 : Wr w4 wb v (l.take a) := (NamesW.Wr.upd HWr.out HU3.out (by omega) (fun j hj => by have := hvlt j hj; omega)) |> fun h => NamesW.Wr.upd h HU34.out id (fun _ _ => id)
        have HLy := Lib.hid (hok w4 wb v (l.take a) (HU34.out.mono (fun _ _ e => e.elim)) hwr4 (by omega) (fun j hj => (hvlt j hj).2) (by
          rw [seg_len l a (a' - a) (by omega), List.length_take]
          have := Hl.out
          omega))
        rw [← HLA.out] at HLy
        clear hwr4 hok
        go_wp2_with (first
          | ((with_reducible refine wpList_load_row (o := ⟨some 38, _, _, _, _, _⟩) ?_ 54 (.tmp 10) ?_ w3.heap.size ?_ 54 LA (0, 0) _ Hg4.out Try.underlying54 ?_ HLs.out ?_); rfl; rfl; rfl; rfl))
        refine HLy.out.mono ?_
        rintro e w6 ⟨rfl, v', hw6, hu6, ho6⟩
        have HREL : Hid (k + 1 ≤ ks.length ∧ Value.int .i64 ((k + 1 : Nat) : Int) = .int .i64 ((k + 1 : Nat) : Int) ∧ (stK l ks (k + 1)).2 = 0 ∧ Rd w6 rb rv l (stK l ks (k + 1)) ∧ Wr w6 wb v' (l.take (stK l ks (k + 1)).1) ∧ (∀ j, own v' j → w2.heap.size ≤ j) ∧ Upd (fun k => k = rb ∨ k = wb) w2 w6) := by
          refine ⟨hkt, rfl, ?_, ?_, ?_, ?_, ?_⟩
          · rw [Hss.out]; exact Hy.out.symm
          · rw [Hss.out]
            exact HRd4.out.upd hu6 (fun e => by
              rcases e with e | e
              · omega
              · have := hvlt rb e; omega) (fun j hj e => by
              have h1 := hwb.2.2 j hj
              rcases e with e | e
              · omega
              · have := hvlt j e; omega)
          · rw [Hss.out, ha']
            have e1 : l.take a' = l.take a ++ seg l a (a' - a) := by rw [← take_seg, show a + (a' - a) = a' by omega]
            show Wr w6 wb v' (l.take a')
            rw [e1]
            exact hw6
          · intro j hj
            rcases ho6 j hj with h | h
            · exact (hvlt j h).1
            · omega
          · refine ((HU.out.trans (HU3.out.mono (fun j _ e => .inl (.inl e)))).trans (HU34.out.mono (fun _ _ e => e.elim))).trans (hu6.mono (fun j _ e => ?_))
            rcases e with e | e
            · exact .inl (.inr e)
            · exact .inr (hvlt j e).1
        clear hw6 hu6 ho6 HLy hvlt
        have hkb := Hkl.out
        go_wp2
        go_roundw
        case rel =>
          rw [show ((k : Int) + 1) = ((k + 1 : Nat) : Int) by omega]
          obtain ⟨g1, _, g3⟩ := HREL.out
          exact ⟨k + 1, v', g1, rfl, g3⟩
        case measure => simp [intOf]; omega
      · have hyn : ¬ s1.2 = 0 := by rw [← hy]; exact hy0
        have hmf : must = false := by
          cases hmm : must with
          | false => rfl
          | true =>
            have h1 := (Hm.out hmm).1 (k + 1) hkt
            rw [Hss.out] at h1
            exact absurd h1 hyn
        subst hmf
        have hyb : (y != 0) = true := by simpa using hy0
        clear hyn hy
        go_wp2_with fail
        go_ret
        exact ⟨rfl, HUw4.out⟩
    · obtain rfl : on = k := by omega
      obtain ⟨a, ha⟩ : ∃ a, stK l ks on = (a, 0) := ⟨(stK l ks on).1, Prod.ext rfl HZ0.out⟩
      rw [ha] at HRd HWr
      have hal : a ≤ l.length := HRd.out.2.2
      have HDn := Lib.hid (done_any rb rv l (a, 0) wq.drew HRd.out.drew (by have := Hl.out; omega))
      by_cases hfull : a = l.length
      · subst hfull
        have hdn : doneM l (l.length, 0) = 0 := by simp [doneM]
        rw [hdn] at HDn
        have htk : l.take l.length = l := List.take_length
        have ha2 : ((l.length, (0 : Int)) : Nat × Int).1 = l.length := rfl
        rw [ha2, htk] at HWr
        obtain ⟨st, hst⟩ : ∃ s : ByteArray, s = ⟨l.toArray⟩ := ⟨_, rfl⟩
        have HK : Hid (∀ w', Upd (fun _ => False) wq w' → (convert 30 9 (.slice ba bn bc)).run Try.prog w' = .ok (.string st) w') := fun w' hu' => by
          have h := (Hs.out.upd HUw.out (fun _ _ => id)).upd hu' (fun _ _ => id)
          rw [hst]
          rw [Hbn.out] at h ⊢
          exact ConvS.conv_sl h
        have hxx : (st.toList == st.toList) = true := by simp
        clear hdn htk ha2 ha hal hlt
        go_wp2_with fail
        have HS_0 : Hid (Upd (fun _ => False) wq wq.drew) := (Upd.refl _ _).drew
        refine wp_region_held_drew (S := Upd (fun _ => False) wq) (by kernel_rfl) HS_0.out (fun _ => ?_)
        refine wpAnyH_take (i := 0) (oi := ⟨some 41, _, _, _, _, _⟩) (v := .pointer (some ⟨rb, 0, none⟩)) rfl (by kernel_rfl) (by kernel_rfl) (by kernel_rfl) (fun _ _ _ h => h) (Or.inl ⟨by rfl, fun w hS => by go_simp⟩) HS_0.out ?_
        try simp only [Act.put, List.setIfInBounds_toArray, List.set_cons_zero, List.set_cons_succ]
        refine wpAnyH_ready (rs := [1]) (by kernel_rfl) (by simp) ?_
        refine AllReadyH.cons rfl (fun K hK => ?_) AllReadyH.nil
        go_simp
        refine HDn.out.mono ?_
        rintro e w5 ⟨rfl, hu_⟩
        have HS_1 : Hid (Upd (fun _ => False) wq w5) := HS_0.out.trans (hu_.mono (fun _ _ e => e.elim))
        clear hu_
        refine hK.out _ _ HS_1.out (fun hHeld => ?_)
        clear hK K hHeld
        try simp only [Act.put, List.setIfInBounds_toArray, List.set_cons_zero, List.set_cons_succ]
        refine wpAnyH_take (i := 2) (oi := ⟨some 43, _, _, _, _, _⟩) (v := .bool false) rfl (by kernel_rfl) (by kernel_rfl) (by kernel_rfl) (fun _ _ _ h => h) (Or.inl ⟨by rfl, fun w hS => by go_simp⟩) HS_1.out ?_
        try simp only [Act.put, List.setIfInBounds_toArray, List.set_cons_zero, List.set_cons_succ]
        refine wpAnyH_take (i := 3) (oi := ⟨some 44, _, _, _, _, _⟩) (v := .bool false) rfl (by kernel_rfl) (by kernel_rfl) (by kernel_rfl) (fun _ _ _ h => h) (Or.inl ⟨by rfl, fun w hS => by go_simp⟩) HS_1.out ?_
        try simp only [Act.put, List.setIfInBounds_toArray, List.set_cons_zero, List.set_cons_succ]
        refine wpAnyH_take (i := 4) (oi := ⟨some 45, _, _, _, _, _⟩) (v := undef) rfl (by kernel_rfl) (by kernel_rfl) (by kernel_rfl) (fun _ _ _ h => h) (Or.inr ⟨by rfl, rfl⟩) HS_1.out ?_
        try simp only [Act.put, List.setIfInBounds_toArray, List.set_cons_zero, List.set_cons_succ]
        refine wpAnyH_take (i := 5) (oi := ⟨some 46, _, _, _, _, _⟩) (v := undef) rfl (by kernel_rfl) (by kernel_rfl) (by kernel_rfl) (fun _ _ _ h => h) (Or.inr ⟨by rfl, rfl⟩) HS_1.out ?_
        try simp only [Act.put, List.setIfInBounds_toArray, List.set_cons_zero, List.set_cons_succ]
        refine wpAnyH_take (i := 6) (oi := ⟨some 47, _, _, _, _, _⟩) (v := .bool false) rfl (by kernel_rfl) (by kernel_rfl) (by kernel_rfl) (fun _ _ _ h => h) (Or.inl ⟨by rfl, fun w hS => by go_simp⟩) HS_1.out ?_
        try simp only [Act.put, List.setIfInBounds_toArray, List.set_cons_zero, List.set_cons_succ]
        refine wpAnyH_take (i := 7) (oi := ⟨some 48, _, _, _, _, _⟩) (v := .bool false) rfl (by kernel_rfl) (by kernel_rfl) (by kernel_rfl) (fun _ _ _ h => h) (Or.inl ⟨by rfl, fun w hS => by go_simp⟩) HS_1.out ?_
        try simp only [Act.put, List.setIfInBounds_toArray, List.set_cons_zero, List.set_cons_succ]
        refine wpAnyH_take (i := 8) (oi := ⟨some 49, _, _, _, _, _⟩) (v := .pointer (some ⟨wb, 0, none⟩)) rfl (by kernel_rfl) (by kernel_rfl) (by kernel_rfl) (fun _ _ _ h => h) (Or.inl ⟨by rfl, fun w hS => by go_simp⟩) HS_1.out ?_
        try simp only [Act.put, List.setIfInBounds_toArray, List.set_cons_zero, List.set_cons_succ]
        refine wpAnyH_take (i := 11) (oi := ⟨some 52, _, _, _, _, _⟩) (v := .slice ba bn bc) rfl (by kernel_rfl) (by kernel_rfl) (by kernel_rfl) (fun _ _ _ h => h) (Or.inl ⟨by rfl, fun w hS => by go_simp⟩) HS_1.out ?_
        try simp only [Act.put, List.setIfInBounds_toArray, List.set_cons_zero, List.set_cons_succ]
        refine wpAnyH_take (i := 12) (oi := ⟨some 53, _, _, _, _, _⟩) (v := .string st) rfl (by kernel_rfl) (by kernel_rfl) (by kernel_rfl) (fun _ _ _ h => h) (Or.inl ⟨by rfl, fun w hS => by have hc := HK.out w hS; go_simp⟩) HS_1.out ?_
        try simp only [Act.put, List.setIfInBounds_toArray, List.set_cons_zero, List.set_cons_succ]
        refine wpAnyH_ready (rs := [9]) (by kernel_rfl) (by simp) ?_
        refine AllReadyH.cons rfl (fun K hK => ?_) AllReadyH.nil
        go_simp
        refine (WriterW.all_any wb v l w5 (NamesW.Wr.upd HWr.out HS_1.out id (fun _ _ => id)) (by have := Hl.out; omega)).mono ?_
        rintro e w6 ⟨v6, rfl, hown6, hu6⟩
        obtain ⟨a6, c6, rfl⟩ := StrW.row_form hown6
        have HS_2 : Hid (Upd (fun _ => False) wq w6) := HS_1.out.trans (hu6.mono (fun _ _ e => e.elim))
        have HK6 : Hid (∀ w', Upd (fun _ => False) w6 w' → (convert 30 9 (.slice a6 l.length c6)).run Try.prog w' = .ok (.string st) w') := fun w' hu' => by
          rw [hst]
          exact ConvS.conv_sl ((WriterW.Sl.of_row hown6).upd hu' (fun _ _ => id))
        clear hown6 hu6
        refine hK.out _ _ HS_2.out (fun hHeld => ?_)
        clear hK K hHeld
        try simp only [Act.put, List.setIfInBounds_toArray, List.set_cons_zero, List.set_cons_succ]
        have HS_3 : Hid (Upd (fun _ => False) w6 w6) := Upd.refl _ _
        refine wpAnyH_narrow (S' := Upd (fun _ => False) w6) (fun w h => HS_2.out.trans (h.mono (fun _ _ e => e.elim))) _ _ _ _ ?_
        refine wpAnyH_take (i := 10) (oi := ⟨some 51, _, _, _, _, _⟩) (v := .string st) rfl (by kernel_rfl) (by kernel_rfl) (by kernel_rfl) (fun _ _ _ h => h) (Or.inl ⟨by rfl, fun w hS => by have hc := HK6.out w hS; go_simp⟩) HS_3.out ?_
        try simp only [Act.put, List.setIfInBounds_toArray, List.set_cons_zero, List.set_cons_succ]
        refine wpAnyH_take (i := 13) (oi := ⟨some 54, _, _, _, _, _⟩) (v := .bool true) rfl (by kernel_rfl) (by kernel_rfl) (by kernel_rfl) (fun _ _ _ h => h) (Or.inl ⟨by rfl, fun w hS => by go_simp⟩) HS_3.out ?_
        try simp only [Act.put, List.setIfInBounds_toArray, List.set_cons_zero, List.set_cons_succ]
        refine wpAnyH_take (i := 14) (oi := ⟨some 55, _, _, _, _, _⟩) (v := .bool true) rfl (by kernel_rfl) (by kernel_rfl) (by kernel_rfl) (fun _ _ _ h => h) (Or.inl ⟨by rfl, fun w hS => by go_simp⟩) HS_3.out ?_
        try simp only [Act.put, List.setIfInBounds_toArray, List.set_cons_zero, List.set_cons_succ]
        refine wpAnyH_take (i := 15) (oi := ⟨some 6, _, _, _, _, _⟩) (v := .bool true) rfl (by kernel_rfl) (by kernel_rfl) (by kernel_rfl) (fun _ _ _ h => h) (Or.inl ⟨by rfl, fun w hS => by go_simp⟩) HS_3.out ?_
        try simp only [Act.put, List.setIfInBounds_toArray, List.set_cons_zero, List.set_cons_succ]
        refine wpAnyH_done (by kernel_rfl) ?_ _
        go_wp2_with fail
        go_ret
        exact ⟨rfl, HUw.out.trans (HS_2.out.mono (fun _ _ e => e.elim))⟩
      · have hdn : doneM l (a, 0) = 8 := by unfold doneM; rw [if_pos rfl, if_pos (show a < l.length by omega)]
        rw [hdn] at HDn
        have hmf : must = false := by
          cases hmm : must with
          | false => rfl
          | true =>
            have h1 := (Hm.out hmm).2
            rw [← Hon.out, ha] at h1
            exact absurd h1 hfull
        subst hmf
        clear hdn ha hal hlt
        go_wp2_with fail
        have HS_0 : Hid (Upd (fun _ => False) wq wq.drew) := (Upd.refl _ _).drew
        refine wp_region_held_drew (S := Upd (fun _ => False) wq) (by kernel_rfl) HS_0.out (fun _ => ?_)
        refine wpAnyH_take (i := 0) (oi := ⟨some 41, _, _, _, _, _⟩) (v := .pointer (some ⟨rb, 0, none⟩)) rfl (by kernel_rfl) (by kernel_rfl) (by kernel_rfl) (fun _ _ _ h => h) (Or.inl ⟨by rfl, fun w hS => by go_simp⟩) HS_0.out ?_
        try simp only [Act.put, List.setIfInBounds_toArray, List.set_cons_zero, List.set_cons_succ]
        refine wpAnyH_ready (rs := [1]) (by kernel_rfl) (by simp) ?_
        refine AllReadyH.cons rfl (fun K hK => ?_) AllReadyH.nil
        go_simp
        refine HDn.out.mono ?_
        rintro e w5 ⟨rfl, hu_⟩
        have HS_1 : Hid (Upd (fun _ => False) wq w5) := HS_0.out.trans (hu_.mono (fun _ _ e => e.elim))
        clear hu_
        refine hK.out _ _ HS_1.out (fun hHeld => ?_)
        clear hK K hHeld
        try simp only [Act.put, List.setIfInBounds_toArray, List.set_cons_zero, List.set_cons_succ]
        refine wpAnyH_take (i := 2) (oi := ⟨some 43, _, _, _, _, _⟩) (v := .bool true) rfl (by kernel_rfl) (by kernel_rfl) (by kernel_rfl) (fun _ _ _ h => h) (Or.inl ⟨by rfl, fun w hS => by go_simp⟩) HS_1.out ?_
        try simp only [Act.put, List.setIfInBounds_toArray, List.set_cons_zero, List.set_cons_succ]
        refine wpAnyH_take (i := 3) (oi := ⟨some 44, _, _, _, _, _⟩) (v := .bool true) rfl (by kernel_rfl) (by kernel_rfl) (by kernel_rfl) (fun _ _ _ h => h) (Or.inl ⟨by rfl, fun w hS => by go_simp⟩) HS_1.out ?_
        try simp only [Act.put, List.setIfInBounds_toArray, List.set_cons_zero, List.set_cons_succ]
        refine wpAnyH_take (i := 4) (oi := ⟨some 45, _, _, _, _, _⟩) (v := .bool false) rfl (by kernel_rfl) (by kernel_rfl) (by kernel_rfl) (fun _ _ _ h => h) (Or.inl ⟨by rfl, fun w hS => by go_simp⟩) HS_1.out ?_
        try simp only [Act.put, List.setIfInBounds_toArray, List.set_cons_zero, List.set_cons_succ]
        refine wpAnyH_take (i := 5) (oi := ⟨some 46, _, _, _, _, _⟩) (v := .bool true) rfl (by kernel_rfl) (by kernel_rfl) (by kernel_rfl) (fun _ _ _ h => h) (Or.inl ⟨by rfl, fun w hS => by go_simp⟩) HS_1.out ?_
        try simp only [Act.put, List.setIfInBounds_toArray, List.set_cons_zero, List.set_cons_succ]
        refine wpAnyH_take (i := 6) (oi := ⟨some 47, _, _, _, _, _⟩) (v := .bool true) rfl (by kernel_rfl) (by kernel_rfl) (by kernel_rfl) (fun _ _ _ h => h) (Or.inl ⟨by rfl, fun w hS => by go_simp⟩) HS_1.out ?_
        try simp only [Act.put, List.setIfInBounds_toArray, List.set_cons_zero, List.set_cons_succ]
        refine wpAnyH_take (i := 7) (oi := ⟨some 48, _, _, _, _, _⟩) (v := .bool true) rfl (by kernel_rfl) (by kernel_rfl) (by kernel_rfl) (fun _ _ _ h => h) (Or.inl ⟨by rfl, fun w hS => by go_simp⟩) HS_1.out ?_
        try simp only [Act.put, List.setIfInBounds_toArray, List.set_cons_zero, List.set_cons_succ]
        refine wpAnyH_take (i := 8) (oi := ⟨some 49, _, _, _, _, _⟩) (v := undef) rfl (by kernel_rfl) (by kernel_rfl) (by kernel_rfl) (fun _ _ _ h => h) (Or.inr ⟨by rfl, rfl⟩) HS_1.out ?_
        try simp only [Act.put, List.setIfInBounds_toArray, List.set_cons_zero, List.set_cons_succ]
        refine wpAnyH_take (i := 9) (oi := ⟨some 50, _, _, _, _, _⟩) (v := undef) rfl (by kernel_rfl) (by kernel_rfl) (by kernel_rfl) (fun _ _ _ h => h) (Or.inr ⟨by rfl, rfl⟩) HS_1.out ?_
        try simp only [Act.put, List.setIfInBounds_toArray, List.set_cons_zero, List.set_cons_succ]
        refine wpAnyH_take (i := 10) (oi := ⟨some 51, _, _, _, _, _⟩) (v := undef) rfl (by kernel_rfl) (by kernel_rfl) (by kernel_rfl) (fun _ _ _ h => h) (Or.inr ⟨by rfl, rfl⟩) HS_1.out ?_
        try simp only [Act.put, List.setIfInBounds_toArray, List.set_cons_zero, List.set_cons_succ]
        refine wpAnyH_take (i := 11) (oi := ⟨some 52, _, _, _, _, _⟩) (v := undef) rfl (by kernel_rfl) (by kernel_rfl) (by kernel_rfl) (fun _ _ _ h => h) (Or.inr ⟨by rfl, rfl⟩) HS_1.out ?_
        try simp only [Act.put, List.setIfInBounds_toArray, List.set_cons_zero, List.set_cons_succ]
        refine wpAnyH_take (i := 12) (oi := ⟨some 53, _, _, _, _, _⟩) (v := undef) rfl (by kernel_rfl) (by kernel_rfl) (by kernel_rfl) (fun _ _ _ h => h) (Or.inr ⟨by rfl, rfl⟩) HS_1.out ?_
        try simp only [Act.put, List.setIfInBounds_toArray, List.set_cons_zero, List.set_cons_succ]
        refine wpAnyH_take (i := 13) (oi := ⟨some 54, _, _, _, _, _⟩) (v := undef) rfl (by kernel_rfl) (by kernel_rfl) (by kernel_rfl) (fun _ _ _ h => h) (Or.inr ⟨by rfl, rfl⟩) HS_1.out ?_
        try simp only [Act.put, List.setIfInBounds_toArray, List.set_cons_zero, List.set_cons_succ]
        refine wpAnyH_take (i := 14) (oi := ⟨some 55, _, _, _, _, _⟩) (v := .bool true) rfl (by kernel_rfl) (by kernel_rfl) (by kernel_rfl) (fun _ _ _ h => h) (Or.inl ⟨by rfl, fun w hS => by go_simp⟩) HS_1.out ?_
        try simp only [Act.put, List.setIfInBounds_toArray, List.set_cons_zero, List.set_cons_succ]
        refine wpAnyH_take (i := 15) (oi := ⟨some 6, _, _, _, _, _⟩) (v := .bool true) rfl (by kernel_rfl) (by kernel_rfl) (by kernel_rfl) (fun _ _ _ h => h) (Or.inl ⟨by rfl, fun w hS => by go_simp⟩) HS_1.out ?_
        try simp only [Act.put, List.setIfInBounds_toArray, List.set_cons_zero, List.set_cons_succ]
        refine wpAnyH_done (by kernel_rfl) ?_ _
        go_wp2_with fail
        go_ret
        exact ⟨rfl, HUw.out.trans (HS_1.out.mono (fun _ _ e => e.elim))⟩
end Go.Proofs.Ytcdgimapkbaboaa.ForthW
