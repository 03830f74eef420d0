/-
  docketbook.Roomy, Intact of digests.
-/
import Derived.Test.YtgcionimhmbgeaaDoorRTrRM
import Derived.Test.YtgcionimhmbgeaaDoorRTrBM
import Derived.Laws.CopyRow
namespace Go.Proofs.YtgcionimhmbgeaaDoorR.TrC
open Go.RowKit Sha TurnW Mem RowW SpreadW MixW HashM CopyW WriteW WriteN EndW SumH NewW EqW CutW OfW LeafW TabK BitsW SpL RefOf TabR TrD TrF IntsW TrR TrB
set_option linter.unusedVariables false
set_option linter.unusedSimpArgs false

def z32 : List UInt8 := List.replicate 32 0
theorem dcells_append (a b : List (List UInt8)) : dcells (a ++ b) = dcells a ++ dcells b := by unfold dcells; simp
theorem dcells_zero (k : Nat) : dcells (List.replicate k z32) = List.replicate (k * 32) (u8 0) := by
  induction k with
  | zero => rfl
  | succ k ih =>
    have e : dcells (List.replicate (k + 1) z32) = z32.map u8 ++ dcells (List.replicate k z32) := by rw [List.replicate_succ]; rfl
    rw [e, ih, show z32.map u8 = List.replicate 32 (u8 0) by unfold z32; rw [List.map_replicate], List.replicate_append_replicate]
    congr 1
    omega
theorem made_zero (k : Nat) : madeCells (Value.agg A32).cells (k * 32) = (dcells (List.replicate k z32)).toArray := by
  rw [dcells_zero]
  apply Array.toList_inj.1
  apply List.ext_getElem?
  intro i
  have hA : (Value.agg A32).cells = A32 := rfl
  have hs : A32.size = 32 := by simp [A32]
  have hg : ∀ j, j < 32 → A32[j]! = u8 0 := fun j hj => by
    have h : A32[j]? = some (u8 0) := by
      unfold A32
      rw [List.getElem?_toArray, List.map_replicate, List.getElem?_replicate, if_pos hj]
    obtain ⟨_, e⟩ := Array.getElem?_eq_some_iff.1 h
    rw [getElem!_pos A32 j (by omega)]
    exact e
  rw [hA]
  rcases Nat.lt_or_ge i (k * 32) with h | h
  · have h2 : (List.replicate (k * 32) (u8 0)).toArray.toList[i]? = some (u8 0) := by rw [List.toList_toArray, List.getElem?_replicate, if_pos h]
    rw [h2]
    simp only [madeCells, Array.toList_map, List.getElem?_map, Array.toList_range]
    rw [List.getElem?_range h]
    simp only [Option.map_some]
    rw [hs, hg _ (Nat.mod_lt _ (by decide))]
  · have h2 : (List.replicate (k * 32) (u8 0)).toArray.toList[i]? = none := by rw [List.toList_toArray, List.getElem?_replicate, if_neg (by omega)]
    rw [h2]
    simp [madeCells, h]
theorem run_copy_ds (w : World) (dT sT ty : TypeId) (g o dLen dCap : Nat) (a : Addr) (sLen sCap : Nat) (cur : Array Value) (t : TypeId) (cs : List Value)
    (hu : Tryd.prog.underlying dT = some (.slice 23))
    (hg : w.heap[g]? = some (.cells cur t (0, 0))) (hn : cs.length = Nat.min sLen dLen * 32)
    (hsrc : ∀ j v, cs[j]? = some v → w.cell? (a.add j) = some v) (hfit : o + cs.length ≤ cur.size) (h1 : ∀ v ∈ cs, v.oneCell' = true) :
    (Builtin.copy_ #[dT, sT] ty #[.slice (some ⟨g, o, none⟩) dLen dCap, .slice (some a) sLen sCap]).run Tryd.prog w =
      .ok (goInt (Nat.min sLen dLen)) (w.setRow g (cur.toList.take o ++ cs ++ cur.toList.drop (o + cs.length)).toArray) := by
  have hl := run_loadCells_list (P := Tryd.prog) w a cs hsrc
  have hst := run_storeCells_at Tryd.prog g o t cs 0 cur w hg (by simpa using hfit) h1
  cases hq : Tryd.prog.info? 23 with
  | none => have h := size32; rw [hq] at h; cases h
  | some i =>
    have hi : i.size = 32 := by have h := size32; rw [hq] at h; simpa using h
    simp [Builtin.copy_, run_underlying hu, Builtin.lenOf, Builtin.firstCells, sizeOf, typeInfo, hq, hi, ← hn, hl, hst]
theorem run_copy_none0 (w : World) (dT sT ty : TypeId) (a : Addr) (dLen dCap cap : Nat) (hu : Tryd.prog.underlying dT = some (.slice 23)) :
    (Builtin.copy_ #[dT, sT] ty #[.slice (some a) dLen dCap, .slice none 0 cap]).run Tryd.prog w = .ok (goInt 0) w := by
  cases hq : Tryd.prog.info? 23 with
  | none => have h := size32; rw [hq] at h; cases h
  | some i => simp [Builtin.copy_, run_underlying hu, Builtin.lenOf, Builtin.firstCells, sizeOf, typeInfo, hq, storeCells]
/-- copy(full, ds): ds at the head of a block of the call's own -/
theorem wpList_copy_ds {w : World} {ops : Array Oper} {rest : List Oper} {o : Oper} {a : Act} {Q : Exit → Act → World → Prop} (hgd : o.guard = none) (d s : Operand)
    (ho : o.op = .call { callee := .builtin .copy, args := #[d, s], argTypes := #[30, 30] })
    (g dLen dCap : Nat) (sp : Option Addr) (sLen sCap : Nat) (hd : a.eval d = .slice (some ⟨g, 0, none⟩) dLen dCap) (hs : a.eval s = .slice sp sLen sCap)
    (cur : List Value) (hg : Row w g 23 cur) (ds : List (List UInt8)) (O : Nat → Prop) (hsl : DsL w (.slice sp sLen sCap) ds O) (hle : sLen ≤ dLen) (hfit : sLen * 32 ≤ cur.length)
    (h : ∀ w', Hid (Row w' g 23 (splice cur 0 (dcells ds))) → Hid (Upd (fun k => k = g) w w') → wpList Tryd.prog ops Q rest (a.put o.dst (goInt sLen)) w') :
    wpList Tryd.prog ops Q (o :: rest) a w := by
  have h32 : ∀ d ∈ ds, d.length = 32 := by obtain ⟨_, _, _, _, _, h3, _⟩ := hsl; exact h3
  have hn : sLen = ds.length := by obtain ⟨_, _, he, _⟩ := hsl; injection he
  have hl := dcells_len ds h32
  refine wpList_plain hgd fun K hK => ?_
  cases sp with
  | none =>
    have h0 : sLen = 0 := by
      obtain ⟨_, _, he, _, _, _, h4, _⟩ := hsl
      injection he with e1
      rw [hn]
      exact h4 e1.symm
    subst h0
    have hrun := run_copy_none0 w 30 30 o.type ⟨g, 0, none⟩ dLen dCap sCap Tryd.underlying30
    unfold Oper.wp
    simp [execOp, ho, resolve, invoke, builtin, hd, hs, hrun, Result.andThen]
    refine hK _ _ (h w ?_ (Upd.refl _ _))
    have e : ds = [] := List.eq_nil_of_length_eq_zero hn.symm
    subst e
    show Row _ _ _ _
    simpa [splice, dcells] using hg
  | some ad =>
    obtain ⟨b, off, spt⟩ := ad
    obtain rfl : spt = none := by
      obtain ⟨_, _, he, _, _, _, _, h5⟩ := hsl
      injection he with e1
      exact (h5 _ e1.symm).1
    have hmin : Nat.min sLen dLen = sLen := Nat.min_eq_left hle
    have hrun := run_copy_ds w 30 30 o.type g 0 dLen dCap ⟨b, off, none⟩ sLen sCap cur.toArray 23 (dcells ds) Tryd.underlying30 hg (by rw [hmin, hl, hn]) (fun j v hv => by
      have hj : j < ds.length * 32 := by have := (List.getElem?_eq_some_iff.1 hv).1; rwa [hl] at this
      have e : j = (j / 32) * 32 + j % 32 := by omega
      rw [e, dcells_at ds h32 _ _ (by omega) (by omega)] at hv
      have := at_range hsl (j / 32) (by omega) (j % 32) v hv
      rw [RowW.add_none, e, ← Nat.add_assoc]
      exact this) (by rw [hl, Nat.zero_add, List.size_toArray, ← hn]; exact hfit) (one_dcells ds)
    rw [hmin] at hrun
    unfold Oper.wp
    simp only [execOp, ho, resolve, invoke, builtin, Sem.run_bind, Sem.run_pure, Result.andThen_ok, List.map_toArray, List.map_cons, List.map_nil, hd, hs, hrun]
    refine hK _ _ (h _ (show Row _ _ _ _ from ?_) (Upd.setRow (Upd.refl _ _) _ _ (.inl rfl)))
    have h2 := Row.setRow hg (splice cur 0 (dcells ds))
    simpa [splice] using h2
/-- ds, marks up to j, zeros -/
def dsub (ds : List (List UInt8)) (m : List UInt8) (j : Nat) : List (List UInt8) := ds ++ List.replicate (j - ds.length) m ++ List.replicate (ds.length + 80 - j) z32
theorem dsub_step (ds : List (List UInt8)) (m : List UInt8) (j : Nat) (h1 : ds.length ≤ j) (h2 : j < ds.length + 80) (h32 : ∀ d ∈ ds, d.length = 32) (hm : m.length = 32) :
    splice (dcells (dsub ds m j)) (j * 32) (m.map u8) = dcells (dsub ds m (j + 1)) := by
  have e1 : dsub ds m j = (ds ++ List.replicate (j - ds.length) m) ++ (z32 :: List.replicate (ds.length + 80 - (j + 1)) z32) := by
    unfold dsub
    rw [show ds.length + 80 - j = (ds.length + 80 - (j + 1)) + 1 by omega, List.replicate_succ]
  have e2 : dsub ds m (j + 1) = (ds ++ List.replicate (j - ds.length) m) ++ (m :: List.replicate (ds.length + 80 - (j + 1)) z32) := by
    unfold dsub
    rw [show j + 1 - ds.length = (j - ds.length) + 1 by omega, List.replicate_succ', ← List.append_assoc, List.append_assoc _ [m]]
    rfl
  have hc : ∀ x r, dcells (x :: r) = x.map u8 ++ dcells r := fun x r => by unfold dcells; simp
  have hl : (dcells (ds ++ List.replicate (j - ds.length) m)).length = j * 32 := by
    rw [dcells_len _ (fun d hd => by
      rcases List.mem_append.1 hd with h | h
      · exact h32 d h
      · rw [(List.mem_replicate.1 h).2, hm]), List.length_append, List.length_replicate]
    congr 1
    omega
  rw [e1, e2, dcells_append (ds ++ List.replicate (j - ds.length) m) (z32 :: _), dcells_append (ds ++ List.replicate (j - ds.length) m) (m :: _), hc, hc]
  unfold splice
  have hz : (z32.map u8).length = 32 := rfl
  rw [List.take_left' hl, List.length_map, hm, List.drop_append, List.drop_eq_nil_of_le (by omega), List.nil_append, hl, Nat.add_sub_cancel_left, List.drop_left' hz]
theorem dsub_first (ds : List (List UInt8)) (m : List UInt8) (h32 : ∀ d ∈ ds, d.length = 32) : splice (dcells (List.replicate (ds.length + 80) z32)) 0 (dcells ds) = dcells (dsub ds m ds.length) := by
  have e : List.replicate (ds.length + 80) z32 = List.replicate ds.length z32 ++ List.replicate 80 z32 := by rw [List.replicate_append_replicate]
  unfold splice dsub
  rw [e, dcells_append, List.take_zero, List.nil_append, Nat.zero_add, Nat.sub_self, List.replicate_zero, List.append_nil, Nat.add_sub_cancel_left, dcells_append, List.drop_left' (by
    rw [dcells_len ds h32, dcells_len _ (fun d hd => by rw [(List.mem_replicate.1 hd).2]; rfl), List.length_replicate])]
theorem dsub_last (ds : List (List UInt8)) (m : List UInt8) : dsub ds m (ds.length + 80) = ds ++ List.replicate 80 m := by
  unfold dsub
  rw [Nat.add_sub_cancel_left, Nat.sub_self, List.replicate_zero, List.append_nil]
theorem dsub_len (ds : List (List UInt8)) (m : List UInt8) (j : Nat) (h1 : ds.length ≤ j) (h2 : j ≤ ds.length + 80) (h32 : ∀ d ∈ ds, d.length = 32) (hm : m.length = 32) : (dcells (dsub ds m j)).length = (ds.length + 80) * 32 := by
  rw [dcells_len]
  · unfold dsub
    simp only [List.length_append, List.length_replicate]
    congr 1
    omega
  · intro d hd
    unfold dsub at hd
    rcases List.mem_append.1 hd with h | h
    · rcases List.mem_append.1 h with h | h
      · exact h32 d h
      · rw [(List.mem_replicate.1 h).2, hm]
    · rw [(List.mem_replicate.1 h).2]; rfl
def LRy (g : Nat) (ds : List (List UInt8)) (m : List UInt8) (w0 : World) (i : Value) (wr : World) : Prop :=
  ∃ j : Nat, ds.length ≤ j ∧ j ≤ ds.length + 80 ∧ i = .int .i64 j ∧ Row wr g 23 (dcells (dsub ds m j)) ∧ Upd (fun k => k = g) w0 wr
def RoomyAt (w : World) (n : Nat) (ds : List (List UInt8)) (m : List UInt8) (e : Ending) (w' : World) : Prop :=
  ∃ g, e = .returned (.slice (some ⟨g, 0, none⟩) (n + 80) (n + 80)) ∧ w.heap.size ≤ g ∧ Row w' g 23 (dcells (ds ++ List.replicate 80 m)) ∧ Upd (fun _ => False) w w'
theorem goInt_eq (n : Nat) : goInt n = .int .i64 (n : Int) := rfl

set_option maxHeartbeats 4000000 in
set_option maxRecDepth 100000 in
theorem roomy_ds (ao : Option Addr) (n cap : Nat) (ds : List (List UInt8)) (O : Nat → Prop) (m : List UInt8) (hm : m.length = 32) (w : World) (hs : DsL w (.slice ao n cap) ds O) (hr : n ≤ 1000) :
    Calls Tryd.prog 17 #[.slice ao n cap, .agg (m.map u8).toArray] w (RoomyAt w n ds m) := by
  have hn : n = ds.length := by obtain ⟨_, _, h, _⟩ := hs; injection h
  have h32 : ∀ d ∈ ds, d.length = 32 := by obtain ⟨_, _, _, _, _, h3, _⟩ := hs; exact h3
  obtain ⟨MC, hMC⟩ : ∃ X, X = m.map u8 := ⟨_, rfl⟩
  rw [← hMC]
  have HMz : Hid ((Tryd.prog.info? 23).map (·.size) = some MC.toArray.size) := by show _ = _; rw [size32, hMC]; simp [hm]
  have HM1 : Hid (MC.toArray.all (·.oneCell') = true) := by show _ = _; rw [hMC]; simpa using one_of m
  have hMl : MC.length = 32 := by rw [hMC, List.length_map, hm]
  obtain ⟨w0, hw0⟩ : ∃ x, x = w.alloc (.cells MC.toArray 23) := ⟨_, rfl⟩
  have hu0 : Upd (fun _ => False) w w0 := by rw [hw0]; exact (Upd.refl _ w).alloc _
  have hb0 : w0.heap[w.heap.size]? = some (.cells MC.toArray 23 (0, 0)) := by rw [hw0]; exact heap_alloc_new w _
  have hs0 : w0.heap.size = w.heap.size + 1 := by rw [hw0]; simp
  obtain ⟨ZC, hZC⟩ : ∃ X, X = madeCells (Value.agg A32).cells ((n + 80) * 32) := ⟨_, rfl⟩
  have hmk : ∀ w : World, (Instr.makeSlice 30 (.int .i64 ((n : Int) + 80)) (.int .i64 ((n : Int) + 80))).run Tryd.prog w = .ok (.slice (some ⟨w.heap.size, 0, none⟩) (n + 80) (n + 80)) (w.alloc (.cells ZC 23)) := by
    intro w
    obtain ⟨i0, hi, hz0, hz1, hz2⟩ := info_parts TrN.infoDz
    have ec : ((n : Int) + 80) = ((n + 80 : Nat) : Int) := by omega
    have h := run_make (P := Tryd.prog) w 30 23 i0 (.agg A32) Tryd.underlying30 hi hz0 .i64 .i64 ((n + 80 : Nat) : Int) ((n + 80 : Nat) : Int) (by omega) (by omega) (by rw [hz2]; omega) (by omega)
    rw [Int.toNat_natCast, hz1, ← hZC] at h
    rw [ec]
    exact h
  obtain ⟨w1, hw1⟩ : ∃ x, x = w0.alloc (.cells ZC 23) := ⟨_, rfl⟩
  have hu1 : Upd (fun _ => False) w w1 := by rw [hw1]; exact hu0.alloc _
  have hrow1 : Row w1 (w.heap.size + 1) 23 (dcells (List.replicate (n + 80) z32)) := by
    show _ = _
    rw [hw1, ← hs0, hZC, made_zero]
    exact heap_alloc_new w0 _
  have hb1 : w1.heap[w.heap.size]? = some (.cells MC.toArray 23 (0, 0)) := by rw [hw1]; exact (Below.heap_alloc _ _ _ (by omega)).trans hb0
  have HS1 := Lib.hid (hs.upd hu1 (fun _ _ => id))
  have HU1 := Lib.hid hu1
  have HRow1 := Lib.hid hrow1
  have HB1 := Lib.hid hb1
  have hfit : n * 32 ≤ (dcells (List.replicate (n + 80) z32)).length := by
    rw [dcells_len _ (fun d hd => by rw [(List.mem_replicate.1 hd).2]; rfl), List.length_replicate]
    omega
  have hle : n ≤ n + 80 := by omega
  have Hfit := Lib.hid hfit
  have HFi : Hid (splice (dcells (List.replicate (n + 80) z32)) 0 (dcells ds) = dcells (dsub ds m ds.length)) := by show _ = _; rw [hn]; exact dsub_first ds m h32
  have Hn := Lib.hid hn
  have H32 := Lib.hid h32
  have Hm := Lib.hid hm
  have HMC := Lib.hid hMC
  have HW1 : Hid (w1 = (w.alloc (.cells MC.toArray 23)).alloc (.cells ZC 23)) := by show _ = _; rw [hw1, hw0]
  clear hs hn h32 hm hMC hw0 hu0 hb0 hs0 hZC hw1 hu1 hrow1 hb1 hfit
  go_enter Tryd.func17, Tryd.ntmps17
  go_wp2_with ((with_reducible refine wpList_copy_ds (o := ⟨some 13, _, _, _, _, _⟩) ?_ (.tmp 11) (.tmp 12) ?_ (w.heap.size + 1) (n + 80) (n + 80) ao n cap ?_ ?_ (dcells (List.replicate (n + 80) z32)) (by rw [← HW1.out]; exact HRow1.out) ds O (by rw [← HW1.out]; exact HS1.out) hle Hfit.out ?_); rfl; rfl; rfl; rfl; intro w2 HR2 HU2)
  obtain ⟨g, hg⟩ : ∃ x, x = w.heap.size + 1 := ⟨_, rfl⟩
  rw [← HW1.out, ← hg] at HU2
  rw [← hg] at HR2 ⊢
  have HRg : Hid (Row w2 g 23 (dcells (dsub ds m ds.length))) := by show Row _ _ _ _; rw [← HFi.out]; exact HR2.out
  have HB2 : Hid (w2.heap[w.heap.size]? = some (.cells MC.toArray 23 (0, 0))) := (HU2.out.block _ (lt_of_block HB1.out) (by omega)).trans HB1.out
  have HUw2 : Hid (Upd (fun _ => False) w w2) := HU1.out.trans (HU2.out.mono (fun k _ e => .inr (by omega)))
  have hgw : w.heap.size < g := by omega
  have HS2 : Hid (LRy g ds m w2 (.int .i64 (n : Int)) w2) := ⟨n, by rw [Hn.out]; exact Nat.le_refl _, by rw [Hn.out]; omega, rfl, by rw [Hn.out]; exact HRg.out, Upd.refl _ _⟩
  clear HR2 HU2 HRg hmk hg HFi HS1 HU1 HRow1 HB1 Hfit HW1
  try rw [goInt_eq]
  go_loopw [6] (fun i wr => LRy g ds m w2 i wr) (fun i _ => (n + 80 - (intOf i).toNat))
  case atStart => exact HS2.out
  case round =>
    clear HS2
    obtain ⟨j, hj1, hj2, rfl, hrow, hu⟩ := hrel
    obtain ⟨wq, rfl⟩ : ∃ x : World, x = wr := ⟨_, rfl⟩
    have HR := Lib.hid hrow
    have HU := Lib.hid hu
    have HJ1 := Lib.hid hj1
    have hj2' : j ≤ n + 80 := by have := Hn.out; omega
    have hgl : g < w2.heap.size ∨ True := .inr trivial
    have HBq : Hid (wq.heap[w.heap.size]? = some (.cells MC.toArray 23 (0, 0))) := (hu.block _ (lt_of_block HB2.out) (by omega)).trans HB2.out
    have HUw : Hid (Upd (fun _ => False) w wq) := HUw2.out.trans (hu.mono (fun k _ e => .inr (by omega)))
    clear hrow hu hj1 hj2 hgl
    by_cases hlt : j < n + 80
    · have hltI : (j : Int) < (n : Int) + 80 := by omega
      have hlen := dsub_len ds m j HJ1.out (by have := Hn.out; omega) H32.out Hm.out
      have HTh : Hid (wq.there g (j * 32) MC.toArray.size) := fun i hi => by
        have hi2 : i < 32 := by rw [List.size_toArray, hMl] at hi; exact hi
        refine ⟨?_, HR.out.frozen _⟩
        rw [HR.out.cell, List.getElem?_eq_getElem (by rw [hlen]; have := Hn.out; omega)]
        rfl
      have HSt : Hid (Row (wq.setCells g (j * 32) MC.toArray.toList) g 23 (dcells (dsub ds m (j + 1)))) := by
        have h := setCells_row g 23 MC (j * 32) wq _ HR.out (by rw [hlen, hMl]; have := Hn.out; omega)
        rw [HMC.out, dsub_step ds m j HJ1.out (by have := Hn.out; omega) H32.out Hm.out, ← HMC.out] at h
        exact h
      have HUs : Hid (Upd (fun k => k = g) wq (wq.setCells g (j * 32) MC.toArray.toList)) := upd_setCells g _ _ _
      clear hlen
      go_wp2_with (first
        | ((with_reducible refine wpList_load_row (o := ⟨some 24, _, _, _, _, _⟩) ?_ 23 (.tmp 3) ?_ w.heap.size ?_ 23 MC.toArray (0, 0) _ HBq.out Tryd.underlying23 ?_ HMz.out ?_); rfl; rfl; rfl; rfl)
        | ((with_reducible refine wpList_store_mid (op := ⟨none, .store 23 (.tmp 25) (.tmp 24), _, _, _, _⟩) ?_ _ (.tmp 25) (.tmp 24) ?_ g (j * 32) MC.toArray ?_ ?_ HTh.out HMz.out HM1.out ?_); rfl; rfl; rfl; rfl))
      obtain ⟨wz, hwz⟩ : ∃ x, x = wq.setCells g (j * 32) MC.toArray.toList := ⟨_, rfl⟩
      rw [← hwz] at HSt HUs
      first | rw [← hwz] | skip
      clear hwz
      go_roundw
      case rel => exact ⟨j + 1, by have := HJ1.out; omega, by have := Hn.out; omega, by go_num, HSt.out, HU.out.trans (HUs.out.mono (fun _ _ e => .inl e))⟩
      case measure => simp [intOf]; omega
    · have HP : Hid (RoomyAt w n ds m (.returned (.slice (some ⟨g, 0, none⟩) (n + 80) (n + 80))) wq) := by
        refine ⟨g, rfl, by omega, ?_, HUw.out⟩
        have h := HR.out
        rw [show j = ds.length + 80 by have := Hn.out; omega, dsub_last] at h
        exact h
      go_wp2
      go_ret
      exact HP.out

/-- behind j: the rest are marks too -/
def LIn (n j0 : Nat) (w0 : World) (i : Value) (wr : World) : Prop := ∃ j : Nat, j0 ≤ j ∧ j ≤ n ∧ i = .int .i64 j ∧ Upd (fun _ => False) w0 wr
set_option maxHeartbeats 4000000 in
set_option maxRecDepth 100000 in
theorem intact_ds (g n : Nat) (ao : Option Addr) (cap : Nat) (ds : List (List UInt8)) (O : Nat → Prop) (m : List UInt8) (hm : m.length = 32) (w : World) (hn : n = ds.length) (hr : n ≤ 1000) (hg : Row w g 23 (dcells (ds ++ List.replicate 80 m))) (hs : DsL w (.slice ao n cap) ds O) :
    Calls Tryd.prog 22 #[.slice (some ⟨g, 0, none⟩) (n + 80) (n + 80), .slice ao n cap, .agg (m.map u8).toArray] w fun e w' => e = .returned (.bool true) ∧ Upd (fun _ => False) w w' := by
  have h32 : ∀ d ∈ ds, d.length = 32 := by obtain ⟨_, _, _, _, _, h3, _⟩ := hs; exact h3
  have h32f : ∀ d ∈ ds ++ List.replicate 80 m, d.length = 32 := fun d hd => by
    rcases List.mem_append.1 hd with h | h
    · exact h32 d h
    · rw [(List.mem_replicate.1 h).2, hm]
  have hcells : ∀ w', Upd (fun _ => False) w w' → ∀ i, i < n + 80 → w'.rangeAt g (0 + i * 32) (((ds ++ List.replicate 80 m).getD i []).map u8) := fun w' hu i hi j v hv => by
    have hj : j < 32 := by
      have := (List.getElem?_eq_some_iff.1 hv).1
      rwa [List.length_map, getD32 h32f i (by rw [List.length_append, List.length_replicate]; omega)] at this
    rw [Nat.zero_add, (hg.upd hu id).cell, dcells_at _ h32f i j (by rw [List.length_append, List.length_replicate]; omega) hj]
    exact hv
  have hfull : ∀ w', Upd (fun _ => False) w w' → DsL w' (.slice (some ⟨g, 0, none⟩) n (n + 80)) ds (fun k => k = g) := fun w' hu => by
    refine ⟨_, _, by rw [← hn], by omega, by unfold maxLen; omega, h32, by simp, fun a ha => ?_⟩
    injection ha with ha
    subst ha
    refine ⟨rfl, fun _ => rfl, fun i hi => ?_⟩
    have h := hcells w' hu i (by omega)
    rw [List.getD_eq_getElem?_getD, List.getElem?_append_left hi, ← List.getD_eq_getElem?_getD] at h
    exact h
  obtain ⟨MC, hMC⟩ : ∃ X, X = m.map u8 := ⟨_, rfl⟩
  rw [← hMC]
  have HMz : Hid ((Tryd.prog.info? 23).map (·.size) = some MC.length) := by show _ = _; rw [size32, hMC]; simp [hm]
  obtain ⟨w0, hw0⟩ : ∃ x, x = w.alloc (.cells MC.toArray 23) := ⟨_, rfl⟩
  have hu0 : Upd (fun _ => False) w w0 := by rw [hw0]; exact (Upd.refl _ w).alloc _
  have hb0 : w0.heap[w.heap.size]? = some (.cells MC.toArray 23 (0, 0)) := by rw [hw0]; exact heap_alloc_new w _
  have HU0 := Lib.hid hu0
  have HB0 := Lib.hid hb0
  have HSm := Lib.hid (same_ds (some ⟨g, 0, none⟩) ao n n (n + 80) cap ds ds _ O w0 (hfull w0 hu0) (hs.upd hu0 (fun _ _ => id)) (by omega))
  have HMk : Hid (∀ w', Upd (fun _ => False) w w' → ∀ i, n ≤ i → i < n + 80 → ∀ (j : Nat) v, MC[j]? = some v → w'.cell? ⟨g, 0 + i * 32 + j, none⟩ = some v) := fun w' hu i h1 h2 j v hv => by
    have h := hcells w' hu i h2 j v
    rw [List.getD_eq_getElem?_getD, List.getElem?_append_right (by omega), List.getElem?_replicate, if_pos (by omega)] at h
    exact h (by show (List.map u8 m)[j]? = some v; rw [← hMC]; exact hv)
  have HQ : Hid (∀ w, (binOp .neq 23 (.agg MC.toArray) (.agg MC.toArray)).run Tryd.prog w = .ok (.bool false) w) := fun w => by rw [hMC, neq_digest m m hm hm]; simp
  have d1 : (((n : Int) + 80) != ((n : Int) + 80)) = false := by simp
  have d2 : ¬ n + 80 < n := by omega
  have d3 : (n : Int) ≤ (n : Int) + 80 := by omega
  clear h32 h32f hcells hfull hMC hg hs hu0 hb0 hm hn
  go_enter Tryd.func22, Tryd.ntmps22
  go_wp2_with fail
  rw [← hw0]
  clear hw0
  refine HSm.out.mono ?_
  rintro e w1 ⟨b, rfl, hb, hu1⟩
  obtain rfl : b = true := by simpa using hb
  have HU1 : Hid (Upd (fun _ => False) w w1) := HU0.out.trans (hu1.mono (fun _ _ e => e.elim))
  have HB1 : Hid (w1.heap[w.heap.size]? = some (.cells MC.toArray 23 (0, 0))) := (hu1.block _ (lt_of_block HB0.out) id).trans HB0.out
  clear hb hu1 HSm
  go_wp2
  go_loopw [7] (fun i wr => LIn (n + 80) n w1 i wr) (fun i _ => (n + 80 - (intOf i).toNat))
  case atStart => exact ⟨n, Nat.le_refl _, by omega, rfl, Upd.refl _ _⟩
  case round =>
    obtain ⟨j, hj0, hj1, rfl, hu⟩ := hrel
    obtain ⟨wq, rfl⟩ : ∃ x : World, x = wr := ⟨_, rfl⟩
    have HU := Lib.hid hu
    have HUw : Hid (Upd (fun _ => False) w wq) := HU1.out.trans (hu.mono (fun _ _ e => e.elim))
    have HBq : Hid (wq.heap[w.heap.size]? = some (.cells MC.toArray 23 (0, 0))) := (hu.block _ (lt_of_block HB1.out) id).trans HB1.out
    clear hu
    by_cases hlt : j < n + 80
    · have hltI : (j : Int) < (n : Int) + 80 := by omega
      have HRa : Hid (∀ w', Upd (fun _ => False) wq w' → ∀ (i : Nat) v, MC[i]? = some v → w'.cell? ⟨g, 0 + j * 32 + i, none⟩ = some v) := fun w' h => HMk.out w' (HUw.out.trans (h.mono (fun _ _ e => e.elim))) j hj0 hlt
      have HRb : Hid (∀ w', Upd (fun _ => False) wq w' → ∀ (i : Nat) v, MC[i]? = some v → w'.cell? ⟨w.heap.size, 0 + i, none⟩ = some v) := fun w' h => TrN.box_range HBq.out h
      go_wp2_with fail
      have HS_0 : Hid (Upd (fun _ => False) wq wq.drew) := (Upd.refl _ _).drew
      refine wp_region_held_drew (S := Upd (fun _ => False) wq) (by kernel_rfl) HS_0.out (fun _ => ?_)
      refine wpAnyH_take (i := 0) (oi := ⟨some 31, _, _, _, _, _⟩) (v := .slice (some ⟨g, 0, none⟩) (n + 80) (n + 80)) rfl (by kernel_rfl) (by kernel_rfl) (by kernel_rfl) (fun _ _ _ h => h) (Or.inl ⟨by rfl, fun w hS => by go_simp⟩) HS_0.out ?_
      try simp only [Act.put, List.setIfInBounds_toArray, List.set_cons_zero, List.set_cons_succ]
      refine wpAnyH_take (i := 1) (oi := ⟨some 32, _, _, _, _, _⟩) (v := .int .i64 (j : Int)) rfl (by kernel_rfl) (by kernel_rfl) (by kernel_rfl) (fun _ _ _ h => h) (Or.inl ⟨by rfl, fun w hS => by go_simp⟩) HS_0.out ?_
      try simp only [Act.put, List.setIfInBounds_toArray, List.set_cons_zero, List.set_cons_succ]
      refine wpAnyH_take (i := 2) (oi := ⟨some 33, _, _, _, _, _⟩) (v := .pointer (some ⟨g, 0 + j * 32, none⟩)) rfl (by kernel_rfl) (by kernel_rfl) (by kernel_rfl) (fun _ _ _ h => h) (Or.inl ⟨by rfl, fun w hS => by go_simp⟩) HS_0.out ?_
      try simp only [Act.put, List.setIfInBounds_toArray, List.set_cons_zero, List.set_cons_succ]
      refine wpAnyH_take (i := 3) (oi := ⟨some 34, _, _, _, _, _⟩) rfl (by kernel_rfl) (by kernel_rfl) (by kernel_rfl) (fun _ _ _ h => h) (yieldsIf_load_mid (by rfl) _ _ rfl (g) (0 + j * 32) rfl MC _ (fun w h => HRa.out w h) Tryd.underlying23 rfl HMz.out) HS_0.out ?_
      try simp only [Act.put, List.setIfInBounds_toArray, List.set_cons_zero, List.set_cons_succ]
      refine wpAnyH_take (i := 4) (oi := ⟨some 35, _, _, _, _, _⟩) rfl (by kernel_rfl) (by kernel_rfl) (by kernel_rfl) (fun _ _ _ h => h) (yieldsIf_load_mid (by rfl) _ _ rfl (w.heap.size) (0) rfl MC _ (fun w9 h => HRb.out w9 h) Tryd.underlying23 rfl HMz.out) HS_0.out ?_
      try simp only [Act.put, List.setIfInBounds_toArray, List.set_cons_zero, List.set_cons_succ]
      refine wpAnyH_take (i := 5) (oi := ⟨some 36, _, _, _, _, _⟩) (v := .bool false) rfl (by kernel_rfl) (by kernel_rfl) (by kernel_rfl) (fun _ _ _ h => h) (Or.inl ⟨by rfl, fun w hS => by have q0 := HQ.out; go_simp⟩) HS_0.out ?_
      try simp only [Act.put, List.setIfInBounds_toArray, List.set_cons_zero, List.set_cons_succ]
      refine wpAnyH_done (by kernel_rfl) ?_ _
      go_wp2
      go_roundw
      case rel => exact ⟨j + 1, by omega, by omega, by go_num, HU.out.trans (HS_0.out.mono (fun _ _ e => e.elim))⟩
      case measure => simp [intOf]; omega
    · go_wp2
      go_ret
      exact ⟨rfl, HUw.out⟩
end Go.Proofs.YtgcionimhmbgeaaDoorR.TrC
