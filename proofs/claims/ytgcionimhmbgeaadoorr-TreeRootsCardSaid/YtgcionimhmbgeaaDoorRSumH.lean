/-
  (*digest.Hasher).Sum, digest.New, digest.Sum.
-/
import Derived.Test.YtgcionimhmbgeaaDoorREndW
namespace Go.Proofs.YtgcionimhmbgeaaDoorR.SumH
open Go.RowKit Sha TurnW Mem RowW SpreadW MixW HashM CopyW WriteW WriteN EndW
set_option linter.unusedVariables false

theorem run_loadVar_part {P : Program} (w : World) (g o : Nat) (ty : TypeId) (cs : List Value) (d : TypeDesc) (hc : ∀ (j : Nat) v, cs[j]? = some v → w.cell? ⟨g, o + j, none⟩ = some v)
    (hu : P.underlying ty = some d) (hd : (match d with | .struct _ | .array _ _ => true | _ => false) = true) (hi : (P.info? ty).map (·.size) = some cs.length) :
    (loadVar ty ⟨g, o, none⟩).run P w = .ok (.agg cs.toArray) w := by
  have hl : (loadCells ⟨g, o, none⟩ cs.length).run P w = .ok cs.toArray w :=
    run_loadCells_list (P := P) w ⟨g, o, none⟩ cs (fun j v hv => by rw [add_none]; exact hc j v hv)
  cases hq : P.info? ty with
  | none => simp [hq] at hi
  | some i =>
    have hs : i.size = cs.length := by simpa [hq] using hi
    have hagg : (isAgg ty).run P w = .ok true w := by
      unfold isAgg
      rw [Sem.run_bind, run_underlying hu w]
      cases d <;> simp_all
    simp [loadVar, Sem.run_bind, hagg, sizeOf, typeInfo, hq, hs, hl]
theorem wp_load_part {P : Program} {o : Oper} {a : Act} {w : World} {K : Act → World → Prop} {Q : Exit → Act → World → Prop} (ty : TypeId) (x : Operand) (ho : o.op = .load ty x)
    (g off : Nat) (hx : a.eval x = .pointer (some ⟨g, off, none⟩)) (cs : List Value) (d : TypeDesc) (hc : ∀ (j : Nat) v, cs[j]? = some v → w.cell? ⟨g, off + j, none⟩ = some v)
    (hu : P.underlying ty = some d) (hd : (match d with | .struct _ | .array _ _ => true | _ => false) = true) (hi : (P.info? ty).map (·.size) = some cs.length)
    (h : K (a.put o.dst (.agg cs.toArray)) w) : o.wp P a w K Q := by
  unfold Oper.wp execOp
  simp only [ho, hx, Instr.loadAt, Instr.sureAddr, Sem.run_bind, Sem.run_pure, Result.andThen_ok, run_loadVar_part w g off ty cs d hc hu hd hi]
  exact h
theorem wpList_load_part {P : Program} {ops : Array Oper} {rest : List Oper} {o : Oper} {a : Act} {w : World} {Q : Exit → Act → World → Prop} (hgd : o.guard = none) (ty : TypeId) (x : Operand) (ho : o.op = .load ty x)
    (g off : Nat) (hx : a.eval x = .pointer (some ⟨g, off, none⟩)) (cs : List Value) (d : TypeDesc) (hc : ∀ (j : Nat) v, cs[j]? = some v → w.cell? ⟨g, off + j, none⟩ = some v)
    (hu : P.underlying ty = some d) (hd : (match d with | .struct _ | .array _ _ => true | _ => false) = true) (hi : (P.info? ty).map (·.size) = some cs.length)
    (h : wpList P ops Q rest (a.put o.dst (.agg cs.toArray)) w) : wpList P ops Q (o :: rest) a w :=
  wpList_plain hgd fun _ hK => wp_load_part ty x ho g off hx cs d hc hu hd hi (hK _ _ h)
theorem size73 : (Tryd.prog.info? 135).map (·.size) = some 73 := by kernel_rfl
theorem size8 : (Tryd.prog.info? 112).map (·.size) = some 8 := by kernel_rfl
theorem size32 : (Tryd.prog.info? 23).map (·.size) = some 32 := by kernel_rfl
def AH : Array Value := (((List.replicate 8 (0 : UInt32)).map W) ++ (((List.replicate 64 (0 : UInt8)).map u8) ++ [Value.int .u64 0])).toArray
theorem zeroH (w : World) : (zeroValue 135).run Tryd.prog w = .ok (.agg AH) w := by kernel_rfl
def AD : Array Value := ((List.replicate 32 (0 : UInt8)).map u8).toArray
theorem zeroD (w : World) : (zeroValue 23).run Tryd.prog w = .ok (.agg AD) w := by kernel_rfl

def osub (st : St) (j : Nat) : List UInt8 := (out st).take (4 * j) ++ List.replicate (32 - 4 * j) 0
def LS (D R : Nat) (w0 : World) (st : St) (i : Value) (wr : World) : Prop :=
  ∃ j : Nat, j ≤ 8 ∧ i = .int .i64 j ∧ Row wr D 23 ((osub st j).map u8) ∧ Row wr R 23 ((List.replicate 32 (0 : UInt8)).map u8) ∧ Upd (fun _ => False) w0 wr
def bx (x : UInt32) (k : Nat) : UInt8 := UInt8.ofNat (x.toNat / 2 ^ k)
def b0 (x : UInt32) : UInt8 := UInt8.ofNat x.toNat
theorem v_bx (x : UInt32) (k : Nat) : Value.int .u8 (U (sr x k) % 256) = u8 (bx x k) := by
  unfold bx
  rw [u8_ofNat]
  congr 2
  rw [← U_shr]
  unfold U
  rw [Int.natCast_ediv, Int.natCast_pow]
  rfl
theorem v_b0 (x : UInt32) : Value.int .u8 (U x % 256) = u8 (b0 x) := by
  unfold b0
  rw [u8_ofNat]
  rfl

set_option maxHeartbeats 4000000 in
set_option maxRecDepth 100000 in
theorem sum_any (b : Nat) (l : List UInt8) (w : World) (hh : Hs w b l) (hk : Kw w) (hg : 2 < w.heap.size) (hlen : l.length < 576460752303423488) :
    Calls Tryd.prog 90 #[.pointer (some ⟨b, 0, none⟩)] w fun e w' => e = .returned (.agg ((sha l).map u8).toArray) ∧ Upd (fun _ => False) w w' := by
  have Hh := Lib.hid hh
  have Hk := Lib.hid hk
  have Hlen := Lib.hid hlen
  have Hg := Lib.hid hg
  have hbs := hh.lt
  clear hh hk hlen hg
  have HA : Hid (∃ cs : List Value, Row w b 135 cs ∧ cs.length = 73 ∧ (∀ v ∈ cs, v.oneCell' = true) ∧ ∀ w' g, Row w' g 135 cs → Hs w' g l) := by
    obtain ⟨q, t, blk, h1, h2, h3, h4, h5, h6⟩ := Hh.out
    refine ⟨_, h6, hcells_len _ _ _ h5, ?_, fun w' g h => ⟨q, t, blk, h1, h2, h3, h4, h5, h⟩⟩
    intro v hv
    unfold hcells at hv
    rcases List.mem_append.1 hv with hv | hv
    · obtain ⟨x, _, rfl⟩ := List.mem_map.1 hv
      rfl
    · rcases List.mem_append.1 hv with hv | hv
      · exact one_of _ v hv
      · rw [List.mem_singleton.1 hv]; rfl
  obtain ⟨cs, hr, hc73, hc1, hcH⟩ := HA.out
  have HR := Lib.hid hr
  have HX1 : Hid ((cs.toArray).all (·.oneCell') = true) := by show _ = _; simpa using hc1
  have HXs : Hid ((Tryd.prog.info? 135).map (·.size) = some cs.toArray.size) := by show _ = _; rw [size73]; simp [hc73]
  have Hc73 := Lib.hid hc73
  have HcH := Lib.hid hcH
  clear hr hc73 hc1 hcH HA
  obtain ⟨X, hX⟩ : ∃ X, X = cs.toArray := ⟨_, rfl⟩
  rw [← hX] at HX1 HXs
  have HR' : Hid (w.heap[b]? = some (.cells X 135 (0, 0))) := by show _ = _; rw [hX]; exact HR.out
  have HX := Lib.hid hX
  clear hX
  have hz := zeroH
  have hz' := zeroD
  go_enter Tryd.func90, Tryd.ntmps90
  go_wp2_with (first
    | ((with_reducible refine wpList_load_row (o := ⟨some 9, _, _, _, _, _⟩) ?_ _ (.tmp 8) ?_ b ?_ 135 X (0, 0) _ ?_ Tryd.underlying135 ?_ HXs.out ?_); rfl; rfl; rfl; (exact (Below.heap_alloc w _ b hbs).trans HR'.out); rfl)
    | ((with_reducible refine wpList_store_new (o := ⟨none, .store 135 (.tmp 3) (.tmp 9), _, _, _, _⟩) ?_ _ (.tmp 3) (.tmp 9) ?_ (w.heap.size + 1) X ?_ ?_ 135 AH ?_ HXs.out ?_ HX1.out ?_); rfl; rfl; rfl; rfl; (exact heap_alloc2_new _ _ _); (rw [HX.out]; simp [AH, Hc73.out]); intro w2 Hg2 Hu2))
  have hu2 : Upd (fun _ => False) w w2 := (((Upd.refl _ w).alloc _).alloc _).trans (Hu2.out.mono (fun k hk e => .inr (by omega)))
  have HU2 := Lib.hid hu2
  have hH2 : Hs w2 (w.heap.size + 1) l := HcH.out w2 _ (by have h := Hg2.out; rw [HX.out] at h; exact h)
  have HR0 : Hid (Row w2 w.heap.size 23 ((List.replicate 32 (0 : UInt8)).map u8)) :=
    ((Row.new w 23 ((List.replicate 32 (0 : UInt8)).map u8)).alloc _).upd Hu2.out (by omega)
  have HE := Lib.hid (end_any (w.heap.size + 1) l w2 hH2 (by have := Hg.out; omega) (Hk.out.upd hu2 id) Hlen.out)
  clear hu2 hH2 Hg2 Hu2
  refine HE.out.mono ?_
  rintro e w3 ⟨rfl, h3, u3⟩
  have HR3 : Hid (Row w3 w.heap.size 23 ((List.replicate 32 (0 : UInt8)).map u8)) := HR0.out.upd u3 (by omega)
  have HU3 : Hid (Upd (fun _ => False) w w3) := HU2.out.trans (u3.mono (fun k _ e => .inr (by omega)))
  have HH3 := Lib.hid h3
  have hs3 : w.heap.size + 1 < w3.heap.size := h3.lt
  clear u3 h3
  obtain ⟨st, hst⟩ : ∃ st, st = stq (pad l) := ⟨_, rfl⟩
  have HC : Hid (∀ (j : Nat) v, ((ws st).map W)[j]? = some v → w3.cell? ⟨w.heap.size + 1, j, none⟩ = some v) := by
    obtain ⟨q, t, blk, h1, h2, h3, h4, h5, h6⟩ := HH3.out
    have hp : (pad l).length % 64 = 0 := by simp [pad, len8]; omega
    have ht : t = [] := by
      have := congrArg List.length h1
      rw [List.length_append] at this
      exact List.eq_nil_of_length_eq_zero (by omega)
    subst ht
    rw [List.append_nil] at h1
    intro j v hv
    rw [h6.cell, ← h1, ← hst]
    unfold hcells
    rw [List.getElem?_append_left (List.getElem?_eq_some_iff.1 hv).1]
    exact hv
  have Hst := Lib.hid hst
  clear hst
  have hz := zeroD
  have HI8 : Hid ((Tryd.prog.info? 112).map (·.size) = some ((ws st).map W).length) := size8
  go_wp2_with (first
    | ((with_reducible refine wpList_load_part (o := ⟨some 12, _, _, _, _, _⟩) ?_ _ (.tmp 11) ?_ (w.heap.size + 1) 0 ?_ ((ws st).map W) _ ?_ Tryd.underlying112 ?_ HI8.out ?_); rfl; rfl; rfl; (intro j v hv; rw [Nat.zero_add, World.cell?_alloc_lt _ _ _ hs3]; exact HC.out j v hv); rfl))
  have HS : Hid (LS w3.heap.size w.heap.size w st (.int .i64 0) (w3.alloc (.cells AD 23))) :=
    ⟨0, by omega, rfl, Row.new w3 23 ((List.replicate 32 (0 : UInt8)).map u8), HR3.out.alloc _, HU3.out.alloc _⟩
  have hs0 : w.heap.size ≤ w3.heap.size := by omega
  have hs1 : w.heap.size ≠ w3.heap.size := by omega
  clear hz HC
  go_loopw [13] (fun i wr => LS w3.heap.size w.heap.size w st i wr) (fun i _ => (8 - intOf i).toNat)
  case atStart => exact HS.out
  case round =>
    clear HS
    obtain ⟨j, hj, rfl, hr, hr0, hu⟩ := hrel
    by_cases hlt : j < 8
    · have hjs : j = 0 ∨ j = 1 ∨ j = 2 ∨ j = 3 ∨ j = 4 ∨ j = 5 ∨ j = 6 ∨ j = 7 := by omega
      clear hlt hj
      rcases hjs with rfl | rfl | rfl | rfl | rfl | rfl | rfl | rfl
      · have ix : ∀ w, (Instr.index 112 (.agg (List.map W (ws st)).toArray) (.int .i64 0)).run Tryd.prog w = .ok (.int .u32 (U st.a)) w := fun _ => by kernel_rfl
        have c0 : wr.cell? ⟨w3.heap.size, 0, none⟩ = some (u8 0) := hr.cell 0
        have f0 := hr.frozen 0
        have c1 : wr.cell? ⟨w3.heap.size, 1, none⟩ = some (u8 0) := hr.cell 1
        have f1 := hr.frozen 1
        have c2 : wr.cell? ⟨w3.heap.size, 2, none⟩ = some (u8 0) := hr.cell 2
        have f2 := hr.frozen 2
        have c3 : wr.cell? ⟨w3.heap.size, 3, none⟩ = some (u8 0) := hr.cell 3
        have f3 := hr.frozen 3
        have HN : Hid (Row ((((wr.setCell ⟨w3.heap.size, 0, none⟩ (u8 (bx st.a 24))).setCell ⟨w3.heap.size, 1, none⟩ (u8 (bx st.a 16))).setCell ⟨w3.heap.size, 2, none⟩ (u8 (bx st.a 8))).setCell ⟨w3.heap.size, 3, none⟩ (u8 (b0 st.a))) w3.heap.size 23 ((osub st (0 + 1)).map u8)) :=
          show Row _ _ _ _ from (((hr.set 0 (u8 (bx st.a 24))).set 1 (u8 (bx st.a 16))).set 2 (u8 (bx st.a 8))).set 3 (u8 (b0 st.a))
        have HN0 : Hid (Row ((((wr.setCell ⟨w3.heap.size, 0, none⟩ (u8 (bx st.a 24))).setCell ⟨w3.heap.size, 1, none⟩ (u8 (bx st.a 16))).setCell ⟨w3.heap.size, 2, none⟩ (u8 (bx st.a 8))).setCell ⟨w3.heap.size, 3, none⟩ (u8 (b0 st.a))) w.heap.size 23 ((List.replicate 32 (0 : UInt8)).map u8)) :=
          (((hr0.far hs1 _).far hs1 _).far hs1 _).far hs1 _
        have HU : Hid (Upd (fun _ => False) w ((((wr.setCell ⟨w3.heap.size, 0, none⟩ (u8 (bx st.a 24))).setCell ⟨w3.heap.size, 1, none⟩ (u8 (bx st.a 16))).setCell ⟨w3.heap.size, 2, none⟩ (u8 (bx st.a 8))).setCell ⟨w3.heap.size, 3, none⟩ (u8 (b0 st.a)))) :=
          (((hu.put _ _ (.inr hs0) _).put _ _ (.inr hs0) _).put _ _ (.inr hs0) _).put _ _ (.inr hs0) _
        clear hr hr0 hu
        rw [show ((0 : Nat) : Int) = 0 from rfl]
        go_wp2
        go_roundw
        case rel =>
          rw [v_bx, v_bx, v_bx, v_b0]
          exact ⟨0 + 1, by omega, rfl, HN.out, HN0.out, HU.out⟩
        case measure => simp [intOf]
      · have ix : ∀ w, (Instr.index 112 (.agg (List.map W (ws st)).toArray) (.int .i64 1)).run Tryd.prog w = .ok (.int .u32 (U st.b)) w := fun _ => by kernel_rfl
        have c0 : wr.cell? ⟨w3.heap.size, 4, none⟩ = some (u8 0) := hr.cell 4
        have f0 := hr.frozen 4
        have c1 : wr.cell? ⟨w3.heap.size, 5, none⟩ = some (u8 0) := hr.cell 5
        have f1 := hr.frozen 5
        have c2 : wr.cell? ⟨w3.heap.size, 6, none⟩ = some (u8 0) := hr.cell 6
        have f2 := hr.frozen 6
        have c3 : wr.cell? ⟨w3.heap.size, 7, none⟩ = some (u8 0) := hr.cell 7
        have f3 := hr.frozen 7
        have HN : Hid (Row ((((wr.setCell ⟨w3.heap.size, 4, none⟩ (u8 (bx st.b 24))).setCell ⟨w3.heap.size, 5, none⟩ (u8 (bx st.b 16))).setCell ⟨w3.heap.size, 6, none⟩ (u8 (bx st.b 8))).setCell ⟨w3.heap.size, 7, none⟩ (u8 (b0 st.b))) w3.heap.size 23 ((osub st (1 + 1)).map u8)) :=
          show Row _ _ _ _ from (((hr.set 4 (u8 (bx st.b 24))).set 5 (u8 (bx st.b 16))).set 6 (u8 (bx st.b 8))).set 7 (u8 (b0 st.b))
        have HN0 : Hid (Row ((((wr.setCell ⟨w3.heap.size, 4, none⟩ (u8 (bx st.b 24))).setCell ⟨w3.heap.size, 5, none⟩ (u8 (bx st.b 16))).setCell ⟨w3.heap.size, 6, none⟩ (u8 (bx st.b 8))).setCell ⟨w3.heap.size, 7, none⟩ (u8 (b0 st.b))) w.heap.size 23 ((List.replicate 32 (0 : UInt8)).map u8)) :=
          (((hr0.far hs1 _).far hs1 _).far hs1 _).far hs1 _
        have HU : Hid (Upd (fun _ => False) w ((((wr.setCell ⟨w3.heap.size, 4, none⟩ (u8 (bx st.b 24))).setCell ⟨w3.heap.size, 5, none⟩ (u8 (bx st.b 16))).setCell ⟨w3.heap.size, 6, none⟩ (u8 (bx st.b 8))).setCell ⟨w3.heap.size, 7, none⟩ (u8 (b0 st.b)))) :=
          (((hu.put _ _ (.inr hs0) _).put _ _ (.inr hs0) _).put _ _ (.inr hs0) _).put _ _ (.inr hs0) _
        clear hr hr0 hu
        rw [show ((1 : Nat) : Int) = 1 from rfl]
        go_wp2
        go_roundw
        case rel =>
          rw [v_bx, v_bx, v_bx, v_b0]
          exact ⟨1 + 1, by omega, rfl, HN.out, HN0.out, HU.out⟩
        case measure => simp [intOf]
      · have ix : ∀ w, (Instr.index 112 (.agg (List.map W (ws st)).toArray) (.int .i64 2)).run Tryd.prog w = .ok (.int .u32 (U st.c)) w := fun _ => by kernel_rfl
        have c0 : wr.cell? ⟨w3.heap.size, 8, none⟩ = some (u8 0) := hr.cell 8
        have f0 := hr.frozen 8
        have c1 : wr.cell? ⟨w3.heap.size, 9, none⟩ = some (u8 0) := hr.cell 9
        have f1 := hr.frozen 9
        have c2 : wr.cell? ⟨w3.heap.size, 10, none⟩ = some (u8 0) := hr.cell 10
        have f2 := hr.frozen 10
        have c3 : wr.cell? ⟨w3.heap.size, 11, none⟩ = some (u8 0) := hr.cell 11
        have f3 := hr.frozen 11
        have HN : Hid (Row ((((wr.setCell ⟨w3.heap.size, 8, none⟩ (u8 (bx st.c 24))).setCell ⟨w3.heap.size, 9, none⟩ (u8 (bx st.c 16))).setCell ⟨w3.heap.size, 10, none⟩ (u8 (bx st.c 8))).setCell ⟨w3.heap.size, 11, none⟩ (u8 (b0 st.c))) w3.heap.size 23 ((osub st (2 + 1)).map u8)) :=
          show Row _ _ _ _ from (((hr.set 8 (u8 (bx st.c 24))).set 9 (u8 (bx st.c 16))).set 10 (u8 (bx st.c 8))).set 11 (u8 (b0 st.c))
        have HN0 : Hid (Row ((((wr.setCell ⟨w3.heap.size, 8, none⟩ (u8 (bx st.c 24))).setCell ⟨w3.heap.size, 9, none⟩ (u8 (bx st.c 16))).setCell ⟨w3.heap.size, 10, none⟩ (u8 (bx st.c 8))).setCell ⟨w3.heap.size, 11, none⟩ (u8 (b0 st.c))) w.heap.size 23 ((List.replicate 32 (0 : UInt8)).map u8)) :=
          (((hr0.far hs1 _).far hs1 _).far hs1 _).far hs1 _
        have HU : Hid (Upd (fun _ => False) w ((((wr.setCell ⟨w3.heap.size, 8, none⟩ (u8 (bx st.c 24))).setCell ⟨w3.heap.size, 9, none⟩ (u8 (bx st.c 16))).setCell ⟨w3.heap.size, 10, none⟩ (u8 (bx st.c 8))).setCell ⟨w3.heap.size, 11, none⟩ (u8 (b0 st.c)))) :=
          (((hu.put _ _ (.inr hs0) _).put _ _ (.inr hs0) _).put _ _ (.inr hs0) _).put _ _ (.inr hs0) _
        clear hr hr0 hu
        rw [show ((2 : Nat) : Int) = 2 from rfl]
        go_wp2
        go_roundw
        case rel =>
          rw [v_bx, v_bx, v_bx, v_b0]
          exact ⟨2 + 1, by omega, rfl, HN.out, HN0.out, HU.out⟩
        case measure => simp [intOf]
      · have ix : ∀ w, (Instr.index 112 (.agg (List.map W (ws st)).toArray) (.int .i64 3)).run Tryd.prog w = .ok (.int .u32 (U st.d)) w := fun _ => by kernel_rfl
        have c0 : wr.cell? ⟨w3.heap.size, 12, none⟩ = some (u8 0) := hr.cell 12
        have f0 := hr.frozen 12
        have c1 : wr.cell? ⟨w3.heap.size, 13, none⟩ = some (u8 0) := hr.cell 13
        have f1 := hr.frozen 13
        have c2 : wr.cell? ⟨w3.heap.size, 14, none⟩ = some (u8 0) := hr.cell 14
        have f2 := hr.frozen 14
        have c3 : wr.cell? ⟨w3.heap.size, 15, none⟩ = some (u8 0) := hr.cell 15
        have f3 := hr.frozen 15
        have HN : Hid (Row ((((wr.setCell ⟨w3.heap.size, 12, none⟩ (u8 (bx st.d 24))).setCell ⟨w3.heap.size, 13, none⟩ (u8 (bx st.d 16))).setCell ⟨w3.heap.size, 14, none⟩ (u8 (bx st.d 8))).setCell ⟨w3.heap.size, 15, none⟩ (u8 (b0 st.d))) w3.heap.size 23 ((osub st (3 + 1)).map u8)) :=
          show Row _ _ _ _ from (((hr.set 12 (u8 (bx st.d 24))).set 13 (u8 (bx st.d 16))).set 14 (u8 (bx st.d 8))).set 15 (u8 (b0 st.d))
        have HN0 : Hid (Row ((((wr.setCell ⟨w3.heap.size, 12, none⟩ (u8 (bx st.d 24))).setCell ⟨w3.heap.size, 13, none⟩ (u8 (bx st.d 16))).setCell ⟨w3.heap.size, 14, none⟩ (u8 (bx st.d 8))).setCell ⟨w3.heap.size, 15, none⟩ (u8 (b0 st.d))) w.heap.size 23 ((List.replicate 32 (0 : UInt8)).map u8)) :=
          (((hr0.far hs1 _).far hs1 _).far hs1 _).far hs1 _
        have HU : Hid (Upd (fun _ => False) w ((((wr.setCell ⟨w3.heap.size, 12, none⟩ (u8 (bx st.d 24))).setCell ⟨w3.heap.size, 13, none⟩ (u8 (bx st.d 16))).setCell ⟨w3.heap.size, 14, none⟩ (u8 (bx st.d 8))).setCell ⟨w3.heap.size, 15, none⟩ (u8 (b0 st.d)))) :=
          (((hu.put _ _ (.inr hs0) _).put _ _ (.inr hs0) _).put _ _ (.inr hs0) _).put _ _ (.inr hs0) _
        clear hr hr0 hu
        rw [show ((3 : Nat) : Int) = 3 from rfl]
        go_wp2
        go_roundw
        case rel =>
          rw [v_bx, v_bx, v_bx, v_b0]
          exact ⟨3 + 1, by omega, rfl, HN.out, HN0.out, HU.out⟩
        case measure => simp [intOf]
      · have ix : ∀ w, (Instr.index 112 (.agg (List.map W (ws st)).toArray) (.int .i64 4)).run Tryd.prog w = .ok (.int .u32 (U st.e)) w := fun _ => by kernel_rfl
        have c0 : wr.cell? ⟨w3.heap.size, 16, none⟩ = some (u8 0) := hr.cell 16
        have f0 := hr.frozen 16
        have c1 : wr.cell? ⟨w3.heap.size, 17, none⟩ = some (u8 0) := hr.cell 17
        have f1 := hr.frozen 17
        have c2 : wr.cell? ⟨w3.heap.size, 18, none⟩ = some (u8 0) := hr.cell 18
        have f2 := hr.frozen 18
        have c3 : wr.cell? ⟨w3.heap.size, 19, none⟩ = some (u8 0) := hr.cell 19
        have f3 := hr.frozen 19
        have HN : Hid (Row ((((wr.setCell ⟨w3.heap.size, 16, none⟩ (u8 (bx st.e 24))).setCell ⟨w3.heap.size, 17, none⟩ (u8 (bx st.e 16))).setCell ⟨w3.heap.size, 18, none⟩ (u8 (bx st.e 8))).setCell ⟨w3.heap.size, 19, none⟩ (u8 (b0 st.e))) w3.heap.size 23 ((osub st (4 + 1)).map u8)) :=
          show Row _ _ _ _ from (((hr.set 16 (u8 (bx st.e 24))).set 17 (u8 (bx st.e 16))).set 18 (u8 (bx st.e 8))).set 19 (u8 (b0 st.e))
        have HN0 : Hid (Row ((((wr.setCell ⟨w3.heap.size, 16, none⟩ (u8 (bx st.e 24))).setCell ⟨w3.heap.size, 17, none⟩ (u8 (bx st.e 16))).setCell ⟨w3.heap.size, 18, none⟩ (u8 (bx st.e 8))).setCell ⟨w3.heap.size, 19, none⟩ (u8 (b0 st.e))) w.heap.size 23 ((List.replicate 32 (0 : UInt8)).map u8)) :=
          (((hr0.far hs1 _).far hs1 _).far hs1 _).far hs1 _
        have HU : Hid (Upd (fun _ => False) w ((((wr.setCell ⟨w3.heap.size, 16, none⟩ (u8 (bx st.e 24))).setCell ⟨w3.heap.size, 17, none⟩ (u8 (bx st.e 16))).setCell ⟨w3.heap.size, 18, none⟩ (u8 (bx st.e 8))).setCell ⟨w3.heap.size, 19, none⟩ (u8 (b0 st.e)))) :=
          (((hu.put _ _ (.inr hs0) _).put _ _ (.inr hs0) _).put _ _ (.inr hs0) _).put _ _ (.inr hs0) _
        clear hr hr0 hu
        rw [show ((4 : Nat) : Int) = 4 from rfl]
        go_wp2
        go_roundw
        case rel =>
          rw [v_bx, v_bx, v_bx, v_b0]
          exact ⟨4 + 1, by omega, rfl, HN.out, HN0.out, HU.out⟩
        case measure => simp [intOf]
      · have ix : ∀ w, (Instr.index 112 (.agg (List.map W (ws st)).toArray) (.int .i64 5)).run Tryd.prog w = .ok (.int .u32 (U st.f)) w := fun _ => by kernel_rfl
        have c0 : wr.cell? ⟨w3.heap.size, 20, none⟩ = some (u8 0) := hr.cell 20
        have f0 := hr.frozen 20
        have c1 : wr.cell? ⟨w3.heap.size, 21, none⟩ = some (u8 0) := hr.cell 21
        have f1 := hr.frozen 21
        have c2 : wr.cell? ⟨w3.heap.size, 22, none⟩ = some (u8 0) := hr.cell 22
        have f2 := hr.frozen 22
        have c3 : wr.cell? ⟨w3.heap.size, 23, none⟩ = some (u8 0) := hr.cell 23
        have f3 := hr.frozen 23
        have HN : Hid (Row ((((wr.setCell ⟨w3.heap.size, 20, none⟩ (u8 (bx st.f 24))).setCell ⟨w3.heap.size, 21, none⟩ (u8 (bx st.f 16))).setCell ⟨w3.heap.size, 22, none⟩ (u8 (bx st.f 8))).setCell ⟨w3.heap.size, 23, none⟩ (u8 (b0 st.f))) w3.heap.size 23 ((osub st (5 + 1)).map u8)) :=
          show Row _ _ _ _ from (((hr.set 20 (u8 (bx st.f 24))).set 21 (u8 (bx st.f 16))).set 22 (u8 (bx st.f 8))).set 23 (u8 (b0 st.f))
        have HN0 : Hid (Row ((((wr.setCell ⟨w3.heap.size, 20, none⟩ (u8 (bx st.f 24))).setCell ⟨w3.heap.size, 21, none⟩ (u8 (bx st.f 16))).setCell ⟨w3.heap.size, 22, none⟩ (u8 (bx st.f 8))).setCell ⟨w3.heap.size, 23, none⟩ (u8 (b0 st.f))) w.heap.size 23 ((List.replicate 32 (0 : UInt8)).map u8)) :=
          (((hr0.far hs1 _).far hs1 _).far hs1 _).far hs1 _
        have HU : Hid (Upd (fun _ => False) w ((((wr.setCell ⟨w3.heap.size, 20, none⟩ (u8 (bx st.f 24))).setCell ⟨w3.heap.size, 21, none⟩ (u8 (bx st.f 16))).setCell ⟨w3.heap.size, 22, none⟩ (u8 (bx st.f 8))).setCell ⟨w3.heap.size, 23, none⟩ (u8 (b0 st.f)))) :=
          (((hu.put _ _ (.inr hs0) _).put _ _ (.inr hs0) _).put _ _ (.inr hs0) _).put _ _ (.inr hs0) _
        clear hr hr0 hu
        rw [show ((5 : Nat) : Int) = 5 from rfl]
        go_wp2
        go_roundw
        case rel =>
          rw [v_bx, v_bx, v_bx, v_b0]
          exact ⟨5 + 1, by omega, rfl, HN.out, HN0.out, HU.out⟩
        case measure => simp [intOf]
      · have ix : ∀ w, (Instr.index 112 (.agg (List.map W (ws st)).toArray) (.int .i64 6)).run Tryd.prog w = .ok (.int .u32 (U st.g)) w := fun _ => by kernel_rfl
        have c0 : wr.cell? ⟨w3.heap.size, 24, none⟩ = some (u8 0) := hr.cell 24
        have f0 := hr.frozen 24
        have c1 : wr.cell? ⟨w3.heap.size, 25, none⟩ = some (u8 0) := hr.cell 25
        have f1 := hr.frozen 25
        have c2 : wr.cell? ⟨w3.heap.size, 26, none⟩ = some (u8 0) := hr.cell 26
        have f2 := hr.frozen 26
        have c3 : wr.cell? ⟨w3.heap.size, 27, none⟩ = some (u8 0) := hr.cell 27
        have f3 := hr.frozen 27
        have HN : Hid (Row ((((wr.setCell ⟨w3.heap.size, 24, none⟩ (u8 (bx st.g 24))).setCell ⟨w3.heap.size, 25, none⟩ (u8 (bx st.g 16))).setCell ⟨w3.heap.size, 26, none⟩ (u8 (bx st.g 8))).setCell ⟨w3.heap.size, 27, none⟩ (u8 (b0 st.g))) w3.heap.size 23 ((osub st (6 + 1)).map u8)) :=
          show Row _ _ _ _ from (((hr.set 24 (u8 (bx st.g 24))).set 25 (u8 (bx st.g 16))).set 26 (u8 (bx st.g 8))).set 27 (u8 (b0 st.g))
        have HN0 : Hid (Row ((((wr.setCell ⟨w3.heap.size, 24, none⟩ (u8 (bx st.g 24))).setCell ⟨w3.heap.size, 25, none⟩ (u8 (bx st.g 16))).setCell ⟨w3.heap.size, 26, none⟩ (u8 (bx st.g 8))).setCell ⟨w3.heap.size, 27, none⟩ (u8 (b0 st.g))) w.heap.size 23 ((List.replicate 32 (0 : UInt8)).map u8)) :=
          (((hr0.far hs1 _).far hs1 _).far hs1 _).far hs1 _
        have HU : Hid (Upd (fun _ => False) w ((((wr.setCell ⟨w3.heap.size, 24, none⟩ (u8 (bx st.g 24))).setCell ⟨w3.heap.size, 25, none⟩ (u8 (bx st.g 16))).setCell ⟨w3.heap.size, 26, none⟩ (u8 (bx st.g 8))).setCell ⟨w3.heap.size, 27, none⟩ (u8 (b0 st.g)))) :=
          (((hu.put _ _ (.inr hs0) _).put _ _ (.inr hs0) _).put _ _ (.inr hs0) _).put _ _ (.inr hs0) _
        clear hr hr0 hu
        rw [show ((6 : Nat) : Int) = 6 from rfl]
        go_wp2
        go_roundw
        case rel =>
          rw [v_bx, v_bx, v_bx, v_b0]
          exact ⟨6 + 1, by omega, rfl, HN.out, HN0.out, HU.out⟩
        case measure => simp [intOf]
      · have ix : ∀ w, (Instr.index 112 (.agg (List.map W (ws st)).toArray) (.int .i64 7)).run Tryd.prog w = .ok (.int .u32 (U st.h)) w := fun _ => by kernel_rfl
        have c0 : wr.cell? ⟨w3.heap.size, 28, none⟩ = some (u8 0) := hr.cell 28
        have f0 := hr.frozen 28
        have c1 : wr.cell? ⟨w3.heap.size, 29, none⟩ = some (u8 0) := hr.cell 29
        have f1 := hr.frozen 29
        have c2 : wr.cell? ⟨w3.heap.size, 30, none⟩ = some (u8 0) := hr.cell 30
        have f2 := hr.frozen 30
        have c3 : wr.cell? ⟨w3.heap.size, 31, none⟩ = some (u8 0) := hr.cell 31
        have f3 := hr.frozen 31
        have HN : Hid (Row ((((wr.setCell ⟨w3.heap.size, 28, none⟩ (u8 (bx st.h 24))).setCell ⟨w3.heap.size, 29, none⟩ (u8 (bx st.h 16))).setCell ⟨w3.heap.size, 30, none⟩ (u8 (bx st.h 8))).setCell ⟨w3.heap.size, 31, none⟩ (u8 (b0 st.h))) w3.heap.size 23 ((osub st (7 + 1)).map u8)) :=
          show Row _ _ _ _ from (((hr.set 28 (u8 (bx st.h 24))).set 29 (u8 (bx st.h 16))).set 30 (u8 (bx st.h 8))).set 31 (u8 (b0 st.h))
        have HN0 : Hid (Row ((((wr.setCell ⟨w3.heap.size, 28, none⟩ (u8 (bx st.h 24))).setCell ⟨w3.heap.size, 29, none⟩ (u8 (bx st.h 16))).setCell ⟨w3.heap.size, 30, none⟩ (u8 (bx st.h 8))).setCell ⟨w3.heap.size, 31, none⟩ (u8 (b0 st.h))) w.heap.size 23 ((List.replicate 32 (0 : UInt8)).map u8)) :=
          (((hr0.far hs1 _).far hs1 _).far hs1 _).far hs1 _
        have HU : Hid (Upd (fun _ => False) w ((((wr.setCell ⟨w3.heap.size, 28, none⟩ (u8 (bx st.h 24))).setCell ⟨w3.heap.size, 29, none⟩ (u8 (bx st.h 16))).setCell ⟨w3.heap.size, 30, none⟩ (u8 (bx st.h 8))).setCell ⟨w3.heap.size, 31, none⟩ (u8 (b0 st.h)))) :=
          (((hu.put _ _ (.inr hs0) _).put _ _ (.inr hs0) _).put _ _ (.inr hs0) _).put _ _ (.inr hs0) _
        clear hr hr0 hu
        rw [show ((7 : Nat) : Int) = 7 from rfl]
        go_wp2
        go_roundw
        case rel =>
          rw [v_bx, v_bx, v_bx, v_b0]
          exact ⟨7 + 1, by omega, rfl, HN.out, HN0.out, HU.out⟩
        case measure => simp [intOf]
    · obtain rfl : j = 8 := by omega
      rw [show ((8 : Nat) : Int) = 8 from rfl]
      have HO : Hid (osub st 8 = out st) := by show _ = _; rfl
      have HX8 : Hid (sha l = out st) := by
        show out _ = _
        rw [Hst.out]
        rfl
      obtain ⟨Y, hY⟩ : ∃ Y, Y = ((sha l).map u8).toArray := ⟨_, rfl⟩
      have HRY : Hid (wr.heap[w3.heap.size]? = some (.cells Y 23 (0, 0))) := by
        show _ = _
        rw [hY, HX8.out, ← HO.out]
        exact hr
      have HY1 : Hid (Y.all (·.oneCell') = true) := by show _ = _; rw [hY]; simpa using one_of (sha l)
      have HYs : Hid ((Tryd.prog.info? 23).map (·.size) = some Y.size) := by show _ = _; rw [size32, hY, HX8.out]; rfl
      have HYl : Hid (((List.replicate 32 (0 : UInt8)).map u8).toArray.size = Y.size) := by show _ = _; rw [hY, HX8.out]; rfl
      have HR0' : Hid (wr.heap[w.heap.size]? = some (.cells ((List.replicate 32 (0 : UInt8)).map u8).toArray 23 (0, 0))) := hr0
      have HU := Lib.hid hu
      have HY := Lib.hid hY
      clear hr hr0 hu hY hlt hj
      go_wp2_with (first
        | ((with_reducible refine wpList_load_row (o := ⟨some 44, _, _, _, _, _⟩) ?_ _ (.tmp 4) ?_ w3.heap.size ?_ 23 Y (0, 0) _ HRY.out Tryd.underlying23 ?_ HYs.out ?_); rfl; rfl; rfl; rfl)
        | ((with_reducible refine wpList_store_new (o := ⟨none, .store 23 (.tmp 2) (.tmp 44), _, _, _, _⟩) ?_ _ (.tmp 2) (.tmp 44) ?_ w.heap.size Y ?_ ?_ 23 _ HR0'.out HYs.out HYl.out HY1.out ?_); rfl; rfl; rfl; rfl; intro w5 Hg5 Hu5))
      refine bodyPost_ret (results_cell_row rfl _ _ w.heap.size 23 Y (0, 0) _ rfl Hg5.out Tryd.underlying23 rfl HYs.out) rfl ?_
      exact ⟨by rw [← HY.out], HU.out.trans (Hu5.out.mono (fun k hk e => .inr (by omega)))⟩
end Go.Proofs.YtgcionimhmbgeaaDoorR.SumH
