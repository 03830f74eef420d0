/-
  A row of Ops that came in, whole: what each bears.
-/
import Derived.Test.YtcdgimapkbaboaaLaysD
import Derived.Test.YtcdgimapkbaboaaOpenL
import Derived.Test.YtcdgimapkbaboaaOpenOp
namespace Go.Proofs.Ytcdgimapkbaboaa.OpenF
open Go.ChangeShapes Go.WideShapes Go.ChangeAt Go.RowKit Go.Deep Mem OpenB DigW TextsW ListsB LaysD
set_option linter.unusedVariables false
set_option linter.unusedSimpArgs false

def fieldsB (fs : Array Field) : Bool := fs.size == 12 && (fs[0]?.map fun f => (f.type, f.offset)) == some (3, 0) && (fs[1]?.map fun f => (f.type, f.offset)) == some (3, 1) && (fs[2]?.map fun f => (f.type, f.offset)) == some (24, 2) && (fs[3]?.map fun f => (f.type, f.offset)) == some (3, 3) && (fs[4]?.map fun f => (f.type, f.offset)) == some (4, 4) && (fs[5]?.map fun f => (f.type, f.offset)) == some (51, 5) && (fs[6]?.map fun f => (f.type, f.offset)) == some (45, 6) && (fs[7]?.map fun f => (f.type, f.offset)) == some (30, 7) && (fs[8]?.map fun f => (f.type, f.offset)) == some (9, 8) && (fs[9]?.map fun f => (f.type, f.offset)) == some (52, 9) && (fs[10]?.map fun f => (f.type, f.offset)) == some (3, 10) && (fs[11]?.map fun f => (f.type, f.offset)) == some (3, 11)
theorem undB : (match Try.prog.underlying 54 with | some (.struct fs) => fieldsB fs | _ => false) = true := by kernel_rfl
theorem undO : ∃ fs, Try.prog.underlying 54 = some (.struct fs) ∧ fieldsB fs = true := by
  have h := undB
  split at h
  · rename_i fs hfs
    exact ⟨fs, hfs, h⟩
  · cases h
theorem field_of {H : Type} {enc : TypeId × Value → H} {w : World} {n : Nat} {cs : List Value} {FS : Array Field} {xs : List (DataW H × List MemPlace)} (hl : xs.length = FS.size) (h : ∀ (i : Nat) (f : Field), FS[i]? = some f → DataW.trod enc Try.prog w 0 (fun _ => true) true n f.type ((cs.drop f.offset).take (Try.prog.cellsOf f.type)) = xs[i]?)
    {i o : Nat} {t : TypeId} (hf : FS[i]?.map (fun f => (f.type, f.offset)) = some (t, o)) : ∃ x, DataW.trod enc Try.prog w 0 (fun _ => true) true n t ((cs.drop o).take (Try.prog.cellsOf t)) = some x := by
  cases hfi : FS[i]? with
  | none => rw [hfi] at hf; cases hf
  | some f =>
    rw [hfi] at hf
    simp only [Option.map_some, Option.some.injEq, Prod.mk.injEq] at hf
    obtain ⟨rfl, rfl⟩ := hf
    have hi := (Array.getElem?_eq_some_iff.1 hfi).1
    exact ⟨xs[i]'(by omega), by rw [h i f hfi, List.getElem?_eq_getElem (by omega)]⟩
theorem int_field {H : Type} {enc : TypeId × Value → H} {w : World} {n : Nat} {l : List Value} {x : DataW H × List MemPlace} (h : DataW.trod enc Try.prog w 0 (fun _ => true) true n 3 l = some x) : ∃ k : Int, l = [.int .i64 k] ∧ (Lit.int .i64 k).wf = true := by
  obtain ⟨k, e, _, hw⟩ := DataW.trod_int Try.underlying3 h
  exact ⟨k, e, hw⟩
set_option maxRecDepth 100000 in
theorem dig_field {H : Type} {enc : TypeId × Value → H} {w : World} {n : Nat} {l : List Value} {x : DataW H × List MemPlace} (hl : l.length = 32) (h : DataW.trod enc Try.prog w 0 (fun _ => true) true n 73 l = some x) :
    ∃ D : List UInt8, D.length = 32 ∧ l = D.map u8 := by
  obtain ⟨xs, m, _, _, _, hlen, hel⟩ := DataW.trod_array Try.underlying73 h
  rw [cells8] at hel
  have hc : ∀ i (hi : i < l.length), ∃ c : UInt8, l[i] = u8 c := by
    intro i hi
    have h1 := hel i (by omega)
    have hx : xs[i]? = some (xs[i]'(by omega)) := List.getElem?_eq_getElem (by omega)
    rw [hx] at h1
    have e1 : ((l.drop (i * 1)).take 1) = [l[i]] := by
      simp only [Nat.mul_one]
      rw [List.drop_eq_getElem_cons hi]
      rfl
    rw [e1] at h1
    obtain ⟨k, e, _, hw⟩ := DataW.trod_int Try.underlying5 h1
    have e2 : l[i] = .int .u8 k := by simpa using e
    exact ⟨UInt8.ofNat k.toNat, by rw [e2, u8_bs k hw]⟩
  refine ⟨l.map (fun v => match v with | .int _ k => UInt8.ofNat k.toNat | _ => 0), by simp [hl], ?_⟩
  rw [List.map_map]
  apply List.ext_getElem
  · simp
  · intro i h1 h2
    obtain ⟨c, e⟩ := hc i h1
    simp only [List.getElem_map, Function.comp]
    rw [e]
    unfold u8
    simp
theorem c_int : Try.prog.cellsOf 3 = 1 := by kernel_rfl
theorem c_u64 : Try.prog.cellsOf 24 = 1 := by kernel_rfl
theorem c_bool : Try.prog.cellsOf 4 = 1 := by kernel_rfl
theorem c_dgs : Try.prog.cellsOf 51 = 1 := by kernel_rfl
theorem c_prt : Try.prog.cellsOf 45 = 1 := by kernel_rfl
theorem c_byt : Try.prog.cellsOf 30 = 1 := by kernel_rfl
theorem c_str : Try.prog.cellsOf 9 = 1 := by kernel_rfl
theorem c_sts : Try.prog.cellsOf 52 = 1 := by kernel_rfl
theorem c_dig : Try.prog.cellsOf 73 = 32 := by kernel_rfl
theorem spot1 {a : Addr} {w : World} {v : Value} (h : w.cell? (a.add 0) = some v) : a.spot = none ∧ a.block < w.heap.size := by
  have e : a.add 0 = a := by simp [Addr.add]
  rw [e] at h
  exact ⟨World.cell?_spot h, World.block_lt_of_cell? w _ h⟩
theorem spot0 {a : Addr} {w : World} {v : Value} (h : w.cell? ((a.add (0 * 32)).add 0) = some v) : a.spot = none ∧ a.block < w.heap.size := by
  have e : (a.add (0 * 32)).add 0 = a.add 0 := by simp [Addr.add]
  rw [e] at h
  exact spot1 h
set_option maxRecDepth 100000 in
theorem open_dg {H : Type} {enc : TypeId × Value → H} {w : World} {fuel : Nat} {v : Value} {x : DataW H × List MemPlace}
    (h : DataW.trod enc Try.prog w 0 (fun _ => true) true fuel 51 [v] = some x) : ∃ ds : List (List UInt8), DgE w v ds (fun k => k < w.heap.size) ∧ ds.length ≤ maxLen ∧ ∀ d ∈ ds, d.length = 32 := by
  rcases open_slice Try.underlying51 h with ⟨hcs, hx⟩ | ⟨a, len, cap, m, n, D, Pl, hcs, _, hl, hm, hmm, hx, hel⟩
  · obtain rfl := (List.cons.inj hcs).1
    exact ⟨[], ⟨none, 0, rfl, fun h => absurd rfl h⟩, Nat.zero_le _, fun d hd => by cases hd⟩
  · obtain rfl := (List.cons.inj hcs).1
    have hmc : m = cap := by simpa using hmm
    rw [c_dig] at hel
    obtain ⟨F, hF⟩ := choose_lt (α := List UInt8) (n := len) (p := fun i d => d.length = 32 ∧ w.cells? 0 (a.add (i * 32)) 32 = some (d.map u8)) (fun i hi => by
      obtain ⟨cs, hc, ht⟩ := hel i (by omega)
      obtain ⟨_, hlen, _⟩ := World.cells?_some hc
      obtain ⟨d, hd, he⟩ := dig_field hlen ht
      exact ⟨d, hd, by rw [← he]; exact hc⟩)
    have hg : ∀ i, i < len → ((List.range len).map F).getD i [] = F i := fun i hi => by
      rw [List.getD_eq_getElem?_getD, List.getElem?_map, List.getElem?_range hi]
      rfl
    have h32 : ∀ d ∈ (List.range len).map F, d.length = 32 := fun d hd => by
      obtain ⟨i, hi, rfl⟩ := List.mem_map.1 hd
      exact (hF i (List.mem_range.1 hi)).1
    refine ⟨(List.range len).map F, ⟨some a, cap, by simp, fun hne => ?_⟩, by simp; omega, h32⟩
    have h0 : 0 < len := by
      rcases Nat.eq_zero_or_pos len with h0 | h0
      · subst h0; exact absurd rfl hne
      · exact h0
    have hall : ∀ i, i < len → ∀ j (u : Value), ((F i).map u8)[j]? = some u → w.cell? ((a.add (i * 32)).add j) = some u := fun i hi j u hu => by
      obtain ⟨_, hlen, hat⟩ := World.cells?_some (hF i hi).2
      have hj : j < 32 := by have := (List.getElem?_eq_some_iff.1 hu).1; omega
      rw [hat j hj]
      exact hu
    have hf0 := (hF 0 h0).1
    obtain ⟨hsp, hlb⟩ := spot0 (hall 0 h0 0 (u8 ((F 0).getD 0 0)) (by rw [List.getElem?_map, List.getD_eq_getElem?_getD, List.getElem?_eq_getElem (by omega)]; rfl))
    refine ⟨some a, cap, by simp, by simp; exact hl, hm, h32, by simp, fun a' ha => ?_⟩
    injection ha with ha
    subst ha
    refine ⟨hsp, fun _ => hlb, fun i hi j u hu => ?_⟩
    have hi' : i < len := by simpa using hi
    rw [hg i hi'] at hu
    have h3 := hall i hi' j u hu
    obtain ⟨g, o, s⟩ := a
    obtain rfl : s = none := hsp
    rw [OpenOp.add_none, OpenOp.add_none] at h3
    exact h3
set_option maxRecDepth 100000 in
theorem open_st {H : Type} {enc : TypeId × Value → H} {w : World} {fuel : Nat} {v : Value} {x : DataW H × List MemPlace}
    (h : DataW.trod enc Try.prog w 0 (fun _ => true) true fuel 52 [v] = some x) : ∃ ss : List ByteArray, StE w v ss (fun k => k < w.heap.size) ∧ ss.length ≤ maxLen := by
  rcases open_slice1 Try.underlying52 c_str h with ⟨hcs, hx⟩ | ⟨a, len, cap, m, n, V, D, Pl, hcs, _, hl, hm, hmm, hx, hel⟩
  · obtain rfl := (List.cons.inj hcs).1
    exact ⟨[], ⟨none, 0, rfl, fun h => absurd rfl h⟩, Nat.zero_le _⟩
  · obtain rfl := (List.cons.inj hcs).1
    have hmc : m = cap := by simpa using hmm
    obtain ⟨F, hF⟩ := choose_lt (α := ByteArray) (n := len) (p := fun i s => s.size ≤ maxLen ∧ w.cell? (a.add i) = some (.string s)) (fun i hi => by
      obtain ⟨hc, ht⟩ := hel i (by omega)
      obtain ⟨s, he, _, hs⟩ := DataW.trod_string Try.underlying9 ht
      exact ⟨s, hs, by rw [hc]; exact congrArg some (List.cons.inj he).1⟩)
    have hg : ∀ i, i < len → ((List.range len).map F).getD i ByteArray.empty = F i := fun i hi => by
      rw [List.getD_eq_getElem?_getD, List.getElem?_map, List.getElem?_range hi]
      rfl
    refine ⟨(List.range len).map F, ⟨some a, cap, by simp, fun hne => ?_⟩, by simp; omega⟩
    have h0 : 0 < len := by
      rcases Nat.eq_zero_or_pos len with h0 | h0
      · subst h0; exact absurd rfl hne
      · exact h0
    obtain ⟨hsp, hlb⟩ := spot1 (hF 0 h0).2
    refine ⟨⟨some a, cap, by simp, by simp, fun s hs => ?_, fun a' ha => ?_⟩, fun k hk => by simp [own, Value.ownBlock] at hk; omega⟩
    · obtain ⟨i, hi, rfl⟩ := List.mem_map.1 hs
      exact (hF i (List.mem_range.1 hi)).1
    · injection ha with ha
      subst ha
      refine ⟨hsp, fun i hi => ?_⟩
      have hi' : i < len := by simpa using hi
      rw [hg i hi']
      exact (hF i hi').2
def PrtE (w : World) (v : Value) (ts : List (List UInt8)) : Prop := ∃ ao cap, v = .slice ao ts.length cap ∧ (ts ≠ [] → SlE w v ts (fun k => k < w.heap.size))
set_option maxRecDepth 100000 in
theorem open_prt {H : Type} {enc : TypeId × Value → H} {w : World} {fuel : Nat} {v : Value} {x : DataW H × List MemPlace}
    (h : DataW.trod enc Try.prog w 0 (fun _ => true) true fuel 45 [v] = some x) : ∃ ts : List (List UInt8), PrtE w v ts ∧ ts.length ≤ maxLen ∧ ∀ i, (ts.getD i []).length ≤ maxLen := by
  rcases open_slice1 Try.underlying45 c_byt h with ⟨hcs, hx⟩ | ⟨a, len, cap, m, n, V, D, Pl, hcs, _, hl, hm, hmm, hx, hel⟩
  · obtain rfl := (List.cons.inj hcs).1
    exact ⟨[], ⟨none, 0, rfl, fun h => absurd rfl h⟩, Nat.zero_le _, fun i => by simp⟩
  · obtain rfl := (List.cons.inj hcs).1
    have hmc : m = cap := by simpa using hmm
    obtain ⟨F, hF⟩ := choose_lt (α := List UInt8) (n := len) (p := fun i l => El w (V i) l ∧ (l ≠ [] → ∀ k, own (V i) k → k < w.heap.size)) (fun i hi => OpenL.open_el (hel i (by omega)).2)
    have hg : ∀ i, i < len → ((List.range len).map F).getD i [] = F i := fun i hi => by
      rw [List.getD_eq_getElem?_getD, List.getElem?_map, List.getElem?_range hi]
      rfl
    refine ⟨(List.range len).map F, ⟨some a, cap, by simp, fun hne => ?_⟩, by simp; omega, fun i => ?_⟩
    · have h0 : 0 < len := by
        rcases Nat.eq_zero_or_pos len with h0 | h0
        · subst h0; exact absurd rfl hne
        · exact h0
      obtain ⟨hsp, hlb⟩ := spot1 (hel 0 (by omega)).1
      refine ⟨some a, cap, V, by simp, by simp, fun a' ha => ?_⟩
      injection ha with ha
      subst ha
      refine ⟨hsp, fun _ => hlb, fun i hi => ?_⟩
      have hi' : i < len := by simpa using hi
      rw [hg i hi']
      exact ⟨(hel i (by omega)).1, (hF i hi').1, (hF i hi').2⟩
    · rcases Nat.lt_or_ge i len with hi | hi
      · rw [hg i hi]
        obtain ⟨_, _, _, h1, h2, _⟩ := (hF i hi).1
        omega
      · rw [List.getD_eq_getElem?_getD, List.getElem?_eq_none (by simpa using hi)]
        exact Nat.zero_le _
/-- these cells are a whole step that came in -/
structure OpF (w : World) (cs : List Value) (o : OpD) : Prop where
  h : OpH w cs o (fun k => k < w.heap.size)
  prt : ∃ v ts, cs[6]? = some v ∧ PrtE w v ts ∧ ts.length ≤ maxLen ∧ ∀ i, (ts.getD i []).length ≤ maxLen
  h32 : ∀ d ∈ o.ds, d.length = 32
  bd : o.ds.length ≤ maxLen
  bs : o.ss.length ≤ maxLen
  bt : o.st.length ≤ maxLen
  one : ∀ u ∈ cs, u.oneCell' = true
theorem OpF.len {w : World} {cs : List Value} {o : OpD} (h : OpF w cs o) : cs.length = 12 := by
  obtain ⟨⟨⟨x1, dv, x6, pv, lv, rfl, _⟩, _⟩, _⟩ := h
  rfl
set_option maxHeartbeats 1000000 in
set_option maxRecDepth 100000 in
theorem open_opF {H : Type} {enc : TypeId × Value → H} {w : World} {n : Nat} {cs : List Value} {x : DataW H × List MemPlace} (h : DataW.trod enc Try.prog w 0 (fun _ => true) true n 54 cs = some x) : ∃ o, OpF w cs o := by
  obtain ⟨FS, hund, hfb⟩ := undO
  obtain ⟨xs, m, _, _, hcl, hlen, hel⟩ := DataW.trod_struct hund h
  rw [OpenOp.cellsO] at hcl
  simp only [fieldsB, Bool.and_eq_true, beq_iff_eq] at hfb
  obtain ⟨⟨⟨⟨⟨⟨⟨⟨⟨⟨⟨⟨_, f0⟩, f1⟩, f2⟩, f3⟩, f4⟩, f5⟩, f6⟩, f7⟩, f8⟩, f9⟩, f10⟩, f11⟩ := hfb
  obtain ⟨c0, c1, c2, c3, c4, c5, c6, c7, c8, c9, c10, c11, rfl⟩ : ∃ c0 c1 c2 c3 c4 c5 c6 c7 c8 c9 c10 c11, cs = [c0, c1, c2, c3, c4, c5, c6, c7, c8, c9, c10, c11] := by
    match cs, hcl with
    | [a0, a1, a2, a3, a4, a5, a6, a7, a8, a9, a10, a11], _ => exact ⟨a0, a1, a2, a3, a4, a5, a6, a7, a8, a9, a10, a11, rfl⟩
  obtain ⟨_, g0⟩ := field_of hlen hel f0
  obtain ⟨_, g1⟩ := field_of hlen hel f1
  obtain ⟨_, g2⟩ := field_of hlen hel f2
  obtain ⟨_, g3⟩ := field_of hlen hel f3
  obtain ⟨_, g4⟩ := field_of hlen hel f4
  obtain ⟨_, g5⟩ := field_of hlen hel f5
  obtain ⟨_, g6⟩ := field_of hlen hel f6
  obtain ⟨_, g7⟩ := field_of hlen hel f7
  obtain ⟨_, g8⟩ := field_of hlen hel f8
  obtain ⟨_, g9⟩ := field_of hlen hel f9
  obtain ⟨_, g10⟩ := field_of hlen hel f10
  obtain ⟨_, g11⟩ := field_of hlen hel f11
  rw [c_int] at g0 g1 g3 g10 g11
  rw [c_u64] at g2
  rw [c_bool] at g4
  rw [c_dgs] at g5
  rw [c_prt] at g6
  rw [c_byt] at g7
  rw [c_str] at g8
  rw [c_sts] at g9
  obtain ⟨k, e0, _⟩ := int_field g0
  obtain ⟨at1, e1, _⟩ := int_field g1
  obtain ⟨many, e3, _⟩ := int_field g3
  obtain ⟨most, e10, _⟩ := int_field g10
  obtain ⟨each, e11, _⟩ := int_field g11
  obtain ⟨nn, e2, _, hw2⟩ := DataW.trod_int Try.underlying24 g2
  obtain ⟨y, e4, _⟩ := DataW.trod_bool Try.underlying4 g4
  obtain ⟨s, e8, _, hs⟩ := DataW.trod_string Try.underlying9 g8
  obtain ⟨ds, hd, hdl, hd32⟩ := open_dg (show DataW.trod enc Try.prog w 0 (fun _ => true) true m 51 [c5] = some _ from g5)
  obtain ⟨ts, ht, htl, hte⟩ := open_prt (show DataW.trod enc Try.prog w 0 (fun _ => true) true m 45 [c6] = some _ from g6)
  obtain ⟨ps, hp, hpo⟩ := OpenL.open_el (show DataW.trod enc Try.prog w 0 (fun _ => true) true m 30 [c7] = some _ from g7)
  obtain ⟨ss, hss, hssl⟩ := open_st (show DataW.trod enc Try.prog w 0 (fun _ => true) true m 52 [c9] = some _ from g9)
  have e0' : c0 = .int .i64 k := (List.cons.inj e0).1
  have e1' : c1 = .int .i64 at1 := (List.cons.inj e1).1
  have e2' : c2 = .int .u64 nn := (List.cons.inj e2).1
  have e3' : c3 = .int .i64 many := (List.cons.inj e3).1
  have e4' : c4 = .bool y := (List.cons.inj e4).1
  have e8' : c8 = .string s := (List.cons.inj e8).1
  have e10' : c10 = .int .i64 most := (List.cons.inj e10).1
  have e11' : c11 = .int .i64 each := (List.cons.inj e11).1
  have hb : 0 ≤ nn ∧ nn ≤ 18446744073709551615 := by simpa [Lit.wf, IntKind.min, IntKind.max, IntKind.signed, IntKind.bits] using hw2
  subst e0' e1' e2' e3' e4' e8' e10' e11'
  refine ⟨⟨k, nn.toNat, many, y, ds, ps, s.data.toList, ss, most, each⟩, ⟨⟨.int .i64 at1, c5, c6, c7, c9, ?_, hd, hp, hpo, hss⟩, ?_⟩, ⟨c6, ts, rfl, ht, htl, hte⟩, hd32, hdl, hssl, hs, ?_⟩
  · have h1 : ((nn.toNat : Nat) : Int) = nn := Int.toNat_of_nonneg hb.1
    show _ = [.int .i64 k, .int .i64 at1, .int .u64 ((nn.toNat : Nat) : Int), .int .i64 many, .bool y, c5, c6, c7, .string ⟨s.data.toList.toArray⟩, c9, .int .i64 most, .int .i64 each]
    rw [h1]
  · show nn.toNat < _
    omega
  · obtain ⟨_, _, rfl, _⟩ := hd
    obtain ⟨_, _, rfl, _⟩ := ht
    obtain ⟨_, _, rfl, _⟩ := hp
    obtain ⟨_, _, rfl, _⟩ := hss
    intro u hu
    simp only [List.mem_cons, List.not_mem_nil, or_false] at hu
    rcases hu with rfl | rfl | rfl | rfl | rfl | rfl | rfl | rfl | rfl | rfl | rfl | rfl <;> rfl
/-- v is a slice of such steps -/
def OpsF (w : World) (v : Value) (os : List OpD) (od : OpD) : Prop :=
  ∃ ao cap, v = .slice ao os.length cap ∧ (ao = none → os.length = 0) ∧
    ∀ a, ao = some a → a.spot = none ∧ a.block < w.heap.size ∧ ∀ i, i < os.length → ∃ cs, OpF w cs (os.getD i od) ∧ w.rangeAt a.block (a.off + i * 12) cs
set_option maxRecDepth 100000 in
theorem open_opsF {H : Type} {enc : TypeId × Value → H} {w : World} {b0 : Nat} {v : Value} {d : DataW H} {p : List MemPlace} (od : OpD)
    (hv : Value.okWide Try.prog w .any b0 41 v) (h : DataW.Trod enc Try.prog w 0 (fun _ => true) true 41 v d p) :
    ∃ os : List OpD, OpsF w v os od ∧ os.length ≤ 9223372036854775807 := by
  obtain ⟨a0, len, cap, rfl⟩ := okWide_slice Try.underlying41 hv
  obtain ⟨fuel, hf⟩ := h
  rcases open_slice Try.underlying41 hf with ⟨hcs, hx⟩ | ⟨a, len', cap', m, n, D, Pl, hcs, _, hl, hm, hmm, hx, hel⟩
  · have hcs' := (List.cons.inj hcs).1
    injection hcs' with e1 e2 e3
    subst e1 e2 e3
    exact ⟨[], ⟨none, 0, rfl, fun _ => rfl, fun _ ha => by cases ha⟩, by simp⟩
  · have hcs' := (List.cons.inj hcs).1
    injection hcs' with e1 e2 e3
    subst e1 e2 e3
    have hmc : m = cap := by simpa using hmm
    have hh : w.has Try.prog .any b0 a 54 cap := by
      have h2 := hv
      unfold Value.okWide at h2
      rw [Try.underlying41] at h2
      unfold Cell.okWide at h2
      rw [Try.underlying41] at h2
      unfold Cell.ok at h2
      rw [Try.underlying41] at h2
      exact h2.2.2
    obtain ⟨_, hsp, row, cells, hsh, _⟩ := hh
    have hlb : a.block < w.heap.size := lt_of_shape hsh
    haveI : Inhabited OpD := ⟨od⟩
    obtain ⟨F, hF⟩ := choose_lt (α := OpD) (n := len) (p := fun i o => ∃ cs, OpF w cs o ∧ w.rangeAt a.block (a.off + i * 12) cs) (fun i hi => by
      obtain ⟨cs, hc, ht⟩ := hel i (by omega)
      rw [OpenOp.cellsO] at hc
      obtain ⟨o, ho⟩ := open_opF ht
      obtain ⟨_, hlen, hat⟩ := World.cells?_some hc
      refine ⟨o, cs, ho, fun j u hj' => ?_⟩
      have hj : j < 12 := by have := (List.getElem?_eq_some_iff.1 hj').1; omega
      have h3 := hat j hj
      obtain ⟨g, o, s⟩ := a
      obtain rfl : s = none := hsp
      rw [OpenOp.add_none, OpenOp.add_none] at h3
      exact h3.trans hj')
    have hg : ∀ i, i < len → ((List.range len).map F).getD i od = F i := fun i hi => by
      rw [List.getD_eq_getElem?_getD, List.getElem?_map, List.getElem?_range hi]
      rfl
    refine ⟨(List.range len).map F, ⟨some a, cap, by simp, by simp, fun a' ha => ?_⟩, by simp; unfold maxLen at hm; omega⟩
    injection ha with ha
    subst ha
    refine ⟨hsp, hlb, fun i hi => ?_⟩
    have hi' : i < len := by simpa using hi
    rw [hg i hi']
    exact hF i hi'
end Go.Proofs.Ytcdgimapkbaboaa.OpenF
