/-
  A row of Ops that came in: the numbers of each.
-/
import Derived.Test.YtcdgimapkbaboaaOpenB
import Derived.Deep.Slices
import Derived.Deep.MidRow
namespace Go.Proofs.Ytcdgimapkbaboaa.OpenOp
open Go.ChangeShapes Go.WideShapes Go.ChangeAt Go.RowKit Go.Deep Mem OpenB
set_option linter.unusedVariables false

theorem add_none (g o i : Nat) : (⟨g, o, none⟩ : Addr).add i = ⟨g, o + i, none⟩ := by unfold Addr.add; split <;> simp_all
def fieldsB (fs : Array Field) : Bool := fs.size == 12 && (fs[0]?.map fun f => (f.type, f.offset)) == some (3, 0) && (fs[3]?.map fun f => (f.type, f.offset)) == some (3, 3) && (fs[10]?.map fun f => (f.type, f.offset)) == some (3, 10) && (fs[11]?.map fun f => (f.type, f.offset)) == some (3, 11)
theorem undB : (match Try.prog.underlying 54 with | some (.struct fs) => fieldsB fs | _ => false) = true := by kernel_rfl
theorem undO : ∃ fs, Try.prog.underlying 54 = some (.struct fs) ∧ fieldsB fs = true := by
  have h := undB
  split at h
  · rename_i fs hfs
    exact ⟨fs, hfs, h⟩
  · cases h
theorem cellsO : Try.prog.cellsOf 54 = 12 := by kernel_rfl
theorem cellsI : Try.prog.cellsOf 3 = 1 := by kernel_rfl
/-- the numbers of an Op among its cells: the kind, how many, the bounds -/
structure OpC (cs : List Value) (k : Int × Int × Int × Int) : Prop where
  len : cs.length = 12
  c0 : cs[0]? = some (.int .i64 k.1)
  c3 : cs[3]? = some (.int .i64 k.2.1)
  c10 : cs[10]? = some (.int .i64 k.2.2.1)
  c11 : cs[11]? = some (.int .i64 k.2.2.2)
/-- v is a slice of Ops -/
def OpsL (w : World) (v : Value) (ks : List (Int × Int × Int × Int)) : Prop :=
  ∃ ao cap, v = .slice ao ks.length cap ∧ (ao = none → ks.length = 0) ∧
    ∀ a, ao = some a → a.spot = none ∧ a.block < w.heap.size ∧ ∀ i, i < ks.length → ∃ cs, OpC cs (ks.getD i (0, 0, 0, 0)) ∧ w.rangeAt a.block (a.off + i * 12) cs
theorem OpsL.upd {w w' : World} {v : Value} {ks : List (Int × Int × Int × Int)} (h : OpsL w v ks) (hu : Upd (fun _ => False) w w') : OpsL w' v ks := by
  obtain ⟨ao, cap, rfl, h3, h4⟩ := h
  refine ⟨ao, cap, rfl, h3, fun a ha => ?_⟩
  obtain ⟨h5, h6, h7⟩ := h4 a ha
  refine ⟨h5, Nat.lt_of_lt_of_le h6 hu.size, fun i hi => ?_⟩
  obtain ⟨cs, hc, hr⟩ := h7 i hi
  exact ⟨cs, hc, fun j u hj => hu.cell (hr j u hj) id⟩
theorem one_field {H : Type} {enc : TypeId × Value → H} {w : World} {n : Nat} {cs : List Value} {FS : Array Field} {xs : List (DataW H × List MemPlace)} (hc : cs.length = 12) (hl : xs.length = FS.size) (h : ∀ (i : Nat) (f : Field), FS[i]? = some f → DataW.trod enc Try.prog w 0 (fun _ => true) true n f.type ((cs.drop f.offset).take (Try.prog.cellsOf f.type)) = xs[i]?)
    {i o : Nat} (ho : o < 12) (hf : FS[i]?.map (fun f => (f.type, f.offset)) = some (3, o)) : ∃ k : Int, cs[o]? = some (.int .i64 k) := by
  cases hfi : FS[i]? with
  | none => rw [hfi] at hf; cases hf
  | some f =>
    rw [hfi] at hf
    simp only [Option.map_some, Option.some.injEq, Prod.mk.injEq] at hf
    obtain ⟨ht, rfl⟩ := hf
    have hi := (Array.getElem?_eq_some_iff.1 hfi).1
    have h1 := h i f hfi
    rw [ht, cellsI, List.getElem?_eq_getElem (by omega)] at h1
    obtain ⟨k, e, _, hw⟩ := DataW.trod_int Try.underlying3 h1
    refine ⟨k, ?_⟩
    rw [List.drop_eq_getElem_cons (by omega)] at e
    rw [List.getElem?_eq_getElem (by omega)]
    exact congrArg some (List.cons.inj e).1
set_option maxRecDepth 100000 in
theorem open_op {H : Type} {enc : TypeId × Value → H} {w : World} {n : Nat} {cs : List Value} {x : DataW H × List MemPlace} (h : DataW.trod enc Try.prog w 0 (fun _ => true) true n 54 cs = some x) : ∃ k, OpC cs k := by
  obtain ⟨FS, hund, hfb⟩ := undO
  obtain ⟨xs, m, _, _, hcl, hlen, hel⟩ := DataW.trod_struct hund h
  rw [cellsO] at hcl
  simp only [fieldsB, Bool.and_eq_true, beq_iff_eq] at hfb
  obtain ⟨⟨⟨⟨_, f0⟩, f3⟩, f10⟩, f11⟩ := hfb
  obtain ⟨k0, e0⟩ := one_field hcl hlen hel (by decide) f0
  obtain ⟨k3, e3⟩ := one_field hcl hlen hel (by decide) f3
  obtain ⟨k10, e10⟩ := one_field hcl hlen hel (by decide) f10
  obtain ⟨k11, e11⟩ := one_field hcl hlen hel (by decide) f11
  exact ⟨(k0, k3, k10, k11), hcl, e0, e3, e10, e11⟩
set_option maxRecDepth 100000 in
theorem open_ops {H : Type} {enc : TypeId × Value → H} {w : World} {b0 : Nat} {v : Value} {d : DataW H} {p : List MemPlace}
    (hv : Value.okWide Try.prog w .any b0 41 v) (h : DataW.Trod enc Try.prog w 0 (fun _ => true) true 41 v d p) :
    ∃ ks : List (Int × Int × Int × Int), OpsL w v ks ∧ ks.length ≤ 9223372036854775807 := by
  obtain ⟨a0, len, cap, rfl⟩ := okWide_slice Try.underlying41 hv
  obtain ⟨fuel, hf⟩ := h
  rcases open_slice Try.underlying41 hf with ⟨hcs, hx⟩ | ⟨a, len', cap', m, n, D, Pl, hcs, _, hl, hm, hmm, hx, hel⟩
  · have hcs' := (List.cons.inj hcs).1
    injection hcs' with e1 e2 e3
    subst e1 e2 e3
    exact ⟨[], ⟨none, 0, rfl, fun _ => rfl, fun _ ha => by cases ha⟩, by simp⟩
  · have hcs' := (List.cons.inj hcs).1
    injection hcs' with e1 e2 e3
    subst e1 e2 e3
    have hmc : m = cap := by simpa using hmm
    have hh : w.has Try.prog .any b0 a 54 cap := by
      have h2 := hv
      unfold Value.okWide at h2
      rw [Try.underlying41] at h2
      unfold Cell.okWide at h2
      rw [Try.underlying41] at h2
      unfold Cell.ok at h2
      rw [Try.underlying41] at h2
      exact h2.2.2
    obtain ⟨_, hsp, row, cells, hsh, _⟩ := hh
    have hlb : a.block < w.heap.size := lt_of_shape hsh
    obtain ⟨F, hF⟩ := choose_lt (α := Int × Int × Int × Int) (n := len) (p := fun i k => ∃ cs, OpC cs k ∧ w.rangeAt a.block (a.off + i * 12) cs) (fun i hi => by
      obtain ⟨cs, hc, ht⟩ := hel i (by omega)
      rw [cellsO] at hc
      obtain ⟨k, hk⟩ := open_op ht
      obtain ⟨_, hlen, hat⟩ := World.cells?_some hc
      refine ⟨k, cs, hk, fun j u hj' => ?_⟩
      have hj : j < 12 := by have := (List.getElem?_eq_some_iff.1 hj').1; omega
      have h3 := hat j hj
      obtain ⟨g, o, s⟩ := a
      obtain rfl : s = none := hsp
      rw [add_none, add_none] at h3
      exact h3.trans hj')
    have hg : ∀ i, i < len → ((List.range len).map F).getD i (0, 0, 0, 0) = F i := fun i hi => by
      rw [List.getD_eq_getElem?_getD, List.getElem?_map, List.getElem?_range hi]
      rfl
    refine ⟨(List.range len).map F, ⟨some a, cap, by simp, by simp, fun a' ha => ?_⟩, by simp; unfold maxLen at hm; omega⟩
    injection ha with ha
    subst ha
    refine ⟨hsp, hlb, fun i hi => ?_⟩
    have hi' : i < len := by simpa using hi
    rw [hg i hi']
    exact hF i hi'
end Go.Proofs.Ytcdgimapkbaboaa.OpenOp
