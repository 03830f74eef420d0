/-
  A [][]byte that came in.
-/
import Derived.Test.YtcdgimapkbaboaaListsB
import Derived.Test.YtcdgimapkbaboaaOpenB
import Derived.Deep.Slices
namespace Go.Proofs.Ytcdgimapkbaboaa.OpenL
open Go.ChangeShapes Go.WideShapes Go.ChangeAt Go.RowKit Go.Deep Mem ListsB OpenB
set_option linter.unusedVariables false

theorem cells25 : Try.prog.cellsOf 30 = 1 := by kernel_rfl
theorem bytes25 : Try.prog.bytesOf 30 = 24 := by kernel_rfl

set_option maxRecDepth 100000 in
theorem open_el {H : Type} {enc : TypeId × Value → H} {w : World} {fuel : Nat} {v : Value} {x : DataW H × List MemPlace}
    (h : DataW.trod enc Try.prog w 0 (fun _ => true) true fuel 30 [v] = some x) : ∃ l : List UInt8, El w v l ∧ (l ≠ [] → ∀ k, own v k → k < w.heap.size) := by
  rcases open_ints Try.underlying30 Try.underlying5 cells8 h with ⟨hcs, hx⟩ | ⟨a, len, cap, zs, hcs, _, hl, hm, hz, hx, hcell, hwz⟩
  · obtain rfl := (List.cons.inj hcs).1
    exact ⟨[], ⟨none, 0, rfl, Nat.le_refl _, Nat.zero_le _, fun _ => rfl, fun h => absurd rfl h⟩, fun h => absurd rfl h⟩
  · obtain rfl := (List.cons.inj hcs).1
    have hz' : zs.length = cap := by simpa using hz
    have hbl : (bs (zs.take len)).length = len := by simp [bs]; omega
    have key : bs (zs.take len) ≠ [] → ∃ b off, a = ⟨b, off, none⟩ ∧ ∀ j, j < zs.length → w.cell? ⟨b, off + j, none⟩ = some (.int .u8 (zs.getD j 0)) := fun hne => by
      have h0 : 0 < len := by
        rcases Nat.eq_zero_or_pos len with h0 | h0
        · exact absurd (List.eq_nil_of_length_eq_zero (hbl.trans h0)) hne
        · exact h0
      exact ints_at hcell (by omega)
    refine ⟨bs (zs.take len), ⟨some a, cap, by rw [hbl], by rw [hbl]; exact hl, hm, by simp, fun hne => ?_⟩, fun hne k hk => ?_⟩
    · obtain ⟨b, off, rfl, hc⟩ := key hne
      refine ⟨some ⟨b, off, none⟩, cap, by rw [hbl], by rw [hbl]; exact hl, hm, by simp, fun a' ha => ?_⟩
      injection ha with ha
      subst ha
      refine ⟨rfl, fun i hi => ?_⟩
      rw [hbl] at hi
      have hi' : i < zs.length := by omega
      rw [hcell i hi']
      have e : (bs (zs.take len)).getD i 0 = UInt8.ofNat (zs[i]).toNat := by
        unfold bs
        rw [List.getD_eq_getElem?_getD, List.getElem?_map, List.getElem?_take_of_lt hi, List.getElem?_eq_getElem hi']
        rfl
      rw [e, u8_bs _ (hwz _ (List.getElem_mem hi')), List.getD_eq_getElem?_getD, List.getElem?_eq_getElem hi']
      rfl
    · obtain ⟨b, off, rfl, hc⟩ := key hne
      have h0 : 0 < zs.length := by
        rcases Nat.eq_zero_or_pos zs.length with h0 | h0
        · have : bs (zs.take len) = [] := by rw [List.eq_nil_of_length_eq_zero h0]; simp [bs]
          exact absurd this hne
        · exact h0
      have h5 := World.block_lt_of_cell? w _ (hc 0 h0)
      simp [own, Value.ownBlock] at hk
      rw [← hk]
      exact h5

set_option maxRecDepth 100000 in
/-- A slice of slices of bytes that came in. -/
theorem open_lists {H : Type} {enc : TypeId × Value → H} {w : World} {b0 : Nat} {v : Value} {d : DataW H} {p : List MemPlace}
    (hv : Value.okWide Try.prog w .any b0 45 v) (h : DataW.Trod enc Try.prog w 0 (fun _ => true) true 45 v d p) :
    ∃ ts : List (List UInt8), ∃ ao cap, v = .slice ao ts.length cap ∧ SlE w v ts (fun k => k < w.heap.size) ∧
      (ts = [] ∨ ∃ elems spare, d = .slice elems spare ∧ elems.length = ts.length) := by
  obtain ⟨a0, len, cap, rfl⟩ := okWide_slice Try.underlying45 hv
  obtain ⟨fuel, hf⟩ := h
  rcases open_slice1 Try.underlying45 cells25 hf with ⟨hcs, hx⟩ | ⟨a, len', cap', m, n, V, D, Pl, hcs, _, hl, hm, hmm, hx, hel⟩
  · have hcs' := (List.cons.inj hcs).1
    injection hcs' with e1 e2 e3
    subst e1 e2 e3
    exact ⟨[], none, 0, rfl, ⟨none, 0, fun _ => .bool false, rfl, fun _ => rfl, fun _ ha => by cases ha⟩, .inl rfl⟩
  · have hcs' := (List.cons.inj hcs).1
    injection hcs' with e1 e2 e3
    subst e1 e2 e3
    have hmc : m = cap := by simpa using hmm
    have hh : w.has Try.prog .any b0 a 30 cap := by
      have h2 := hv
      unfold Value.okWide at h2
      rw [Try.underlying45] at h2
      unfold Cell.okWide at h2
      rw [Try.underlying45] at h2
      unfold Cell.ok at h2
      rw [Try.underlying45] at h2
      exact h2.2.2
    obtain ⟨_, hsp, row, cells, hsh, _⟩ := hh
    have hlb : a.block < w.heap.size := lt_of_shape hsh
    obtain ⟨F, hF⟩ := choose_lt (α := List UInt8) (n := len) (p := fun i l => El w (V i) l ∧ (l ≠ [] → ∀ k, own (V i) k → k < w.heap.size)) (fun i hi => open_el (hel i (by omega)).2)
    have hg : ∀ i, i < len → ((List.range len).map F).getD i [] = F i := fun i hi => by
      rw [List.getD_eq_getElem?_getD, List.getElem?_map, List.getElem?_range hi]
      rfl
    refine ⟨(List.range len).map F, some a, cap, by simp, ⟨some a, cap, V, by simp, by simp, fun a' ha => ?_⟩, .inr ⟨_, _, (Prod.mk.inj hx).1, by simp⟩⟩
    injection ha with ha
    subst ha
    refine ⟨hsp, fun _ => hlb, fun i hi => ?_⟩
    have hi' : i < len := by simpa using hi
    rw [hg i hi']
    exact ⟨(hel i (by omega)).1, (hF i hi').1, (hF i hi').2⟩
end Go.Proofs.Ytcdgimapkbaboaa.OpenL
