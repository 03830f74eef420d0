/-
  A []api.Digest that came in.
-/
import Derived.Test.YtgcionimhmbgeaaDoorRTrDM
import Derived.Test.YtgcionimhmbgeaaDoorROpenB
import Derived.Deep.Slices
namespace Go.Proofs.YtgcionimhmbgeaaDoorR.OpenD
open Go.ChangeShapes Go.WideShapes Go.ChangeAt Go.RowKit Go.Deep Mem OpenB TrD
set_option linter.unusedVariables false
set_option linter.unusedSimpArgs false

set_option maxRecDepth 100000 in
theorem dig_field {H : Type} {enc : TypeId × Value → H} {w : World} {n : Nat} {l : List Value} {x : DataW H × List MemPlace} (hl : l.length = 32) (h : DataW.trod enc Tryd.prog w 0 (fun _ => true) true n 23 l = some x) :
    ∃ D : List UInt8, D.length = 32 ∧ l = D.map u8 := by
  obtain ⟨xs, m, _, _, _, hlen, hel⟩ := DataW.trod_array Tryd.underlying23 h
  rw [cells8] at hel
  have hc : ∀ i (hi : i < l.length), ∃ c : UInt8, l[i] = u8 c := by
    intro i hi
    have h1 := hel i (by omega)
    have hx : xs[i]? = some (xs[i]'(by omega)) := List.getElem?_eq_getElem (by omega)
    rw [hx] at h1
    have e1 : ((l.drop (i * 1)).take 1) = [l[i]] := by
      simp only [Nat.mul_one]
      rw [List.drop_eq_getElem_cons hi]
      rfl
    rw [e1] at h1
    obtain ⟨k, e, _, hw⟩ := DataW.trod_int Tryd.underlying5 h1
    have e2 : l[i] = .int .u8 k := by simpa using e
    exact ⟨UInt8.ofNat k.toNat, by rw [e2, u8_bs k hw]⟩
  refine ⟨l.map (fun v => match v with | .int _ k => UInt8.ofNat k.toNat | _ => 0), by simp [hl], ?_⟩
  rw [List.map_map]
  apply List.ext_getElem
  · simp
  · intro i h1 h2
    obtain ⟨c, e⟩ := hc i h1
    simp only [List.getElem_map, Function.comp]
    rw [e]
    unfold u8
    simp
theorem c_dig : Tryd.prog.cellsOf 23 = 32 := by kernel_rfl
theorem spot1 {a : Addr} {w : World} {v : Value} (h : w.cell? (a.add 0) = some v) : a.spot = none ∧ a.block < w.heap.size := by
  have e : a.add 0 = a := by simp [Addr.add]
  rw [e] at h
  exact ⟨World.cell?_spot h, World.block_lt_of_cell? w _ h⟩
theorem spot0 {a : Addr} {w : World} {v : Value} (h : w.cell? ((a.add (0 * 32)).add 0) = some v) : a.spot = none ∧ a.block < w.heap.size := by
  have e : (a.add (0 * 32)).add 0 = a.add 0 := by simp [Addr.add]
  rw [e] at h
  exact spot1 h
set_option maxRecDepth 100000 in
/-- a slice of digests that came in -/
theorem open_digs {H : Type} {enc : TypeId × Value → H} {w : World} {b0 : Nat} {v : Value} {d : DataW H} {p : List MemPlace}
    (hv : Value.okWide Tryd.prog w .any b0 30 v) (h : DataW.Trod enc Tryd.prog w 0 (fun _ => true) true 30 v d p) :
    ∃ ds : List (List UInt8), ∃ ao cap, v = .slice ao ds.length cap ∧ DsL w v ds (fun k => k < w.heap.size) := by
  obtain ⟨a0, len, cap, rfl⟩ := okWide_slice Tryd.underlying30 hv
  obtain ⟨fuel, hf⟩ := h
  rcases open_slice Tryd.underlying30 hf with ⟨hcs, hx⟩ | ⟨a, len', cap', m, n, D, Pl, hcs, _, hl, hm, hmm, hx, hel⟩
  · have hcs' := (List.cons.inj hcs).1
    injection hcs' with e1 e2 e3
    subst e1 e2 e3
    exact ⟨[], none, 0, rfl, none, 0, rfl, Nat.le_refl _, Nat.zero_le _, (fun d hd => by cases hd), (fun _ => rfl), (fun _ ha => by cases ha)⟩
  · have hcs' := (List.cons.inj hcs).1
    injection hcs' with e1 e2 e3
    subst e1 e2 e3
    have hmc : m = cap := by simpa using hmm
    rw [c_dig] at hel
    have hh : w.has Tryd.prog .any b0 a 23 cap := by
      have h2 := hv
      unfold Value.okWide at h2
      rw [Tryd.underlying30] at h2
      unfold Cell.okWide at h2
      rw [Tryd.underlying30] at h2
      unfold Cell.ok at h2
      rw [Tryd.underlying30] at h2
      exact h2.2.2
    obtain ⟨_, hsp, row, cells, hsh, _⟩ := hh
    have hlb : a.block < w.heap.size := lt_of_shape hsh
    obtain ⟨F, hF⟩ := choose_lt (α := List UInt8) (n := len) (p := fun i d => d.length = 32 ∧ w.cells? 0 (a.add (i * 32)) 32 = some (d.map u8)) (fun i hi => by
      obtain ⟨cs, hc, ht⟩ := hel i (by omega)
      obtain ⟨_, hlen, _⟩ := World.cells?_some hc
      obtain ⟨d, hd, he⟩ := dig_field hlen ht
      exact ⟨d, hd, by rw [← he]; exact hc⟩)
    have hg : ∀ i, i < len → ((List.range len).map F).getD i [] = F i := fun i hi => by
      rw [List.getD_eq_getElem?_getD, List.getElem?_map, List.getElem?_range hi]
      rfl
    have h32 : ∀ d ∈ (List.range len).map F, d.length = 32 := fun d hd => by
      obtain ⟨i, hi, rfl⟩ := List.mem_map.1 hd
      exact (hF i (List.mem_range.1 hi)).1
    have hall : ∀ i, i < len → ∀ j (u : Value), ((F i).map u8)[j]? = some u → w.cell? ((a.add (i * 32)).add j) = some u := fun i hi j u hu => by
      obtain ⟨_, hlen, hat⟩ := World.cells?_some (hF i hi).2
      have hj : j < 32 := by have := (List.getElem?_eq_some_iff.1 hu).1; omega
      rw [hat j hj]
      exact hu
    refine ⟨(List.range len).map F, some a, cap, by simp, some a, cap, by simp, by simp; exact hl, hm, h32, by simp, fun a' ha => ?_⟩
    injection ha with ha
    subst ha
    refine ⟨hsp, fun _ => hlb, fun i hi j u hu => ?_⟩
    have hi' : i < len := by simpa using hi
    rw [hg i hi'] at hu
    have h3 := hall i hi' j u hu
    obtain ⟨g, o, s⟩ := a
    obtain rfl : s = none := hsp
    rw [RowW.add_none, RowW.add_none] at h3
    exact h3
end Go.Proofs.YtgcionimhmbgeaaDoorR.OpenD
