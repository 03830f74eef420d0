/-
  math/bits.deBruijn64tab, and with it digest.roundWords, out of what the row lists of them.
-/
import Derived.Test.YtgcionimhmbgeaaDoorRRows
import Derived.Test.YtgcionimhmbgeaaDoorRBitsW
import Derived.Test.YtgcionimhmbgeaaDoorRLaidW
import Derived.ProofKit
import Derived.LaidMore
import Derived.OpenShut
import Derived.Stop.Joined
namespace Go.Proofs.YtgcionimhmbgeaaDoorR.LaidZ
open Go.ChangeShapes Go.WideShapes Go.ChangeAt Go.RowKit Mem BitsW
set_option linter.unusedVariables false

theorem own : ownKnob Tryd.prog.godebug = none := by kernel_rfl
theorem gZ : Tryd.prog.globalNamed "math/bits.deBruijn64tab" = some 1 := by kernel_rfl
theorem tZ : (Tryd.prog.globals[1]?).map (·.type) = some 127 := by kernel_rfl
theorem c8 : Tryd.prog.cellsOf 5 = 1 := by kernel_rfl
theorem cZ : Tryd.prog.cellsOf 127 = 64 := by kernel_rfl
theorem laidZ_eq {H : Type} : (Rows.laid_math_bits_deBruijn64tab : DataW H) = .agg (Go.Lib.deBruijn64tab.map fun k => .lit (.int .u8 ((k : Nat) : Int))) := by kernel_rfl
theorem Z_len : Go.Lib.deBruijn64tab.length = 64 := rfl

set_option maxRecDepth 100000 in
theorem zw_of {W : World} {ps : List MemPlace} {r : List (String × DataW Unit)} (h : DataW.LaidVars Tryd.prog W (("math/bits.deBruijn64tab", Rows.laid_math_bits_deBruijn64tab) :: r) ps) : (Zw W ∧ 1 < W.heap.size) ∧ ∃ q, DataW.LaidVars Tryd.prog W r q := by
  obtain ⟨g0, t0, cs0, f0, p0, q0, hg0, ht0, hv0, hd0, hrest, _⟩ := h
  refine ⟨?_, q0, hrest⟩
  clear hrest
  obtain rfl := Option.some.inj (gZ.symm.trans hg0)
  obtain rfl := Option.some.inj (tZ.symm.trans ht0)
  obtain ⟨xs, m, _, hx, hlen, hn, hel⟩ := DataW.trod_array Tryd.underlying127 hd0
  rw [cZ] at hlen
  rw [c8] at hel
  have hx1 := (Prod.mk.inj hx).1
  rw [laidZ_eq] at hx1
  have hx2 : (Go.Lib.deBruijn64tab.map fun k => DataW.lit (.int .u8 ((k : Nat) : Int))) = xs.map (·.1) := DataW.agg.inj hx1
  have key : Zw W := by
    intro t ht
    have h1 := hel t ht
    have hxt : xs[t]? = some (xs[t]'(by omega)) := List.getElem?_eq_getElem (by omega)
    rw [hxt] at h1
    have e1 : (cs0.toList.drop (t * 1)).take 1 = [cs0.toList[t]'(by omega)] := by
      rw [Nat.mul_one, List.drop_eq_getElem_cons (by omega)]
      rfl
    rw [e1] at h1
    obtain ⟨n, e, ex, _⟩ := DataW.trod_int Tryd.underlying5 h1
    have e2 : cs0.toList[t]'(by omega) = .int .u8 n := by simpa using e
    have e3 := congrArg (fun l => l[t]?) hx2
    simp only [List.getElem?_map, hxt, Option.map_some, ex, List.getElem?_eq_getElem (show t < Go.Lib.deBruijn64tab.length by rw [Z_len]; exact ht)] at e3
    have e4 : ((Go.Lib.deBruijn64tab[t]'(by rw [Z_len]; exact ht) : Nat) : Int) = n := by simpa using e3
    have h2 := World.var?_cell hg0 hv0 t
    have e5 : Go.Lib.deBruijn64tab.getD t 0 = Go.Lib.deBruijn64tab[t]'(by rw [Z_len]; exact ht) := by rw [List.getD_eq_getElem?_getD, List.getElem?_eq_getElem (by rw [Z_len]; exact ht)]; rfl
    rw [e5, e4, ← e2, h2]
    first | (rw [← Array.getElem?_toList]; exact List.getElem?_eq_getElem (by omega)) | (simp; done) | trace_state
  refine ⟨key, ?_⟩
  have := World.block_lt_of_cell? W _ (key 0 (by decide))
  exact this
set_option maxRecDepth 100000 in
theorem kw_of {W : World} {ps : List MemPlace} {r : List (String × DataW Unit)} (h : DataW.LaidVars Tryd.prog W (("docket/digest.roundWords", Rows.laid_docket_digest_roundWords) :: r) ps) : MixW.Kw W ∧ 2 < W.heap.size := by
  obtain ⟨g0, t0, cs0, f0, p0, q0, hg0, ht0, hv0, hd0, _⟩ := h
  obtain rfl := Option.some.inj (LaidW.gK.symm.trans hg0)
  obtain rfl := Option.some.inj (LaidW.tK.symm.trans ht0)
  obtain ⟨xs, m, _, hx, hlen, hn, hel⟩ := DataW.trod_array Tryd.underlying141 hd0
  rw [LaidW.c64] at hlen
  rw [LaidW.c32] at hel
  have hx1 := (Prod.mk.inj hx).1
  rw [LaidW.laid_eq] at hx1
  have hx2 : (Sha.K.map fun k => DataW.lit (.int .u32 (Sha.U k))) = xs.map (·.1) := DataW.agg.inj hx1
  have key : MixW.Kw W := by
    intro t ht
    have h1 := hel t ht
    have hxt : xs[t]? = some (xs[t]'(by omega)) := List.getElem?_eq_getElem (by omega)
    rw [hxt] at h1
    have e1 : (cs0.toList.drop (t * 1)).take 1 = [cs0.toList[t]'(by omega)] := by
      rw [Nat.mul_one, List.drop_eq_getElem_cons (by omega)]
      rfl
    rw [e1] at h1
    obtain ⟨n, e, ex, _⟩ := DataW.trod_int Tryd.underlying107 h1
    have e2 : cs0.toList[t]'(by omega) = .int .u32 n := by simpa using e
    have e3 := congrArg (fun l => l[t]?) hx2
    simp only [List.getElem?_map, hxt, Option.map_some, ex, List.getElem?_eq_getElem (show t < Sha.K.length by rw [LaidW.K_len]; exact ht)] at e3
    have e4 : Sha.U (Sha.K[t]'(by rw [LaidW.K_len]; exact ht)) = n := by simpa using e3
    have h2 := World.var?_cell hg0 hv0 t
    have e5 : Sha.K.getD t 0 = Sha.K[t]'(by rw [LaidW.K_len]; exact ht) := by rw [List.getD_eq_getElem?_getD, List.getElem?_eq_getElem (by rw [LaidW.K_len]; exact ht)]; rfl
    rw [e5, e4, ← e2, h2]
    first | (rw [← Array.getElem?_toList]; exact List.getElem?_eq_getElem (by omega)) | (simp; done) | trace_state
  refine ⟨key, ?_⟩
  have := World.block_lt_of_cell? W _ (key 0 (by decide))
  exact this
theorem of_laid2 {W : World} (h : laidMetH Tryd.prog [("math/bits.deBruijn32tab", Rows.laid_math_bits_deBruijn32tab), ("math/bits.deBruijn64tab", Rows.laid_math_bits_deBruijn64tab)] W) : Zw W ∧ 1 < W.heap.size := by
  rw [MakeChecks.laidMetH_plain _ _ _ (by kernel_rfl)] at h
  obtain ⟨ps, h1, _⟩ := h
  obtain ⟨_, _, _, _, _, _, _, _, _, _, h2, _⟩ := h1
  exact (zw_of h2).1
theorem of_laid3 {W : World} (h : laidMetH Tryd.prog [("math/bits.deBruijn32tab", Rows.laid_math_bits_deBruijn32tab), ("math/bits.deBruijn64tab", Rows.laid_math_bits_deBruijn64tab), ("docket/digest.roundWords", Rows.laid_docket_digest_roundWords)] W) :
    (Zw W ∧ 1 < W.heap.size) ∧ MixW.Kw W ∧ 2 < W.heap.size := by
  rw [MakeChecks.laidMetH_plain _ _ _ (by kernel_rfl)] at h
  obtain ⟨ps, h1, _⟩ := h
  obtain ⟨_, _, _, _, _, _, _, _, _, _, h2, _⟩ := h1
  obtain ⟨h3, q, h4⟩ := zw_of h2
  exact ⟨h3, kw_of h4⟩
end Go.Proofs.YtgcionimhmbgeaaDoorR.LaidZ
