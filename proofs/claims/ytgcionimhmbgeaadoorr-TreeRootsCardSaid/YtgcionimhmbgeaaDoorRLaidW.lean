/-
  digest.roundWords out of what the row lists of it.
-/
import Derived.Test.YtgcionimhmbgeaaDoorRRows
import Derived.Test.YtgcionimhmbgeaaDoorRMixW
import Derived.ProofKit
import Derived.LaidMore
import Derived.OpenShut
import Derived.Stop.Joined
namespace Go.Proofs.YtgcionimhmbgeaaDoorR.LaidW
open Go.ChangeShapes Go.WideShapes Go.ChangeAt Go.RowKit Sha Mem MixW
set_option linter.unusedVariables false

theorem own : ownKnob Tryd.prog.godebug = none := by kernel_rfl
theorem gK : Tryd.prog.globalNamed "docket/digest.roundWords" = some 2 := by kernel_rfl
theorem tK : (Tryd.prog.globals[2]?).map (·.type) = some 141 := by kernel_rfl
theorem c32 : Tryd.prog.cellsOf 107 = 1 := by kernel_rfl
theorem c64 : Tryd.prog.cellsOf 141 = 64 := by kernel_rfl
theorem laid_eq {H : Type} : (Rows.laid_docket_digest_roundWords : DataW H) = .agg (K.map fun k => .lit (.int .u32 (U k))) := by kernel_rfl
theorem K_len : K.length = 64 := rfl

set_option maxRecDepth 100000 in
/-- What the condition gives the walks: the table. -/
theorem of_laid {W : World} (h : laidMetH Tryd.prog [("docket/digest.roundWords", Rows.laid_docket_digest_roundWords)] W) : Kw W ∧ 2 < W.heap.size := by
  rw [MakeChecks.laidMetH_plain _ _ _ (by kernel_rfl)] at h
  obtain ⟨ps, ⟨g0, t0, cs0, f0, p0, q0, hg0, ht0, hv0, hd0, _⟩, _⟩ := h
  obtain rfl := Option.some.inj (gK.symm.trans hg0)
  obtain rfl := Option.some.inj (tK.symm.trans ht0)
  obtain ⟨xs, m, _, hx, hlen, hn, hel⟩ := DataW.trod_array Tryd.underlying141 hd0
  rw [c64] at hlen
  rw [c32] at hel
  have hx1 := (Prod.mk.inj hx).1
  rw [laid_eq] at hx1
  have hx2 : (K.map fun k => DataW.lit (.int .u32 (U k))) = xs.map (·.1) := DataW.agg.inj hx1
  have key : Kw W := by
    intro t ht
    have h1 := hel t ht
    have hxt : xs[t]? = some (xs[t]'(by omega)) := List.getElem?_eq_getElem (by omega)
    rw [hxt] at h1
    have e1 : (cs0.toList.drop (t * 1)).take 1 = [cs0.toList[t]'(by omega)] := by
      rw [Nat.mul_one, List.drop_eq_getElem_cons (by omega)]
      rfl
    rw [e1] at h1
    obtain ⟨n, e, ex, _⟩ := DataW.trod_int Tryd.underlying107 h1
    have e2 : cs0.toList[t]'(by omega) = .int .u32 n := by simpa using e
    have e3 := congrArg (fun l => l[t]?) hx2
    simp only [List.getElem?_map, hxt, Option.map_some, ex, List.getElem?_eq_getElem (show t < K.length by rw [K_len]; exact ht)] at e3
    have e4 : U (K[t]'(by rw [K_len]; exact ht)) = n := by simpa using e3
    have h2 := World.var?_cell hg0 hv0 t
    have e5 : K.getD t 0 = K[t]'(by rw [K_len]; exact ht) := by rw [List.getD_eq_getElem?_getD, List.getElem?_eq_getElem (by rw [K_len]; exact ht)]; rfl
    rw [e5, e4, ← e2, h2]
    first | (rw [← Array.getElem?_toList]; exact List.getElem?_eq_getElem (by omega)) | (simp; done) | trace_state
  refine ⟨key, ?_⟩
  have := World.block_lt_of_cell? W _ (key 0 (by decide))
  exact this
end Go.Proofs.YtgcionimhmbgeaaDoorR.LaidW
