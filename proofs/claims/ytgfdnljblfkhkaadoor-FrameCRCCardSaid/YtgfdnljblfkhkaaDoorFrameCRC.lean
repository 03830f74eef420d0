/-
  PROVED: for every slice of bytes b docketlaw4.FrameCRC(b) returns true, and b reads behind the call as before. Condition: frame.halfTurns as the program's text lays it (the card ties it).
-/
import Derived.Test.YtgfdnljblfkhkaaDoorOpenB
import Derived.Test.YtgfdnljblfkhkaaDoorFrCrcW
import Derived.Test.YtgfdnljblfkhkaaDoorLaidF
import Derived.Test.YtgfdnljblfkhkaaDoorTie
import Derived.Test.YtgfdnljblfkhkaaDoorCards
import Derived.WalkKit
import Derived.ProofKit
import Derived.OpenShut
import Derived.ShutString
import Derived.ChangeOld
import Derived.Below
import Derived.SizedLaws
import Derived.SevenTiedAt
namespace Go.Proofs.YtgfdnljblfkhkaaDoor.frameCRC
open Go.ChangeShapes Go.WideShapes Go.ChangeAt Go.RowKit
open Go.ChangeMaps (open_string shut_string)
set_option linter.unusedVariables false
set_option linter.unusedSimpArgs false

theorem door_met (os : Os) : laidMetH Tryd.prog [("docket/frame.halfTurns", Rows.laid_docket_frame_halfTurns)] ((World.doorLaid Tryd.prog 400 os).forCall (fun _ _ => 0) ⟨#[], #[.slice none 0 0], []⟩).memory :=
  laidMetH_of_parts3 (fuel := 8) (laidMet_of_run' 8 (by kernel_rfl) (by kernel_rfl)) (by kernel_rfl) (by kernel_rfl)

set_option maxHeartbeats 4000000 in
set_option maxRecDepth 100000 in
theorem lifted (os : Os) (started : os.Started) (H : Type) (enc : TypeId × Value → H) :
    ReturnsInHanded {} Tryd.checked os 13 .any (fun w args => (Rows.frameCRCSpec.pre enc Tryd.prog Tryd.f13 [] false w args ∧ laidMetH Tryd.prog [("docket/frame.halfTurns", Rows.laid_docket_frame_halfTurns)] w) ∧ sizedMet enc Tryd.prog Tryd.f13 (OpenSpec.ofChange Rows.frameCRCSpec) false w args)
      (Rows.frameCRCSpec.post enc Tryd.prog Tryd.f13 false true false false) := by
  refine returnsInHanded_of_change_and (C := Tryd.checked) (X := fun w _ => laidMetH Tryd.prog [("docket/frame.halfTurns", Rows.laid_docket_frame_halfTurns)] w) (fun _ _ _ hh h => h.of_heap hh) LaidF.own started (by kernel_rfl) Tryd.func13
    (ChangeSpec.witness_shaped (enc := enc) (C := Tryd.checked) (os := os) (X := fun w _ => laidMetH Tryd.prog [("docket/frame.halfTurns", Rows.laid_docket_frame_halfTurns)] w) false (World.doorLaid Tryd.prog 400 os) #[.slice none 0 0] 8 rfl (World.shaped_of_RefB (by kernel_rfl) (by kernel_rfl)) (by kernel_rfl) (by kernel_rfl) (by kernel_rfl) (door_met os)) ?_
  intro W base args ds gs before hval0 hW hcnd0 hsz0 hL hholds
  have hval : ∀ (j : Nat) t v, Tryd.f13.params[j]? = some t → args[j]? = some v → Value.okWide Tryd.prog W .any base t v := hval0
  have hsz : (DataW.weightsEach Tryd.prog (Tryd.f13.params.toList ++ Rows.frameCRCSpec.plain.varTypes Tryd.prog) (ds ++ gs)).all (· ≤ reachBytes) = true := hsz0
  have hW' := hW
  obtain ⟨p, q, hA0, hV, rfl, hfz, hnd⟩ := hW
  have hA : DataW.TrodAll enc Tryd.prog W 0 (fun _ => true) true Tryd.f13.params.toList args.toList ds p := hA0
  rw [Tryd.params13] at hA hval hsz
  obtain ⟨v0, vs0, d0, ds0, p0, q0, hargs, rfl, rfl, h0, r0⟩ := trodAll_cons hA
  obtain ⟨rfl, rfl, rfl⟩ := trodAll_nil r0
  obtain rfl : args = #[v0] := by cases args; simp_all
  obtain ⟨rfl, rfl⟩ := trodVars_none hV
  have k0 := h0
  have lt0 : ∀ x ∈ p0, x.block < W.heap.size := by obtain ⟨m, hm⟩ := k0; exact DataW.trod_lt m _ _ _ hm
  obtain ⟨l0, ao0, cap0, rfl, hsl0, how0, hlen0⟩ := OpenB.open_bytes (hval 0 25 v0 rfl rfl) h0
  have hr0 : l0.length ≤ 140737488351232 := by
    rcases hlen0 with rfl | ⟨elems, spare, rfl, he, hc⟩
    · simp
    · have := sized_slice hsz (j := 0) (t := 25) (e := 5) rfl rfl Tryd.underlying25
      rw [OpenB.bytes8] at this
      simp only [reachBytes] at this
      omega
  obtain ⟨ht, hg⟩ := LaidF.of_laid hL
  clear hA0 hval0
  refine (FrCrcW.walk ao0 l0.length cap0 l0 W hsl0 how0 hr0 ht).mono fun e W' ⟨he, hu⟩ => ?_
  subst he
  have bel : Below W.heap.size W W' := hu.below (Nat.le_refl _) (fun _ _ => id)
  exact ⟨_, rfl, _, _, _, [], _, [], hW', trodAll_mk1 (shut_bool Tryd.underlying4 _), trodAll_cons_mk (Below.trod OpenB.laidOut (by kernel_rfl) (of_decide_eq_true (by kernel_rfl)) k0 bel lt0) trodAll_mk0, rfl, bel.frame _, fun h => by cases h⟩

theorem over : Rows.FrameCRCSaid :=
  OpenClaim.holds_of_wide 13 Tryd.f13 rfl rfl rfl rfl rfl rfl rfl ⟨rfl, rfl, rfl, rfl, rfl⟩ rfl rfl rfl rfl rfl (by kernel_rfl) Tryd.func13 (by kernel_rfl)
    (of_decide_eq_true (by kernel_rfl)) (by unfold Func.isWrapper; first | (rw [if_pos (by decide +kernel)]; kernel_rfl) | (rw [if_neg (by decide +kernel)]; exact ⟨rfl, rfl⟩))
    (fun os started H enc _ => lifted os started H enc)

/-- ████ THE STATEMENT: THE TIED CARD ████ -/
theorem proved : Rows.FrameCRCCardSaid :=
  Claim7.holds_tied_plain_at .later [] [.data] true (true, "3c6da5a4758bfd8823cfb460d4730d10863ca116f5c65441a1d04fac9d477121") false
    over (fun _ h => by cases h) (by kernel_rfl) (fun _ h => by cases h) frameCRC_row_tie rfl ⟨rfl, rfl⟩ (by kernel_rfl) rfl
    (fun f fn hf hfn => by
      obtain rfl : f = 13 := Option.some.inj ((show Tryd.prog.funcNamed "docket/docketlaw4.FrameCRC" = some 13 by kernel_rfl).symm.trans hf) |>.symm
      obtain rfl : fn = Tryd.f13 := (Option.some.inj (Tryd.func13.symm.trans hfn)).symm
      exact ⟨by kernel_rfl, fun j t ht => by
        rw [Tryd.params13] at ht
        cases j with
        | zero => (obtain rfl := Option.some.inj ht; kernel_rfl)
        | succ j =>
          simp at ht⟩)
    (by kernel_rfl)
#print axioms proved
end Go.Proofs.YtgfdnljblfkhkaaDoor.frameCRC
