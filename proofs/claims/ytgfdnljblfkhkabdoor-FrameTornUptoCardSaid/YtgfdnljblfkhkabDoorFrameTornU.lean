/-
  PROVED: for all numbers n, cut and every slice ps of slices of bytes docketlaw4.FrameTorn(n, ps, cut) returns true, and ps reads behind the call as before. Where what it reads is of bulk at most 1048576 (the walk does not use that bound). Condition: frame.halfTurns as the program's text lays it (the card ties it).
-/
import Derived.Test.YtgfdnljblfkhkabDoorOpenB
import Derived.Test.YtgfdnljblfkhkabDoorOpenL
import Derived.Test.YtgfdnljblfkhkabDoorFrTorn
import Derived.Test.YtgfdnljblfkhkabDoorLaidF
import Derived.Test.YtgfdnljblfkhkabDoorTie
import Derived.Test.YtgfdnljblfkhkabDoorCards
import Derived.WalkKit
import Derived.ProofKit
import Derived.OpenShut
import Derived.ShutString
import Derived.ChangeOld
import Derived.Below
import Derived.SizedLaws
import Derived.SevenTiedAt
import Derived.Deep.DeepHandedRow
import Derived.JoinedCond
namespace Go.Proofs.YtgfdnljblfkhkabDoor.frameTornUpto
open Go.ChangeShapes Go.WideShapes Go.ChangeAt Go.RowKit
open Go.ChangeMaps (open_string shut_string)
set_option linter.unusedVariables false
set_option linter.unusedSimpArgs false

theorem door_met (os : Os) : laidMetH Tryd.prog [("docket/frame.halfTurns", Rows.laid_docket_frame_halfTurns)] ((World.doorLaid Tryd.prog 400 os).forCall (fun _ _ => 0) ⟨#[], #[.int .i64 0, .slice none 0 0, .int .i64 0], []⟩).memory :=
  laidMetH_of_parts3 (fuel := 8) (laidMet_of_run' 8 (by kernel_rfl) (by kernel_rfl)) (by kernel_rfl) (by kernel_rfl)
theorem reads (os : Os) {H : Type} (enc : TypeId × Value → H) : ∃ places, DataW.whole enc Tryd.prog ((World.doorLaid Tryd.prog 400 os).forCall (fun _ _ => 0) ⟨#[], #[.int .i64 0, .slice none 0 0, .int .i64 0], []⟩).memory Tryd.f5.params.toList Rows.frameTornSpec.vars false #[.int .i64 0, .slice none 0 0, .int .i64 0].toList 8 = some ([.lit (.int .i64 0), .nil, .lit (.int .i64 0)], [], places) :=
  ⟨[], by kernel_rfl⟩

set_option maxHeartbeats 4000000 in
set_option maxRecDepth 100000 in
theorem contract (H : Type) (enc : TypeId × Value → H) (W : World) (base : Nat) (args : Array Value) (ds gs : List (DataW H)) (before : List MemPlace)
    (hval0 : ∀ (j : Nat) t v, Tryd.f5.params[j]? = some t → args[j]? = some v → Value.okWide Tryd.prog W .any base t v)
    (hW : DataW.Whole enc Tryd.prog Tryd.f5.params.toList Rows.frameTornSpec.vars false W args.toList ds gs before)
    (hk : Rows.uptoSmall H (ds ++ gs) = true) (hsz0 : (DataW.weightsEach Tryd.prog (Tryd.f5.params.toList ++ Rows.frameTornSpec.plain.varTypes Tryd.prog) (ds ++ gs)).all (· ≤ reachBytes) = true)
    (hL : laidMetH Tryd.prog [("docket/frame.halfTurns", Rows.laid_docket_frame_halfTurns)] W) :
    Calls Tryd.prog 5 args W fun e W' => ∃ v, e = .returned v ∧ Rows.frameTornSpec.post enc Tryd.prog Tryd.f5 false true false false W args v W' := by
  have hval := hval0
  have hsz := hsz0
  have hW' := hW
  obtain ⟨p, q, hA0, hV, rfl, hfz, hnd⟩ := hW
  have hA : DataW.TrodAll enc Tryd.prog W 0 (fun _ => true) true Tryd.f5.params.toList args.toList ds p := hA0
  rw [Tryd.params5] at hA hval hsz
  obtain ⟨v0, vs0, d0, ds0, p0, q0, hargs, rfl, rfl, h0, r0⟩ := trodAll_cons hA
  obtain ⟨v1, vs1, d1, ds1, p1, q1, rfl, rfl, rfl, h1, r1⟩ := trodAll_cons r0
  obtain ⟨v2, vs2, d2, ds2, p2, q2, rfl, rfl, rfl, h2, r2⟩ := trodAll_cons r1
  obtain ⟨rfl, rfl, rfl⟩ := trodAll_nil r2
  obtain rfl : args = #[v0, v1, v2] := by cases args; simp_all
  obtain ⟨rfl, rfl⟩ := trodVars_none hV
  obtain ⟨a0, rfl, rfl, rfl, wf0⟩ := open_int Tryd.underlying3 (hval 0 3 v0 rfl rfl) h0
  have k1 := h1
  have lt1 : ∀ x ∈ p1, x.block < W.heap.size := by obtain ⟨m, hm⟩ := k1; exact DataW.trod_lt m _ _ _ hm
  obtain ⟨l1, ao1, cap1, rfl, hsl1, hlen1⟩ := OpenL.open_lists (hval 1 28 v1 rfl rfl) h1
  have hr1 : l1.length ≤ 140737488351232 := by
    rcases hlen1 with rfl | ⟨elems, spare, rfl, he⟩
    · simp
    · have := sized_slice hsz (j := 1) (t := 28) (e := 22) rfl rfl Tryd.underlying28
      rw [OpenL.bytes25] at this
      simp only [reachBytes] at this
      omega
  have hel1 : ∀ j, (l1.getD j []).length ≤ 9223372036854775807 := fun j => by
    rcases Nat.lt_or_ge j l1.length with hj | hj
    · obtain ⟨ao', cap', pv, he, hn, hs⟩ := hsl1
      injection he with e1 e2 e3
      subst e1
      obtain ⟨ad, rfl⟩ : ∃ ad, ao1 = some ad := by
        cases ao1 with
        | some ad => exact ⟨ad, rfl⟩
        | none => have := hn rfl; omega
      obtain ⟨_, ⟨_, _, _, hle, hcm, _⟩, _⟩ := (hs ad rfl).2.2 j hj
      exact Nat.le_trans hle hcm
    · rw [List.getD_eq_getElem?_getD, List.getElem?_eq_none hj]
      exact Nat.zero_le _
  obtain ⟨a2, rfl, rfl, rfl, wf2⟩ := open_int Tryd.underlying3 (hval 2 3 v2 rfl rfl) h2
  obtain ⟨ht, hg⟩ := LaidF.of_laid hL
  clear hA0 hval0
  refine (FrTorn.walk a0 a2 ao1 l1.length cap1 l1 W (OpenB.wf64 wf0) (OpenB.wf64 wf2) hsl1 (by omega) hel1 ht).mono fun e W' ⟨he, hu⟩ => ?_
  subst he
  have bel : Below W.heap.size W W' := hu.below (Nat.le_refl _) (fun _ _ => id)
  exact ⟨_, rfl, _, _, _, [], _, [], hW', trodAll_mk1 (shut_bool Tryd.underlying4 _), trodAll_cons_mk (shut_int Tryd.underlying3 wf0) (trodAll_cons_mk (Below.trod OpenB.laidOut (by kernel_rfl) (of_decide_eq_true (by kernel_rfl)) k1 bel lt1) (trodAll_cons_mk (shut_int Tryd.underlying3 wf2) trodAll_mk0)), rfl, bel.frame _, fun h => by cases h⟩

set_option maxRecDepth 100000 in
theorem lifted (os : Os) (started : os.Started) (H : Type) (enc : TypeId × Value → H) (F : Stop.Interp) :
    ReturnsInHanded {} Tryd.checked os 5 .any ((Rows.OpenSpec.upto Rows.frameTornSpec).preRow enc Tryd.prog Tryd.f5 Rows.frameTornUptoRow.domain false Rows.frameTornUptoRow.laid) (((Rows.OpenSpec.upto Rows.frameTornSpec).at F).post enc Tryd.prog Tryd.f5 false true false false) := by
  obtain ⟨places, hx⟩ := reads os enc
  refine returnsInHanded_of_row (C := Tryd.checked) (s := Rows.OpenSpec.upto Rows.frameTornSpec) LaidF.own started (by kernel_rfl) Tryd.func5
    (witness_row_at (enc := enc) (C := Tryd.checked) false (World.doorLaid Tryd.prog 400 os) #[.int .i64 0, .slice none 0 0, .int .i64 0] rfl (by kernel_rfl) (by kernel_rfl) (by kernel_rfl)
      (OpenSpec.preRow_of_cond 8 hx (by kernel_rfl) (fun k hk => by cases hk; kernel_rfl) (by kernel_rfl) (door_met os))) ?_
  intro W base args ds gs before hval hW _ hcond hsz hL _ _
  exact contract H enc W base args ds gs before hval hW (hcond _ rfl) hsz hL

theorem over : Rows.FrameTornUptoSaid :=
  OpenClaim.holds_of_cond 5 Tryd.f5 rfl rfl rfl rfl rfl rfl rfl ⟨rfl, rfl, rfl, rfl, rfl⟩ rfl rfl rfl rfl rfl (by kernel_rfl) Tryd.func5 (by kernel_rfl)
    (of_decide_eq_true (by kernel_rfl)) (by unfold Func.isWrapper; first | (rw [if_pos (by decide +kernel)]; kernel_rfl) | (rw [if_neg (by decide +kernel)]; exact ⟨rfl, rfl⟩))
    (fun os started H enc _ F => by rw [OpenClaim.pre_eq_preRow]; exact lifted os started H enc F)

/-- ████ THE STATEMENT: THE TIED CARD OF THE SECOND FORM ████ -/
theorem proved : Rows.FrameTornUptoCardSaid :=
  Claim7.holds_tied_plain_at .later [] [.data] true (true, "7eec504e2687ef6ab634d1e212d3d3fbff96688c0f37c60cf60f138a9040bb0e") false
    over (fun _ h => by cases h) (by kernel_rfl) (fun _ h => by cases h) frameTornUpto_row_tie rfl ⟨rfl, rfl⟩ (by kernel_rfl) rfl
    (fun f fn hf hfn => by
      obtain rfl : f = 5 := Option.some.inj ((show Tryd.prog.funcNamed "docket/docketlaw4.FrameTorn" = some 5 by kernel_rfl).symm.trans hf) |>.symm
      obtain rfl : fn = Tryd.f5 := (Option.some.inj (Tryd.func5.symm.trans hfn)).symm
      exact ⟨by kernel_rfl, fun j t ht => by
        rw [Tryd.params5] at ht
        cases j with
        | zero => (obtain rfl := Option.some.inj ht; kernel_rfl)
        | succ j =>
          cases j with
          | zero => (obtain rfl := Option.some.inj ht; kernel_rfl)
          | succ j =>
            cases j with
            | zero => (obtain rfl := Option.some.inj ht; kernel_rfl)
            | succ j =>
              simp at ht⟩)
    (by kernel_rfl)
#print axioms proved
end Go.Proofs.YtgfdnljblfkhkabDoor.frameTornUpto
