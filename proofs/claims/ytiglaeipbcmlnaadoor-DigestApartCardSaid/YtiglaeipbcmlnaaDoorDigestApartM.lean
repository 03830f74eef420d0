/-
  PROVED: for all numbers a, b, width and all docketlaw2.Parts x, y docketlaw2.DigestApart(a, b, width, x, y) returns true, and x and y read behind the call as before. Condition: digest.roundWords as the program's text lays it (the card ties it).
-/
import Derived.Test.YtiglaeipbcmlnaaDoorOpenB
import Derived.Test.YtiglaeipbcmlnaaDoorApG
import Derived.Test.YtiglaeipbcmlnaaDoorApartDM
import Derived.Test.YtiglaeipbcmlnaaDoorLaidW
import Derived.Test.YtiglaeipbcmlnaaDoorTie
import Derived.Test.YtiglaeipbcmlnaaDoorCards
import Derived.WalkKit
import Derived.ProofKit
import Derived.OpenShut
import Derived.ShutString
import Derived.ChangeOld
import Derived.Below
import Derived.SizedLaws
import Derived.SevenTiedAt
namespace Go.Proofs.YtiglaeipbcmlnaaDoor.digestApart
open Go.ChangeShapes Go.WideShapes Go.ChangeAt Go.RowKit
open Go.ChangeMaps (open_string shut_string)
set_option linter.unusedVariables false
set_option linter.unusedSimpArgs false

theorem door_met (os : Os) : laidMetH Tryd.prog [("docket/digest.roundWords", Rows.laid_docket_digest_roundWords)] ((World.doorLaid Tryd.prog 400 os).forCall (fun _ _ => 0) ⟨#[], #[.int .i64 0, .int .i64 0, .int .i64 0, .agg (#[.int .i64 0, .int .i64 0, .int .i64 0, .int .i64 0] ++ Array.replicate 64 (.int .u8 0) ++ #[.slice none 0 0, .slice none 0 0]), .agg (#[.int .i64 0, .int .i64 0, .int .i64 0, .int .i64 0] ++ Array.replicate 64 (.int .u8 0) ++ #[.slice none 0 0, .slice none 0 0])], []⟩).memory :=
  laidMetH_of_parts3 (fuel := 8) (laidMet_of_run' 8 (by kernel_rfl) (by kernel_rfl)) (by kernel_rfl) (by kernel_rfl)

set_option maxHeartbeats 4000000 in
set_option maxRecDepth 100000 in
theorem lifted (os : Os) (started : os.Started) (H : Type) (enc : TypeId × Value → H) :
    ReturnsInHanded {} Tryd.checked os 11 .any (fun w args => (Rows.digestApartSpec.pre enc Tryd.prog Tryd.f11 [] false w args ∧ laidMetH Tryd.prog [("docket/digest.roundWords", Rows.laid_docket_digest_roundWords)] w) ∧ sizedMet enc Tryd.prog Tryd.f11 (OpenSpec.ofChange Rows.digestApartSpec) false w args)
      (Rows.digestApartSpec.post enc Tryd.prog Tryd.f11 false true false false) := by
  refine returnsInHanded_of_change_and (C := Tryd.checked) (X := fun w _ => laidMetH Tryd.prog [("docket/digest.roundWords", Rows.laid_docket_digest_roundWords)] w) (fun _ _ _ hh h => h.of_heap hh) LaidW.own started (by kernel_rfl) Tryd.func11
    (ChangeSpec.witness_shaped (enc := enc) (C := Tryd.checked) (os := os) (X := fun w _ => laidMetH Tryd.prog [("docket/digest.roundWords", Rows.laid_docket_digest_roundWords)] w) false (World.doorLaid Tryd.prog 400 os) #[.int .i64 0, .int .i64 0, .int .i64 0, .agg (#[.int .i64 0, .int .i64 0, .int .i64 0, .int .i64 0] ++ Array.replicate 64 (.int .u8 0) ++ #[.slice none 0 0, .slice none 0 0]), .agg (#[.int .i64 0, .int .i64 0, .int .i64 0, .int .i64 0] ++ Array.replicate 64 (.int .u8 0) ++ #[.slice none 0 0, .slice none 0 0])] 8 rfl (World.shaped_of_RefB (by kernel_rfl) (by kernel_rfl)) (by kernel_rfl) (by kernel_rfl) (by kernel_rfl) (door_met os)) ?_
  intro W base args ds gs before hval0 hW hcnd0 hsz0 hL hholds
  have hval : ∀ (j : Nat) t v, Tryd.f11.params[j]? = some t → args[j]? = some v → Value.okWide Tryd.prog W .any base t v := hval0
  have hsz : (DataW.weightsEach Tryd.prog (Tryd.f11.params.toList ++ Rows.digestApartSpec.plain.varTypes Tryd.prog) (ds ++ gs)).all (· ≤ reachBytes) = true := hsz0
  have hW' := hW
  obtain ⟨p, q, hA0, hV, rfl, hfz, hnd⟩ := hW
  have hA : DataW.TrodAll enc Tryd.prog W 0 (fun _ => true) true Tryd.f11.params.toList args.toList ds p := hA0
  rw [Tryd.params11] at hA hval hsz
  obtain ⟨v0, vs0, d0, ds0, p0, q0, hargs, rfl, rfl, h0, r0⟩ := trodAll_cons hA
  obtain ⟨v1, vs1, d1, ds1, p1, q1, rfl, rfl, rfl, h1, r1⟩ := trodAll_cons r0
  obtain ⟨v2, vs2, d2, ds2, p2, q2, rfl, rfl, rfl, h2, r2⟩ := trodAll_cons r1
  obtain ⟨v3, vs3, d3, ds3, p3, q3, rfl, rfl, rfl, h3, r3⟩ := trodAll_cons r2
  obtain ⟨v4, vs4, d4, ds4, p4, q4, rfl, rfl, rfl, h4, r4⟩ := trodAll_cons r3
  obtain ⟨rfl, rfl, rfl⟩ := trodAll_nil r4
  obtain rfl : args = #[v0, v1, v2, v3, v4] := by cases args; simp_all
  obtain ⟨rfl, rfl⟩ := trodVars_none hV
  obtain ⟨a0, rfl, rfl, rfl, wf0⟩ := open_int Tryd.underlying3 (hval 0 3 v0 rfl rfl) h0
  obtain ⟨a1, rfl, rfl, rfl, wf1⟩ := open_int Tryd.underlying3 (hval 1 3 v1 rfl rfl) h1
  obtain ⟨a2, rfl, rfl, rfl, wf2⟩ := open_int Tryd.underlying3 (hval 2 3 v2 rfl rfl) h2
  have k3 := h3
  have lt3 : ∀ x ∈ p3, x.block < W.heap.size := by obtain ⟨m, hm⟩ := k3; exact DataW.trod_lt m _ _ _ hm
  obtain ⟨wd3, dm3, ct3, ht3, A3, B3, P3, Q3, pao3, qao3, pc3, qc3, rfl, fa3, fb3, fc3, fd3, hA3', hB3', hP3', hPo3, hQ3', hQl3, hQe3⟩ := OpenP.open_parts (hval 3 39 v3 rfl rfl) h3
  have hpb3 : P3.length ≤ 140737488351232 := OpenPS.parts_weight k3 hA3' hB3' _ fun n hn => by
    have h : n ≤ reachBytes := of_decide_eq_true (List.all_eq_true.1 hsz n (DataW.weights_mem_each (j := 3) (t := 39) rfl rfl n hn))
    exact h
  have k4 := h4
  have lt4 : ∀ x ∈ p4, x.block < W.heap.size := by obtain ⟨m, hm⟩ := k4; exact DataW.trod_lt m _ _ _ hm
  obtain ⟨wd4, dm4, ct4, ht4, A4, B4, P4, Q4, pao4, qao4, pc4, qc4, rfl, fa4, fb4, fc4, fd4, hA4', hB4', hP4', hPo4, hQ4', hQl4, hQe4⟩ := OpenP.open_parts (hval 4 39 v4 rfl rfl) h4
  have hpb4 : P4.length ≤ 140737488351232 := OpenPS.parts_weight k4 hA4' hB4' _ fun n hn => by
    have h : n ≤ reachBytes := of_decide_eq_true (List.all_eq_true.1 hsz n (DataW.weights_mem_each (j := 4) (t := 39) rfl rfl n hn))
    exact h
  obtain ⟨hk, hg⟩ := LaidW.of_laid hL
  clear hA0 hval0
  refine (ApartD.walk a0 a1 a2 wd3 dm3 ct3 ht3 A3 B3 P3 pao3 P3.length pc3 _ wd4 dm4 ct4 ht4 A4 B4 P4 pao4 P4.length pc4 _ W (OpenB.wf64 wf0) (OpenB.wf64 wf1) (OpenB.wf64 fc3) (OpenB.wf64 fc4) hA3' hB3' hA4' hB4' hP3' hPo3 rfl hpb3 hP4' hPo4 rfl hpb4 hk hg).mono fun e W' ⟨he, hu⟩ => ?_
  subst he
  have bel : Below W.heap.size W W' := hu.below (Nat.le_refl _) (fun _ _ => id)
  exact ⟨_, rfl, _, _, _, [], _, [], hW', trodAll_mk1 (shut_bool Tryd.underlying4 _), trodAll_cons_mk (shut_int Tryd.underlying3 wf0) (trodAll_cons_mk (shut_int Tryd.underlying3 wf1) (trodAll_cons_mk (shut_int Tryd.underlying3 wf2) (trodAll_cons_mk (Below.trod OpenB.laidOut (by kernel_rfl) (of_decide_eq_true (by kernel_rfl)) k3 bel lt3) (trodAll_cons_mk (Below.trod OpenB.laidOut (by kernel_rfl) (of_decide_eq_true (by kernel_rfl)) k4 bel lt4) trodAll_mk0)))), rfl, bel.frame _, fun h => by cases h⟩

theorem over : Rows.DigestApartSaid :=
  OpenClaim.holds_of_wide 11 Tryd.f11 rfl rfl rfl rfl rfl rfl rfl ⟨rfl, rfl, rfl, rfl, rfl⟩ rfl rfl rfl rfl rfl (by kernel_rfl) Tryd.func11 (by kernel_rfl)
    (of_decide_eq_true (by kernel_rfl)) (by unfold Func.isWrapper; first | (rw [if_pos (by decide +kernel)]; kernel_rfl) | (rw [if_neg (by decide +kernel)]; exact ⟨rfl, rfl⟩))
    (fun os started H enc _ => lifted os started H enc)

/-- ████ THE STATEMENT: THE TIED CARD ████ -/
theorem proved : Rows.DigestApartCardSaid :=
  Claim7.holds_tied_plain_at .later [] [.data] true (true, "2b2a5208eb4011df1c6911e53deb8521ed2167342b0d2783b8e2b36e99581f16") false
    over (fun _ h => by cases h) (by kernel_rfl) (fun _ h => by cases h) digestApart_row_tie rfl ⟨rfl, rfl⟩ (by kernel_rfl) rfl
    (fun f fn hf hfn => by
      obtain rfl : f = 11 := Option.some.inj ((show Tryd.prog.funcNamed "docket/docketlaw2.DigestApart" = some 11 by kernel_rfl).symm.trans hf) |>.symm
      obtain rfl : fn = Tryd.f11 := (Option.some.inj (Tryd.func11.symm.trans hfn)).symm
      exact ⟨by kernel_rfl, fun j t ht => by
        rw [Tryd.params11] at ht
        cases j with
        | zero => (obtain rfl := Option.some.inj ht; kernel_rfl)
        | succ j =>
          cases j with
          | zero => (obtain rfl := Option.some.inj ht; kernel_rfl)
          | succ j =>
            cases j with
            | zero => (obtain rfl := Option.some.inj ht; kernel_rfl)
            | succ j =>
              cases j with
              | zero => (obtain rfl := Option.some.inj ht; kernel_rfl)
              | succ j =>
                cases j with
                | zero => (obtain rfl := Option.some.inj ht; kernel_rfl)
                | succ j =>
                  simp at ht⟩)
    (by kernel_rfl)
#print axioms proved
end Go.Proofs.YtiglaeipbcmlnaaDoor.digestApart
