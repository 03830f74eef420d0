/-
  PROVED: for every number width and every slice texts of slices of bytes docketlaw2.DigestClash(width, texts) returns true, and texts reads behind the call as before. Condition: digest.roundWords as the program's text lays it (the card ties it).
-/
import Derived.Test.YtiglaeipbcmlnaaDoorOpenB
import Derived.Test.YtiglaeipbcmlnaaDoorOpenS
import Derived.Test.YtiglaeipbcmlnaaDoorClashDM
import Derived.Test.YtiglaeipbcmlnaaDoorLaidW
import Derived.Test.YtiglaeipbcmlnaaDoorTie
import Derived.Test.YtiglaeipbcmlnaaDoorCards
import Derived.WalkKit
import Derived.ProofKit
import Derived.OpenShut
import Derived.ShutString
import Derived.ChangeOld
import Derived.Below
import Derived.SizedLaws
import Derived.SevenTiedAt
namespace Go.Proofs.YtiglaeipbcmlnaaDoor.digestClash
open Go.ChangeShapes Go.WideShapes Go.ChangeAt Go.RowKit
open Go.ChangeMaps (open_string shut_string)
set_option linter.unusedVariables false
set_option linter.unusedSimpArgs false

theorem door_met (os : Os) : laidMetH Tryd.prog [("docket/digest.roundWords", Rows.laid_docket_digest_roundWords)] ((World.doorLaid Tryd.prog 400 os).forCall (fun _ _ => 0) ⟨#[], #[.int .i64 0, .slice none 0 0], []⟩).memory :=
  laidMetH_of_parts3 (fuel := 8) (laidMet_of_run' 8 (by kernel_rfl) (by kernel_rfl)) (by kernel_rfl) (by kernel_rfl)

set_option maxHeartbeats 4000000 in
set_option maxRecDepth 100000 in
theorem lifted (os : Os) (started : os.Started) (H : Type) (enc : TypeId × Value → H) :
    ReturnsInHanded {} Tryd.checked os 8 .any (fun w args => (Rows.digestClashSpec.pre enc Tryd.prog Tryd.f8 [] false w args ∧ laidMetH Tryd.prog [("docket/digest.roundWords", Rows.laid_docket_digest_roundWords)] w) ∧ sizedMet enc Tryd.prog Tryd.f8 (OpenSpec.ofChange Rows.digestClashSpec) false w args)
      (Rows.digestClashSpec.post enc Tryd.prog Tryd.f8 false true false false) := by
  refine returnsInHanded_of_change_and (C := Tryd.checked) (X := fun w _ => laidMetH Tryd.prog [("docket/digest.roundWords", Rows.laid_docket_digest_roundWords)] w) (fun _ _ _ hh h => h.of_heap hh) LaidW.own started (by kernel_rfl) Tryd.func8
    (ChangeSpec.witness_shaped (enc := enc) (C := Tryd.checked) (os := os) (X := fun w _ => laidMetH Tryd.prog [("docket/digest.roundWords", Rows.laid_docket_digest_roundWords)] w) false (World.doorLaid Tryd.prog 400 os) #[.int .i64 0, .slice none 0 0] 8 rfl (World.shaped_of_RefB (by kernel_rfl) (by kernel_rfl)) (by kernel_rfl) (by kernel_rfl) (by kernel_rfl) (door_met os)) ?_
  intro W base args ds gs before hval0 hW hcnd0 hsz0 hL hholds
  have hval : ∀ (j : Nat) t v, Tryd.f8.params[j]? = some t → args[j]? = some v → Value.okWide Tryd.prog W .any base t v := hval0
  have hsz : (DataW.weightsEach Tryd.prog (Tryd.f8.params.toList ++ Rows.digestClashSpec.plain.varTypes Tryd.prog) (ds ++ gs)).all (· ≤ reachBytes) = true := hsz0
  have hW' := hW
  obtain ⟨p, q, hA0, hV, rfl, hfz, hnd⟩ := hW
  have hA : DataW.TrodAll enc Tryd.prog W 0 (fun _ => true) true Tryd.f8.params.toList args.toList ds p := hA0
  rw [Tryd.params8] at hA hval hsz
  obtain ⟨v0, vs0, d0, ds0, p0, q0, hargs, rfl, rfl, h0, r0⟩ := trodAll_cons hA
  obtain ⟨v1, vs1, d1, ds1, p1, q1, rfl, rfl, rfl, h1, r1⟩ := trodAll_cons r0
  obtain ⟨rfl, rfl, rfl⟩ := trodAll_nil r1
  obtain rfl : args = #[v0, v1] := by cases args; simp_all
  obtain ⟨rfl, rfl⟩ := trodVars_none hV
  obtain ⟨a0, rfl, rfl, rfl, wf0⟩ := open_int Tryd.underlying3 (hval 0 3 v0 rfl rfl) h0
  have k1 := h1
  have lt1 : ∀ x ∈ p1, x.block < W.heap.size := by obtain ⟨m, hm⟩ := k1; exact DataW.trod_lt m _ _ _ hm
  obtain ⟨l1, ao1, cap1, rfl, hsl1, hlen1, hwt1⟩ := OpenS.open_lists (hval 1 37 v1 rfl rfl) h1
  have hr1 : l1.length ≤ 140737488351232 := by
    rcases hlen1 with rfl | ⟨elems, spare, rfl, he⟩
    · simp
    · have := sized_slice hsz (j := 1) (t := 37) (e := 25) rfl rfl Tryd.underlying37
      rw [SplitO.bytes25] at this
      simp only [reachBytes] at this
      omega
  have hel1 : ∀ j, (l1.getD j []).length ≤ 140737488351232 := hwt1 _ fun n hn => by
    have h : n ≤ reachBytes := of_decide_eq_true (List.all_eq_true.1 hsz n (DataW.weights_mem_each (j := 1) (t := 37) rfl rfl n hn))
    exact h
  obtain ⟨hk, hg⟩ := LaidW.of_laid hL
  clear hA0 hval0
  refine (ClashD.walk a0 (OpenB.wf64 wf0) ao1 l1.length cap1 l1 W hsl1 hr1 hel1 hk hg).mono fun e W' ⟨he, hu⟩ => ?_
  subst he
  have bel : Below W.heap.size W W' := hu.below (Nat.le_refl _) (fun _ _ => id)
  exact ⟨_, rfl, _, _, _, [], _, [], hW', trodAll_mk1 (shut_bool Tryd.underlying4 _), trodAll_cons_mk (shut_int Tryd.underlying3 wf0) (trodAll_cons_mk (Below.trod OpenB.laidOut (by kernel_rfl) (of_decide_eq_true (by kernel_rfl)) k1 bel lt1) trodAll_mk0), rfl, bel.frame _, fun h => by cases h⟩

theorem over : Rows.DigestClashSaid :=
  OpenClaim.holds_of_wide 8 Tryd.f8 rfl rfl rfl rfl rfl rfl rfl ⟨rfl, rfl, rfl, rfl, rfl⟩ rfl rfl rfl rfl rfl (by kernel_rfl) Tryd.func8 (by kernel_rfl)
    (of_decide_eq_true (by kernel_rfl)) (by unfold Func.isWrapper; first | (rw [if_pos (by decide +kernel)]; kernel_rfl) | (rw [if_neg (by decide +kernel)]; exact ⟨rfl, rfl⟩))
    (fun os started H enc _ => lifted os started H enc)

/-- ████ THE STATEMENT: THE TIED CARD ████ -/
theorem proved : Rows.DigestClashCardSaid :=
  Claim7.holds_tied_plain_at .later [] [.data] true (true, "2b2a5208eb4011df1c6911e53deb8521ed2167342b0d2783b8e2b36e99581f16") false
    over (fun _ h => by cases h) (by kernel_rfl) (fun _ h => by cases h) digestClash_row_tie rfl ⟨rfl, rfl⟩ (by kernel_rfl) rfl
    (fun f fn hf hfn => by
      obtain rfl : f = 8 := Option.some.inj ((show Tryd.prog.funcNamed "docket/docketlaw2.DigestClash" = some 8 by kernel_rfl).symm.trans hf) |>.symm
      obtain rfl : fn = Tryd.f8 := (Option.some.inj (Tryd.func8.symm.trans hfn)).symm
      exact ⟨by kernel_rfl, fun j t ht => by
        rw [Tryd.params8] at ht
        cases j with
        | zero => (obtain rfl := Option.some.inj ht; kernel_rfl)
        | succ j =>
          cases j with
          | zero => (obtain rfl := Option.some.inj ht; kernel_rfl)
          | succ j =>
            simp at ht⟩)
    (by kernel_rfl)
#print axioms proved
end Go.Proofs.YtiglaeipbcmlnaaDoor.digestClash
