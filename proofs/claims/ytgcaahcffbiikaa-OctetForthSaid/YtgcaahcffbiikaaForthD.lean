/-
  docketlaw1.OctetForth, walked.
-/
import Derived.Test.YtgcaahcffbiikaaForthW
namespace Go.Proofs.Ytgcaahcffbiikaa.ForthD
open Go.RowKit Mem RowW PutW TakeW FlagW ReaderW ReadB ReadT ReadD ReadG StrW RawW TextsW DigW ForthL LaysW OpenOp AgainW ForthW
set_option linter.unusedVariables false
set_option linter.unusedSimpArgs false

def L0 : List UInt8 := [0, 1, 98]
def K0 : List (Int × Int × Int × Int) := [(8, 0, 1, 0)]
theorem st1 : stK L0 K0 1 = (3, 0) := by kernel_rfl
theorem all0 : (∀ k, k ≤ K0.length → (stK L0 K0 k).2 = 0) ∧ (stK L0 K0 K0.length).1 = L0.length := by
  refine ⟨fun k hk => ?_, ?_⟩
  · have hk' : k = 0 ∨ k = 1 := by have : K0.length = 1 := rfl; omega
    rcases hk' with rfl | rfl
    · rfl
    · rw [st1]
  · show (stK L0 K0 1).1 = 3
    rw [st1]
theorem ops0 (w : World) (g : Nat) (h : w.heap[g]? = some (.cells (base 8 0 1 0).toArray 54 (0, 0))) : OpsL w (.slice (some ⟨g, 0, none⟩) 1 1) K0 := by
  refine ⟨_, 1, rfl, (fun h => by cases h), fun a ha => ?_⟩
  injection ha with ha
  subst ha
  refine ⟨rfl, lt_of_block h, fun i hi => ⟨base 8 0 1 0, ?_, fun j u hj => ?_⟩⟩
  · have : i = 0 := by have : K0.length = 1 := rfl; omega
    subst this
    exact ⟨rfl, rfl, rfl, rfl, rfl⟩
  · have : i = 0 := by have : K0.length = 1 := rfl; omega
    subst this
    show w.cell? ⟨g, 0 + 0 * 12 + j, none⟩ = _
    rw [show 0 + 0 * 12 + j = j by omega, cell_of_row _ _ _ _ _ _ h]
    simpa using hj

set_option maxHeartbeats 4000000 in
set_option maxRecDepth 100000 in
theorem walk (ba : Option Addr) (bn bc : Nat) (oa : Option Addr) (on oc : Nat) (l : List UInt8) (ks : List (Int × Int × Int × Int)) (w : World) (hs : Sl w (.slice ba bn bc) l) (hbn : bn = l.length) (hl : l.length ≤ 140737488351232)
    (ho : OpsL w (.slice oa on oc) ks) (hon : on = ks.length) (hkl : on ≤ 9223372036854775807) :
    Calls Try.prog 7 #[.slice ba bn bc, .slice oa on oc] w fun e w' => e = .returned (.bool true) ∧ Upd (fun _ => False) w w' := by
  have hz := zeroO
  have HF2 : Hid (∀ w', Upd (fun _ => False) w w' → Calls Try.prog 40 #[.slice ba bn bc, .slice oa on oc, .bool false] w' fun e w'' => e = .returned (.bool true) ∧ Upd (fun _ => False) w' w'') := fun w' hu =>
    forth_any ba bn bc oa on oc l ks false w' (hs.upd hu (fun _ _ => id)) hbn hl (ho.upd hu) hon hkl (fun h => by cases h)
  clear hs hbn hl ho hon hkl
  obtain ⟨w1, hw1⟩ : ∃ x, x = w.alloc (.cells #[.int .u8 0, .int .u8 1, .int .u8 98] 5) := ⟨_, rfl⟩
  obtain ⟨w2, hw2⟩ : ∃ x, x = w1.alloc (.cells (base 8 0 1 0).toArray 54) := ⟨_, rfl⟩
  have hs1 : w1.heap.size = w.heap.size + 1 := by rw [hw1]; simp
  have hu12 : Upd (fun _ => False) w1 w2 := by rw [hw2]; exact (Upd.refl _ w1).alloc _
  have HU2 : Hid (Upd (fun _ => False) w w2) := by show Upd _ _ _; rw [hw2, hw1]; exact ((Upd.refl _ w).alloc _).alloc _
  have h1 : w1.heap[w.heap.size]? = some (.cells #[.int .u8 0, .int .u8 1, .int .u8 98] 5 (0, 0)) := by rw [hw1]; exact heap_alloc_new w _
  have h2 : w2.heap[w.heap.size + 1]? = some (.cells (base 8 0 1 0).toArray 54 (0, 0)) := by rw [← hs1, hw2]; exact heap_alloc_new w1 _
  have HF1 := Lib.hid (forth_any (some ⟨w.heap.size, 0, none⟩) 3 3 (some ⟨w.heap.size + 1, 0, none⟩) 1 1 L0 K0 true w2 (DigW.sl_row w2 w.heap.size 5 L0 _ 3 rfl (by unfold maxLen; decide) ((hu12.block _ (lt_of_block h1) id).trans h1) rfl) rfl (by decide) (ops0 w2 _ h2) rfl (by decide) (fun _ => all0))
  rw [hw1] at hw2
  subst hw2
  clear hw1 hs1 hu12 h1 h2
  go_enter Try.func7, Try.ntmps7
  go_wp2_with fail
  change Calls Try.prog 40 _ ((w.alloc (.cells #[.int .u8 0, .int .u8 1, .int .u8 98] 5)).alloc (.cells (base 8 0 1 0).toArray 54)) _
  refine HF1.out.mono ?_
  rintro e w3 ⟨rfl, hu3⟩
  have HU3 : Hid (Upd (fun _ => False) w w3) := HU2.out.trans (hu3.mono (fun _ _ e => e.elim))
  clear hu3
  go_wp2_with fail
  refine (HF2.out w3 HU3.out).mono ?_
  rintro e w4 ⟨rfl, hu4⟩
  have HU4 : Hid (Upd (fun _ => False) w w4) := HU3.out.trans (hu4.mono (fun _ _ e => e.elim))
  clear hu4
  go_wp2
  go_ret
  exact ⟨rfl, HU4.out⟩
end Go.Proofs.Ytgcaahcffbiikaa.ForthD
