/-
  digest.Leaf.
-/
import Derived.Test.YtiglaeipbcmlnaaDoorOfW
namespace Go.Proofs.YtiglaeipbcmlnaaDoor.LeafW
open Go.RowKit Sha TurnW Mem RowW SpreadW MixW HashM CopyW WriteW WriteN EndW SumH NewW EqW CutW OfW
set_option linter.unusedVariables false

theorem of_len (width dom : Int) (ts : List (List UInt8)) : (ofM width dom ts).length = 32 := cut_len _ _ rfl
theorem slL_nil (w : World) (n : Nat) (hn : n = 0) (O : Nat → Prop) : SlL w (.slice none n n) [] O := by
  subst hn
  exact ⟨none, 0, fun _ => .bool false, rfl, fun _ => rfl, by simp [own, Value.ownBlock], by simp⟩
theorem slL_one (w : World) (g : Nat) (v : Value) (xs : List UInt8) (B : Nat) (hg : w.heap[g]? = some (.cells #[v] 25 (0, 0))) (hs : Sl w v xs) (ho : ∀ k, own v k → k < B) (hB : g < B) :
    SlL w (.slice (some ⟨g, 0, none⟩) 1 1) [xs] (fun k => k < B) := by
  refine ⟨_, 1, fun _ => v, rfl, by simp, fun k hk => by have := own_at hk; omega, fun a ha => ?_⟩
  injection ha with ha
  subst ha
  refine ⟨rfl, fun i hi => ?_⟩
  obtain rfl : i = 0 := by simpa using hi
  exact ⟨by rw [add_none, cell_of_row _ _ _ _ _ _ hg]; rfl, hs, ho⟩

set_option maxHeartbeats 4000000 in
set_option maxRecDepth 100000 in
theorem leaf_any (width : Int) (ao : Option Addr) (n cap : Nat) (xs : List UInt8) (w : World) (hs : Sl w (.slice ao n cap) xs) (ho : ∀ k, own (.slice ao n cap) k → k < w.heap.size)
    (hk : Kw w) (hg : 0 < w.heap.size) (hlen : xs.length < 288230376151711744) :
    Calls Tryd.prog 15 #[.int .i64 width, .slice ao n cap] w fun e w' => e = .returned (.agg ((ofM width 0 [xs]).map u8).toArray) ∧ Upd (fun _ => False) w w' := by
  obtain ⟨Y, hY⟩ : ∃ Y, Y = ((ofM width 0 [xs]).map u8).toArray := ⟨_, rfl⟩
  have hl32 := of_len width 0 [xs]
  have HY1 : Hid (Y.all (·.oneCell') = true) := by show _ = _; rw [hY]; simpa using one_of (ofM width 0 [xs])
  have HYs : Hid ((Tryd.prog.info? 23).map (·.size) = some Y.size) := by show _ = _; rw [size32, hY]; simp [hl32]
  have HYl : Hid (AD.size = Y.size) := by show _ = _; rw [hY]; simp [hl32, AD]
  have HY := Lib.hid hY
  have hu0 : Upd (fun _ => False) w ((w.alloc (.cells AD 23)).alloc (.cells #[.slice ao n cap] 25)) := ((Upd.refl _ w).alloc _).alloc _
  have hr0 : Row ((w.alloc (.cells AD 23)).alloc (.cells #[.slice ao n cap] 25)) w.heap.size 23 ((List.replicate 32 (0 : UInt8)).map u8) := heap_alloc2_old w _ _
  have HO := Lib.hid (of_any width 0 _ 1 [xs] (fun k => k < w.heap.size + 2) _
    (slL_one _ (w.heap.size + 1) _ xs _ (heap_alloc2_new w (.cells AD 23) (.cells #[.slice ao n cap] 25)) (hs.upd hu0 (fun _ _ => id)) (fun k h => by have := ho k h; omega) (by omega))
    (by intro k hk; simpa using hk) (hk.upd hu0 id) (by first | (simp; done) | (simp; omega)) (by simp) (by simpa [cat] using hlen))
  have HU0 := Lib.hid hu0
  have HR0 := Lib.hid hr0
  have hz := zeroD
  clear hY hs ho hk hg hlen hl32 hu0 hr0
  go_enter Tryd.func15, Tryd.ntmps15
  go_wp2_with (first
    | (go_at_call 41; refine HO.out.mono ?_; rintro e w1 ⟨rfl, hu1⟩; have HU1 := Lib.hid hu1; have HR1 : Hid (w1.heap[w.heap.size]? = some (.cells AD 23 (0, 0))) := HR0.out.upd hu1 id; clear hu1)
    | ((with_reducible refine wpList_store_new (o := ⟨none, .store 23 (.tmp 4) (.tmp 8), _, _, _, _⟩) ?_ _ (.tmp 4) (.tmp 8) ?_ w.heap.size Y ?_ ?_ 23 AD HR1.out HYs.out HYl.out HY1.out ?_); rfl; rfl; rfl; (rw [HY.out]; rfl); intro w2 Hg2 Hu2))
  refine bodyPost_ret (results_cell_row rfl _ _ w.heap.size 23 Y (0, 0) _ rfl Hg2.out Tryd.underlying23 rfl HYs.out) rfl ?_
  exact ⟨by rw [← HY.out], (HU0.out.trans (HU1.out.mono (fun _ _ h => h.elim))).trans (Hu2.out.mono (fun k hk e => .inr (by omega)))⟩
end Go.Proofs.YtiglaeipbcmlnaaDoor.LeafW
