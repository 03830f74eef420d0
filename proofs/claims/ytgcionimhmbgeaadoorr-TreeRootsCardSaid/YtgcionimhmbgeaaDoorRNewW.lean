/-
  digest.New and digest.Sum.
-/
import Derived.Test.YtgcionimhmbgeaaDoorRSumH
namespace Go.Proofs.YtgcionimhmbgeaaDoorR.NewW
open Go.RowKit Sha TurnW Mem RowW SpreadW MixW HashM CopyW WriteW WriteN EndW SumH
set_option linter.unusedVariables false

def AI : Array Value := ((ws init).map W ++ ((List.replicate 64 (0 : UInt8)).map u8 ++ [Value.int .u64 0])).toArray
theorem wpList_build_as {P : Program} {ops : Array Oper} {rest : List Oper} {o : Oper} {a : Act} {w : World} {Q : Exit → Act → World → Prop} (hg : o.guard = none) (t : TypeId) (parts : Array (Nat × Operand)) (ho : o.op = .build t parts) (cs : Array Value)
    (hb : P.built t (parts.map fun (i, x) => (i, a.eval x)).toList = some cs)
    (h : wpList P ops Q rest (a.put o.dst (.agg cs)) w) : wpList P ops Q (o :: rest) a w :=
  wpList_build hg t parts ho (by rw [hb]; rfl) (by rw [hb]; exact h)

set_option maxHeartbeats 1000000 in
set_option maxRecDepth 100000 in
theorem new_any (w : World) :
    Calls Tryd.prog 88 #[] w fun e w' => e = .returned (.pointer (some ⟨w.heap.size, 0, none⟩)) ∧ w' = w.alloc (.cells AI 135) := by
  obtain ⟨X, hX⟩ : ∃ X, X = ((ws init).map W).toArray := ⟨_, rfl⟩
  obtain ⟨Y, hY⟩ : ∃ Y, Y = AI := ⟨_, rfl⟩
  have HX := Lib.hid hX
  have HY := Lib.hid hY
  rw [← hY]
  clear hX hY
  go_enter Tryd.func88, Tryd.ntmps88
  go_wp2_with (first
    | ((with_reducible refine wpList_build_as (o := ⟨some 1, _, _, _, _, _⟩) ?_ _ _ rfl X ?_ ?_); rfl; (rw [HX.out]; kernel_rfl))
    | ((with_reducible refine wpList_build_as (o := ⟨some 2, _, _, _, _, _⟩) ?_ _ _ rfl Y ?_ ?_); rfl; (rw [HX.out, HY.out]; kernel_rfl)))
  go_ret
  exact ⟨rfl, rfl⟩
theorem hs_new (w : World) : Hs (w.alloc (.cells AI 135)) w.heap.size [] :=
  ⟨[], [], List.replicate 64 0, rfl, rfl, by simp, rfl, rfl, heap_alloc_new _ _⟩

/-- a new Hasher: its block -/
def NewAt (w : World) (e : Ending) (w' : World) : Prop := ∃ b, e = .returned (.pointer (some ⟨b, 0, none⟩)) ∧ w.heap.size ≤ b ∧ Hs w' b [] ∧ Upd (fun _ => False) w w'
theorem new_at (w : World) : Calls Tryd.prog 88 #[] w (NewAt w) :=
  (new_any w).mono fun _ _ ⟨he, hw⟩ => ⟨w.heap.size, he, Nat.le_refl _, by rw [hw]; exact hs_new w, by rw [hw]; exact (Upd.refl _ _).alloc _⟩

set_option maxHeartbeats 1000000 in
set_option maxRecDepth 100000 in
theorem sum_text (v : Value) (l : List UInt8) (w : World) (hv : Sl w v l) (hk : Kw w) (hg : 2 < w.heap.size) (hown : ∀ k, own v k → k < w.heap.size) (hlen : l.length < 576460752303423488) :
    Calls Tryd.prog 69 #[v] w fun e w' => e = .returned (.agg ((sha l).map u8).toArray) ∧ Upd (fun _ => False) w w' := by
  obtain ⟨Y, hY⟩ : ∃ Y, Y = ((sha l).map u8).toArray := ⟨_, rfl⟩
  have hl32 : (sha l).length = 32 := rfl
  have HY1 : Hid (Y.all (·.oneCell') = true) := by show _ = _; rw [hY]; simpa using one_of (sha l)
  have HYs : Hid ((Tryd.prog.info? 23).map (·.size) = some Y.size) := by show _ = _; rw [size32, hY]; rfl
  have HYl : Hid (AD.size = Y.size) := by show _ = _; rw [hY]; rfl
  have HY := Lib.hid hY
  have Hv := Lib.hid hv
  have Hk := Lib.hid hk
  have Hg := Lib.hid hg
  have Hown := Lib.hid hown
  have Hlen := Lib.hid hlen
  have hz := zeroD
  clear hY hv hk hg hown hlen hl32
  go_enter Tryd.func69, Tryd.ntmps69
  go_wp2_with fail
  refine (new_at _).mono ?_
  rintro e w1 ⟨b, rfl, hb, hs, hu⟩
  have hb' : w.heap.size < b := by simp at hb; omega
  have hr1 : Row w1 w.heap.size 23 ((List.replicate 32 (0 : UInt8)).map u8) := (Row.new w 23 ((List.replicate 32 (0 : UInt8)).map u8)).upd hu id
  have hu1 : Upd (fun _ => False) w w1 := ((Upd.refl _ w).alloc _).trans (hu.mono (fun _ _ h => h.elim))
  have HW := Lib.hid (write_any b v [] l w1 hs (Hv.out.upd hu1 (fun _ _ => id)) (fun ho => by have := Hown.out b ho; omega) (by have := Hg.out; omega) (Hk.out.upd hu1 id) (by have := Hlen.out; simp; omega))
  have HR1 := Lib.hid hr1
  have HU1 := Lib.hid hu1
  clear hb hs hu hr1 hu1
  go_wp2_with fail
  refine HW.out.mono ?_
  rintro e w2 ⟨rfl, hs, hu⟩
  rw [List.nil_append] at hs
  have HU2 : Hid (Upd (fun _ => False) w w2) := HU1.out.trans (hu.mono (fun k _ e => .inr (by omega)))
  have HR2 : Hid (Row w2 w.heap.size 23 ((List.replicate 32 (0 : UInt8)).map u8)) := HR1.out.upd hu (by omega)
  have HS := Lib.hid (sum_any b l w2 hs (Hk.out.upd HU2.out id) (by have := Hg.out; have := HU2.out.size; omega) Hlen.out)
  clear hs hu
  go_wp2_with fail
  refine HS.out.mono ?_
  rintro e w3 ⟨rfl, hu⟩
  have HR3 : Hid (w3.heap[w.heap.size]? = some (.cells AD 23 (0, 0))) := HR2.out.upd hu id
  have HU3 : Hid (Upd (fun _ => False) w w3) := HU2.out.trans (hu.mono (fun _ _ h => h.elim))
  clear hu
  rw [← HY.out]
  go_wp2_with ((with_reducible refine wpList_store_new (o := ⟨none, .store 23 (.tmp 2) (.tmp 9), _, _, _, _⟩) ?_ _ (.tmp 2) (.tmp 9) ?_ w.heap.size Y ?_ ?_ 23 AD HR3.out HYs.out HYl.out HY1.out ?_); rfl; rfl; rfl; rfl; intro w5 Hg5 Hu5)
  refine bodyPost_ret (results_cell_row rfl _ _ w.heap.size 23 Y (0, 0) _ rfl Hg5.out Tryd.underlying23 rfl HYs.out) rfl ?_
  exact ⟨by rw [← HY.out], HU3.out.trans (Hu5.out.mono (fun k hk e => .inr (by omega)))⟩
end Go.Proofs.YtgcionimhmbgeaaDoorR.NewW
