/-
  digest.Mac of a key of at most 64 bytes.
-/
import Derived.Test.YtiglaeipbcmlnaaDoorPadW
namespace Go.Proofs.YtiglaeipbcmlnaaDoor.MacW
open Go.RowKit Sha TurnW Mem RowW SpreadW MixW HashM CopyW WriteW WriteN EndW SumH NewW EqW PadW
set_option linter.unusedVariables false

theorem wpStill_load_row {P : Program} {ops : Array Oper} {w : World} {Q : Act → Prop} {a : Act} {o : Oper} {rest : List Oper} (hgd : o.guard = none) (ty : TypeId) (x : Operand) (ho : o.op = .load ty x)
    (g : Nat) (hx : a.eval x = .pointer (some ⟨g, 0, none⟩)) (t : TypeId) (cs : Array Value) (fr : Nat × Nat) (d : TypeDesc) (hg : w.heap[g]? = some (.cells cs t fr))
    (hu : P.underlying ty = some d) (hd : (match d with | .struct _ | .array _ _ => true | _ => false) = true) (hi : (P.info? ty).map (·.size) = some cs.size)
    (h : wpStill P ops w Q rest (a.put o.dst (.agg cs))) : wpStill P ops w Q (o :: rest) a := by
  refine wpStill_step (fun K hK => ?_)
  have hw : Region.wanted o (yielded ops a.tmps) = true := by simp [Region.wanted, hgd]
  rw [if_pos hw]
  unfold Oper.still execOp
  simp only [ho, hx, Instr.loadAt, Instr.sureAddr, Sem.run_bind, Sem.run_pure, Result.andThen_ok, run_loadVar_row w g t ty cs fr d hg hu hd hi]
  rw [Oper.stillUpon_value]
  exact hK _ h
theorem size64b : (Tryd.prog.info? 81).map (·.size) = some 64 := by kernel_rfl
def A64 : Array Value := ((List.replicate 64 (0 : UInt8)).map u8).toArray
theorem zero64 (w : World) : (zeroValue 81).run Tryd.prog w = .ok (.agg A64) w := by kernel_rfl
def block (key : List UInt8) : List UInt8 := key ++ List.replicate (64 - key.length) 0
def macM (key msg : List UInt8) : List UInt8 := sha (xorAll (block key) 92 ++ sha (xorAll (block key) 54 ++ msg))
theorem block_len (key : List UInt8) (h : key.length ≤ 64) : (block key).length = 64 := by simp [block]; omega
theorem block_splice (key : List UInt8) (h : key.length ≤ 64) : splice ((List.replicate 64 (0 : UInt8)).map u8) 0 (key.map u8) = (block key).map u8 := by
  unfold splice block
  rw [List.take_zero, List.nil_append, Nat.zero_add, List.length_map, List.map_append, List.map_replicate, List.drop_replicate, List.map_replicate]

set_option maxHeartbeats 4000000 in
set_option maxRecDepth 100000 in
theorem mac_short (ka : Option Addr) (kn kc : Nat) (m : Value) (key msg : List UInt8) (w : World) (hkey : Sl w (.slice ka kn kc) key) (hm : Sl w m msg) (hkl : key.length ≤ 64) (hown : ∀ k, own m k → k < w.heap.size)
    (hk : Kw w) (hg : 0 < w.heap.size) (hlen : msg.length < 288230376151711744) :
    Calls Tryd.prog 14 #[.slice ka kn kc, m] w fun e w' => e = .returned (.agg ((macM key msg).map u8).toArray) ∧ Upd (fun _ => False) w w' := by
  obtain ⟨Y, hY⟩ : ∃ Y, Y = ((macM key msg).map u8).toArray := ⟨_, rfl⟩
  obtain ⟨Z, hZ⟩ : ∃ Z, Z = ((sha (xorAll (block key) 54 ++ msg)).map u8).toArray := ⟨_, rfl⟩
  obtain ⟨X, hX⟩ : ∃ X, X = ((block key).map u8).toArray := ⟨_, rfl⟩
  have HY1 : Hid (Y.all (·.oneCell') = true) := by show _ = _; rw [hY]; simpa using one_of (macM key msg)
  have HYs : Hid ((Tryd.prog.info? 23).map (·.size) = some Y.size) := by show _ = _; rw [size32, hY]; rfl
  have HYl : Hid (AD.size = Y.size) := by show _ = _; rw [hY]; rfl
  have HZ1 : Hid (Z.all (·.oneCell') = true) := by show _ = _; rw [hZ]; simpa using one_of (sha (xorAll (block key) 54 ++ msg))
  have HZs : Hid ((Tryd.prog.info? 23).map (·.size) = some Z.size) := by show _ = _; rw [size32, hZ]; rfl
  have HZl : Hid (AD.size = Z.size) := by show _ = _; rw [hZ]; rfl
  have HXs : Hid ((Tryd.prog.info? 81).map (·.size) = some X.size) := by show _ = _; rw [size64b, hX]; simp [block_len key hkl]
  have HX := Lib.hid hX
  have HY := Lib.hid hY
  have HZ := Lib.hid hZ
  have Hkey := Lib.hid hkey
  obtain ⟨hkn, hkc, _⟩ := cap_of hkey
  have Hm := Lib.hid hm
  have Hown := Lib.hid hown
  have Hk := Lib.hid hk
  have Hg := Lib.hid hg
  have Hlen := Lib.hid hlen
  have hz := zeroD
  have hz' := zero64
  have hknI : (kn : Int) ≤ 64 := by omega
  have HW0 : Hid (Row ((w.alloc (.cells AD 23)).alloc (.cells A64 81)) (w.heap.size + 1) 81 ((List.replicate 64 (0 : UInt8)).map u8)) := heap_alloc2_new w _ _
  have HW1 : Hid (Row ((w.alloc (.cells AD 23)).alloc (.cells A64 81)) w.heap.size 23 ((List.replicate 32 (0 : UInt8)).map u8)) := heap_alloc2_old w _ _
  have HU0 : Hid (Upd (fun _ => False) w ((w.alloc (.cells AD 23)).alloc (.cells A64 81))) := ((Upd.refl _ w).alloc _).alloc _
  have Hsrc := Lib.hid (src_of (Hkey.out.upd HU0.out (fun _ _ => id)) (Nat.le_refl key.length))
  rw [List.take_length] at Hsrc
  have Hmin : Hid (Nat.min kn 64 = key.length) := by show _ = _; rw [← hkn]; simp only [Nat.min_def]; split <;> omega
  have Hkn := Lib.hid hkn
  have Hkl := Lib.hid hkl
  clear hX hY hZ hkey hm hown hk hg hlen hkn hkc hkl
  go_enter Tryd.func14, Tryd.ntmps14
  go_wp2_with (first
    | ((with_reducible refine wpList_copy_new (o := ⟨some 16, _, _, _, _, _⟩) ?_ (.tmp 14) (.tmp 15) 25 25 ?_ 5 Tryd.underlying25 info8s (some ⟨w.heap.size + 1, 0, none⟩) ka 64 64 kn kc ?_ ?_ (w.heap.size + 1) 0 _ _ HW0.out (key.map u8) ?_ ?_ ?_ (one_of _) ?_); rfl; rfl; rfl; rfl; (rw [Hsrc.out.1, Hmin.out]); (exact fun hp => ⟨rfl, Hsrc.out.2 hp⟩); (rw [Hsrc.out.1]; have := Hkl.out; simp; omega); intro w1 HR1 HU1; have HG1 : Hid (w1.heap[w.heap.size + 1]? = some (.cells X 81 (0, 0))) := (by show _ = _; rw [HX.out, ← block_splice key Hkl.out]; exact HR1.out))
    | ((with_reducible refine wpList_load_row (o := ⟨some 17, _, _, _, _, _⟩) ?_ _ (.tmp 6) ?_ (w.heap.size + 1) ?_ 81 X (0, 0) _ HG1.out Tryd.underlying81 ?_ HXs.out ?_); rfl; rfl; rfl; rfl))
  have hu1 : Upd (fun _ => False) w w1 := HU0.out.trans (HU1.out.mono (fun k _ e => .inr (by omega)))
  have hr1 : Row w1 w.heap.size 23 ((List.replicate 32 (0 : UInt8)).map u8) := HW1.out.upd HU1.out (by omega)
  have hs1 : w.heap.size + 1 < w1.heap.size := lt_of_block HG1.out
  have HP1 := Lib.hid (padded_any (block key) (block_len key Hkl.out) 54 m msg w1 (Hm.out.upd hu1 (fun _ _ => id)) (fun k ho => by have := Hown.out k ho; omega) (Hk.out.upd hu1 id) (by have := Hg.out; omega) Hlen.out)
  rw [← HX.out] at HP1
  have HU1' := Lib.hid hu1
  have HR1' := Lib.hid hr1
  clear hu1 hr1
  refine HP1.out.mono ?_
  rintro e w2 ⟨rfl, hu⟩
  have hu2 : Upd (fun _ => False) w w2 := HU1'.out.trans (hu.mono (fun _ _ h => h.elim))
  have HG2 := Lib.hid ((hu.block _ hs1 id).trans HG1.out)
  have HR2 := Lib.hid (HR1'.out.upd hu id)
  have hs2 : w1.heap.size ≤ w2.heap.size := hu.size
  have HU2 := Lib.hid hu2
  clear hu hu2
  rw [← HZ.out]
  go_wp2_with ((with_reducible refine wpList_store_new (o := ⟨none, .store 23 (.tmp 7) (.tmp 19), _, _, _, _⟩) ?_ _ (.tmp 7) (.tmp 19) ?_ w2.heap.size Z ?_ ?_ 23 AD (heap_alloc_new _ _) HZs.out HZl.out HZ1.out ?_); rfl; rfl; rfl; rfl; intro w3 Hg3 Hu3)
  have HG3 : Hid (w3.heap[w.heap.size + 1]? = some (.cells X 81 (0, 0))) := by
    show _ = _
    rw [Hu3.out.block _ (by simp; omega) (by omega), Below.heap_alloc _ _ _ (by omega)]; exact HG2.out
  have HR3 := Lib.hid ((HR2.out.alloc (.cells AD 23)).upd Hu3.out (by omega))
  have HU3 : Hid (Upd (fun _ => False) w w3) := (HU2.out.alloc _).trans (Hu3.out.mono (fun k _ e => .inr (by omega)))
  have hs3 : w2.heap.size < w3.heap.size := lt_of_block Hg3.out
  have hsl : Sl w3.drew (.slice (some ⟨w2.heap.size, 0, none⟩) 32 32) (sha (xorAll (block key) 54 ++ msg)) := by
    refine ⟨_, 32, rfl, (show (32 : Nat) ≤ 32 from Nat.le_refl _), by unfold maxLen; omega, by simp, fun a ha => ?_⟩
    injection ha with ha
    subst ha
    refine ⟨rfl, fun i hi => ?_⟩
    have hg := Hg3.out
    rw [HZ.out] at hg
    rw [add_none, Nat.zero_add, show w3.drew.cell? ⟨w2.heap.size, i, none⟩ = w3.cell? ⟨w2.heap.size, i, none⟩ from rfl, cell_of_row _ _ _ _ _ _ hg, List.getElem?_toArray, List.getElem?_map, List.getD_eq_getElem?_getD, List.getElem?_eq_getElem hi]
    rfl
  have HP2 := Lib.hid (padded_any (block key) (block_len key Hkl.out) 92 _ _ w3.drew hsl (fun k ho => by rw [own_at ho]; exact hs3) (Hk.out.upd HU3.out.drew id) (by have := Hg.out; show _ < w3.heap.size; omega) (by show (32 : Nat) < _; omega))
  rw [← HX.out] at HP2
  clear hsl
  refine wp_region_still_tail 2 (by kernel_rfl) (by kernel_rfl) ?_
  simp only [List.take_succ_cons, List.take_zero, List.drop_succ_cons, List.drop_zero]
  refine wpStill_load_row rfl _ (.tmp 6) rfl (w.heap.size + 1) rfl 81 X (0, 0) _ HG3.out Tryd.underlying81 rfl HXs.out ?_
  still_step
  refine wpStill_nil ?_
  change wpList _ _ _ _ _ w3.drew
  go_wp2_with (first
    | (go_at_call 60; refine HP2.out.mono ?_; rintro e w4 ⟨rfl, hu4⟩; have HR4 : Hid (w4.heap[w.heap.size]? = some (.cells AD 23 (0, 0))) := HR3.out.drew.upd hu4 id; have HU4 := Lib.hid hu4; clear hu4)
    | ((with_reducible refine wpList_store_new (o := ⟨none, .store 23 (.tmp 4) (.tmp 22), _, _, _, _⟩) ?_ _ (.tmp 4) (.tmp 22) ?_ w.heap.size Y ?_ ?_ 23 AD HR4.out HYs.out HYl.out HY1.out ?_); rfl; rfl; rfl; (rw [HY.out]; rfl); intro w5 Hg5 Hu5))
  refine bodyPost_ret (results_cell_row rfl _ _ w.heap.size 23 Y (0, 0) _ rfl Hg5.out Tryd.underlying23 rfl HYs.out) rfl ?_
  exact ⟨by rw [← HY.out], (HU3.out.drew.trans (HU4.out.mono (fun _ _ h => h.elim))).trans (Hu5.out.mono (fun k hk e => .inr (by omega)))⟩
end Go.Proofs.YtiglaeipbcmlnaaDoor.MacW
