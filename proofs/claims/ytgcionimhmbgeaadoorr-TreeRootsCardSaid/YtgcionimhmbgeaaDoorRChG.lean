/-
  Texts put together: LeafW, PadW, MacW, BranchW, TabN, MacL, EmptyW, WrittenW, NamesV, NamesD, TextW, HeldX, SumsW, RefMac, SplitL, OpenW, SplitM, RefCutW, RefOf, AppS, TabK, TabR.
-/
import Derived.Test.YtgcionimhmbgeaaDoorROfW
import Derived.Deep.RegionHeld
import Derived.Test.YtgcionimhmbgeaaDoorRBookW
import Derived.Deep.Cut
import Derived.Lib.SlBytesConst
import Derived.Test.YtgcionimhmbgeaaDoorRHeldW
import Derived.Test.YtgcionimhmbgeaaDoorRRefW3
import Derived.Laws.OwnMore
import Derived.Test.YtgcionimhmbgeaaDoorRLaidW
import Derived.WalkKit
import Derived.ProofKit
import Derived.OpenShut
import Derived.ChangeOld
import Derived.SizedLaws
import Derived.Deep.Slices
import Derived.Test.YtgcionimhmbgeaaDoorRCutW
import Derived.Test.YtgcionimhmbgeaaDoorRMem
import Derived.Lib.AppendStr
import Derived.Lib.ConvBytes
import Derived.Laws.AppendOwn
import Derived.Maps.AppendAt
import Derived.Laws.AppendOwnNone

/-
  digest.Leaf.
-/
namespace Go.Proofs.YtgcionimhmbgeaaDoorR.LeafW
open Go.RowKit Sha TurnW Mem RowW SpreadW MixW HashM CopyW WriteW WriteN EndW SumH NewW EqW CutW OfW
set_option linter.unusedVariables false

theorem of_len (width dom : Int) (ts : List (List UInt8)) : (ofM width dom ts).length = 32 := cut_len _ _ rfl
theorem slL_nil (w : World) (n : Nat) (hn : n = 0) (O : Nat → Prop) : SlL w (.slice none n n) [] O := by
  subst hn
  exact ⟨none, 0, fun _ => .bool false, rfl, fun _ => rfl, by simp [own, Value.ownBlock], by simp⟩
theorem slL_one (w : World) (g : Nat) (v : Value) (xs : List UInt8) (B : Nat) (hg : w.heap[g]? = some (.cells #[v] 25 (0, 0))) (hs : Sl w v xs) (ho : ∀ k, own v k → k < B) (hB : g < B) :
    SlL w (.slice (some ⟨g, 0, none⟩) 1 1) [xs] (fun k => k < B) := by
  refine ⟨_, 1, fun _ => v, rfl, by simp, fun k hk => by have := own_at hk; omega, fun a ha => ?_⟩
  injection ha with ha
  subst ha
  refine ⟨rfl, fun i hi => ?_⟩
  obtain rfl : i = 0 := by simpa using hi
  exact ⟨by rw [add_none, cell_of_row _ _ _ _ _ _ hg]; rfl, hs, ho⟩

end Go.Proofs.YtgcionimhmbgeaaDoorR.LeafW

/-
  digest.padded, digest.Mac.
-/
namespace Go.Proofs.YtgcionimhmbgeaaDoorR.PadW
open Go.RowKit Sha TurnW Mem RowW SpreadW MixW HashM CopyW WriteW WriteN EndW SumH NewW EqW
set_option linter.unusedVariables false

def xorAll (key : List UInt8) (p : UInt8) : List UInt8 := key.map (· ^^^ p)
def psub (key : List UInt8) (p : UInt8) (j : Nat) : List UInt8 := xorAll (key.take j) p ++ key.drop j
theorem psub_set (key : List UInt8) (p : UInt8) (j : Nat) (hj : j < key.length) : (psub key p j).set j (key.getD j 0 ^^^ p) = psub key p (j + 1) := by
  unfold psub xorAll
  have hl : ((key.take j).map (· ^^^ p)).length = j := by simp; omega
  rw [List.set_append_right _ _ (by omega), hl, Nat.sub_self, List.drop_eq_getElem_cons hj, List.set_cons_zero, List.take_succ_eq_append_getElem hj, List.map_append, List.append_assoc]
  simp [List.getD_eq_getElem?_getD, hj]
theorem psub_at (key : List UInt8) (p : UInt8) (j : Nat) (hj : j < key.length) : (psub key p j)[j]? = some (key.getD j 0) := by
  have hl : (xorAll (key.take j) p).length = j := by simp [xorAll]; omega
  unfold psub
  rw [List.getElem?_append_right (by omega), hl, Nat.sub_self, List.getElem?_drop, Nat.add_zero, List.getD_eq_getElem?_getD, List.getElem?_eq_getElem hj]
  rfl
theorem v_xor (a b : UInt8) : bits .xor .u8 (a.toNat : Int) (b.toNat : Int) = ((a ^^^ b).toNat : Int) := by
  rw [u8_xor_nat _ _ a.toNat_lt b.toNat_lt, UInt8.toNat_xor]
def LP (F R : Nat) (key : List UInt8) (p : UInt8) (w0 : World) (i : Value) (wr : World) : Prop :=
  ∃ j : Nat, j ≤ 64 ∧ i = .int .i64 j ∧ Row wr F 127 ((psub key p j).map u8) ∧ Row wr R 23 ((List.replicate 32 (0 : UInt8)).map u8) ∧ Upd (fun _ => False) w0 wr

end Go.Proofs.YtgcionimhmbgeaaDoorR.PadW

/-
  digest.Mac of a key of at most 64 bytes.
-/
namespace Go.Proofs.YtgcionimhmbgeaaDoorR.MacW
open Go.RowKit Sha TurnW Mem RowW SpreadW MixW HashM CopyW WriteW WriteN EndW SumH NewW EqW PadW
set_option linter.unusedVariables false

theorem wpStill_load_row {P : Program} {ops : Array Oper} {w : World} {Q : Act → Prop} {a : Act} {o : Oper} {rest : List Oper} (hgd : o.guard = none) (ty : TypeId) (x : Operand) (ho : o.op = .load ty x)
    (g : Nat) (hx : a.eval x = .pointer (some ⟨g, 0, none⟩)) (t : TypeId) (cs : Array Value) (fr : Nat × Nat) (d : TypeDesc) (hg : w.heap[g]? = some (.cells cs t fr))
    (hu : P.underlying ty = some d) (hd : (match d with | .struct _ | .array _ _ => true | _ => false) = true) (hi : (P.info? ty).map (·.size) = some cs.size)
    (h : wpStill P ops w Q rest (a.put o.dst (.agg cs))) : wpStill P ops w Q (o :: rest) a := by
  refine wpStill_step (fun K hK => ?_)
  have hw : Region.wanted o (yielded ops a.tmps) = true := by simp [Region.wanted, hgd]
  rw [if_pos hw]
  unfold Oper.still execOp
  simp only [ho, hx, Instr.loadAt, Instr.sureAddr, Sem.run_bind, Sem.run_pure, Result.andThen_ok, run_loadVar_row w g t ty cs fr d hg hu hd hi]
  rw [Oper.stillUpon_value]
  exact hK _ h
theorem size64b : (Tryd.prog.info? 127).map (·.size) = some 64 := by kernel_rfl
def A64 : Array Value := ((List.replicate 64 (0 : UInt8)).map u8).toArray
theorem zero64 (w : World) : (zeroValue 127).run Tryd.prog w = .ok (.agg A64) w := by kernel_rfl
def block (key : List UInt8) : List UInt8 := key ++ List.replicate (64 - key.length) 0
def macM (key msg : List UInt8) : List UInt8 := sha (xorAll (block key) 92 ++ sha (xorAll (block key) 54 ++ msg))
theorem block_len (key : List UInt8) (h : key.length ≤ 64) : (block key).length = 64 := by simp [block]; omega
theorem block_splice (key : List UInt8) (h : key.length ≤ 64) : splice ((List.replicate 64 (0 : UInt8)).map u8) 0 (key.map u8) = (block key).map u8 := by
  unfold splice block
  rw [List.take_zero, List.nil_append, Nat.zero_add, List.length_map, List.map_append, List.map_replicate, List.drop_replicate, List.map_replicate]

end Go.Proofs.YtgcionimhmbgeaaDoorR.MacW

/-
  digest.Branch.
-/
namespace Go.Proofs.YtgcionimhmbgeaaDoorR.BranchW
open Go.RowKit Sha TurnW Mem RowW SpreadW MixW HashM CopyW WriteW WriteN EndW SumH NewW EqW CutW OfW LeafW
set_option linter.unusedVariables false
set_option linter.unusedSimpArgs false

theorem sl_row (w : World) (g : Nat) (T : TypeId) (xs : List UInt8) (fr : Nat × Nat) (n : Nat) (hn : n = xs.length) (hm : xs.length ≤ maxLen) (hg : w.heap[g]? = some (.cells (xs.map u8).toArray T fr)) : Sl w (.slice (some ⟨g, 0, none⟩) n n) xs := by
  subst hn
  refine ⟨_, xs.length, rfl, Nat.le_refl _, hm, by simp, fun a ha => ?_⟩
  injection ha with ha
  subst ha
  refine ⟨rfl, fun i hi => ?_⟩
  rw [add_none, Nat.zero_add, cell_of_row _ _ _ _ _ _ hg, List.getElem?_toArray, List.getElem?_map, List.getD_eq_getElem?_getD, List.getElem?_eq_getElem hi]
  rfl
theorem slL_two (w : World) (g : Nat) (v v' : Value) (xs ys : List UInt8) (B : Nat) (hg : w.heap[g]? = some (.cells #[v, v'] 25 (0, 0))) (hs : Sl w v xs) (hs' : Sl w v' ys) (ho : ∀ k, own v k → k < B) (ho' : ∀ k, own v' k → k < B) (hB : g < B) :
    SlL w (.slice (some ⟨g, 0, none⟩) 2 2) [xs, ys] (fun k => k < B) := by
  refine ⟨_, 2, fun i => if i = 0 then v else v', rfl, by simp, fun k hk => by have := own_at hk; omega, fun a ha => ?_⟩
  injection ha with ha
  subst ha
  refine ⟨rfl, fun i hi => ?_⟩
  have hi' : i < 2 := hi
  obtain rfl | rfl : i = 0 ∨ i = 1 := by omega
  · exact ⟨by rw [add_none, cell_of_row _ _ _ _ _ _ hg]; rfl, hs, ho⟩
  · exact ⟨by rw [add_none, cell_of_row _ _ _ _ _ _ hg]; rfl, hs', ho'⟩

end Go.Proofs.YtgcionimhmbgeaaDoorR.BranchW

/-
  digest.Node, Link.
-/
namespace Go.Proofs.YtgcionimhmbgeaaDoorR.TabN
open Go.RowKit Sha TurnW Mem RowW SpreadW MixW HashM CopyW WriteW WriteN EndW SumH NewW EqW CutW OfW LeafW BranchW
set_option linter.unusedVariables false
set_option linter.unusedSimpArgs false

set_option maxHeartbeats 4000000 in
set_option maxRecDepth 100000 in
theorem node_any (width : Int) (xs ys : List UInt8) (hx : xs.length = 32) (hy : ys.length = 32) (w : World)
    (hk : Kw w) (hg : 2 < w.heap.size) :
    Calls Tryd.prog 45 #[.int .i64 width, .agg (xs.map u8).toArray, .agg (ys.map u8).toArray] w fun e w' => e = .returned (.agg ((ofM width 1 [xs, ys]).map u8).toArray) ∧ Upd (fun _ => False) w w' := by
  obtain ⟨X, hX⟩ : ∃ X, X = (xs.map u8).toArray := ⟨_, rfl⟩
  obtain ⟨Z, hZ⟩ : ∃ Z, Z = (ys.map u8).toArray := ⟨_, rfl⟩
  obtain ⟨Y, hY⟩ : ∃ Y, Y = ((ofM width 1 [xs, ys]).map u8).toArray := ⟨_, rfl⟩
  have hl32 := of_len width 1 [xs, ys]
  have HY1 : Hid (Y.all (·.oneCell') = true) := by show _ = _; rw [hY]; simpa using one_of (ofM width 1 [xs, ys])
  have HYs : Hid ((Tryd.prog.info? 23).map (·.size) = some Y.size) := by show _ = _; rw [size32, hY]; simp [hl32]
  have HYl : Hid (AD.size = Y.size) := by show _ = _; rw [hY]; simp [hl32, AD]
  have HY := Lib.hid hY
  obtain ⟨w3, hw3⟩ : ∃ w3, w3 = ((w.alloc (.cells X 23)).alloc (.cells Z 23)).alloc (.cells AD 23) := ⟨_, rfl⟩
  have hs3 : w3.heap.size = w.heap.size + 3 := by rw [hw3]; simp
  have hu3 : Upd (fun _ => False) w w3 := by rw [hw3]; exact (((Upd.refl _ w).alloc _).alloc _).alloc _
  have hgx : w3.heap[w.heap.size]? = some (.cells (xs.map u8).toArray 23 (0, 0)) := by
    rw [hw3, ← hX, Below.heap_alloc _ _ _ (by simp; omega)]; exact heap_alloc2_old w _ _
  have hgz : w3.heap[w.heap.size + 1]? = some (.cells (ys.map u8).toArray 23 (0, 0)) := by
    rw [hw3, ← hZ, Below.heap_alloc _ _ _ (by simp)]; exact heap_alloc2_new w _ _
  have hgr : w3.heap[w.heap.size + 2]? = some (.cells AD 23 (0, 0)) := by
    rw [hw3]; have h := heap_alloc_new ((w.alloc (.cells X 23)).alloc (.cells Z 23)) (.cells AD 23); simpa using h
  obtain ⟨w4, hw4⟩ : ∃ w4, w4 = w3.drew.alloc (.cells #[.slice (some ⟨w.heap.size, 0, none⟩) 32 32, .slice (some ⟨w.heap.size + 1, 0, none⟩) 32 32] 25) := ⟨_, rfl⟩
  have hs4 : w4.heap.size = w3.heap.size + 1 := by rw [hw4]; first | (simp; done) | (simp; rfl)
  have hu4 : Upd (fun _ => False) w3 w4 := by rw [hw4]; exact (Upd.refl _ w3).drew.alloc _
  have hsx := (sl_row w3 w.heap.size 23 xs _ 32 hx.symm (by rw [hx]; unfold maxLen; omega) hgx).upd hu4 (fun _ _ => id)
  have hsz := (sl_row w3 (w.heap.size + 1) 23 ys _ 32 hy.symm (by rw [hy]; unfold maxLen; omega) hgz).upd hu4 (fun _ _ => id)
  have hnew : w4.heap[w3.heap.size]? = some (.cells #[.slice (some ⟨w.heap.size, 0, none⟩) 32 32, .slice (some ⟨w.heap.size + 1, 0, none⟩) 32 32] 25 (0, 0)) := by rw [hw4]; exact heap_alloc_new w3.drew _
  have HO := Lib.hid (of_any width 1 _ 2 [xs, ys] (fun k => k < w.heap.size + 4) w4
    (slL_two _ w3.heap.size _ _ xs ys _ hnew hsx hsz (fun k h => by have := own_at h; omega) (fun k h => by have := own_at h; omega) (by omega))
    (by intro k hk; omega) (hk.upd (hu3.trans (hu4.mono fun _ _ h => h.elim)) id)
    (by omega) (by simp) (by simp [cat, hx, hy]))
  have HU4 : Hid (Upd (fun _ => False) w w4) := hu3.trans (hu4.mono fun _ _ h => h.elim)
  have HR4 : Hid (w4.heap[w.heap.size + 2]? = some (.cells AD 23 (0, 0))) := (hu4.block _ (by omega) id).trans hgr
  subst hw4
  have HX := Lib.hid hX
  have HZ := Lib.hid hZ
  have Hw3 := Lib.hid hw3
  have Hs3 := Lib.hid hs3
  have hz := zeroD
  rw [← hX, ← hZ]
  clear hY hX hZ hk hg hl32 hu3 hgx hgz hgr hu4 hsx hsz hnew hs3 hs4
  go_enter Tryd.func45, Tryd.ntmps45
  go_wp2_with fail
  rw [← hw3]
  clear hw3
  refine wp_region_held (S := fun _ => True) (by kernel_rfl) ?_
  refine wpAnyH_take (i := 0) (oi := ⟨some 7, _, _, _, _, _⟩) (v := .int .i64 width) rfl (by kernel_rfl) (by kernel_rfl) (by kernel_rfl) (fun _ _ _ h => h) (Or.inl ⟨by rfl, fun w hS => by go_simp⟩) trivial ?_
  try simp only [Act.put, List.setIfInBounds_toArray, List.set_cons_zero, List.set_cons_succ]
  refine wpAnyH_take (i := 1) (oi := ⟨some 8, _, _, _, _, _⟩) (v := .slice (some ⟨w.heap.size, 0, none⟩) 32 32) rfl (by kernel_rfl) (by kernel_rfl) (by kernel_rfl) (fun _ _ _ h => h) (Or.inl ⟨by rfl, fun w hS => by go_simp⟩) trivial ?_
  try simp only [Act.put, List.setIfInBounds_toArray, List.set_cons_zero, List.set_cons_succ]
  refine wpAnyH_take (i := 2) (oi := ⟨some 9, _, _, _, _, _⟩) (v := .slice (some ⟨w.heap.size + 1, 0, none⟩) 32 32) rfl (by kernel_rfl) (by kernel_rfl) (by kernel_rfl) (fun _ _ _ h => h) (Or.inl ⟨by rfl, fun w hS => by go_simp⟩) trivial ?_
  try simp only [Act.put, List.setIfInBounds_toArray, List.set_cons_zero, List.set_cons_succ]
  refine wpAnyH_ready (rs := [3]) (by kernel_rfl) (by simp) ?_
  refine AllReadyH.cons rfl (fun K hK => ?_) AllReadyH.nil
  change ite _ (Oper.wp _ _ _ w3.drew _ _) _
  go_simp
  refine hK.out _ _ trivial (fun hHeld => ?_)
  clear hK K hHeld
  try simp only [Act.put, List.setIfInBounds_toArray, List.set_cons_zero, List.set_cons_succ]
  refine wpAnyH_ready (rs := [4]) (by kernel_rfl) (by simp) ?_
  refine AllReadyH.cons rfl (fun K hK => ?_) AllReadyH.nil
  go_simp
  refine HO.out.mono ?_
  rintro e w5 ⟨rfl, hu5⟩
  have HU5 := Lib.hid hu5
  have HR5 : Hid (w5.heap[w.heap.size + 2]? = some (.cells AD 23 (0, 0))) := (hu5.block _ (lt_of_block HR4.out) id).trans HR4.out
  clear hu5
  refine hK.out _ _ trivial (fun hHeld => ?_)
  clear hK K hHeld
  try simp only [Act.put, List.setIfInBounds_toArray, List.set_cons_zero, List.set_cons_succ]
  refine wpAnyH_ready (rs := [5]) (by kernel_rfl) (by simp) ?_
  refine AllReadyH.cons rfl (fun K hK => ?_) AllReadyH.nil
  rw [if_pos (by rfl)]
  refine wp_store_row 23 (.tmp 6) (.tmp 11) rfl (w.heap.size + 2) Y rfl (by rw [HY.out]; rfl) 23 AD HR5.out HYs.out HYl.out HY1.out ?_
  have Hg6 := Lib.hid (setRow_heap _ _ AD Y _ _ HR5.out)
  have Hu6 : Hid (Upd (fun k => k = w.heap.size + 2) w5 (w5.setRow (w.heap.size + 2) Y)) := Upd.setRow (Upd.refl _ _) _ Y (.inl rfl)
  generalize w5.setRow (w.heap.size + 2) Y = w6 at Hg6 Hu6 ⊢
  refine hK.out _ _ trivial (fun hHeld => ?_)
  clear hK K hHeld
  try simp only [Act.put, List.setIfInBounds_toArray, List.set_cons_zero, List.set_cons_succ]
  refine wpAnyH_done (by kernel_rfl) ?_ _
  go_wp2
  refine bodyPost_ret (results_cell_row rfl _ _ (w.heap.size + 2) 23 Y (0, 0) _ rfl Hg6.out Tryd.underlying23 rfl HYs.out) rfl ?_
  exact ⟨by rw [← HY.out], (HU4.out.trans (HU5.out.mono (fun _ _ h => h.elim))).trans (Hu6.out.mono (fun k hk e => .inr (by omega)))⟩
end Go.Proofs.YtgcionimhmbgeaaDoorR.TabN

/-
  digest.Mac of a key of more than 64 bytes; of every key.
-/
namespace Go.Proofs.YtgcionimhmbgeaaDoorR.MacW
open Go.RowKit Sha TurnW Mem RowW SpreadW MixW HashM CopyW WriteW WriteN EndW SumH NewW EqW PadW BookW
set_option linter.unusedVariables false


/-- what Mac tells of any key -/
def macA (key msg : List UInt8) : List UInt8 := if key.length ≤ 64 then macM key msg else macM (sha key) msg
end Go.Proofs.YtgcionimhmbgeaaDoorR.MacW

/-
  digest.Empty.
-/
namespace Go.Proofs.YtgcionimhmbgeaaDoorR.EmptyW
open Go.RowKit Sha TurnW Mem RowW SpreadW MixW HashM CopyW WriteW WriteN EndW SumH NewW EqW CutW OfW LeafW BranchW
set_option linter.unusedVariables false

def emp (width : Int) : Nat → List UInt8
  | 0 => ofM width 5 []
  | j + 1 => ofM width 4 [emp width j, emp width j]
theorem emp_len (width : Int) (j : Nat) : (emp width j).length = 32 := by cases j <;> exact of_len _ _ _
def LE (R D : Nat) (width : Int) (n : Nat) (w0 : World) (i : Value) (wr : World) : Prop :=
  ∃ j : Nat, j ≤ n ∧ i = .int .i64 j ∧ wr.heap[R]? = some (.cells AD 23 (0, 0)) ∧ wr.heap[D]? = some (.cells ((emp width j).map u8).toArray 23 (0, 0)) ∧ Upd (fun _ => False) w0 wr

end Go.Proofs.YtgcionimhmbgeaaDoorR.EmptyW

/-
  docketlaw2.hex, docketlaw2.written.
-/
namespace Go.Proofs.YtgcionimhmbgeaaDoorR.WrittenW
open Go.RowKit Sha TurnW Mem RowW SpreadW MixW HashM CopyW WriteW EndW SumH NewW
set_option linter.unusedVariables false

def hx (c : UInt8) : UInt8 := if 97 ≤ c.toNat then UInt8.ofNat (c.toNat - 87) else UInt8.ofNat (c.toNat + 208)

def hexAt (l : List UInt8) (i : Nat) : UInt8 := UInt8.ofNat (16 * (hx (l.getD (2 * i) 0)).toNat + (hx (l.getD (2 * i + 1) 0)).toNat)
def hexs (l : List UInt8) : List UInt8 := (List.range 32).map (hexAt l)
def wsub (l : List UInt8) (j : Nat) : List UInt8 := (List.range j).map (hexAt l) ++ List.replicate (32 - j) 0
theorem wsub_set (l : List UInt8) (j : Nat) (hj : j < 32) : (wsub l j).set j (hexAt l j) = wsub l (j + 1) := by
  unfold wsub
  rw [List.set_append_right _ _ (by simp), List.length_map, List.length_range, Nat.sub_self, show 32 - j = (32 - (j + 1)) + 1 by omega, List.replicate_succ, List.set_cons_zero, List.range_succ, List.map_append, List.append_assoc]
  rfl
def LWr (D R : Nat) (l : List UInt8) (w0 : World) (i : Value) (wr : World) : Prop :=
  ∃ j : Nat, j ≤ 32 ∧ i = .int .i64 j ∧ Row wr D 23 ((wsub l j).map u8) ∧ Row wr R 23 ((List.replicate 32 (0 : UInt8)).map u8) ∧ Upd (fun _ => False) w0 wr

end Go.Proofs.YtgcionimhmbgeaaDoorR.WrittenW

/-
  docketlaw2.DigestNames: the values.
-/
namespace Go.Proofs.YtgcionimhmbgeaaDoorR.NamesV
open Go.RowKit Sha TurnW Mem RowW SpreadW MixW HashM CopyW WriteW WriteN EndW SumH NewW EqW CutW OfW LeafW BranchW EmptyW WrittenW PadW MacW
set_option linter.unusedVariables false

def t1 : List UInt8 := [116, 104, 101, 32, 116, 104, 105, 114, 100, 32, 99, 97, 115, 101, 32, 111, 102, 32, 116, 104, 101, 32, 100, 111, 99, 107, 101, 116]
def t2 : List UInt8 := [97, 32, 100, 111, 99, 107, 101, 116, 32, 105, 115, 32, 114, 101, 97, 100, 32, 102, 114, 111, 109, 32, 105, 116, 115, 32, 102, 105, 114, 115, 116, 32, 101, 118, 101, 110, 116, 32, 116, 111, 32, 105, 116, 115, 32, 108, 97, 115, 116, 44, 32, 116, 119, 105, 99, 101]
def t3 : List UInt8 := [99, 108, 101, 114, 107]
def t4 : List UInt8 := [104, 101, 97, 100, 32, 49, 50]
def t5 : List UInt8 := [99, 97, 115, 101]
def s1 : ByteArray := ⟨#[52, 52, 57, 52, 55, 48, 53, 55, 54, 50, 55, 53, 51, 48, 49, 55, 49, 48, 100, 101, 97, 53, 49, 54, 54, 50, 100, 98, 56, 55, 99, 98, 50, 101, 52, 51, 51, 51, 100, 50, 57, 100, 102, 97, 50, 51, 101, 48, 98, 55, 48, 101, 98, 51, 55, 55, 49, 57, 56, 98, 52, 102, 53, 98]⟩
def s2 : ByteArray := ⟨#[50, 102, 98, 50, 53, 97, 98, 101, 97, 97, 55, 57, 48, 53, 57, 99, 54, 97, 56, 55, 100, 49, 55, 56, 51, 98, 48, 100, 55, 97, 98, 99, 99, 102, 102, 101, 101, 49, 51, 57, 54, 49, 100, 53, 99, 57, 101, 50, 52, 53, 53, 99, 99, 99, 52, 51, 102, 56, 56, 50, 53, 50, 55, 57]⟩
def s3 : ByteArray := ⟨#[100, 99, 99, 53, 97, 55, 97, 56, 53, 55, 53, 52, 97, 57, 101, 49, 56, 51, 55, 98, 48, 99, 98, 48, 56, 55, 101, 55, 97, 51, 48, 55, 101, 98, 48, 100, 53, 48, 99, 100, 51, 101, 55, 57, 102, 52, 53, 100, 48, 53, 50, 55, 100, 48, 56, 57, 49, 56, 99, 48, 97, 54, 102, 57]⟩
def s4 : ByteArray := ⟨#[56, 57, 51, 56, 53, 100, 102, 55, 97, 49, 97, 97, 53, 99, 55, 49, 56, 55, 53, 49, 51, 98, 102, 52, 50, 100, 99, 98, 102, 57, 54, 97, 100, 52, 49, 51, 55, 48, 55, 55, 102, 100, 99, 50, 49, 48, 50, 100, 57, 102, 50, 99, 51, 53, 52, 56, 57, 98, 56, 51, 55, 52, 56, 54]⟩
def s5 : ByteArray := ⟨#[101, 55, 55, 98, 57, 97, 57, 97, 101, 57, 101, 51, 48, 98, 48, 100, 98, 100, 98, 54, 102, 53, 49, 48, 97, 50, 54, 52, 101, 102, 57, 100, 101, 55, 56, 49, 53, 48, 49, 100, 55, 98, 54, 98, 57, 50, 97, 101, 56, 57, 101, 98, 48, 53, 57, 99, 53, 97, 98, 55, 52, 51, 100, 98]⟩
def s6 : ByteArray := ⟨#[54, 53, 51, 55, 49, 51, 48, 56, 55, 57, 102, 56, 49, 50, 57, 99, 101, 98, 55, 99, 101, 56, 101, 100, 56, 52, 51, 51, 57, 52, 97, 49, 50, 100, 54, 53, 53, 50, 50, 48, 57, 101, 51, 49, 52, 101, 50, 54, 49, 48, 48, 54, 50, 48, 50, 102, 52, 56, 48, 57, 56, 53, 48, 52]⟩
set_option maxRecDepth 1000000 in
theorem v1 : sha t1 = hexs s1.data.toList := by decide +kernel
set_option maxRecDepth 1000000 in
theorem v2 : sha t2 = hexs s2.data.toList := by decide +kernel
set_option maxRecDepth 1000000 in
theorem v3 : macM t3 t4 = hexs s3.data.toList := by decide +kernel
set_option maxRecDepth 1000000 in
theorem v4 : ofM 32 0 [t5] = hexs s4.data.toList := by decide +kernel
set_option maxRecDepth 1000000 in
theorem v5 : emp 32 0 = hexs s5.data.toList := by decide +kernel
set_option maxRecDepth 1000000 in
theorem v6 : emp 32 1 = hexs s6.data.toList := by decide +kernel
end Go.Proofs.YtgcionimhmbgeaaDoorR.NamesV

/-
  docketlaw2.DigestNames: the walk.
-/
namespace Go.Proofs.YtgcionimhmbgeaaDoorR.NamesD
open Go.RowKit Sha TurnW Mem RowW SpreadW MixW HashM CopyW WriteW WriteN EndW SumH NewW EqW CutW OfW LeafW BranchW EmptyW WrittenW PadW MacW NamesV
set_option linter.unusedVariables false
theorem conv_bytes (w : World) (C : Array Value) (n c : Nat) : (convert 25 25 (.slice (some ⟨w.heap.size, 0, none⟩) n c)).run Tryd.prog (w.alloc (.cells C 5)) = .ok (.slice (some ⟨w.heap.size, 0, none⟩) n c) (w.alloc (.cells C 5 (C.size, C.size + 1))) :=
  Lib.run_convert_bytes_const w _ _ C n c Tryd.underlying25 Tryd.underlying5
theorem conv_bytes2 (w : World) (o : Obj) (C : Array Value) (n c : Nat) : (convert 25 25 (.slice (some ⟨w.heap.size + 1, 0, none⟩) n c)).run Tryd.prog ((w.alloc o).alloc (.cells C 5)) = .ok (.slice (some ⟨w.heap.size + 1, 0, none⟩) n c) ((w.alloc o).alloc (.cells C 5 (C.size, C.size + 1))) := by
  have h := Lib.run_convert_bytes_const (w.alloc o) _ _ C n c Tryd.underlying25 Tryd.underlying5
  simpa using h

theorem lit (w : World) (A : Array Value) (T : TypeId) (fr : Nat × Nat) (xs : List UInt8) (n : Nat) (hn : n = xs.length) (hm : xs.length ≤ maxLen) (hA : A = (xs.map u8).toArray) : Sl (w.alloc (.cells A T fr)) (.slice (some ⟨w.heap.size, 0, none⟩) n n) xs := by
  subst hA
  exact sl_row _ _ T xs fr n hn hm (heap_alloc_new w _)
theorem lit1 (w : World) (A : Array Value) (T : TypeId) (fr : Nat × Nat) (o : Obj) (xs : List UInt8) (n : Nat) (hn : n = xs.length) (hm : xs.length ≤ maxLen) (hA : A = (xs.map u8).toArray) : Sl ((w.alloc (.cells A T fr)).alloc o) (.slice (some ⟨w.heap.size, 0, none⟩) n n) xs := by
  subst hA
  exact sl_row _ _ T xs fr n hn hm (heap_alloc2_old w _ o)
theorem lit2 (w : World) (o : Obj) (A : Array Value) (T : TypeId) (fr : Nat × Nat) (xs : List UInt8) (n : Nat) (hn : n = xs.length) (hm : xs.length ≤ maxLen) (hA : A = (xs.map u8).toArray) : Sl ((w.alloc o).alloc (.cells A T fr)) (.slice (some ⟨w.heap.size + 1, 0, none⟩) n n) xs := by
  subst hA
  exact sl_row _ _ T xs fr n hn hm (heap_alloc2_new w o _)
theorem hexs_len (l : List UInt8) : (hexs l).length = 32 := by simp [hexs]

end Go.Proofs.YtgcionimhmbgeaaDoorR.NamesD

/-
  A literal's bytes as a slice: the mark that the conversion lays; the text whose sum is known.
-/
namespace Go.Proofs.YtgcionimhmbgeaaDoorR.TextW
open Go.RowKit Sha Mem RowW CopyW BookW
set_option linter.unusedVariables false

theorem conv_mark (w : World) (b n c : Nat) (C : Array Value) (h : w.heap[b]? = some (.cells C 5 (0, 0))) :
    ∃ w', (convert 25 25 (.slice (some ⟨b, 0, none⟩) n c)).run Tryd.prog w = .ok (.slice (some ⟨b, 0, none⟩) n c) w' ∧ w'.heap[b]? = some (.cells C 5 (C.size, C.size + 1)) ∧ Upd (fun k => k = b) w w' := by
  have hsh : w.shape? b = some (5, C.size) := by unfold World.shape?; rw [h]
  have hlt := lt_of_block h
  refine ⟨w.freeze ⟨b, C.size, none⟩ 1, ?_, ?_, ?_⟩
  · simp [convert, run_underlying Tryd.underlying25, run_underlying Tryd.underlying5, markStringish, hsh]
  · unfold World.freeze
    rw [if_neg (by decide)]
    simp [Array.getElem?_modify, h]
  · unfold World.freeze
    rw [if_neg (by decide)]
    refine ⟨rfl, rfl, rfl, by simp, fun k hk hn => ?_⟩
    simp [Array.getElem?_modify, Ne.symm hn]
end Go.Proofs.YtgcionimhmbgeaaDoorR.TextW

/-
  append([]byte(nil), p...): a copy in new memory.
-/
namespace Go.Proofs.YtgcionimhmbgeaaDoorR.HeldW
open Go.RowKit Sha Mem RowW CopyW BookW EqW
set_option linter.unusedVariables false

/-- append([]byte(nil), p...): a copy in new memory -/
theorem wpList_copy_nil (w : World) {ops : Array Oper} {rest : List Oper} {o : Oper} {a : Act} {Q : Exit → Act → World → Prop} (hgd : o.guard = none) (sl x : Operand)
    (ho : o.op = .call { callee := .builtin .append, args := #[sl, x], argTypes := #[25, 25] }) (hs : a.eval sl = .slice none 0 0)
    (n : Nat) (t : List UInt8) (hn : n = t.length) (sv : Value) (hx : a.eval x = sv) (hsl : Sl w sv t) (hb : n ≤ 140737488355328)
    (h : ∀ ao cap w', Hid (w'.ownsRow 0 5 1 (.slice ao n cap) n (t.map u8)) → Hid (Upd (fun _ => False) w w') → Hid (∀ k, own (.slice ao n cap) k → w.heap.size ≤ k) → wpList Tryd.prog ops Q rest (a.put o.dst (.slice ao n cap)) w') :
    wpList Tryd.prog ops Q (o :: rest) a w := by
  subst hn
  refine wpList_append_bytes w hgd sl x ho 0 (.slice none 0 0) [] t hs (own_nil w) sv hx hsl (by unfold maxLen; simp; omega) (by simp; omega) (Nat.zero_le _) ?_
  intro v' w' h1 h2 h3
  have h1' := h1.out
  rw [List.nil_append] at h1'
  have hu : Upd (fun _ => False) w w' := Upd.grown h2.out (fun k hk => by simp [Value.ownBlock] at hk)
  have hk : ∀ k, own v' k → w.heap.size ≤ k := fun k hk => by
    rcases h3.out with h | h
    · unfold own at hk; rw [h] at hk; simp [Value.ownBlock] at hk
    · unfold own at hk; rw [h] at hk; cases hk; exact Nat.le_refl _
  rcases h1'.2 with ⟨rfl, h0⟩ | ⟨g, cap, cur, rfl, h4⟩
  · rw [h0] at h1' h
    exact h none 0 w' h1' hu hk
  · exact h _ cap w' h1' hu hk
end Go.Proofs.YtgcionimhmbgeaaDoorR.HeldW

/-
  docketlaw2.DigestSums, walked.
-/
namespace Go.Proofs.YtgcionimhmbgeaaDoorR.SumsW
open Go.RowKit Sha TurnW Mem RowW CopyW WriteW EqW SumH NewW BookW HeldW TextW NamesV NamesD WrittenW RefW3 MixW
set_option linter.unusedVariables false
set_option linter.unusedSimpArgs false

theorem FL_tsub (l : List UInt8) (j : Nat) (h : j ≤ l.length) : tsub (FL l 165) j = FL (tsub l j) 165 := by
  unfold tsub FL
  rw [List.take_append_of_le_length h, List.drop_append_of_le_length h, List.append_assoc]
theorem splice_back (l t : List UInt8) (h : t.length = l.length) : splice ((FL t 165).map u8) 0 (l.map u8) = (FL l 165).map u8 := by
  unfold splice FL
  rw [List.take_zero, List.nil_append, Nat.zero_add, List.length_map, List.map_append, List.map_append, ← h, List.drop_append_of_le_length (by simp), List.drop_of_length_le (by simp)]
  simp
theorem own_form {w : World} {base n : Nat} {T : TypeId} {v : Value} {xs : List Value} (h : w.ownsRow base T 1 v n xs) : ∃ ao cap, v = .slice ao n cap := by
  rcases h.2 with ⟨rfl, rfl⟩ | ⟨g, cap, cur, rfl, _⟩
  · exact ⟨_, _, rfl⟩
  · exact ⟨_, _, rfl⟩
theorem own_at_pos {w : World} {base n cap : Nat} {T : TypeId} {ao : Option Addr} {xs : List Value} (h : w.ownsRow base T 1 (.slice ao n cap) n xs) (hn : 0 < n) : ∃ g, ao = some ⟨g, 0, none⟩ := by
  rcases h.2 with ⟨_, h0⟩ | ⟨g, cap', cur, h', _⟩
  · omega
  · injection h' with e
    exact ⟨g, e⟩
def LD (g n : Nat) (l : List UInt8) (v : Value) (w0 : World) (i : Value) (wr : World) : Prop :=
  ∃ j : Nat, j ≤ n ∧ i = .int .i64 j ∧ wr.ownsRow 0 5 1 v n ((tsub l j).map u8) ∧ Row wr g 5 ((FL (tsub l j) 165).map u8) ∧ Upd (fun k => k = g ∨ own v k) w0 wr

end Go.Proofs.YtgcionimhmbgeaaDoorR.SumsW

/-
  docketref2.Mac of every key and message.
-/
namespace Go.Proofs.YtgcionimhmbgeaaDoorR.RefMac
open Go.RowKit Sha TurnW Mem RowW CopyW WriteW EqW SumH NewW BookW PadW MacW RefW3 HashM HeldW SumsW
set_option linter.unusedVariables false
set_option linter.unusedSimpArgs false

theorem own_upd {w w' : World} {v : Value} {n : Nat} {l : List UInt8} {S : Nat → Prop} (h : w.ownsRow 0 5 1 v n (l.map u8)) (hu : Upd S w w') (hv : ∀ k, own v k → ¬ S k) : w'.ownsRow 0 5 1 v n (l.map u8) := by
  obtain ⟨h1, h2⟩ := h
  refine ⟨h1, ?_⟩
  rcases h2 with h2 | ⟨g, cap, cur, rfl, hg, hh, r⟩
  · exact .inl h2
  · exact .inr ⟨g, cap, cur, rfl, hg, by rw [hu.block g (lt_of_block hh) (hv g rfl)]; exact hh, r⟩
theorem own_lt {w : World} {v : Value} {n : Nat} {l : List Value} (h : w.ownsRow 0 5 1 v n l) (k : Nat) (hk : own v k) : k < w.heap.size := by
  rcases h.2 with ⟨rfl, _⟩ | ⟨g, cap, cur, rfl, hg, hh, r⟩
  · simp [own, Value.ownBlock] at hk
  · simp [own, Value.ownBlock] at hk
    rw [← hk]; exact lt_of_block hh
theorem of_at {v v' : Value} {w : World} (h : v'.ownBlock = v.ownBlock ∨ v'.ownBlock = some w.heap.size) (k : Nat) (hk : own v' k) : own v k ∨ k = w.heap.size := by
  rcases h with h | h
  · left; unfold own at hk ⊢; rw [← h]; exact hk
  · right; unfold own at hk; rw [h] at hk; cases hk; rfl
theorem v_xor (a p : UInt8) : bits .xor .u8 (a.toNat : Int) (p.toNat : Int) = ((a ^^^ p).toNat : Int) := by
  rw [u8_xor_nat _ _ a.toNat_lt p.toNat_lt, UInt8.toNat_xor]
theorem xor_take (k : List UInt8) (p : UInt8) (j : Nat) (h : j < k.length) : xorAll (k.take (j + 1)) p = xorAll (k.take j) p ++ [k.getD j 0 ^^^ p] := by
  unfold xorAll
  rw [List.take_succ_eq_append_getElem h, List.map_append, List.getD_eq_getElem?_getD, List.getElem?_eq_getElem h]
  rfl
theorem block_at (k : List UInt8) (j : Nat) (h : j < k.length) : (block k).getD j 0 = k.getD j 0 := by
  unfold block
  rw [List.getD_eq_getElem?_getD, List.getElem?_append_left h, List.getD_eq_getElem?_getD]
theorem block_past (k : List UInt8) (j : Nat) (h : k.length ≤ j) : (block k).getD j 0 = 0 := by
  unfold block
  rw [List.getD_eq_getElem?_getD, List.getElem?_append_right h, List.getElem?_replicate]
  split <;> rfl
theorem lit_at (w : World) (c : UInt8) (x : Int) (hx : x = (c.toNat : Int)) : Sl (w.alloc (.cells #[.int .u8 x] 5)) (.slice (some ⟨w.heap.size, 0, none⟩) 1 1) [c] := by
  subst hx
  have h : Row (w.alloc (.cells #[.int .u8 (c.toNat : Int)] 5)) w.heap.size 5 ([c].map u8) := Row.new w 5 ([c].map u8)
  exact Sl.row (cap := 1) h (Nat.le_refl _) (by unfold maxLen; omega)
theorem sl_some {w : World} {ka : Option Addr} {n cap : Nat} {l : List UInt8} (h : Sl w (.slice ka n cap) l) (hl : 0 < l.length) : ∃ b o, ka = some ⟨b, o, none⟩ ∧ ∀ i, i < l.length → w.cell? ⟨b, o + i, none⟩ = some (Mem.u8 (l.getD i 0)) := by
  obtain ⟨ao, cap', h1, h2, h3, h4, h5⟩ := h
  injection h1 with e1 e2 e3
  subst e1
  cases ka with
  | none => have := h4 rfl; omega
  | some a =>
    obtain ⟨b, o, sp⟩ := a
    obtain ⟨hs, hc⟩ := h5 _ rfl
    obtain rfl : sp = none := hs
    exact ⟨b, o, rfl, fun i hi => by have := hc i hi; rwa [add_none] at this⟩
theorem lit_one (w : World) (c : UInt8) : Sl (w.alloc (.cells #[.int .u8 (c.toNat : Int)] 5)) (.slice (some ⟨w.heap.size, 0, none⟩) 1 1) [c] := by
  have h : Row (w.alloc (.cells #[.int .u8 (c.toNat : Int)] 5)) w.heap.size 5 ([c].map u8) := Row.new w 5 ([c].map u8)
  exact Sl.row (cap := 1) h (Nat.le_refl _) (by unfold maxLen; omega)
def LM (k : List UInt8) (wB : World) (vi vo i : Value) (wr : World) : Prop :=
  ∃ j : Nat, j ≤ 64 ∧ i = .int .i64 j ∧ wr.ownsRow 0 5 1 vi j ((xorAll ((block k).take j) 54).map u8) ∧ wr.ownsRow 0 5 1 vo j ((xorAll ((block k).take j) 92).map u8) ∧
    (∀ b, own vi b → wB.heap.size ≤ b) ∧ (∀ b, own vo b → wB.heap.size ≤ b) ∧ (∀ b, own vi b → ¬ own vo b) ∧ Upd (fun _ => False) wB wr


end Go.Proofs.YtgcionimhmbgeaaDoorR.RefMac

/-
  docketbook.Room, Lists; Fork; Write and append of an empty slice wherever it points.
-/
namespace Go.Proofs.YtgcionimhmbgeaaDoorR.SplitL
open Go.RowKit Sha TurnW Mem RowW SpreadW MixW HashM CopyW WriteW WriteN EndW SumH NewW EqW BookW
set_option linter.unusedVariables false
set_option linter.unusedSimpArgs false

def room (a n : Int) : Int := if a < 0 then -1 else if a < n then -1 else a - n

/-- a slice of bytes, whose address is asked for where it has an element alone -/
def El (w : World) (v : Value) (l : List UInt8) : Prop := ∃ ao cap, v = .slice ao l.length cap ∧ l.length ≤ cap ∧ cap ≤ maxLen ∧ (ao = none → cap = 0) ∧ (l ≠ [] → Sl w v l)
theorem El.upd {S : Nat → Prop} {w w' : World} {v : Value} {l : List UInt8} (h : El w v l) (hu : Upd S w w') (hd : l ≠ [] → ∀ k, own v k → ¬ S k) : El w' v l := by
  obtain ⟨ao, cap, rfl, h1, h2, h0, h3⟩ := h
  exact ⟨ao, cap, rfl, h1, h2, h0, fun hn => (h3 hn).upd hu (hd hn)⟩
/-- a slice of such slices; what is read of it lies in blocks of O -/
def SlE (w : World) (v : Value) (ts : List (List UInt8)) (O : Nat → Prop) : Prop :=
  ∃ ao cap, ∃ pv : Nat → Value, v = .slice ao ts.length cap ∧ (ao = none → ts.length = 0) ∧
    ∀ a, ao = some a → a.spot = none ∧ (0 < ts.length → O a.block) ∧ ∀ i, i < ts.length → w.cell? (a.add i) = some (pv i) ∧ El w (pv i) (ts.getD i []) ∧ (ts.getD i [] ≠ [] → ∀ k, own (pv i) k → O k)
theorem SlE.upd {S O : Nat → Prop} {w w' : World} {v : Value} {ts : List (List UInt8)} (h : SlE w v ts O) (hu : Upd S w w') (hd : ∀ k, O k → ¬ S k) : SlE w' v ts O := by
  obtain ⟨ao, cap, pv, rfl, h3, h4⟩ := h
  refine ⟨ao, cap, pv, rfl, h3, fun a ha => ⟨(h4 a ha).1, (h4 a ha).2.1, fun i hi => ?_⟩⟩
  obtain ⟨hc, hs, hp⟩ := (h4 a ha).2.2 i hi
  refine ⟨hu.cell hc ?_, hs.upd hu (fun hn k hk => hd k (hp hn k hk)), hp⟩
  have hb : (a.add i).block = a.block := by unfold Addr.add; split <;> rfl
  rw [hb]
  exact hd _ ((h4 a ha).2.1 (by omega))

def tot (ts : List (List UInt8)) : Nat := (ts.map fun t => t.length + 1).sum
theorem tot_take (ts : List (List UInt8)) (j : Nat) (h : j < ts.length) : tot (ts.take (j + 1)) = tot (ts.take j) + (ts.getD j []).length + 1 := by
  unfold tot
  rw [List.take_succ_eq_append_getElem h, List.map_append, List.sum_append]
  simp [List.getD_eq_getElem?_getD, h, Nat.add_assoc]
def ListsAt (left : Int) (ts : List (List UInt8)) (w : World) (e : Ending) (w' : World) : Prop := ∃ a : Int, e = .returned (.int .i64 a) ∧ -1 ≤ a ∧ (0 ≤ a → a + (tot ts : Int) = left) ∧ w = w'
def LLi (left : Int) (ts : List (List UInt8)) (w0 : World) (l i : Value) : Prop :=
  ∃ (j : Nat) (a : Int), j ≤ ts.length ∧ i = .int .i64 j ∧ l = .int .i64 a ∧ -1 ≤ a ∧ a ≤ left ∧ (0 ≤ a → a + (tot (ts.take j) : Int) = left)

end Go.Proofs.YtgcionimhmbgeaaDoorR.SplitL

/-
  Arguments opened: a digest; a slice of bytes.
-/
namespace Go.Proofs.YtgcionimhmbgeaaDoorR.OpenW
open Go.ChangeShapes Go.WideShapes Go.ChangeAt Go.RowKit Mem
set_option linter.unusedVariables false

theorem laidOut : laidOutB Tryd.prog = true := by kernel_rfl
theorem cellsD : Tryd.prog.cellsOf 23 = 32 := by kernel_rfl
theorem cells8 : Tryd.prog.cellsOf 5 = 1 := by kernel_rfl
theorem bytes8 : Tryd.prog.bytesOf 5 = 1 := by kernel_rfl

/-- bytes out of their numbers -/
def bs (zs : List Int) : List UInt8 := zs.map fun n => UInt8.ofNat n.toNat
theorem u8_bs (n : Int) (h : (Lit.int .u8 n).wf = true) : u8 (UInt8.ofNat n.toNat) = .int .u8 n := by
  have hb : 0 ≤ n ∧ n ≤ 255 := by simpa [Lit.wf, IntKind.min, IntKind.max, IntKind.signed, IntKind.bits] using h
  unfold u8
  rw [UInt8.toNat_ofNat']
  congr 1
  omega

set_option maxRecDepth 100000 in
/-- A digest that came in: 32 bytes. -/
theorem open_digest {H : Type} {enc : TypeId × Value → H} {w : World} {base b0 : Nat} {spare : Nat → Bool} {held : Bool} {v : Value} {d : DataW H} {p : List MemPlace}
    (hv : Value.okWide Tryd.prog w .any b0 23 v) (h : DataW.Trod enc Tryd.prog w base spare held 23 v d p) :
    ∃ D : List UInt8, D.length = 32 ∧ v = .agg (D.map u8).toArray := by
  obtain ⟨cs, rfl, hsz, _⟩ : ∃ cs, v = .agg cs ∧ cs.size = Tryd.prog.cellsOf 23 ∧ Row.okWide Tryd.prog w .any b0 23 cs := by
    simpa [Value.okWide, Tryd.underlying23] using hv
  rw [cellsD] at hsz
  obtain ⟨fuel, hf⟩ := h
  obtain ⟨xs, m, _, _, _, hlen, hel⟩ := DataW.trod_array Tryd.underlying23 hf
  rw [cells8] at hel
  have hc : ∀ i (hi : i < cs.toList.length), ∃ c : UInt8, cs.toList[i] = u8 c := by
    intro i hi
    have hi32 : i < 32 := by simpa [hsz] using hi
    have h1 := hel i hi32
    have hx : xs[i]? = some (xs[i]'(by omega)) := List.getElem?_eq_getElem (by omega)
    rw [hx] at h1
    have e1 : (((Value.agg cs).cells.toList.drop (i * 1)).take 1) = [cs.toList[i]] := by
      simp only [Value.cells, Nat.mul_one]
      rw [List.drop_eq_getElem_cons hi]
      rfl
    rw [e1] at h1
    obtain ⟨n, e, _, hw⟩ := DataW.trod_int Tryd.underlying5 h1
    have e2 : cs.toList[i] = .int .u8 n := by simpa using e
    exact ⟨UInt8.ofNat n.toNat, by rw [e2, u8_bs n hw]⟩
  refine ⟨cs.toList.map (fun v => match v with | .int _ n => UInt8.ofNat n.toNat | _ => 0), by simp [hsz], ?_⟩
  congr 1
  apply Array.toList_inj.1
  rw [List.map_map]
  apply List.ext_getElem
  · simp
  · intro i h1 h2
    obtain ⟨c, e⟩ := hc i h1
    simp only [List.getElem_map, Function.comp]
    rw [e]
    unfold u8
    simp
theorem wf64 {n : Int} (h : (Lit.int .i64 n).wf = true) : -9223372036854775808 ≤ n ∧ n ≤ 9223372036854775807 := by
  simpa [Lit.wf, IntKind.min, IntKind.max, IntKind.signed, IntKind.bits] using h

theorem lt_of_shape {w : World} {b : Nat} {x : TypeId × Nat} (h : w.shape? b = some x) : b < w.heap.size := by
  unfold World.shape? at h
  rcases Nat.lt_or_ge b w.heap.size with hlt | hge
  · exact hlt
  · rw [Array.getElem?_eq_none hge] at h; cases h

set_option maxRecDepth 100000 in
/-- A slice of bytes that came in. -/
theorem open_bytes {H : Type} {enc : TypeId × Value → H} {w : World} {b0 : Nat} {v : Value} {d : DataW H} {p : List MemPlace}
    (hv : Value.okWide Tryd.prog w .any b0 25 v) (h : DataW.Trod enc Tryd.prog w 0 (fun _ => true) true 25 v d p) :
    ∃ l : List UInt8, ∃ ao cap, v = .slice ao l.length cap ∧ Sl w v l ∧ (∀ k, own v k → k < w.heap.size) ∧
      (l = [] ∨ ∃ elems spare, d = .slice elems spare ∧ elems.length = l.length ∧ elems.length + spare.length = cap) := by
  obtain ⟨a0, len, cap, rfl⟩ := okWide_slice Tryd.underlying25 hv
  obtain ⟨fuel, hf⟩ := h
  rcases open_ints Tryd.underlying25 Tryd.underlying5 cells8 hf with ⟨hcs, hx⟩ | ⟨a, len', cap', zs, hcs, _, hl, hm, hz, hx, hcell, hwz⟩
  · have hcs' := (List.cons.inj hcs).1
    injection hcs' with e1 e2 e3
    subst e1 e2 e3
    exact ⟨[], none, 0, rfl, ⟨none, 0, rfl, Nat.le_refl _, Nat.zero_le _, fun _ => rfl, fun _ ha => by cases ha⟩, by simp [own, Value.ownBlock], .inl rfl⟩
  · have hcs' := (List.cons.inj hcs).1
    injection hcs' with e1 e2 e3
    subst e1 e2 e3
    have hz' : zs.length = cap := by simpa using hz
    have hh : w.has Tryd.prog .any b0 a 5 cap := by
      have h2 := hv
      unfold Value.okWide at h2
      rw [Tryd.underlying25] at h2
      unfold Cell.okWide at h2
      rw [Tryd.underlying25] at h2
      unfold Cell.ok at h2
      rw [Tryd.underlying25] at h2
      exact h2.2.2
    obtain ⟨_, hsp, row, cells, hsh, _⟩ := hh
    have hlb : a.block < w.heap.size := lt_of_shape hsh
    have hbl : (bs (zs.take len)).length = len := by simp [bs]; omega
    refine ⟨bs (zs.take len), some a, cap, by rw [hbl], ⟨some a, cap, by rw [hbl], by rw [hbl]; exact hl, hm, by simp, fun a' ha => ?_⟩, fun k hk => ?_, ?_⟩
    · injection ha with ha
      subst ha
      refine ⟨hsp, fun i hi => ?_⟩
      rw [hbl] at hi
      rw [hcell i (by omega)]
      have hi' : i < zs.length := by omega
      have e : (bs (zs.take len)).getD i 0 = UInt8.ofNat (zs[i]).toNat := by
        unfold bs
        rw [List.getD_eq_getElem?_getD, List.getElem?_map, List.getElem?_take_of_lt hi, List.getElem?_eq_getElem hi']
        rfl
      rw [e, u8_bs _ (hwz _ (List.getElem_mem hi')), List.getD_eq_getElem?_getD, List.getElem?_eq_getElem hi']
      rfl
    · simp [own, Value.ownBlock] at hk
      omega
    · right
      have hd := (Prod.mk.inj hx).1
      refine ⟨_, _, hd, by rw [hbl]; simp [lits]; omega, by simp [lits]; omega⟩
end Go.Proofs.YtgcionimhmbgeaaDoorR.OpenW

/-
  Fork; Write of a slice that may be empty wherever it points; append of such a slice; a [][]byte that came in.
-/
namespace Go.Proofs.YtgcionimhmbgeaaDoorR.SplitM
open Go.RowKit Sha TurnW Mem RowW SpreadW MixW HashM CopyW WriteW WriteN EndW SumH NewW EqW BookW SplitL
set_option linter.unusedVariables false
set_option linter.unusedSimpArgs false

set_option maxHeartbeats 2000000 in
set_option maxRecDepth 100000 in
theorem empty_any (b : Nat) (l : List UInt8) (ao : Option Addr) (cap : Nat) (w : World) (hh : Hs w b l) (hlen : l.length < 1152921504606846976) :
    Calls Tryd.prog 89 #[.pointer (some ⟨b, 0, none⟩), .slice ao 0 cap] w fun e w' => e = .returned (.tuple #[]) ∧ Hs w' b l ∧ Upd (fun k => k = b) w w' := by
  obtain ⟨q, t, blk, hl, hq, ht, hbt, hQ⟩ := hh
  obtain ⟨L, hL⟩ : ∃ L, L = l.length := ⟨_, rfl⟩
  have hLm : L % 64 = t.length := by rw [hL, hl, List.length_append]; omega
  rw [← hL] at hQ hlen
  have c72 : w.cell? ⟨b, 72, none⟩ = some (.int .u64 (L : Int)) := by rw [hQ.2.cell, hcells_72 _ _ _ hQ.1]
  have f72 := hQ.2.frozen 72
  have e1 : IntKind.u64.wrap (L : Int) = (L : Int) := by rw [IntKind.wrap_u64]; omega
  have e3 : (L : Int) % 64 = (t.length : Int) := by omega
  have e4 : (L : Int).tmod 64 = (t.length : Int) := by rw [Int.tmod_eq_emod_of_nonneg (by omega)]; exact e3
  have e5 : IntKind.i64.wrap (t.length : Int) = t.length := IntWalk.i64_in _ (by omega)
  have e6 : IntKind.u64.wrap (t.length : Int) = t.length := by rw [IntKind.wrap_u64]; omega
  have HR : Hid (Row (w.setCell ⟨b, 72, none⟩ (.int .u64 (L : Int))) b 135 (hcells (stq q) blk L)) := by
    show Row _ _ _ _
    have h := hQ.2.set 72 (.int .u64 (L : Int))
    rwa [hcells_set _ _ _ _ hQ.1] at h
  have HU : Hid (Upd (fun k => k = b) w (w.setCell ⟨b, 72, none⟩ (.int .u64 (L : Int)))) := Upd.put (S := fun k => k = b) (Upd.refl _ _) b 72 (.inl rfl) _
  have HH := Lib.hid (show ∀ w', Row w' b 135 (hcells (stq q) blk L) → Hs w' b l from fun w' hr => ⟨q, t, blk, hl, hq, ht, hbt, hQ.1, by rw [← hL]; exact hr⟩)
  have H73 : Hid ((hcells (stq q) blk L).length = 73) := hcells_len _ _ _ hQ.1
  have Hlen := Lib.hid hlen
  have Hl := Lib.hid hl
  have Hbt := Lib.hid hbt
  have HL := Lib.hid hL
  clear hl hq hbt hQ hlen hLm hL
  have ht64 : (t.length : Int) < 64 := by omega
  have ht64' : (t.length : Int) ≤ 64 := by omega
  have hsp : ∀ o, splice (hcells (stq q) blk L) o [] = hcells (stq q) blk L := fun o => by simp [splice]
  have HSP := Lib.hid hsp
  clear hsp
  by_cases h0 : 0 < t.length
  · have ht0' : (0 : Int) < (t.length : Int) := by omega
    go_enter Tryd.func89, Tryd.ntmps89
    go_wp2_with ((with_reducible refine wpList_copy_new (o := ⟨some 30, _, _, _, _, _⟩) ?_ (.tmp 28) (.tmp 29) 25 25 ?_ 5 Tryd.underlying25 info8s (some ⟨b, 8 + t.length, none⟩) ao (64 - t.length) (64 - t.length) 0 cap ?_ ?_ b (8 + t.length) _ _ HR.out [] ?_ ?_ ?_ (fun _ h => absurd h (by simp)) ?_); rfl; rfl; rfl; rfl; (simp); (exact fun hp => absurd hp (by simp)); (rw [H73.out, List.length_nil]; omega); intro w1 HR1 HU1)
    refine bodyPost_ret (results_none rfl _ _ _) rfl ?_
    exact ⟨rfl, HH.out _ (by have := HR1.out; rwa [HSP.out] at this), HU.out.trans (HU1.out.mono (fun _ _ h => .inl h))⟩
  · have ht00 : t.length = 0 := by omega
    simp only [ht00] at *
    go_enter Tryd.func89, Tryd.ntmps89
    go_wp2
    refine wp_loop_rounds 1 ?_
    rw [rounds_succ]
    go_wp2_with ((with_reducible refine wpList_copy_new (o := ⟨some 62, _, _, _, _, _⟩) ?_ (.tmp 60) (.tmp 61) 25 25 ?_ 5 Tryd.underlying25 info8s (some ⟨b, 8, none⟩) ao 64 64 0 cap ?_ ?_ b 8 _ _ HR.out [] ?_ ?_ ?_ (fun _ h => absurd h (by simp)) ?_); rfl; rfl; rfl; rfl; (simp); (exact fun hp => absurd hp (by simp)); (rw [H73.out, List.length_nil]; omega); intro w1 HR1 HU1)
    go_end0
    exact ⟨rfl, HH.out _ (by have := HR1.out; rwa [HSP.out] at this), HU.out.trans (HU1.out.mono (fun _ _ h => .inl h))⟩


theorem write_el (b : Nat) (v : Value) (l p : List UInt8) (w : World) (hh : Hs w b l) (hp : El w v p) (hv : p ≠ [] → ¬ own v b) (hb : b ≠ 2) (hk : Kw w) (hlen : l.length + p.length < 1152921504606846976) :
    Calls Tryd.prog 89 #[.pointer (some ⟨b, 0, none⟩), v] w fun e w' => e = .returned (.tuple #[]) ∧ Hs w' b (l ++ p) ∧ Upd (fun k => k = b) w w' := by
  by_cases h : p = []
  · subst h
    obtain ⟨ao, cap, rfl, _⟩ := hp
    rw [List.append_nil]
    exact empty_any b l ao cap w hh (by simpa using hlen)
  · obtain ⟨_, _, _, _, _, _, hs⟩ := hp
    exact write_any b v l p w hh (hs h) (hv h) hb hk hlen


/-- append(v, p...): v a row of the call's own, p a slice that may be empty wherever it points -/
theorem wpList_append_el (w : World) {ops : Array Oper} {rest : List Oper} {o : Oper} {a : Act} {Q : Exit → Act → World → Prop} (hgd : o.guard = none) (sl x : Operand)
    (ho : o.op = .call { callee := .builtin .append, args := #[sl, x], argTypes := #[25, 25] })
    (v : Value) (n : Nat) (l t : List UInt8) (hs : a.eval sl = v) (hn : n = l.length) (hown : w.ownsRow 0 5 1 v n (l.map u8)) (sv : Value) (hx : a.eval x = sv) (hsl : El w sv t)
    (h63 : l.length + t.length ≤ maxLen) (hbytes : l.length + t.length ≤ 140737488355328) (m : Nat) (hm : m = l.length + t.length)
    (h : ∀ ao cap w', Hid (w'.ownsRow 0 5 1 (.slice ao m cap) m ((l ++ t).map u8)) → Hid (w.grownBy w' v.ownBlock) → Hid ((Value.slice ao m cap).ownBlock = v.ownBlock ∨ (Value.slice ao m cap).ownBlock = some w.heap.size) → wpList Tryd.prog ops Q rest (a.put o.dst (.slice ao m cap)) w') :
    wpList Tryd.prog ops Q (o :: rest) a w := by
  subst hn hm
  have key : ∀ v' w', Hid (w'.ownsRow 0 5 1 v' (l ++ t).length ((l ++ t).map u8)) → Hid (w.grownBy w' v.ownBlock) → Hid (v'.ownBlock = v.ownBlock ∨ v'.ownBlock = some w.heap.size) → wpList Tryd.prog ops Q rest (a.put o.dst v') w' := by
    intro v' w' h1 h2 h3
    have h1' := h1.out
    rw [List.length_append] at h1'
    obtain ⟨ao, cap, rfl⟩ := SumsW.own_form h1'
    exact h ao cap w' h1' h2 h3
  by_cases ht : t = []
  · subst ht
    obtain ⟨ao, cap, rfl, _, hcm, hnone, _⟩ := hsl
    obtain ⟨i0, hi, hz0, hz1, hz2⟩ := info_parts info8
    cases ao with
    | none =>
      by_cases hc : cap = 0
      · subst hc
        exact wpList_append_own_none hgd sl x 25 ho 0 5 i0 1 Tryd.underlying25 hi v _ _ hs hown hx (key v w (show World.ownsRow _ _ _ _ _ _ _ by simpa using hown) (World.grownBy.refl _ _) (.inl rfl))
      · exact absurd (hnone rfl) hc
    | some ad =>
      refine wpList_append_own_at w hgd sl x 25 ho 0 5 i0 (.int .u8 0) 1 1 Tryd.underlying25 hi hz0 hz1 hz2 rfl (by decide) v _ _ hs hown ad 0 cap [] hx (by simp) (fun j u hu => by simp at hu) (fun u hu => by simp at hu) h63 (by simpa using hbytes) (Nat.zero_le _) (fun v' w' a1 a2 _ a4 => key v' w' ?_ a2 a4)
      show World.ownsRow _ _ _ _ _ _ _
      simpa using a1
  · obtain ⟨_, _, _, _, _, _, hsl'⟩ := hsl
    exact wpList_append_bytes w hgd sl x ho 0 v l t hs hown sv hx (hsl' ht) h63 hbytes (Nat.zero_le _) key
end Go.Proofs.YtgcionimhmbgeaaDoorR.SplitM

/-
  docketref2.Cut.
-/
namespace Go.Proofs.YtgcionimhmbgeaaDoorR.CutW
open Go.RowKit Mem RowW CopyW EqW
set_option linter.unusedVariables false

/-- docketref2.Cut -/
def LC (F R n : Nat) (D : List UInt8) (w0 : World) (i : Value) (wr : World) : Prop :=
  ∃ j : Nat, n ≤ j ∧ j ≤ 32 ∧ i = .int .i64 j ∧ Row wr F 23 ((D.take n ++ List.replicate (j - n) 0 ++ D.drop j).map u8) ∧ Row wr R 23 ((List.replicate 32 (0 : UInt8)).map u8) ∧ Upd (fun _ => False) w0 wr
theorem LC_set (D : List UInt8) (n j : Nat) (h : D.length = 32) (h1 : n ≤ j) (h2 : j < 32) : (D.take n ++ List.replicate (j - n) 0 ++ D.drop j).set j 0 = D.take n ++ List.replicate (j + 1 - n) 0 ++ D.drop (j + 1) := by
  have hl : (D.take n ++ List.replicate (j - n) (0 : UInt8)).length = j := by simp [h]; omega
  rw [List.set_append_right _ _ (by omega), hl, Nat.sub_self, List.drop_eq_getElem_cons (by omega), List.set_cons_zero, show j + 1 - n = (j - n) + 1 by omega, List.replicate_succ', List.append_assoc, List.append_assoc, List.append_assoc]
  rfl
set_option maxHeartbeats 2000000 in
set_option maxRecDepth 100000 in
theorem refcut_any (D : List UInt8) (hD : D.length = 32) (a : Int) (ha : -9223372036854775808 ≤ a ∧ a ≤ 9223372036854775807) (w : World) :
    Calls Tryd.prog 46 #[.agg (D.map u8).toArray, .int .i64 a] w fun e w' => e = .returned (.agg ((cut D a).map u8).toArray) ∧ Upd (fun _ => False) w w' := by
  obtain ⟨X, hX⟩ : ∃ X, X = (D.map u8).toArray := ⟨_, rfl⟩
  obtain ⟨Y, hY⟩ : ∃ Y, Y = ((cut D a).map u8).toArray := ⟨_, rfl⟩
  have h1 := cutN_lo a
  have h2 := cutN_hi a
  have HYs : Hid ((Tryd.prog.info? 23).map (·.size) = some Y.size) := by show _ = _; rw [sizeD, hY]; simp [cut_len D a hD]
  have HY1 : Hid (Y.all (·.oneCell') = true) := by show _ = _; rw [hY]; simpa using one_of (cut D a)
  have HYl : Hid (A32.size = Y.size) := by show _ = _; rw [hY]; simp [cut_len D a hD, A32]
  have HX := Lib.hid hX
  have HY := Lib.hid hY
  have HD := Lib.hid hD
  rw [← hX]
  clear hX hY hD
  have hR : Hid (Row ((w.alloc (.cells X 23)).alloc (.cells A32 23)) w.heap.size 23 (D.map u8)) := by
    have h := Row.new w 23 (D.map u8)
    rw [← HX.out] at h
    exact h.alloc _
  have hz := zero32
  have HRR : Hid (Row ((w.alloc (.cells X 23)).alloc (.cells A32 23)) (w.heap.size + 1) 23 ((List.replicate 32 (0 : UInt8)).map u8)) := heap_alloc2_new w _ _
  have HU0 : Hid (Upd (fun _ => False) w ((w.alloc (.cells X 23)).alloc (.cells A32 23))) := ((Upd.refl (fun _ => False) w).alloc _).alloc _
  obtain ⟨ha1, ha2⟩ := ha
  rcases Int.lt_or_le a 1 with hlo | hlo
  · have hlo' : a ≤ 0 := by omega
    have Hn : Hid (cutN a = 1) := by show _ = _; unfold cutN; omega
    clear h1 h2
    have HS : Hid (LC w.heap.size (w.heap.size + 1) 1 D w (.int .i64 1) ((w.alloc (.cells X 23)).alloc (.cells A32 23))) := by
      refine ⟨1, Nat.le_refl _, by omega, rfl, ?_, HRR.out, HU0.out⟩
      rw [Nat.sub_self, List.replicate_zero, List.append_nil, List.take_append_drop]
      exact hR.out
    clear hz
    go_enter Tryd.func46, Tryd.ntmps46
    go_wp2
    go_loopw [5] (fun i wr => LC w.heap.size (w.heap.size + 1) 1 D w i wr) (fun i _ => (32 - intOf i).toNat)
    case atStart => exact HS.out
    case round =>
      clear HS
      obtain ⟨j, hj1, hj2, rfl, hr, hr0, hu⟩ := hrel
      by_cases hlt : j < 32
      · have hltI : (j : Int) < 32 := by omega
        have HN : Hid (Row (wr.setCell ⟨w.heap.size, j, none⟩ (u8 0)) w.heap.size 23 ((D.take 1 ++ List.replicate (j + 1 - 1) 0 ++ D.drop (j + 1)).map u8)) := by
          show Row _ _ _ _
          rw [← LC_set D 1 j HD.out hj1 hlt, List.map_set]
          exact hr.set j _
        have HN0 : Hid (Row (wr.setCell ⟨w.heap.size, j, none⟩ (u8 0)) (w.heap.size + 1) 23 ((List.replicate 32 (0 : UInt8)).map u8)) := hr0.far (by simp) _
        have HU : Hid (Upd (fun _ => False) w (wr.setCell ⟨w.heap.size, j, none⟩ (u8 0))) := hu.put _ _ (.inr (Nat.le_refl _)) _
        have c0 : wr.cell? ⟨w.heap.size, j, none⟩ = some (((D.take 1 ++ List.replicate (j - 1) 0 ++ D.drop j).map u8).getD j (u8 0)) := by
          have hl : j < ((D.take 1 ++ List.replicate (j - 1) 0 ++ D.drop j).map u8).length := by simp [HD.out]; omega
          rw [hr.cell, List.getD_eq_getElem?_getD, List.getElem?_eq_getElem hl]
          rfl
        have f0 := hr.frozen j
        clear hr hr0 hu
        go_wp2
        go_roundw
        case rel => exact ⟨j + 1, by omega, by omega, by go_num, HN.out, HN0.out, HU.out⟩
        case measure => simp [intOf]; omega
      · obtain rfl : j = 32 := by omega
        rw [show ((32 : Nat) : Int) = 32 from rfl]
        have HG2 : Hid (wr.heap[w.heap.size]? = some (.cells Y 23 (0, 0))) := by
          show _ = _
          rw [HY.out]
          unfold cut
          rw [Hn.out]
          have h := hr
          rw [List.drop_eq_nil_of_le (by rw [HD.out]; omega), List.append_nil] at h
          exact h
        have HGR' : Hid (wr.heap[w.heap.size + 1]? = some (.cells A32 23 (0, 0))) := hr0
        have HUF := Lib.hid hu
        clear hr hr0 hu hlt hj1 hj2
        go_wp2_with (first
      | ((with_reducible refine wpList_load_row (o := ⟨some 15, _, _, _, _, _⟩) ?_ _ (.tmp 2) ?_ w.heap.size ?_ 23 Y (0, 0) _ HG2.out Tryd.underlying23 ?_ HYs.out ?_); rfl; rfl; rfl; rfl)
      | ((with_reducible refine wpList_store_new (o := ⟨none, .store 23 (.tmp 4) (.tmp 15), _, _, _, _⟩) ?_ _ (.tmp 4) (.tmp 15) ?_ (w.heap.size + 1) Y ?_ ?_ 23 A32 HGR'.out HYs.out HYl.out HY1.out ?_); rfl; rfl; rfl; rfl; intro w5 Hg5 Hu5))
        refine bodyPost_ret (results_cell_row rfl _ _ (w.heap.size + 1) 23 Y (0, 0) _ rfl Hg5.out Tryd.underlying23 rfl HYs.out) rfl ?_
        exact ⟨by rw [← HY.out], HUF.out.trans (Hu5.out.mono (fun k hk e => .inr (by omega)))⟩
  · have hdec : decide (a < 1) = false := by simp; omega
    rcases Int.lt_or_le a 32 with hhi | hhi
    · obtain ⟨m, rfl⟩ : ∃ m : Nat, a = m := ⟨a.toNat, by omega⟩
      have Hn : Hid (cutN (m : Int) = m) := by show _ = _; unfold cutN; omega
      clear h1 h2
      have HS : Hid (LC w.heap.size (w.heap.size + 1) m D w (.int .i64 (m : Int)) ((w.alloc (.cells X 23)).alloc (.cells A32 23))) := by
        refine ⟨m, Nat.le_refl _, by omega, rfl, ?_, HRR.out, HU0.out⟩
        rw [Nat.sub_self, List.replicate_zero, List.append_nil, List.take_append_drop]
        exact hR.out
      clear hz
      go_enter Tryd.func46, Tryd.ntmps46
      go_wp2
      go_loopw [5] (fun i wr => LC w.heap.size (w.heap.size + 1) m D w i wr) (fun i _ => (32 - intOf i).toNat)
      case atStart => exact HS.out
      case round =>
        clear HS
        obtain ⟨j, hj1, hj2, rfl, hr, hr0, hu⟩ := hrel
        by_cases hlt : j < 32
        · have hltI : (j : Int) < 32 := by omega
          have HN : Hid (Row (wr.setCell ⟨w.heap.size, j, none⟩ (u8 0)) w.heap.size 23 ((D.take m ++ List.replicate (j + 1 - m) 0 ++ D.drop (j + 1)).map u8)) := by
            show Row _ _ _ _
            rw [← LC_set D m j HD.out hj1 hlt, List.map_set]
            exact hr.set j _
          have HN0 : Hid (Row (wr.setCell ⟨w.heap.size, j, none⟩ (u8 0)) (w.heap.size + 1) 23 ((List.replicate 32 (0 : UInt8)).map u8)) := hr0.far (by simp) _
          have HU : Hid (Upd (fun _ => False) w (wr.setCell ⟨w.heap.size, j, none⟩ (u8 0))) := hu.put _ _ (.inr (Nat.le_refl _)) _
          have c0 : wr.cell? ⟨w.heap.size, j, none⟩ = some (((D.take m ++ List.replicate (j - m) 0 ++ D.drop j).map u8).getD j (u8 0)) := by
            have hl : j < ((D.take m ++ List.replicate (j - m) 0 ++ D.drop j).map u8).length := by simp [HD.out]; omega
            rw [hr.cell, List.getD_eq_getElem?_getD, List.getElem?_eq_getElem hl]
            rfl
          have f0 := hr.frozen j
          clear hr hr0 hu
          go_wp2
          go_roundw
          case rel => exact ⟨j + 1, by omega, by omega, by go_num, HN.out, HN0.out, HU.out⟩
          case measure => simp [intOf]; omega
        · obtain rfl : j = 32 := by omega
          rw [show ((32 : Nat) : Int) = 32 from rfl]
          have HG2 : Hid (wr.heap[w.heap.size]? = some (.cells Y 23 (0, 0))) := by
            show _ = _
            rw [HY.out]
            unfold cut
            rw [Hn.out]
            have h := hr
            rw [List.drop_eq_nil_of_le (by rw [HD.out]; omega), List.append_nil] at h
            exact h
          have HGR' : Hid (wr.heap[w.heap.size + 1]? = some (.cells A32 23 (0, 0))) := hr0
          have HUF := Lib.hid hu
          clear hr hr0 hu hlt hj1 hj2
          go_wp2_with (first
        | ((with_reducible refine wpList_load_row (o := ⟨some 15, _, _, _, _, _⟩) ?_ _ (.tmp 2) ?_ w.heap.size ?_ 23 Y (0, 0) _ HG2.out Tryd.underlying23 ?_ HYs.out ?_); rfl; rfl; rfl; rfl)
        | ((with_reducible refine wpList_store_new (o := ⟨none, .store 23 (.tmp 4) (.tmp 15), _, _, _, _⟩) ?_ _ (.tmp 4) (.tmp 15) ?_ (w.heap.size + 1) Y ?_ ?_ 23 A32 HGR'.out HYs.out HYl.out HY1.out ?_); rfl; rfl; rfl; rfl; intro w5 Hg5 Hu5))
          refine bodyPost_ret (results_cell_row rfl _ _ (w.heap.size + 1) 23 Y (0, 0) _ rfl Hg5.out Tryd.underlying23 rfl HYs.out) rfl ?_
          exact ⟨by rw [← HY.out], HUF.out.trans (Hu5.out.mono (fun k hk e => .inr (by omega)))⟩
    · have Hn : Hid (cutN a = 32) := by show _ = _; unfold cutN; omega
      clear h1 h2
      have hx : ¬ a < 32 := by omega
      have hxI : decide (a < 32) = false := by simpa using hx
      have HG2 : Hid (((w.alloc (.cells X 23)).alloc (.cells A32 23)).heap[w.heap.size]? = some (.cells Y 23 (0, 0))) := by
        show _ = _
        rw [HY.out]
        unfold cut
        rw [Hn.out, List.take_of_length_le (by rw [HD.out]; omega), Nat.sub_self, List.replicate_zero, List.append_nil]
        exact hR.out
      have HGR' : Hid (((w.alloc (.cells X 23)).alloc (.cells A32 23)).heap[w.heap.size + 1]? = some (.cells A32 23 (0, 0))) := HRR.out
      have HUF := HU0
      go_enter Tryd.func46, Tryd.ntmps46
      go_wp2
      refine wp_loop_rounds 1 ?_
      rw [rounds_succ]
      go_wp2_with (first
        | ((with_reducible refine wpList_load_row (o := ⟨some 15, _, _, _, _, _⟩) ?_ _ (.tmp 2) ?_ w.heap.size ?_ 23 Y (0, 0) _ HG2.out Tryd.underlying23 ?_ HYs.out ?_); rfl; rfl; rfl; rfl)
        | ((with_reducible refine wpList_store_new (o := ⟨none, .store 23 (.tmp 4) (.tmp 15), _, _, _, _⟩) ?_ _ (.tmp 4) (.tmp 15) ?_ (w.heap.size + 1) Y ?_ ?_ 23 A32 HGR'.out HYs.out HYl.out HY1.out ?_); rfl; rfl; rfl; rfl; intro w5 Hg5 Hu5))
      refine bodyPost_ret (results_cell_row rfl _ _ (w.heap.size + 1) 23 Y (0, 0) _ rfl Hg5.out Tryd.underlying23 rfl HYs.out) rfl ?_
      exact ⟨by rw [← HY.out], HUF.out.trans (Hu5.out.mono (fun k hk e => .inr (by omega)))⟩
end Go.Proofs.YtgcionimhmbgeaaDoorR.CutW

/-
  docketref2.Text, Of.
-/
namespace Go.Proofs.YtgcionimhmbgeaaDoorR.RefOf
open Go.RowKit Sha TurnW Mem RowW CopyW SumH NewW EqW BookW SplitL SplitM HeldW RefMac OfW CutW RefW3
set_option linter.unusedVariables false
set_option linter.unusedSimpArgs false

theorem SlL.toE {w : World} {v : Value} {ts : List (List UInt8)} {O : Nat → Prop} (h : SlL w v ts O) : SlE w v ts O := by
  obtain ⟨ao, cap, pv, rfl, h3, ho, h4⟩ := h
  refine ⟨ao, cap, pv, rfl, h3, fun a ha => ⟨(h4 a ha).1, fun _ => ho _ (by subst ha; simp [own, Value.ownBlock]), fun i hi => ?_⟩⟩
  obtain ⟨hc, hs, hp⟩ := (h4 a ha).2 i hi
  refine ⟨hc, ?_, fun _ => hp⟩
  obtain ⟨ao', cap', he, h1, h2, h5, h6⟩ := id hs
  exact ⟨ao', cap', he, h1, h2, h5, fun _ => hs⟩
theorem own_lit (w : World) (c : UInt8) (x : Int) (hx : x = (c.toNat : Int)) : (w.alloc (.cells #[.int .u8 x] 5)).ownsRow 0 5 1 (.slice (some ⟨w.heap.size, 0, none⟩) 1 1) 1 ([c].map u8) := by
  subst hx
  exact ⟨by simp, .inr ⟨w.heap.size, 1, _, rfl, Nat.zero_le _, heap_alloc_new _ _, Nat.le_refl _, by unfold maxLen; omega, by simp, by simp [u8]⟩⟩
def RTextAt (dom : Int) (ts : List (List UInt8)) (w : World) (e : Ending) (w' : World) : Prop :=
  ∃ ao m cap, e = .returned (.slice ao m cap) ∧ m = (cat ts).length + 1 ∧ w'.ownsRow 0 5 1 (.slice ao m cap) m ((OfW.byteOf dom :: cat ts).map u8) ∧ (∀ k, own (.slice ao m cap) k → w.heap.size ≤ k) ∧ Upd (fun _ => False) w w'
def LRT (n : Nat) (c : UInt8) (ts : List (List UInt8)) (w0 : World) (v i : Value) (wr : World) : Prop :=
  ∃ j m : Nat, j ≤ n ∧ i = .int .i64 j ∧ m = (c :: cat (ts.take j)).length ∧ wr.ownsRow 0 5 1 v m ((c :: cat (ts.take j)).map u8) ∧ (∀ k, own v k → w0.heap.size ≤ k) ∧ Upd (fun _ => False) w0 wr

set_option maxHeartbeats 4000000 in
set_option maxRecDepth 100000 in
theorem rtext_el (dom : Int) (ao : Option Addr) (n cap : Nat) (ts : List (List UInt8)) (O : Nat → Prop) (w : World) (hs : SlE w (.slice ao n cap) ts O) (hO : ∀ k, O k → k < w.heap.size) (hn : n ≤ 140737488355328) (hcat : (cat ts).length ≤ 140737488350000) :
    Calls Tryd.prog 65 #[.int .i64 dom, .slice ao n cap] w (RTextAt dom ts w) := by
  have hnl : n = ts.length := by obtain ⟨_, _, _, h, _⟩ := hs; injection h
  obtain ⟨c, hc⟩ : ∃ c, c = OfW.byteOf dom := ⟨_, rfl⟩
  have hv := v_byteOf dom
  rw [← hc] at hv
  have HX : Hid (dom % 256 = (c.toNat : Int)) := by unfold u8 at hv; injection hv with _ h; exact h.symm
  have HL0 : Hid (LRT n c ts w (.slice (some ⟨w.heap.size, 0, none⟩) 1 1) (.int .i64 0) (w.alloc (.cells #[.int .u8 (dom % 256)] 5))) :=
    ⟨0, 1, Nat.zero_le _, rfl, by simp [cat], by have h := own_lit w c _ HX.out; simpa [cat] using h, fun k hk => by have := WriteW.own_at hk; omega, (Upd.refl _ _).alloc _⟩
  have Hnl := Lib.hid hnl
  have Hs := Lib.hid hs
  have HO := Lib.hid hO
  have Hc := Lib.hid hc
  have Hcat := Lib.hid hcat
  clear hnl hs hO hc hv hcat
  go_enter Tryd.func65, Tryd.ntmps65
  go_wp2
  go_loopw [5, 6] (fun v i wr => LRT n c ts w v i wr) (fun _ i _ => (n - (intOf i).toNat))
  case atStart => exact HL0.out
  case round =>
    clear HL0
    obtain ⟨j, m, hj, rfl, hm, hown, hno, hu⟩ := hrel
    have HM := Lib.hid hm
    have HO' := Lib.hid hown
    have HN := Lib.hid hno
    have HU := Lib.hid hu
    clear hm hown hno hu
    obtain ⟨aw, cw, hv6⟩ := SumsW.own_form HO'.out
    subst hv6
    by_cases hlt : j < n
    · have hltI : (j : Int) < (n : Int) := by omega
      have hjt : j < ts.length := by have := Hnl.out; omega
      obtain ⟨ao', cap', pv, he, h3, h4⟩ := Hs.out.upd HU.out (fun _ _ => id)
      injection he with e1 e2 e3
      subst e1 e3
      clear e2
      obtain ⟨⟨pa, oa, sa⟩, rfl⟩ : ∃ ad, ao = some ad := by
        cases ao with
        | some ad => exact ⟨ad, rfl⟩
        | none => have := h3 rfl; omega
      obtain ⟨hsa, hpa, h5⟩ := h4 _ rfl
      obtain rfl : sa = none := hsa
      obtain ⟨hc, hel, hpo⟩ := h5 j hjt
      rw [add_none] at hc
      obtain ⟨p, hp⟩ : ∃ p, p = ts.getD j [] := ⟨_, rfl⟩
      obtain ⟨pj, hpj⟩ : ∃ x, x = pv j := ⟨_, rfl⟩
      rw [← hp, ← hpj] at hel hpo
      rw [← hpj] at hc
      obtain ⟨d, hd⟩ : ∃ d, d = c :: cat (ts.take j) := ⟨_, rfl⟩
      have HCn : Hid (c :: cat (ts.take (j + 1)) = d ++ p) := by show _ = _; rw [cat_take ts j hjt, ← hp, hd]; rfl
      rw [← hd] at HO' HM
      have hcp : d.length + p.length ≤ 140737488350001 := by
        have h1 := cat_len_take ts (j + 1)
        have h2 := congrArg List.length HCn.out
        rw [List.length_append, List.length_cons] at h2
        have := Hcat.out
        omega
      have HE := Lib.hid hel
      obtain ⟨pao, pcap, hpf, _⟩ := hel
      have Hl1 : Hid (d.length + p.length ≤ maxLen) := by show _ ≤ _; unfold maxLen; omega
      have Hl2 : Hid (d.length + p.length ≤ 140737488355328) := by show _ ≤ _; omega
      obtain ⟨m', hm'⟩ : ∃ x, x = d.length + p.length := ⟨_, rfl⟩
      have HM' := Lib.hid hm'
      clear h3 h4 h5 hp hpj hd hpo hpa hjt hcp hm'
      subst hpf
      go_wp2_with ((at_builtin; (refine wpList_append_el _ (o := ⟨some 21, _, _, _, _, _⟩) ?_ (.tmp 16) (.tmp 20) ?_ (.slice aw m cw) m d p ?_ HM.out HO'.out (.slice pao p.length pcap) ?_ HE.out Hl1.out Hl2.out m' HM'.out ?_); rfl; rfl; rfl; rfl; intro a5 c5 w5 HO5 HG5 HA5))
      have HU5 : Hid (Upd (fun _ => False) w w5) := HU.out.trans ((Upd.grown HG5.out (fun k hk => hk) : Upd (fun k => own (.slice aw m cw) k) wr w5).mono (fun k _ hk => .inr (HN.out k hk)))
      have HR5 : Hid (LRT n c ts w (.slice a5 m' c5) (.int .i64 ((j + 1 : Nat) : Int)) w5) := by
        refine ⟨j + 1, m', by omega, rfl, by rw [HCn.out, List.length_append]; exact HM'.out, by rw [HCn.out]; exact HO5.out, fun k hk => ?_, HU5.out⟩
        rcases of_at HA5.out k hk with h | h
        · exact HN.out k h
        · have := HU.out.size; omega
      clear HO5 HG5 HA5 HU5 HE HM HO' HCn Hl1 Hl2 HM'
      go_roundw
      case rel =>
        rw [show ((j : Int) + 1) = ((j + 1 : Nat) : Int) by omega]
        exact HR5.out
      case measure => simp [intOf]; omega
    · have hltI : ¬ (j : Int) < (n : Int) := by omega
      have hdI : decide ((j : Int) < (n : Int)) = false := by simpa using hltI
      have HP : Hid (RTextAt dom ts w (.returned (.slice aw m cw)) wr) := by
        have h1 : ts.take j = ts := List.take_of_length_le (by have := Hnl.out; omega)
        have h2 := HM.out
        have h3 := HO'.out
        rw [h1] at h2 h3
        exact ⟨aw, m, cw, rfl, by simpa using h2, by rw [← Hc.out]; exact h3, HN.out, HU.out⟩
      clear HM HO' HN HU
      go_wp2
      go_ret
      exact HP.out

set_option maxHeartbeats 600000 in
set_option maxRecDepth 100000 in
theorem rof_el (width : Int) (hw : -9223372036854775808 ≤ width ∧ width ≤ 9223372036854775807) (dom : Int) (ao : Option Addr) (n cap : Nat) (ts : List (List UInt8)) (O : Nat → Prop) (w : World) (hs : SlE w (.slice ao n cap) ts O) (hO : ∀ k, O k → k < w.heap.size)
    (hn : n ≤ 140737488355328) (hcat : (cat ts).length ≤ 140737488350000) :
    Calls Tryd.prog 40 #[.int .i64 width, .int .i64 dom, .slice ao n cap] w fun e w' => e = .returned (.agg ((ofM width dom ts).map u8).toArray) ∧ Upd (fun _ => False) w w' := by
  obtain ⟨l, hl⟩ : ∃ l, l = OfW.byteOf dom :: cat ts := ⟨_, rfl⟩
  have HE : Hid (ofM width dom ts = cut (sha l) width) := by show _ = _; rw [hl]; rfl
  rw [HE.out]
  obtain ⟨Y, hY⟩ : ∃ Y, Y = ((cut (sha l) width).map u8).toArray := ⟨_, rfl⟩
  have hl32 : (cut (sha l) width).length = 32 := cut_len _ _ rfl
  have HY1 : Hid (Y.all (·.oneCell') = true) := by show _ = _; rw [hY]; simpa using one_of (cut (sha l) width)
  have HYs : Hid ((Tryd.prog.info? 23).map (·.size) = some Y.size) := by show _ = _; rw [size32, hY]; simp [hl32]
  have HYl : Hid (AD.size = Y.size) := by show _ = _; rw [hY]; simp [hl32, AD]
  have HY := Lib.hid hY
  have hu0 : Upd (fun _ => False) w (w.alloc (.cells AD 23)) := (Upd.refl _ w).alloc _
  have HT := Lib.hid (rtext_el dom ao n cap ts O _ (hs.upd hu0 (fun _ _ => id)) (fun k h => by have := hO k h; have := hu0.size; omega) hn hcat)
  have HU0 := Lib.hid hu0
  have HR0 : Hid ((w.alloc (.cells AD 23)).heap[w.heap.size]? = some (.cells AD 23 (0, 0))) := heap_alloc_new w _
  have Hcat := Lib.hid hcat
  have Hw := Lib.hid hw
  have hz := zeroD
  have Hl := Lib.hid hl
  clear hY hs hO hn hcat hl32 hu0 hw hl
  go_enter Tryd.func40, Tryd.ntmps40
  go_wp2_with fail
  refine HT.out.mono ?_
  rintro e w1 ⟨a1, m1, c1, rfl, hm1, hown, hno, hu1⟩
  rw [← Hl.out] at hown
  have hml : m1 = l.length := by rw [Hl.out, List.length_cons, hm1]
  have HS1 : Hid (Sl w1 (.slice a1 m1 c1) l) := by
    rw [hml] at hown ⊢
    exact Sl.of_own hown
  have HSm := Lib.hid (refsum_any a1 m1 c1 l w1 HS1.out (own_lt hown) (by have := Hcat.out; omega))
  have HU1 := Lib.hid hu1
  clear hown hno hu1 hml hm1
  go_wp2_with (first
    | (go_at_call 47; refine HSm.out.mono ?_; rintro e w2 ⟨rfl, hu2⟩; have HU2 := Lib.hid hu2; clear hu2)
    | (go_at_call 46; refine (refcut_any (sha l) rfl width Hw.out _).mono ?_; rintro e w3 ⟨rfl, hu3⟩; have HU3 := Lib.hid hu3; have HR3 : Hid (w3.heap[w.heap.size]? = some (.cells AD 23 (0, 0))) := (hu3.block _ (by have := lt_of_block HR0.out; have := HU1.out.size; have := HU2.out.size; omega) id).trans ((HU2.out.block _ (by have := lt_of_block HR0.out; have := HU1.out.size; omega) id).trans ((HU1.out.block _ (lt_of_block HR0.out) id).trans HR0.out)); clear hu3)
    | ((with_reducible refine wpList_store_new (o := ⟨none, .store 23 (.tmp 6) (.tmp 12), _, _, _, _⟩) ?_ _ (.tmp 6) (.tmp 12) ?_ w.heap.size Y ?_ ?_ 23 AD HR3.out HYs.out HYl.out HY1.out ?_); rfl; rfl; rfl; (rw [HY.out]; rfl); intro w4 Hg4 Hu4))
  refine bodyPost_ret (results_cell_row rfl _ _ w.heap.size 23 Y (0, 0) _ rfl Hg4.out Tryd.underlying23 rfl HYs.out) rfl ?_
  exact ⟨by rw [← HY.out], (((HU0.out.trans (HU1.out.mono (fun _ _ h => h.elim))).trans (HU2.out.mono (fun _ _ h => h.elim))).trans (HU3.out.mono (fun _ _ h => h.elim))).trans (Hu4.out.mono (fun k hk e => .inr (by omega)))⟩

theorem rof_any (width : Int) (hw : -9223372036854775808 ≤ width ∧ width ≤ 9223372036854775807) (dom : Int) (ao : Option Addr) (cap : Nat) (ts : List (List UInt8)) (O : Nat → Prop) (w : World) (hs : SlL w (.slice ao ts.length cap) ts O) (hO : ∀ k, O k → k < w.heap.size)
    (hn : ts.length ≤ 140737488355328) (hcat : (cat ts).length ≤ 140737488350000) :
    Calls Tryd.prog 40 #[.int .i64 width, .int .i64 dom, .slice ao ts.length cap] w fun e w' => e = .returned (.agg ((ofM width dom ts).map u8).toArray) ∧ Upd (fun _ => False) w w' :=
  rof_el width hw dom ao ts.length cap ts O w (SlL.toE hs) hO hn hcat
end Go.Proofs.YtgcionimhmbgeaaDoorR.RefOf

/-
  append of a string to a row of bytes: where the new row lies; []byte(s).
-/
namespace Go.Proofs.YtgcionimhmbgeaaDoorR.AppS
open Go.RowKit Mem
set_option linter.unusedVariables false

/-- where a row lies behind an append of a string -/
theorem str_where {P : Program} (w : World) (base : Nat) (t u ty e : TypeId) (i : TypeInfo) (ht : P.underlying t = some (.slice e)) (hu : P.underlying u = some .string) (hi : P.info? e = some i) (hz : i.zero = some (.int .u8 0))
    (hsize : i.size = 1) (hby : i.bytes = 1) (v : Value) (n : Nat) (xs : List Value) (hown : w.ownsRow base e 1 v n xs) (s : ByteArray) (h63 : n + s.size ≤ maxLen) (hbytes : n + s.size ≤ 140737488355328)
    {v' : Value} {w' : World} (hr : (Builtin.append_ #[t, u] ty #[v, .string s]).run P w = .ok v' w') (hnil : v' = .slice none 0 0 ↔ v = .slice none 0 0 ∧ s.size = 0) :
    v'.ownBlock = v.ownBlock ∨ v'.ownBlock = some w.heap.size := by
  have hsmall : n + s.size ≤ 9223372036854775807 := by simp only [maxLen] at h63; omega
  have hxl : xs.length = n := by simpa using hown.1
  rcases hown.2 with ⟨rfl, rfl⟩ | ⟨g, cap, cur, rfl, hbg, hg, hnc, hcm, hcs, htake⟩
  · by_cases hm : s.size = 0
    · left; rw [hnil.2 ⟨rfl, hm⟩]
    · have hr2 := run_append_nil_string (P := P) w t u ty e i (.int .u8 0) ht hu hi hz s (by omega) (by omega) (by rw [hby]; omega)
      rw [hr] at hr2
      cases hr2
      exact .inr rfl
  · by_cases hroom : n + s.size ≤ cap
    · have hcs' : cur.size = cap := by simpa using hcs
      have hr2 := Lib.run_append_room_string (P := P) w t u ty e i ht hu hi hsize g n cap cur hg s hroom (by omega)
      rw [hr] at hr2
      cases hr2
      exact .inl rfl
    · have holds : ∀ j u, xs[j]? = some u → w.cell? ((⟨g, 0, none⟩ : Addr).add j) = some u := hown.cells (g := g) rfl
      have hr2 := Lib.run_append_grow_string (P := P) w t u ty e i (.int .u8 0) ht hu hi hz ⟨g, 0, none⟩ n cap xs (by rw [hsize]; simpa using hxl) holds s (by omega) (by omega) (by rw [hby]; exact growslice_fits (by omega) (by omega))
      rw [hr] at hr2
      cases hr2
      exact .inr rfl

theorem wpList_append_str {P : Program} (w : World) {ops : Array Oper} {rest : List Oper} {o : Oper} {a : Act} {Q : Exit → Act → World → Prop} (hgd : o.guard = none) (sl x : Operand) (t u : TypeId)
    (ho : o.op = .call { callee := .builtin .append, args := #[sl, x], argTypes := #[t, u] })
    (base : Nat) (e : TypeId) (i : TypeInfo) (ht : P.underlying t = some (.slice e)) (hu : P.underlying u = some .string) (hi : P.info? e = some i) (hz : i.zero = some (.int .u8 0))
    (hsize : i.size = 1) (hby : i.bytes = 1)
    (v : Value) (n : Nat) (xs : List Value) (hs : a.eval sl = v) (hown : w.ownsRow base e 1 v n xs) (s : ByteArray) (hx : a.eval x = .string s)
    (h63 : n + s.size ≤ maxLen) (hbytes : n + s.size ≤ 140737488355328) (hbase : base ≤ w.heap.size)
    (h : ∀ v' w', w'.ownsRow base e 1 v' (n + s.size) (xs ++ Lib.strCells s) → w.grownBy w' v.ownBlock → (v'.ownBlock = v.ownBlock ∨ v'.ownBlock = some w.heap.size) → wpList P ops Q rest (a.put o.dst v') w') : wpList P ops Q (o :: rest) a w := by
  refine wpList_plain hgd fun K hK => ?_
  obtain ⟨v', w', hr, h2, h3, h4⟩ := Lib.run_append_own_string (P := P) w base t u o.type e i ht hu hi hz hsize hby v n xs hown s h63 hbytes hbase
  have h5 := str_where w base t u o.type e i ht hu hi hz hsize hby v n xs hown s h63 hbytes hr h4
  unfold Oper.wp execOp
  simp only [ho, resolve, invoke, builtin, Sem.run_bind, Sem.run_pure, Result.andThen_ok, List.map_toArray, List.map_cons, List.map_nil, hs, hx, hr]
  exact hK _ _ (h v' w' h2 h3 h5)

theorem strCells_eq (l : List UInt8) : Lib.strCells ⟨l.toArray⟩ = l.map u8 := by simp [Lib.strCells, u8]

/-- []byte(s): new memory -/
theorem conv_str (w : World) (l : List UInt8) (hl : l.length ≤ 140737488355000) :
    ∃ w1 cap, (convert 9 25 (.string ⟨l.toArray⟩)).run Tryd.prog w = .ok (.slice (some ⟨w.heap.size, 0, none⟩) l.length cap) w1 ∧ Sl w1 (.slice (some ⟨w.heap.size, 0, none⟩) l.length cap) l ∧ Upd (fun _ => False) w w1 := by
  have hsz : (ByteArray.mk l.toArray).size = l.length := by simp [ByteArray.size]
  have h := Lib.run_convert_string_bytes (P := Tryd.prog) w 9 25 5 ⟨l.toArray⟩ Tryd.underlying9 Tryd.underlying25 Tryd.underlying5
  rw [hsz] at h
  refine ⟨_, _, h, ⟨_, _, rfl, ?_, ?_, by simp, fun a ha => ?_⟩, ?_, ?_, ?_, ?_, fun k hk _ => Lib.bytesWorld_at_old w _ _ k hk⟩
  · have h2 := grownCap_ge w (ByteArray.mk l.toArray).size 0 5
    rwa [hsz] at h2
  · have h2 := grownCap_le_maxLen w (ByteArray.mk l.toArray).size 0 5 (by rw [hsz]; unfold maxLen; omega)
    rwa [hsz] at h2
  · injection ha with ha
    subst ha
    refine ⟨rfl, fun i hi => ?_⟩
    have h2 := Lib.bytesWorld_cell w 5 ⟨l.toArray⟩ i (by rw [hsz]; exact hi)
    have e : (⟨w.heap.size, 0, none⟩ : Addr).add i = ⟨w.heap.size, i, none⟩ := by unfold Addr.add; split <;> simp_all
    rw [e, h2]
    rfl
  · unfold Lib.bytesWorld World.freeze; rw [if_neg (by decide)]; rfl
  · unfold Lib.bytesWorld World.freeze; rw [if_neg (by decide)]; rfl
  · unfold Lib.bytesWorld World.freeze; rw [if_neg (by decide)]; rfl
  · rw [Lib.bytesWorld_size]; omega
end Go.Proofs.YtgcionimhmbgeaaDoorR.AppS

/-
  digest.Nothing, Key; docketref2.Nothing, Key.
-/
namespace Go.Proofs.YtgcionimhmbgeaaDoorR.TabK
open Go.RowKit Sha TurnW Mem RowW SpreadW MixW HashM CopyW SumH NewW EqW BookW HeldW RefMac OfW CutW RefW3 RefOf AppS LeafW
set_option linter.unusedVariables false
set_option linter.unusedSimpArgs false

theorem sl_nil (w : World) : Sl w (.slice none 0 0) [] := ⟨none, 0, rfl, Nat.le_refl _, Nat.zero_le _, fun _ => rfl, fun _ h => by cases h⟩
def notM (width : Int) : List UInt8 := cut (sha []) width
theorem not_len (width : Int) : (notM width).length = 32 := cut_len _ _ rfl

set_option maxHeartbeats 4000000 in
set_option maxRecDepth 100000 in
theorem nothing_any (width : Int) (w : World) (hk : Kw w) (hg : 2 < w.heap.size) :
    Calls Tryd.prog 43 #[.int .i64 width] w fun e w' => e = .returned (.agg ((notM width).map u8).toArray) ∧ Upd (fun _ => False) w w' := by
  obtain ⟨Y, hY⟩ : ∃ Y, Y = ((notM width).map u8).toArray := ⟨_, rfl⟩
  have hl32 := not_len width
  have HY1 : Hid (Y.all (·.oneCell') = true) := by show _ = _; rw [hY]; simpa using one_of (notM width)
  have HYs : Hid ((Tryd.prog.info? 23).map (·.size) = some Y.size) := by show _ = _; rw [size32, hY]; simp [hl32]
  have HYl : Hid (AD.size = Y.size) := by show _ = _; rw [hY]; simp [hl32, AD]
  have HY := Lib.hid hY
  have hu0 : Upd (fun _ => False) w (w.alloc (.cells AD 23)) := (Upd.refl _ w).alloc _
  have HS := Lib.hid (sum_text (.slice none 0 0) [] _ (sl_nil (w.alloc (.cells AD 23))) (hk.upd hu0 id) (by first | (simp; done) | (simp; omega)) (fun k h => by simp [own, Value.ownBlock] at h) (by simp))
  have HU0 := Lib.hid hu0
  have HR0 : Hid ((w.alloc (.cells AD 23)).heap[w.heap.size]? = some (.cells AD 23 (0, 0))) := heap_alloc_new w _
  have hz := zeroD
  clear hY hk hg hl32 hu0
  go_enter Tryd.func43, Tryd.ntmps43
  go_wp2_with (first
    | (go_at_call 69; refine HS.out.mono ?_; rintro e w2 ⟨rfl, hu2⟩; have HU2 := Lib.hid hu2; clear hu2)
    | (go_at_call 68; refine (cut_any (sha []) rfl width _).mono ?_; rintro e w3 ⟨rfl, hu3⟩; have HU3 := Lib.hid hu3; have HR3 : Hid (w3.heap[w.heap.size]? = some (.cells AD 23 (0, 0))) := (hu3.block _ (by have := lt_of_block HR0.out; have := HU2.out.size; omega) id).trans ((HU2.out.block _ (lt_of_block HR0.out) id).trans HR0.out); clear hu3)
    | ((with_reducible refine wpList_store_new (o := ⟨none, .store 23 (.tmp 2) (.tmp 5), _, _, _, _⟩) ?_ _ (.tmp 2) (.tmp 5) ?_ w.heap.size Y ?_ ?_ 23 AD HR3.out HYs.out HYl.out HY1.out ?_); rfl; rfl; rfl; (rw [HY.out]; rfl); intro w4 Hg4 Hu4))
  refine bodyPost_ret (results_cell_row rfl _ _ w.heap.size 23 Y (0, 0) _ rfl Hg4.out Tryd.underlying23 rfl HYs.out) rfl ?_
  exact ⟨by rw [← HY.out], ((HU0.out.trans (HU2.out.mono (fun _ _ h => h.elim))).trans (HU3.out.mono (fun _ _ h => h.elim))).trans (Hu4.out.mono (fun k hk e => .inr (by omega)))⟩

set_option maxHeartbeats 4000000 in
set_option maxRecDepth 100000 in
theorem rnothing_any (width : Int) (hw : -9223372036854775808 ≤ width ∧ width ≤ 9223372036854775807) (w : World) :
    Calls Tryd.prog 15 #[.int .i64 width] w fun e w' => e = .returned (.agg ((notM width).map u8).toArray) ∧ Upd (fun _ => False) w w' := by
  obtain ⟨Y, hY⟩ : ∃ Y, Y = ((notM width).map u8).toArray := ⟨_, rfl⟩
  have hl32 := not_len width
  have HY1 : Hid (Y.all (·.oneCell') = true) := by show _ = _; rw [hY]; simpa using one_of (notM width)
  have HYs : Hid ((Tryd.prog.info? 23).map (·.size) = some Y.size) := by show _ = _; rw [size32, hY]; simp [hl32]
  have HYl : Hid (AD.size = Y.size) := by show _ = _; rw [hY]; simp [hl32, AD]
  have HY := Lib.hid hY
  have Hw := Lib.hid hw
  have hu0 : Upd (fun _ => False) w (w.alloc (.cells AD 23)) := (Upd.refl _ w).alloc _
  have HS := Lib.hid (refsum_any none 0 0 [] _ (sl_nil (w.alloc (.cells AD 23))) (fun k h => by simp [own, Value.ownBlock] at h) (by omega))
  have HU0 := Lib.hid hu0
  have HR0 : Hid ((w.alloc (.cells AD 23)).heap[w.heap.size]? = some (.cells AD 23 (0, 0))) := heap_alloc_new w _
  have hz := zeroD
  clear hY hl32 hu0 hw
  go_enter Tryd.func15, Tryd.ntmps15
  go_wp2_with (first
    | (go_at_call 47; refine HS.out.mono ?_; rintro e w2 ⟨rfl, hu2⟩; have HU2 := Lib.hid hu2; clear hu2)
    | (go_at_call 46; refine (refcut_any (sha []) rfl width Hw.out _).mono ?_; rintro e w3 ⟨rfl, hu3⟩; have HU3 := Lib.hid hu3; have HR3 : Hid (w3.heap[w.heap.size]? = some (.cells AD 23 (0, 0))) := (hu3.block _ (by have := lt_of_block HR0.out; have := HU2.out.size; omega) id).trans ((HU2.out.block _ (lt_of_block HR0.out) id).trans HR0.out); clear hu3)
    | ((with_reducible refine wpList_store_new (o := ⟨none, .store 23 (.tmp 2) (.tmp 5), _, _, _, _⟩) ?_ _ (.tmp 2) (.tmp 5) ?_ w.heap.size Y ?_ ?_ 23 AD HR3.out HYs.out HYl.out HY1.out ?_); rfl; rfl; rfl; (rw [HY.out]; rfl); intro w4 Hg4 Hu4))
  refine bodyPost_ret (results_cell_row rfl _ _ w.heap.size 23 Y (0, 0) _ rfl Hg4.out Tryd.underlying23 rfl HYs.out) rfl ?_
  exact ⟨by rw [← HY.out], ((HU0.out.trans (HU2.out.mono (fun _ _ h => h.elim))).trans (HU3.out.mono (fun _ _ h => h.elim))).trans (Hu4.out.mono (fun k hk e => .inr (by omega)))⟩

def keyM (l : List UInt8) : List UInt8 := sha (6 :: l)
theorem ofM_key (l : List UInt8) : ofM 32 6 [l] = keyM l := by
  have h : OfW.byteOf 6 = 6 := by decide
  unfold ofM keyM cut
  rw [h]
  have e : cutN 32 = 32 := by decide
  rw [e]
  simp [cat]
  exact List.take_of_length_le (Nat.le_of_eq rfl)


end Go.Proofs.YtgcionimhmbgeaaDoorR.TabK

/-
  docketref2.Leaf, Node, Link, Branch.
-/
namespace Go.Proofs.YtgcionimhmbgeaaDoorR.TabR
open Go.RowKit Sha TurnW Mem RowW SpreadW MixW HashM CopyW WriteW WriteN EndW SumH NewW EqW CutW OfW LeafW BranchW RefOf
set_option linter.unusedVariables false
set_option linter.unusedSimpArgs false

set_option maxHeartbeats 4000000 in
set_option maxRecDepth 100000 in
theorem rleaf_any (width : Int) (hw : -9223372036854775808 ≤ width ∧ width ≤ 9223372036854775807) (ao : Option Addr) (n cap : Nat) (xs : List UInt8) (w : World) (hs : Sl w (.slice ao n cap) xs) (ho : ∀ k, own (.slice ao n cap) k → k < w.heap.size)
    (hk : True) (hg : True) (hlen : xs.length ≤ 140737488350000) :
    Calls Tryd.prog 11 #[.int .i64 width, .slice ao n cap] w fun e w' => e = .returned (.agg ((ofM width 0 [xs]).map u8).toArray) ∧ Upd (fun _ => False) w w' := by
  obtain ⟨Y, hY⟩ : ∃ Y, Y = ((ofM width 0 [xs]).map u8).toArray := ⟨_, rfl⟩
  have hl32 := of_len width 0 [xs]
  have HY1 : Hid (Y.all (·.oneCell') = true) := by show _ = _; rw [hY]; simpa using one_of (ofM width 0 [xs])
  have HYs : Hid ((Tryd.prog.info? 23).map (·.size) = some Y.size) := by show _ = _; rw [size32, hY]; simp [hl32]
  have HYl : Hid (AD.size = Y.size) := by show _ = _; rw [hY]; simp [hl32, AD]
  have HY := Lib.hid hY
  have hu0 : Upd (fun _ => False) w ((w.alloc (.cells AD 23)).alloc (.cells #[.slice ao n cap] 25)) := ((Upd.refl _ w).alloc _).alloc _
  have hr0 : Row ((w.alloc (.cells AD 23)).alloc (.cells #[.slice ao n cap] 25)) w.heap.size 23 ((List.replicate 32 (0 : UInt8)).map u8) := heap_alloc2_old w _ _
  have HO := Lib.hid (rof_any width hw 0 _ 1 [xs] (fun k => k < w.heap.size + 2) _
    (slL_one _ (w.heap.size + 1) _ xs _ (heap_alloc2_new w (.cells AD 23) (.cells #[.slice ao n cap] 25)) (hs.upd hu0 (fun _ _ => id)) (fun k h => by have := ho k h; omega) (by omega))
    (by intro k hk; simpa using hk) (by simp) (by simpa [cat] using hlen))
  have HU0 := Lib.hid hu0
  have HR0 := Lib.hid hr0
  have hz := zeroD
  clear hY hs ho hk hg hlen hl32 hu0 hr0
  go_enter Tryd.func11, Tryd.ntmps11
  go_wp2_with (first
    | (go_at_call 40; refine HO.out.mono ?_; rintro e w1 ⟨rfl, hu1⟩; have HU1 := Lib.hid hu1; have HR1 : Hid (w1.heap[w.heap.size]? = some (.cells AD 23 (0, 0))) := HR0.out.upd hu1 id; clear hu1)
    | ((with_reducible refine wpList_store_new (o := ⟨none, .store 23 (.tmp 4) (.tmp 8), _, _, _, _⟩) ?_ _ (.tmp 4) (.tmp 8) ?_ w.heap.size Y ?_ ?_ 23 AD HR1.out HYs.out HYl.out HY1.out ?_); rfl; rfl; rfl; (rw [HY.out]; rfl); intro w2 Hg2 Hu2))
  refine bodyPost_ret (results_cell_row rfl _ _ w.heap.size 23 Y (0, 0) _ rfl Hg2.out Tryd.underlying23 rfl HYs.out) rfl ?_
  exact ⟨by rw [← HY.out], (HU0.out.trans (HU1.out.mono (fun _ _ h => h.elim))).trans (Hu2.out.mono (fun k hk e => .inr (by omega)))⟩
set_option maxHeartbeats 4000000 in
set_option maxRecDepth 100000 in
theorem rnode_any (width : Int) (hw : -9223372036854775808 ≤ width ∧ width ≤ 9223372036854775807) (xs ys : List UInt8) (hx : xs.length = 32) (hy : ys.length = 32) (w : World)
    (hk : True) (hg : True) :
    Calls Tryd.prog 12 #[.int .i64 width, .agg (xs.map u8).toArray, .agg (ys.map u8).toArray] w fun e w' => e = .returned (.agg ((ofM width 1 [xs, ys]).map u8).toArray) ∧ Upd (fun _ => False) w w' := by
  obtain ⟨X, hX⟩ : ∃ X, X = (xs.map u8).toArray := ⟨_, rfl⟩
  obtain ⟨Z, hZ⟩ : ∃ Z, Z = (ys.map u8).toArray := ⟨_, rfl⟩
  obtain ⟨Y, hY⟩ : ∃ Y, Y = ((ofM width 1 [xs, ys]).map u8).toArray := ⟨_, rfl⟩
  have hl32 := of_len width 1 [xs, ys]
  have HY1 : Hid (Y.all (·.oneCell') = true) := by show _ = _; rw [hY]; simpa using one_of (ofM width 1 [xs, ys])
  have HYs : Hid ((Tryd.prog.info? 23).map (·.size) = some Y.size) := by show _ = _; rw [size32, hY]; simp [hl32]
  have HYl : Hid (AD.size = Y.size) := by show _ = _; rw [hY]; simp [hl32, AD]
  have HY := Lib.hid hY
  obtain ⟨w3, hw3⟩ : ∃ w3, w3 = ((w.alloc (.cells X 23)).alloc (.cells Z 23)).alloc (.cells AD 23) := ⟨_, rfl⟩
  have hs3 : w3.heap.size = w.heap.size + 3 := by rw [hw3]; simp
  have hu3 : Upd (fun _ => False) w w3 := by rw [hw3]; exact (((Upd.refl _ w).alloc _).alloc _).alloc _
  have hgx : w3.heap[w.heap.size]? = some (.cells (xs.map u8).toArray 23 (0, 0)) := by
    rw [hw3, ← hX, Below.heap_alloc _ _ _ (by simp; omega)]; exact heap_alloc2_old w _ _
  have hgz : w3.heap[w.heap.size + 1]? = some (.cells (ys.map u8).toArray 23 (0, 0)) := by
    rw [hw3, ← hZ, Below.heap_alloc _ _ _ (by simp)]; exact heap_alloc2_new w _ _
  have hgr : w3.heap[w.heap.size + 2]? = some (.cells AD 23 (0, 0)) := by
    rw [hw3]; have h := heap_alloc_new ((w.alloc (.cells X 23)).alloc (.cells Z 23)) (.cells AD 23); simpa using h
  obtain ⟨w4, hw4⟩ : ∃ w4, w4 = w3.drew.alloc (.cells #[.slice (some ⟨w.heap.size, 0, none⟩) 32 32, .slice (some ⟨w.heap.size + 1, 0, none⟩) 32 32] 25) := ⟨_, rfl⟩
  have hs4 : w4.heap.size = w3.heap.size + 1 := by rw [hw4]; first | (simp; done) | (simp; rfl)
  have hu4 : Upd (fun _ => False) w3 w4 := by rw [hw4]; exact (Upd.refl _ w3).drew.alloc _
  have hsx := (sl_row w3 w.heap.size 23 xs _ 32 hx.symm (by rw [hx]; unfold maxLen; omega) hgx).upd hu4 (fun _ _ => id)
  have hsz := (sl_row w3 (w.heap.size + 1) 23 ys _ 32 hy.symm (by rw [hy]; unfold maxLen; omega) hgz).upd hu4 (fun _ _ => id)
  have hnew : w4.heap[w3.heap.size]? = some (.cells #[.slice (some ⟨w.heap.size, 0, none⟩) 32 32, .slice (some ⟨w.heap.size + 1, 0, none⟩) 32 32] 25 (0, 0)) := by rw [hw4]; exact heap_alloc_new w3.drew _
  have HO := Lib.hid (rof_any width hw 1 _ 2 [xs, ys] (fun k => k < w.heap.size + 4) w4
    (slL_two _ w3.heap.size _ _ xs ys _ hnew hsx hsz (fun k h => by have := own_at h; omega) (fun k h => by have := own_at h; omega) (by omega))
    (by intro k hk; omega) (by simp) (by simp [cat, hx, hy]))
  have HU4 : Hid (Upd (fun _ => False) w w4) := hu3.trans (hu4.mono fun _ _ h => h.elim)
  have HR4 : Hid (w4.heap[w.heap.size + 2]? = some (.cells AD 23 (0, 0))) := (hu4.block _ (by omega) id).trans hgr
  subst hw4
  have HX := Lib.hid hX
  have HZ := Lib.hid hZ
  have Hw3 := Lib.hid hw3
  have Hs3 := Lib.hid hs3
  have hz := zeroD
  rw [← hX, ← hZ]
  clear hY hX hZ hk hg hl32 hu3 hgx hgz hgr hu4 hsx hsz hnew hs3 hs4
  go_enter Tryd.func12, Tryd.ntmps12
  go_wp2_with fail
  rw [← hw3]
  clear hw3
  refine wp_region_held (S := fun _ => True) (by kernel_rfl) ?_
  refine wpAnyH_take (i := 0) (oi := ⟨some 7, _, _, _, _, _⟩) (v := .int .i64 width) rfl (by kernel_rfl) (by kernel_rfl) (by kernel_rfl) (fun _ _ _ h => h) (Or.inl ⟨by rfl, fun w hS => by go_simp⟩) trivial ?_
  try simp only [Act.put, List.setIfInBounds_toArray, List.set_cons_zero, List.set_cons_succ]
  refine wpAnyH_take (i := 1) (oi := ⟨some 8, _, _, _, _, _⟩) (v := .slice (some ⟨w.heap.size, 0, none⟩) 32 32) rfl (by kernel_rfl) (by kernel_rfl) (by kernel_rfl) (fun _ _ _ h => h) (Or.inl ⟨by rfl, fun w hS => by go_simp⟩) trivial ?_
  try simp only [Act.put, List.setIfInBounds_toArray, List.set_cons_zero, List.set_cons_succ]
  refine wpAnyH_take (i := 2) (oi := ⟨some 9, _, _, _, _, _⟩) (v := .slice (some ⟨w.heap.size + 1, 0, none⟩) 32 32) rfl (by kernel_rfl) (by kernel_rfl) (by kernel_rfl) (fun _ _ _ h => h) (Or.inl ⟨by rfl, fun w hS => by go_simp⟩) trivial ?_
  try simp only [Act.put, List.setIfInBounds_toArray, List.set_cons_zero, List.set_cons_succ]
  refine wpAnyH_ready (rs := [3]) (by kernel_rfl) (by simp) ?_
  refine AllReadyH.cons rfl (fun K hK => ?_) AllReadyH.nil
  change ite _ (Oper.wp _ _ _ w3.drew _ _) _
  go_simp
  refine hK.out _ _ trivial (fun hHeld => ?_)
  clear hK K hHeld
  try simp only [Act.put, List.setIfInBounds_toArray, List.set_cons_zero, List.set_cons_succ]
  refine wpAnyH_ready (rs := [4]) (by kernel_rfl) (by simp) ?_
  refine AllReadyH.cons rfl (fun K hK => ?_) AllReadyH.nil
  go_simp
  refine HO.out.mono ?_
  rintro e w5 ⟨rfl, hu5⟩
  have HU5 := Lib.hid hu5
  have HR5 : Hid (w5.heap[w.heap.size + 2]? = some (.cells AD 23 (0, 0))) := (hu5.block _ (lt_of_block HR4.out) id).trans HR4.out
  clear hu5
  refine hK.out _ _ trivial (fun hHeld => ?_)
  clear hK K hHeld
  try simp only [Act.put, List.setIfInBounds_toArray, List.set_cons_zero, List.set_cons_succ]
  refine wpAnyH_ready (rs := [5]) (by kernel_rfl) (by simp) ?_
  refine AllReadyH.cons rfl (fun K hK => ?_) AllReadyH.nil
  rw [if_pos (by rfl)]
  refine wp_store_row 23 (.tmp 6) (.tmp 11) rfl (w.heap.size + 2) Y rfl (by rw [HY.out]; rfl) 23 AD HR5.out HYs.out HYl.out HY1.out ?_
  have Hg6 := Lib.hid (setRow_heap _ _ AD Y _ _ HR5.out)
  have Hu6 : Hid (Upd (fun k => k = w.heap.size + 2) w5 (w5.setRow (w.heap.size + 2) Y)) := Upd.setRow (Upd.refl _ _) _ Y (.inl rfl)
  generalize w5.setRow (w.heap.size + 2) Y = w6 at Hg6 Hu6 ⊢
  refine hK.out _ _ trivial (fun hHeld => ?_)
  clear hK K hHeld
  try simp only [Act.put, List.setIfInBounds_toArray, List.set_cons_zero, List.set_cons_succ]
  refine wpAnyH_done (by kernel_rfl) ?_ _
  go_wp2
  refine bodyPost_ret (results_cell_row rfl _ _ (w.heap.size + 2) 23 Y (0, 0) _ rfl Hg6.out Tryd.underlying23 rfl HYs.out) rfl ?_
  exact ⟨by rw [← HY.out], (HU4.out.trans (HU5.out.mono (fun _ _ h => h.elim))).trans (Hu6.out.mono (fun k hk e => .inr (by omega)))⟩
end Go.Proofs.YtgcionimhmbgeaaDoorR.TabR
