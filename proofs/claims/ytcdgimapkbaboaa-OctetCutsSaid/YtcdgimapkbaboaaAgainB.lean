/-
  docketlaw1.again, and what alike says of what was answered.
-/
import Derived.Test.YtcdgimapkbaboaaAgainW
import Derived.Test.YtcdgimapkbaboaaAlikeW
namespace Go.Proofs.Ytcdgimapkbaboaa.AgainB
open Go.RowKit Mem RowW PutW TakeW FlagW ReaderW ReadB ReadT ReadD ReadG StrW RawW TextsW DigW ForthL LaysW OpenOp ListsB LaysD AlikeW
open AgainW (ZO zeroO sizeO base base_one set_base set_one dgl_own strl_own)
set_option linter.unusedVariables false
set_option linter.unusedSimpArgs false

/-- what is taken is what that step bears -/
structure Vals (o : OpD) (most each many : Int) (l : List UInt8) (s : Nat × Int) : Prop where
  v1 : o.k = 1 → (takeM 1 l s).1 = o.n % 256
  v2 : o.k = 2 → (takeM 2 l s).1 = o.n % 65536
  v3 : o.k = 3 → (takeM 4 l s).1 = o.n % 4294967296
  v4 : o.k = 4 → (takeM 8 l s).1 = o.n
  v5 : o.k = 5 → (flagM l s).1 = o.y
  v6 : o.k = 6 → (dgsM many l s).1 = o.ds
  v7 : o.k = 7 → (nextM many l s).1 = o.xs
  v8 : o.k = 8 → (txtM most l s).1 = o.st
  v9 : o.k = 9 → (bytM most l s).1 = o.xs
  v10 : o.k = 10 → (tsM most each l s).1 = o.ss
  b6 : o.k = 6 → o.ds.length ≤ 140737488355328
  b10 : o.k = 10 → o.ss.length ≤ 140737488355328
  b11 : o.k = 10 → ∀ x ∈ o.ss, x.size ≤ 65535
def AlikeAt (w : World) (B : Nat) (L : List Value) (kind most each many : Int) (l : List UInt8) (s : Nat × Int) : Prop :=
  ∀ (w' : World) (cs : List Value) (o : OpD) (O : Nat → Prop), Upd (fun k => k < B) w w' → OpH w' cs o O → o.k = kind → Vals o most each many l s →
    Calls Try.prog 38 #[.agg cs.toArray, .agg L.toArray] w' fun e w'' => e = .returned (.bool true) ∧ Upd (fun _ => False) w' w''
theorem el_of_sl {w : World} {v : Value} {l : List UInt8} (h : Sl w v l) : El w v l := by
  obtain ⟨ao, cap, rfl, h1, h2, h3, h4⟩ := id h
  exact ⟨ao, cap, rfl, h1, h2, h3, fun _ => h⟩
def AgainAt (kind most each many : Int) (r : Nat) (rv : Value) (l : List UInt8) (s : Nat × Int) (w : World) (e : Ending) (w' : World) : Prop :=
  ∃ L : List Value, e = .returned (.agg L.toArray) ∧ L.length = 12 ∧ L.all (·.oneCell') = true ∧ Rd w' r rv l (stepM kind most each many l s) ∧ Upd (fun k => k = r) w w' ∧ AlikeAt w' w.heap.size L kind most each many l s

set_option maxHeartbeats 4000000 in
set_option maxRecDepth 100000 in
theorem again_1 (r : Nat) (rv : Value) (l : List UInt8) (s : Nat × Int) (cs : List Value) (many most each : Int) (w : World) (hr : Rd w r rv l s) (hl : l.length ≤ 140737488351232) (hcs : OpC cs (1, many, most, each)) :
    Calls Try.prog 39 #[.pointer (some ⟨r, 0, none⟩), .agg cs.toArray] w (AgainAt 1 most each many r rv l s w) := by
  have hrb : r < w.heap.size := lt_of_block hr.1
  have hvb : ∀ k, own rv k → k < w.heap.size := fun k hk => (hr.2.1.lt k hk).2
  obtain ⟨X, hX⟩ : ∃ X, X = cs.toArray := ⟨_, rfl⟩
  obtain ⟨w1, hw1⟩ : ∃ x, x = w.alloc (.cells X 54) := ⟨_, rfl⟩
  obtain ⟨w2, hw2⟩ : ∃ x, x = w1.alloc (.cells ZO 54) := ⟨_, rfl⟩
  obtain ⟨w3, hw3⟩ : ∃ x, x = w2.alloc (.cells ZO 54) := ⟨_, rfl⟩
  have hs1 : w1.heap.size = w.heap.size + 1 := by rw [hw1]; simp
  have hs2 : w2.heap.size = w.heap.size + 1 + 1 := by rw [hw2]; simp; omega
  have hs3 : w3.heap.size = w.heap.size + 3 := by rw [hw3]; simp; omega
  have hrow : w1.heap[w.heap.size]? = some (.cells cs.toArray 54 (0, 0)) := by rw [hw1, hX]; exact heap_alloc_new w _
  have hcell : ∀ i x, cs[i]? = some x → w1.cell? ⟨w.heap.size, i, none⟩ = some x := fun i x h => by rw [cell_of_row _ _ _ _ _ _ hrow]; simpa using h
  have hu01 : Upd (fun _ => False) w w1 := by rw [hw1]; exact (Upd.refl _ w).alloc _
  have hu12 : Upd (fun _ => False) w1 w2 := by rw [hw2]; exact (Upd.refl _ w1).alloc _
  have hu23 : Upd (fun _ => False) w2 w3 := by rw [hw3]; exact (Upd.refl _ w2).alloc _
  have hu13 : Upd (fun _ => False) w1 w3 := hu12.trans (hu23.mono (fun _ _ e => e.elim))
  have b0 : w2.cell? ⟨w.heap.size, 0, none⟩ = some (.int .i64 1) := hu12.cell (hcell 0 _ hcs.c0) id
  have b3 : w2.cell? ⟨w.heap.size, 3, none⟩ = some (.int .i64 many) := hu12.cell (hcell 3 _ hcs.c3) id
  have b10 : w2.cell? ⟨w.heap.size, 10, none⟩ = some (.int .i64 most) := hu12.cell (hcell 10 _ hcs.c10) id
  have b11 : w2.cell? ⟨w.heap.size, 11, none⟩ = some (.int .i64 each) := hu12.cell (hcell 11 _ hcs.c11) id
  have HB0 : Hid (∀ w', Upd (fun k => w.heap.size < k) w1 w' → w'.cell? ⟨w.heap.size, 0, none⟩ = some (.int .i64 1)) := fun w' hu => hu.cell (hcell 0 _ hcs.c0) (by simp)
  have HB3 : Hid (∀ w', Upd (fun k => w.heap.size < k) w1 w' → w'.cell? ⟨w.heap.size, 3, none⟩ = some (.int .i64 many)) := fun w' hu => hu.cell (hcell 3 _ hcs.c3) (by simp)
  have HB10 : Hid (∀ w', Upd (fun k => w.heap.size < k) w1 w' → w'.cell? ⟨w.heap.size, 10, none⟩ = some (.int .i64 most)) := fun w' hu => hu.cell (hcell 10 _ hcs.c10) (by simp)
  have HB11 : Hid (∀ w', Upd (fun k => w.heap.size < k) w1 w' → w'.cell? ⟨w.heap.size, 11, none⟩ = some (.int .i64 each)) := fun w' hu => hu.cell (hcell 11 _ hcs.c11) (by simp)
  have HZ3 : Hid (w3.heap[w.heap.size + 1 + 1]? = some (.cells ZO 54 (0, 0))) := by show _ = _; rw [← hs2, hw3]; exact heap_alloc_new w2 _
  have HY3 : Hid (w3.heap[w.heap.size + 1]? = some (.cells ZO 54 (0, 0))) := by
    have h : w2.heap[w.heap.size + 1]? = some (.cells ZO 54 (0, 0)) := by rw [← hs1, hw2]; exact heap_alloc_new w1 _
    exact (hu23.block _ (by omega) id).trans h
  obtain ⟨BL, hBL⟩ : ∃ x, x = base 1 many most each := ⟨_, rfl⟩
  have hBA : ((((ZO.setIfInBounds 0 (.int .i64 1)).setIfInBounds 10 (.int .i64 most)).setIfInBounds 11 (.int .i64 each)).setIfInBounds 3 (.int .i64 many)) = BL.toArray := by rw [hBL]; exact set_base 1 many most each
  have HBs : Hid ((Try.prog.info? 54).map (·.size) = some (((((ZO.setIfInBounds 0 (.int .i64 1)).setIfInBounds 10 (.int .i64 most)).setIfInBounds 11 (.int .i64 each)).setIfInBounds 3 (.int .i64 many))).size) := by show _ = _; rw [hBA, sizeO, hBL]; rfl
  have HBl : Hid (ZO.size = (((((ZO.setIfInBounds 0 (.int .i64 1)).setIfInBounds 10 (.int .i64 most)).setIfInBounds 11 (.int .i64 each)).setIfInBounds 3 (.int .i64 many))).size) := by show _ = _; rw [hBA, hBL]; rfl
  have HB1 : Hid ((((((ZO.setIfInBounds 0 (.int .i64 1)).setIfInBounds 10 (.int .i64 most)).setIfInBounds 11 (.int .i64 each)).setIfInBounds 3 (.int .i64 many))).all (·.oneCell') = true) := by show _ = _; rw [hBA, hBL]; simpa using base_one 1 many most each
  have HBA := Lib.hid hBA
  have HBLe := Lib.hid hBL
  have Hr := Lib.hid hr
  have Hl := Lib.hid hl
  have Hrb := Lib.hid hrb
  have Hvb := Lib.hid hvb
  have Hs3 := Lib.hid hs3
  have HU13 : Hid (Upd (fun k => w.heap.size < k) w1 w3) := hu13.mono (fun _ _ e => e.elim)
  have HU03 : Hid (Upd (fun _ => False) w w3) := hu01.trans (hu13.mono (fun _ _ e => e.elim))
  have hz := zeroO
  rw [← hX]
  subst hw3
  subst hw2
  subst hw1
  clear hX hs1 hs2 hs3 hrow hcell hu01 hu12 hu23 hu13 hcs hBL hBA hr hl hrb hvb
  go_enter Try.func39, Try.ntmps39
  go_wp2_with (first
    | ((with_reducible refine wpList_store_new (o := ⟨none, .store 54 (.tmp 5) (.tmp 14), _, _, _, _⟩) ?_ _ (.tmp 5) (.tmp 14) ?_ (w.heap.size + 1 + 1) ((((ZO.setIfInBounds 0 (.int .i64 1)).setIfInBounds 10 (.int .i64 most)).setIfInBounds 11 (.int .i64 each)).setIfInBounds 3 (.int .i64 many)) ?_ ?_ 54 ZO HZ3.out HBs.out HBl.out HB1.out ?_); rfl; rfl; rfl; rfl; intro w4 Hg4 Hu4; clear b0 b3 b10 b11; have HU14 : Hid (Upd (fun k => w.heap.size < k) _ w4) := HU13.out.trans (Hu4.out.mono (fun k _ e => .inl (by omega))); have b0 := HB0.out w4 HU14.out; have b3 := HB3.out w4 HU14.out; have b10 := HB10.out w4 HU14.out; have b11 := HB11.out w4 HU14.out))
  have HU04 : Hid (Upd (fun _ => False) w w4) := HU03.out.trans (Hu4.out.mono (fun k _ e => .inr (by omega)))
  have HY4 : Hid (w4.heap[w.heap.size + 1]? = some (.cells ZO 54 (0, 0))) := (Hu4.out.block _ (lt_of_block HY3.out) (by omega)).trans HY3.out
  have HR4 : Hid (Row w4 (w.heap.size + 1 + 1) 54 BL) := by show _ = _; rw [← HBA.out]; exact Hg4.out
  have Hrd4 : Hid (Rd w4 r rv l s) := Hr.out.upd HU04.out id (fun _ _ => id)
  refine (take8 r rv l s w4 Hrd4.out (by have := Hl.out; omega)).mono ?_
  rintro e w5 ⟨rfl, hrd5, hu5⟩
  obtain ⟨n, hn⟩ : ∃ n, n = (takeM 1 l s).1 := ⟨_, rfl⟩
  rw [← hn]
  have Hn := Lib.hid hn
  have Hrd5 : Hid (Rd w5 r rv l (stepM 1 most each many l s)) := hrd5
  have HU5 := Lib.hid hu5
  have hn' : (n : Int) < 256 := by have h := takeM_lt 1 l s; rw [← hn] at h; omega
  have hwp : IntKind.u64.wrap (n : Int) = (n : Int) := by simp [IntKind.wrap, IntKind.bits, IntKind.signed]; omega
  clear hn hrd5 hu5 hn'
  have HR5 : Hid (Row w5 (w.heap.size + 1 + 1) 54 BL) := HR4.out.upd HU5.out (by have := Hrb.out; omega)
  have HY5 : Hid (w5.heap[w.heap.size + 1]? = some (.cells ZO 54 (0, 0))) := (HU5.out.block _ (lt_of_block HY4.out) (by have := Hrb.out; omega)).trans HY4.out
  obtain ⟨LL, hLL⟩ : ∃ x, x = BL.set 2 (.int .u64 (n : Int)) := ⟨_, rfl⟩
  obtain ⟨LA, hLA⟩ : ∃ x, x = LL.toArray := ⟨_, rfl⟩
  have HLlen : Hid (LL.length = 12) := by show _ = _; rw [hLL, List.length_set, HBLe.out]; rfl
  have HLone : Hid (LL.all (·.oneCell') = true) := by show _ = _; rw [hLL, HBLe.out]; exact set_one (base_one _ _ _ _) rfl
  have HLs : Hid ((Try.prog.info? 54).map (·.size) = some LA.size) := by show _ = _; rw [sizeO, hLA]; simp [HLlen.out]
  have HLz : Hid (ZO.size = LA.size) := by show _ = _; rw [hLA]; simp [HLlen.out, ZO]
  have HL1 : Hid (LA.all (·.oneCell') = true) := by show _ = _; rw [hLA]; simpa using HLone.out
  have HRs : Hid ((w5.setCell ⟨w.heap.size + 1 + 1, 2, none⟩ (.int .u64 (n : Int))).heap[w.heap.size + 1 + 1]? = some (.cells LA 54 (0, 0))) := by show _ = _; rw [hLA, hLL]; exact HR5.out.set 2 _
  have HYs : Hid ((w5.setCell ⟨w.heap.size + 1 + 1, 2, none⟩ (.int .u64 (n : Int))).heap[w.heap.size + 1]? = some (.cells ZO 54 (0, 0))) := (heap_setCell_other w5 _ _ _ (by simp)).trans HY5.out
  have HUs : Hid (Upd (fun k => k = w.heap.size + 1 + 1) w5 (w5.setCell ⟨w.heap.size + 1 + 1, 2, none⟩ (.int .u64 (n : Int)))) := put1 (Upd.refl (fun k => k = w.heap.size + 1 + 1) w5) 2 _
  have hcc : w5.cell? ⟨w.heap.size + 1 + 1, 2, none⟩ = some ((base 0 0 0 0).getD 2 undef) := by rw [HR5.out.cell, HBLe.out]; rfl
  have hff : w5.frozen? ⟨w.heap.size + 1 + 1, 2, none⟩ = false := HR5.out.frozen 2
  have HLLe := Lib.hid hLL
  have HLAe := Lib.hid hLA
  clear hLL hLA
  go_wp2_with (first
    | ((with_reducible refine wpList_load_row (o := ⟨some 82, _, _, _, _, _⟩) ?_ 54 (.tmp 5) ?_ (w.heap.size + 1 + 1) ?_ 54 LA (0, 0) _ HRs.out Try.underlying54 ?_ HLs.out ?_); rfl; rfl; rfl; rfl)
    | ((with_reducible refine wpList_store_new (o := ⟨none, .store 54 (.tmp 4) (.tmp 82), _, _, _, _⟩) ?_ _ (.tmp 4) (.tmp 82) ?_ (w.heap.size + 1) LA ?_ ?_ 54 ZO HYs.out HLs.out HLz.out HL1.out ?_); rfl; rfl; rfl; rfl; intro w6 Hg6 Hu6))
  have HU56 : Hid (Upd (fun k => k = w.heap.size + 1 ∨ k = w.heap.size + 1 + 1) w5 w6) := (HUs.out.mono (fun k _ e => .inr e)).trans (Hu6.out.mono (fun k _ e => .inl (.inl e)))
  have HU46 : Hid (Upd (fun k => k = r ∨ k = w.heap.size + 1 ∨ k = w.heap.size + 1 + 1) w4 w6) := (HU5.out.mono (fun k _ e => .inl e)).trans (HU56.out.mono (fun k _ e => .inl (.inr e)))
  have HU6 : Hid (Upd (fun k => k = r) w w6) := (HU04.out.mono (fun _ _ e => e.elim)).trans (HU46.out.mono (fun k _ e => by
    rcases e with e | e | e
    · exact .inl e
    · exact .inr (by omega)
    · exact .inr (by omega)))
  refine bodyPost_ret (results_cell_row rfl _ _ (w.heap.size + 1) 54 LA (0, 0) _ rfl Hg6.out Try.underlying54 rfl HLs.out) rfl ?_
  have hrb := Hrb.out
  refine ⟨LL, by rw [HLAe.out], HLlen.out, HLone.out, ?_, HU6.out, ?_⟩
  · have h := Hrd5.out.upd HU56.out (by omega) (fun k hk => by have := Hvb.out k hk; omega)
    exact h
  · intro w' cs' o O hu' hh hk hv
    obtain ⟨k0, n0, many0, y0, ds0, xs0, st0, ss0, most0, each0⟩ := o
    obtain ⟨⟨x1, dv, x6, pv, lv, rfl, hd, hp, hpo, hs⟩, hn64⟩ := hh
    obtain ⟨dao, dcap, rfl, hd⟩ := hd
    obtain ⟨lao, lcap, rfl, hs⟩ := hs
    simp only at hk hd hp hs hn64
    subst hk
    have hv1 : n = n0 % 256 := by rw [Hn.out]; exact hv.v1 rfl
    rw [HLLe.out, HBLe.out, hv1]
    exact alike_1 n0 _ _ _ _ _ _ _ _ _ _ _ _ _ _ _ _ _ _ _ _ _ w' hn64

set_option maxHeartbeats 4000000 in
set_option maxRecDepth 100000 in
theorem again_2 (r : Nat) (rv : Value) (l : List UInt8) (s : Nat × Int) (cs : List Value) (many most each : Int) (w : World) (hr : Rd w r rv l s) (hl : l.length ≤ 140737488351232) (hcs : OpC cs (2, many, most, each)) :
    Calls Try.prog 39 #[.pointer (some ⟨r, 0, none⟩), .agg cs.toArray] w (AgainAt 2 most each many r rv l s w) := by
  have hrb : r < w.heap.size := lt_of_block hr.1
  have hvb : ∀ k, own rv k → k < w.heap.size := fun k hk => (hr.2.1.lt k hk).2
  obtain ⟨X, hX⟩ : ∃ X, X = cs.toArray := ⟨_, rfl⟩
  obtain ⟨w1, hw1⟩ : ∃ x, x = w.alloc (.cells X 54) := ⟨_, rfl⟩
  obtain ⟨w2, hw2⟩ : ∃ x, x = w1.alloc (.cells ZO 54) := ⟨_, rfl⟩
  obtain ⟨w3, hw3⟩ : ∃ x, x = w2.alloc (.cells ZO 54) := ⟨_, rfl⟩
  have hs1 : w1.heap.size = w.heap.size + 1 := by rw [hw1]; simp
  have hs2 : w2.heap.size = w.heap.size + 1 + 1 := by rw [hw2]; simp; omega
  have hs3 : w3.heap.size = w.heap.size + 3 := by rw [hw3]; simp; omega
  have hrow : w1.heap[w.heap.size]? = some (.cells cs.toArray 54 (0, 0)) := by rw [hw1, hX]; exact heap_alloc_new w _
  have hcell : ∀ i x, cs[i]? = some x → w1.cell? ⟨w.heap.size, i, none⟩ = some x := fun i x h => by rw [cell_of_row _ _ _ _ _ _ hrow]; simpa using h
  have hu01 : Upd (fun _ => False) w w1 := by rw [hw1]; exact (Upd.refl _ w).alloc _
  have hu12 : Upd (fun _ => False) w1 w2 := by rw [hw2]; exact (Upd.refl _ w1).alloc _
  have hu23 : Upd (fun _ => False) w2 w3 := by rw [hw3]; exact (Upd.refl _ w2).alloc _
  have hu13 : Upd (fun _ => False) w1 w3 := hu12.trans (hu23.mono (fun _ _ e => e.elim))
  have b0 : w2.cell? ⟨w.heap.size, 0, none⟩ = some (.int .i64 2) := hu12.cell (hcell 0 _ hcs.c0) id
  have b3 : w2.cell? ⟨w.heap.size, 3, none⟩ = some (.int .i64 many) := hu12.cell (hcell 3 _ hcs.c3) id
  have b10 : w2.cell? ⟨w.heap.size, 10, none⟩ = some (.int .i64 most) := hu12.cell (hcell 10 _ hcs.c10) id
  have b11 : w2.cell? ⟨w.heap.size, 11, none⟩ = some (.int .i64 each) := hu12.cell (hcell 11 _ hcs.c11) id
  have HB0 : Hid (∀ w', Upd (fun k => w.heap.size < k) w1 w' → w'.cell? ⟨w.heap.size, 0, none⟩ = some (.int .i64 2)) := fun w' hu => hu.cell (hcell 0 _ hcs.c0) (by simp)
  have HB3 : Hid (∀ w', Upd (fun k => w.heap.size < k) w1 w' → w'.cell? ⟨w.heap.size, 3, none⟩ = some (.int .i64 many)) := fun w' hu => hu.cell (hcell 3 _ hcs.c3) (by simp)
  have HB10 : Hid (∀ w', Upd (fun k => w.heap.size < k) w1 w' → w'.cell? ⟨w.heap.size, 10, none⟩ = some (.int .i64 most)) := fun w' hu => hu.cell (hcell 10 _ hcs.c10) (by simp)
  have HB11 : Hid (∀ w', Upd (fun k => w.heap.size < k) w1 w' → w'.cell? ⟨w.heap.size, 11, none⟩ = some (.int .i64 each)) := fun w' hu => hu.cell (hcell 11 _ hcs.c11) (by simp)
  have HZ3 : Hid (w3.heap[w.heap.size + 1 + 1]? = some (.cells ZO 54 (0, 0))) := by show _ = _; rw [← hs2, hw3]; exact heap_alloc_new w2 _
  have HY3 : Hid (w3.heap[w.heap.size + 1]? = some (.cells ZO 54 (0, 0))) := by
    have h : w2.heap[w.heap.size + 1]? = some (.cells ZO 54 (0, 0)) := by rw [← hs1, hw2]; exact heap_alloc_new w1 _
    exact (hu23.block _ (by omega) id).trans h
  obtain ⟨BL, hBL⟩ : ∃ x, x = base 2 many most each := ⟨_, rfl⟩
  have hBA : ((((ZO.setIfInBounds 0 (.int .i64 2)).setIfInBounds 10 (.int .i64 most)).setIfInBounds 11 (.int .i64 each)).setIfInBounds 3 (.int .i64 many)) = BL.toArray := by rw [hBL]; exact set_base 2 many most each
  have HBs : Hid ((Try.prog.info? 54).map (·.size) = some (((((ZO.setIfInBounds 0 (.int .i64 2)).setIfInBounds 10 (.int .i64 most)).setIfInBounds 11 (.int .i64 each)).setIfInBounds 3 (.int .i64 many))).size) := by show _ = _; rw [hBA, sizeO, hBL]; rfl
  have HBl : Hid (ZO.size = (((((ZO.setIfInBounds 0 (.int .i64 2)).setIfInBounds 10 (.int .i64 most)).setIfInBounds 11 (.int .i64 each)).setIfInBounds 3 (.int .i64 many))).size) := by show _ = _; rw [hBA, hBL]; rfl
  have HB1 : Hid ((((((ZO.setIfInBounds 0 (.int .i64 2)).setIfInBounds 10 (.int .i64 most)).setIfInBounds 11 (.int .i64 each)).setIfInBounds 3 (.int .i64 many))).all (·.oneCell') = true) := by show _ = _; rw [hBA, hBL]; simpa using base_one 2 many most each
  have HBA := Lib.hid hBA
  have HBLe := Lib.hid hBL
  have Hr := Lib.hid hr
  have Hl := Lib.hid hl
  have Hrb := Lib.hid hrb
  have Hvb := Lib.hid hvb
  have Hs3 := Lib.hid hs3
  have HU13 : Hid (Upd (fun k => w.heap.size < k) w1 w3) := hu13.mono (fun _ _ e => e.elim)
  have HU03 : Hid (Upd (fun _ => False) w w3) := hu01.trans (hu13.mono (fun _ _ e => e.elim))
  have hz := zeroO
  rw [← hX]
  subst hw3
  subst hw2
  subst hw1
  clear hX hs1 hs2 hs3 hrow hcell hu01 hu12 hu23 hu13 hcs hBL hBA hr hl hrb hvb
  go_enter Try.func39, Try.ntmps39
  go_wp2_with (first
    | ((with_reducible refine wpList_store_new (o := ⟨none, .store 54 (.tmp 5) (.tmp 14), _, _, _, _⟩) ?_ _ (.tmp 5) (.tmp 14) ?_ (w.heap.size + 1 + 1) ((((ZO.setIfInBounds 0 (.int .i64 2)).setIfInBounds 10 (.int .i64 most)).setIfInBounds 11 (.int .i64 each)).setIfInBounds 3 (.int .i64 many)) ?_ ?_ 54 ZO HZ3.out HBs.out HBl.out HB1.out ?_); rfl; rfl; rfl; rfl; intro w4 Hg4 Hu4; clear b0 b3 b10 b11; have HU14 : Hid (Upd (fun k => w.heap.size < k) _ w4) := HU13.out.trans (Hu4.out.mono (fun k _ e => .inl (by omega))); have b0 := HB0.out w4 HU14.out; have b3 := HB3.out w4 HU14.out; have b10 := HB10.out w4 HU14.out; have b11 := HB11.out w4 HU14.out))
  have HU04 : Hid (Upd (fun _ => False) w w4) := HU03.out.trans (Hu4.out.mono (fun k _ e => .inr (by omega)))
  have HY4 : Hid (w4.heap[w.heap.size + 1]? = some (.cells ZO 54 (0, 0))) := (Hu4.out.block _ (lt_of_block HY3.out) (by omega)).trans HY3.out
  have HR4 : Hid (Row w4 (w.heap.size + 1 + 1) 54 BL) := by show _ = _; rw [← HBA.out]; exact Hg4.out
  have Hrd4 : Hid (Rd w4 r rv l s) := Hr.out.upd HU04.out id (fun _ _ => id)
  refine (take16 r rv l s w4 Hrd4.out (by have := Hl.out; omega)).mono ?_
  rintro e w5 ⟨rfl, hrd5, hu5⟩
  obtain ⟨n, hn⟩ : ∃ n, n = (takeM 2 l s).1 := ⟨_, rfl⟩
  rw [← hn]
  have Hn := Lib.hid hn
  have Hrd5 : Hid (Rd w5 r rv l (stepM 2 most each many l s)) := hrd5
  have HU5 := Lib.hid hu5
  have hn' : (n : Int) < 65536 := by have h := takeM_lt 2 l s; rw [← hn] at h; omega
  have hwp : IntKind.u64.wrap (n : Int) = (n : Int) := by simp [IntKind.wrap, IntKind.bits, IntKind.signed]; omega
  clear hn hrd5 hu5 hn'
  have HR5 : Hid (Row w5 (w.heap.size + 1 + 1) 54 BL) := HR4.out.upd HU5.out (by have := Hrb.out; omega)
  have HY5 : Hid (w5.heap[w.heap.size + 1]? = some (.cells ZO 54 (0, 0))) := (HU5.out.block _ (lt_of_block HY4.out) (by have := Hrb.out; omega)).trans HY4.out
  obtain ⟨LL, hLL⟩ : ∃ x, x = BL.set 2 (.int .u64 (n : Int)) := ⟨_, rfl⟩
  obtain ⟨LA, hLA⟩ : ∃ x, x = LL.toArray := ⟨_, rfl⟩
  have HLlen : Hid (LL.length = 12) := by show _ = _; rw [hLL, List.length_set, HBLe.out]; rfl
  have HLone : Hid (LL.all (·.oneCell') = true) := by show _ = _; rw [hLL, HBLe.out]; exact set_one (base_one _ _ _ _) rfl
  have HLs : Hid ((Try.prog.info? 54).map (·.size) = some LA.size) := by show _ = _; rw [sizeO, hLA]; simp [HLlen.out]
  have HLz : Hid (ZO.size = LA.size) := by show _ = _; rw [hLA]; simp [HLlen.out, ZO]
  have HL1 : Hid (LA.all (·.oneCell') = true) := by show _ = _; rw [hLA]; simpa using HLone.out
  have HRs : Hid ((w5.setCell ⟨w.heap.size + 1 + 1, 2, none⟩ (.int .u64 (n : Int))).heap[w.heap.size + 1 + 1]? = some (.cells LA 54 (0, 0))) := by show _ = _; rw [hLA, hLL]; exact HR5.out.set 2 _
  have HYs : Hid ((w5.setCell ⟨w.heap.size + 1 + 1, 2, none⟩ (.int .u64 (n : Int))).heap[w.heap.size + 1]? = some (.cells ZO 54 (0, 0))) := (heap_setCell_other w5 _ _ _ (by simp)).trans HY5.out
  have HUs : Hid (Upd (fun k => k = w.heap.size + 1 + 1) w5 (w5.setCell ⟨w.heap.size + 1 + 1, 2, none⟩ (.int .u64 (n : Int)))) := put1 (Upd.refl (fun k => k = w.heap.size + 1 + 1) w5) 2 _
  have hcc : w5.cell? ⟨w.heap.size + 1 + 1, 2, none⟩ = some ((base 0 0 0 0).getD 2 undef) := by rw [HR5.out.cell, HBLe.out]; rfl
  have hff : w5.frozen? ⟨w.heap.size + 1 + 1, 2, none⟩ = false := HR5.out.frozen 2
  have HLLe := Lib.hid hLL
  have HLAe := Lib.hid hLA
  clear hLL hLA
  go_wp2_with (first
    | ((with_reducible refine wpList_load_row (o := ⟨some 82, _, _, _, _, _⟩) ?_ 54 (.tmp 5) ?_ (w.heap.size + 1 + 1) ?_ 54 LA (0, 0) _ HRs.out Try.underlying54 ?_ HLs.out ?_); rfl; rfl; rfl; rfl)
    | ((with_reducible refine wpList_store_new (o := ⟨none, .store 54 (.tmp 4) (.tmp 82), _, _, _, _⟩) ?_ _ (.tmp 4) (.tmp 82) ?_ (w.heap.size + 1) LA ?_ ?_ 54 ZO HYs.out HLs.out HLz.out HL1.out ?_); rfl; rfl; rfl; rfl; intro w6 Hg6 Hu6))
  have HU56 : Hid (Upd (fun k => k = w.heap.size + 1 ∨ k = w.heap.size + 1 + 1) w5 w6) := (HUs.out.mono (fun k _ e => .inr e)).trans (Hu6.out.mono (fun k _ e => .inl (.inl e)))
  have HU46 : Hid (Upd (fun k => k = r ∨ k = w.heap.size + 1 ∨ k = w.heap.size + 1 + 1) w4 w6) := (HU5.out.mono (fun k _ e => .inl e)).trans (HU56.out.mono (fun k _ e => .inl (.inr e)))
  have HU6 : Hid (Upd (fun k => k = r) w w6) := (HU04.out.mono (fun _ _ e => e.elim)).trans (HU46.out.mono (fun k _ e => by
    rcases e with e | e | e
    · exact .inl e
    · exact .inr (by omega)
    · exact .inr (by omega)))
  refine bodyPost_ret (results_cell_row rfl _ _ (w.heap.size + 1) 54 LA (0, 0) _ rfl Hg6.out Try.underlying54 rfl HLs.out) rfl ?_
  have hrb := Hrb.out
  refine ⟨LL, by rw [HLAe.out], HLlen.out, HLone.out, ?_, HU6.out, ?_⟩
  · have h := Hrd5.out.upd HU56.out (by omega) (fun k hk => by have := Hvb.out k hk; omega)
    exact h
  · intro w' cs' o O hu' hh hk hv
    obtain ⟨k0, n0, many0, y0, ds0, xs0, st0, ss0, most0, each0⟩ := o
    obtain ⟨⟨x1, dv, x6, pv, lv, rfl, hd, hp, hpo, hs⟩, hn64⟩ := hh
    obtain ⟨dao, dcap, rfl, hd⟩ := hd
    obtain ⟨lao, lcap, rfl, hs⟩ := hs
    simp only at hk hd hp hs hn64
    subst hk
    have hv1 : n = n0 % 65536 := by rw [Hn.out]; exact hv.v2 rfl
    rw [HLLe.out, HBLe.out, hv1]
    exact alike_2 n0 _ _ _ _ _ _ _ _ _ _ _ _ _ _ _ _ _ _ _ _ _ w' hn64

set_option maxHeartbeats 4000000 in
set_option maxRecDepth 100000 in
theorem again_3 (r : Nat) (rv : Value) (l : List UInt8) (s : Nat × Int) (cs : List Value) (many most each : Int) (w : World) (hr : Rd w r rv l s) (hl : l.length ≤ 140737488351232) (hcs : OpC cs (3, many, most, each)) :
    Calls Try.prog 39 #[.pointer (some ⟨r, 0, none⟩), .agg cs.toArray] w (AgainAt 3 most each many r rv l s w) := by
  have hrb : r < w.heap.size := lt_of_block hr.1
  have hvb : ∀ k, own rv k → k < w.heap.size := fun k hk => (hr.2.1.lt k hk).2
  obtain ⟨X, hX⟩ : ∃ X, X = cs.toArray := ⟨_, rfl⟩
  obtain ⟨w1, hw1⟩ : ∃ x, x = w.alloc (.cells X 54) := ⟨_, rfl⟩
  obtain ⟨w2, hw2⟩ : ∃ x, x = w1.alloc (.cells ZO 54) := ⟨_, rfl⟩
  obtain ⟨w3, hw3⟩ : ∃ x, x = w2.alloc (.cells ZO 54) := ⟨_, rfl⟩
  have hs1 : w1.heap.size = w.heap.size + 1 := by rw [hw1]; simp
  have hs2 : w2.heap.size = w.heap.size + 1 + 1 := by rw [hw2]; simp; omega
  have hs3 : w3.heap.size = w.heap.size + 3 := by rw [hw3]; simp; omega
  have hrow : w1.heap[w.heap.size]? = some (.cells cs.toArray 54 (0, 0)) := by rw [hw1, hX]; exact heap_alloc_new w _
  have hcell : ∀ i x, cs[i]? = some x → w1.cell? ⟨w.heap.size, i, none⟩ = some x := fun i x h => by rw [cell_of_row _ _ _ _ _ _ hrow]; simpa using h
  have hu01 : Upd (fun _ => False) w w1 := by rw [hw1]; exact (Upd.refl _ w).alloc _
  have hu12 : Upd (fun _ => False) w1 w2 := by rw [hw2]; exact (Upd.refl _ w1).alloc _
  have hu23 : Upd (fun _ => False) w2 w3 := by rw [hw3]; exact (Upd.refl _ w2).alloc _
  have hu13 : Upd (fun _ => False) w1 w3 := hu12.trans (hu23.mono (fun _ _ e => e.elim))
  have b0 : w2.cell? ⟨w.heap.size, 0, none⟩ = some (.int .i64 3) := hu12.cell (hcell 0 _ hcs.c0) id
  have b3 : w2.cell? ⟨w.heap.size, 3, none⟩ = some (.int .i64 many) := hu12.cell (hcell 3 _ hcs.c3) id
  have b10 : w2.cell? ⟨w.heap.size, 10, none⟩ = some (.int .i64 most) := hu12.cell (hcell 10 _ hcs.c10) id
  have b11 : w2.cell? ⟨w.heap.size, 11, none⟩ = some (.int .i64 each) := hu12.cell (hcell 11 _ hcs.c11) id
  have HB0 : Hid (∀ w', Upd (fun k => w.heap.size < k) w1 w' → w'.cell? ⟨w.heap.size, 0, none⟩ = some (.int .i64 3)) := fun w' hu => hu.cell (hcell 0 _ hcs.c0) (by simp)
  have HB3 : Hid (∀ w', Upd (fun k => w.heap.size < k) w1 w' → w'.cell? ⟨w.heap.size, 3, none⟩ = some (.int .i64 many)) := fun w' hu => hu.cell (hcell 3 _ hcs.c3) (by simp)
  have HB10 : Hid (∀ w', Upd (fun k => w.heap.size < k) w1 w' → w'.cell? ⟨w.heap.size, 10, none⟩ = some (.int .i64 most)) := fun w' hu => hu.cell (hcell 10 _ hcs.c10) (by simp)
  have HB11 : Hid (∀ w', Upd (fun k => w.heap.size < k) w1 w' → w'.cell? ⟨w.heap.size, 11, none⟩ = some (.int .i64 each)) := fun w' hu => hu.cell (hcell 11 _ hcs.c11) (by simp)
  have HZ3 : Hid (w3.heap[w.heap.size + 1 + 1]? = some (.cells ZO 54 (0, 0))) := by show _ = _; rw [← hs2, hw3]; exact heap_alloc_new w2 _
  have HY3 : Hid (w3.heap[w.heap.size + 1]? = some (.cells ZO 54 (0, 0))) := by
    have h : w2.heap[w.heap.size + 1]? = some (.cells ZO 54 (0, 0)) := by rw [← hs1, hw2]; exact heap_alloc_new w1 _
    exact (hu23.block _ (by omega) id).trans h
  obtain ⟨BL, hBL⟩ : ∃ x, x = base 3 many most each := ⟨_, rfl⟩
  have hBA : ((((ZO.setIfInBounds 0 (.int .i64 3)).setIfInBounds 10 (.int .i64 most)).setIfInBounds 11 (.int .i64 each)).setIfInBounds 3 (.int .i64 many)) = BL.toArray := by rw [hBL]; exact set_base 3 many most each
  have HBs : Hid ((Try.prog.info? 54).map (·.size) = some (((((ZO.setIfInBounds 0 (.int .i64 3)).setIfInBounds 10 (.int .i64 most)).setIfInBounds 11 (.int .i64 each)).setIfInBounds 3 (.int .i64 many))).size) := by show _ = _; rw [hBA, sizeO, hBL]; rfl
  have HBl : Hid (ZO.size = (((((ZO.setIfInBounds 0 (.int .i64 3)).setIfInBounds 10 (.int .i64 most)).setIfInBounds 11 (.int .i64 each)).setIfInBounds 3 (.int .i64 many))).size) := by show _ = _; rw [hBA, hBL]; rfl
  have HB1 : Hid ((((((ZO.setIfInBounds 0 (.int .i64 3)).setIfInBounds 10 (.int .i64 most)).setIfInBounds 11 (.int .i64 each)).setIfInBounds 3 (.int .i64 many))).all (·.oneCell') = true) := by show _ = _; rw [hBA, hBL]; simpa using base_one 3 many most each
  have HBA := Lib.hid hBA
  have HBLe := Lib.hid hBL
  have Hr := Lib.hid hr
  have Hl := Lib.hid hl
  have Hrb := Lib.hid hrb
  have Hvb := Lib.hid hvb
  have Hs3 := Lib.hid hs3
  have HU13 : Hid (Upd (fun k => w.heap.size < k) w1 w3) := hu13.mono (fun _ _ e => e.elim)
  have HU03 : Hid (Upd (fun _ => False) w w3) := hu01.trans (hu13.mono (fun _ _ e => e.elim))
  have hz := zeroO
  rw [← hX]
  subst hw3
  subst hw2
  subst hw1
  clear hX hs1 hs2 hs3 hrow hcell hu01 hu12 hu23 hu13 hcs hBL hBA hr hl hrb hvb
  go_enter Try.func39, Try.ntmps39
  go_wp2_with (first
    | ((with_reducible refine wpList_store_new (o := ⟨none, .store 54 (.tmp 5) (.tmp 14), _, _, _, _⟩) ?_ _ (.tmp 5) (.tmp 14) ?_ (w.heap.size + 1 + 1) ((((ZO.setIfInBounds 0 (.int .i64 3)).setIfInBounds 10 (.int .i64 most)).setIfInBounds 11 (.int .i64 each)).setIfInBounds 3 (.int .i64 many)) ?_ ?_ 54 ZO HZ3.out HBs.out HBl.out HB1.out ?_); rfl; rfl; rfl; rfl; intro w4 Hg4 Hu4; clear b0 b3 b10 b11; have HU14 : Hid (Upd (fun k => w.heap.size < k) _ w4) := HU13.out.trans (Hu4.out.mono (fun k _ e => .inl (by omega))); have b0 := HB0.out w4 HU14.out; have b3 := HB3.out w4 HU14.out; have b10 := HB10.out w4 HU14.out; have b11 := HB11.out w4 HU14.out))
  have HU04 : Hid (Upd (fun _ => False) w w4) := HU03.out.trans (Hu4.out.mono (fun k _ e => .inr (by omega)))
  have HY4 : Hid (w4.heap[w.heap.size + 1]? = some (.cells ZO 54 (0, 0))) := (Hu4.out.block _ (lt_of_block HY3.out) (by omega)).trans HY3.out
  have HR4 : Hid (Row w4 (w.heap.size + 1 + 1) 54 BL) := by show _ = _; rw [← HBA.out]; exact Hg4.out
  have Hrd4 : Hid (Rd w4 r rv l s) := Hr.out.upd HU04.out id (fun _ _ => id)
  refine (take32 r rv l s w4 Hrd4.out (by have := Hl.out; omega)).mono ?_
  rintro e w5 ⟨rfl, hrd5, hu5⟩
  obtain ⟨n, hn⟩ : ∃ n, n = (takeM 4 l s).1 := ⟨_, rfl⟩
  rw [← hn]
  have Hn := Lib.hid hn
  have Hrd5 : Hid (Rd w5 r rv l (stepM 3 most each many l s)) := hrd5
  have HU5 := Lib.hid hu5
  have hn' : (n : Int) < 4294967296 := by have h := takeM_lt 4 l s; rw [← hn] at h; omega
  have hwp : IntKind.u64.wrap (n : Int) = (n : Int) := by simp [IntKind.wrap, IntKind.bits, IntKind.signed]; omega
  clear hn hrd5 hu5 hn'
  have HR5 : Hid (Row w5 (w.heap.size + 1 + 1) 54 BL) := HR4.out.upd HU5.out (by have := Hrb.out; omega)
  have HY5 : Hid (w5.heap[w.heap.size + 1]? = some (.cells ZO 54 (0, 0))) := (HU5.out.block _ (lt_of_block HY4.out) (by have := Hrb.out; omega)).trans HY4.out
  obtain ⟨LL, hLL⟩ : ∃ x, x = BL.set 2 (.int .u64 (n : Int)) := ⟨_, rfl⟩
  obtain ⟨LA, hLA⟩ : ∃ x, x = LL.toArray := ⟨_, rfl⟩
  have HLlen : Hid (LL.length = 12) := by show _ = _; rw [hLL, List.length_set, HBLe.out]; rfl
  have HLone : Hid (LL.all (·.oneCell') = true) := by show _ = _; rw [hLL, HBLe.out]; exact set_one (base_one _ _ _ _) rfl
  have HLs : Hid ((Try.prog.info? 54).map (·.size) = some LA.size) := by show _ = _; rw [sizeO, hLA]; simp [HLlen.out]
  have HLz : Hid (ZO.size = LA.size) := by show _ = _; rw [hLA]; simp [HLlen.out, ZO]
  have HL1 : Hid (LA.all (·.oneCell') = true) := by show _ = _; rw [hLA]; simpa using HLone.out
  have HRs : Hid ((w5.setCell ⟨w.heap.size + 1 + 1, 2, none⟩ (.int .u64 (n : Int))).heap[w.heap.size + 1 + 1]? = some (.cells LA 54 (0, 0))) := by show _ = _; rw [hLA, hLL]; exact HR5.out.set 2 _
  have HYs : Hid ((w5.setCell ⟨w.heap.size + 1 + 1, 2, none⟩ (.int .u64 (n : Int))).heap[w.heap.size + 1]? = some (.cells ZO 54 (0, 0))) := (heap_setCell_other w5 _ _ _ (by simp)).trans HY5.out
  have HUs : Hid (Upd (fun k => k = w.heap.size + 1 + 1) w5 (w5.setCell ⟨w.heap.size + 1 + 1, 2, none⟩ (.int .u64 (n : Int)))) := put1 (Upd.refl (fun k => k = w.heap.size + 1 + 1) w5) 2 _
  have hcc : w5.cell? ⟨w.heap.size + 1 + 1, 2, none⟩ = some ((base 0 0 0 0).getD 2 undef) := by rw [HR5.out.cell, HBLe.out]; rfl
  have hff : w5.frozen? ⟨w.heap.size + 1 + 1, 2, none⟩ = false := HR5.out.frozen 2
  have HLLe := Lib.hid hLL
  have HLAe := Lib.hid hLA
  clear hLL hLA
  go_wp2_with (first
    | ((with_reducible refine wpList_load_row (o := ⟨some 82, _, _, _, _, _⟩) ?_ 54 (.tmp 5) ?_ (w.heap.size + 1 + 1) ?_ 54 LA (0, 0) _ HRs.out Try.underlying54 ?_ HLs.out ?_); rfl; rfl; rfl; rfl)
    | ((with_reducible refine wpList_store_new (o := ⟨none, .store 54 (.tmp 4) (.tmp 82), _, _, _, _⟩) ?_ _ (.tmp 4) (.tmp 82) ?_ (w.heap.size + 1) LA ?_ ?_ 54 ZO HYs.out HLs.out HLz.out HL1.out ?_); rfl; rfl; rfl; rfl; intro w6 Hg6 Hu6))
  have HU56 : Hid (Upd (fun k => k = w.heap.size + 1 ∨ k = w.heap.size + 1 + 1) w5 w6) := (HUs.out.mono (fun k _ e => .inr e)).trans (Hu6.out.mono (fun k _ e => .inl (.inl e)))
  have HU46 : Hid (Upd (fun k => k = r ∨ k = w.heap.size + 1 ∨ k = w.heap.size + 1 + 1) w4 w6) := (HU5.out.mono (fun k _ e => .inl e)).trans (HU56.out.mono (fun k _ e => .inl (.inr e)))
  have HU6 : Hid (Upd (fun k => k = r) w w6) := (HU04.out.mono (fun _ _ e => e.elim)).trans (HU46.out.mono (fun k _ e => by
    rcases e with e | e | e
    · exact .inl e
    · exact .inr (by omega)
    · exact .inr (by omega)))
  refine bodyPost_ret (results_cell_row rfl _ _ (w.heap.size + 1) 54 LA (0, 0) _ rfl Hg6.out Try.underlying54 rfl HLs.out) rfl ?_
  have hrb := Hrb.out
  refine ⟨LL, by rw [HLAe.out], HLlen.out, HLone.out, ?_, HU6.out, ?_⟩
  · have h := Hrd5.out.upd HU56.out (by omega) (fun k hk => by have := Hvb.out k hk; omega)
    exact h
  · intro w' cs' o O hu' hh hk hv
    obtain ⟨k0, n0, many0, y0, ds0, xs0, st0, ss0, most0, each0⟩ := o
    obtain ⟨⟨x1, dv, x6, pv, lv, rfl, hd, hp, hpo, hs⟩, hn64⟩ := hh
    obtain ⟨dao, dcap, rfl, hd⟩ := hd
    obtain ⟨lao, lcap, rfl, hs⟩ := hs
    simp only at hk hd hp hs hn64
    subst hk
    have hv1 : n = n0 % 4294967296 := by rw [Hn.out]; exact hv.v3 rfl
    rw [HLLe.out, HBLe.out, hv1]
    exact alike_3 n0 _ _ _ _ _ _ _ _ _ _ _ _ _ _ _ _ _ _ _ _ _ w' hn64

set_option maxHeartbeats 4000000 in
set_option maxRecDepth 100000 in
theorem again_4 (r : Nat) (rv : Value) (l : List UInt8) (s : Nat × Int) (cs : List Value) (many most each : Int) (w : World) (hr : Rd w r rv l s) (hl : l.length ≤ 140737488351232) (hcs : OpC cs (4, many, most, each)) :
    Calls Try.prog 39 #[.pointer (some ⟨r, 0, none⟩), .agg cs.toArray] w (AgainAt 4 most each many r rv l s w) := by
  have hrb : r < w.heap.size := lt_of_block hr.1
  have hvb : ∀ k, own rv k → k < w.heap.size := fun k hk => (hr.2.1.lt k hk).2
  obtain ⟨X, hX⟩ : ∃ X, X = cs.toArray := ⟨_, rfl⟩
  obtain ⟨w1, hw1⟩ : ∃ x, x = w.alloc (.cells X 54) := ⟨_, rfl⟩
  obtain ⟨w2, hw2⟩ : ∃ x, x = w1.alloc (.cells ZO 54) := ⟨_, rfl⟩
  obtain ⟨w3, hw3⟩ : ∃ x, x = w2.alloc (.cells ZO 54) := ⟨_, rfl⟩
  have hs1 : w1.heap.size = w.heap.size + 1 := by rw [hw1]; simp
  have hs2 : w2.heap.size = w.heap.size + 1 + 1 := by rw [hw2]; simp; omega
  have hs3 : w3.heap.size = w.heap.size + 3 := by rw [hw3]; simp; omega
  have hrow : w1.heap[w.heap.size]? = some (.cells cs.toArray 54 (0, 0)) := by rw [hw1, hX]; exact heap_alloc_new w _
  have hcell : ∀ i x, cs[i]? = some x → w1.cell? ⟨w.heap.size, i, none⟩ = some x := fun i x h => by rw [cell_of_row _ _ _ _ _ _ hrow]; simpa using h
  have hu01 : Upd (fun _ => False) w w1 := by rw [hw1]; exact (Upd.refl _ w).alloc _
  have hu12 : Upd (fun _ => False) w1 w2 := by rw [hw2]; exact (Upd.refl _ w1).alloc _
  have hu23 : Upd (fun _ => False) w2 w3 := by rw [hw3]; exact (Upd.refl _ w2).alloc _
  have hu13 : Upd (fun _ => False) w1 w3 := hu12.trans (hu23.mono (fun _ _ e => e.elim))
  have b0 : w2.cell? ⟨w.heap.size, 0, none⟩ = some (.int .i64 4) := hu12.cell (hcell 0 _ hcs.c0) id
  have b3 : w2.cell? ⟨w.heap.size, 3, none⟩ = some (.int .i64 many) := hu12.cell (hcell 3 _ hcs.c3) id
  have b10 : w2.cell? ⟨w.heap.size, 10, none⟩ = some (.int .i64 most) := hu12.cell (hcell 10 _ hcs.c10) id
  have b11 : w2.cell? ⟨w.heap.size, 11, none⟩ = some (.int .i64 each) := hu12.cell (hcell 11 _ hcs.c11) id
  have HB0 : Hid (∀ w', Upd (fun k => w.heap.size < k) w1 w' → w'.cell? ⟨w.heap.size, 0, none⟩ = some (.int .i64 4)) := fun w' hu => hu.cell (hcell 0 _ hcs.c0) (by simp)
  have HB3 : Hid (∀ w', Upd (fun k => w.heap.size < k) w1 w' → w'.cell? ⟨w.heap.size, 3, none⟩ = some (.int .i64 many)) := fun w' hu => hu.cell (hcell 3 _ hcs.c3) (by simp)
  have HB10 : Hid (∀ w', Upd (fun k => w.heap.size < k) w1 w' → w'.cell? ⟨w.heap.size, 10, none⟩ = some (.int .i64 most)) := fun w' hu => hu.cell (hcell 10 _ hcs.c10) (by simp)
  have HB11 : Hid (∀ w', Upd (fun k => w.heap.size < k) w1 w' → w'.cell? ⟨w.heap.size, 11, none⟩ = some (.int .i64 each)) := fun w' hu => hu.cell (hcell 11 _ hcs.c11) (by simp)
  have HZ3 : Hid (w3.heap[w.heap.size + 1 + 1]? = some (.cells ZO 54 (0, 0))) := by show _ = _; rw [← hs2, hw3]; exact heap_alloc_new w2 _
  have HY3 : Hid (w3.heap[w.heap.size + 1]? = some (.cells ZO 54 (0, 0))) := by
    have h : w2.heap[w.heap.size + 1]? = some (.cells ZO 54 (0, 0)) := by rw [← hs1, hw2]; exact heap_alloc_new w1 _
    exact (hu23.block _ (by omega) id).trans h
  obtain ⟨BL, hBL⟩ : ∃ x, x = base 4 many most each := ⟨_, rfl⟩
  have hBA : ((((ZO.setIfInBounds 0 (.int .i64 4)).setIfInBounds 10 (.int .i64 most)).setIfInBounds 11 (.int .i64 each)).setIfInBounds 3 (.int .i64 many)) = BL.toArray := by rw [hBL]; exact set_base 4 many most each
  have HBs : Hid ((Try.prog.info? 54).map (·.size) = some (((((ZO.setIfInBounds 0 (.int .i64 4)).setIfInBounds 10 (.int .i64 most)).setIfInBounds 11 (.int .i64 each)).setIfInBounds 3 (.int .i64 many))).size) := by show _ = _; rw [hBA, sizeO, hBL]; rfl
  have HBl : Hid (ZO.size = (((((ZO.setIfInBounds 0 (.int .i64 4)).setIfInBounds 10 (.int .i64 most)).setIfInBounds 11 (.int .i64 each)).setIfInBounds 3 (.int .i64 many))).size) := by show _ = _; rw [hBA, hBL]; rfl
  have HB1 : Hid ((((((ZO.setIfInBounds 0 (.int .i64 4)).setIfInBounds 10 (.int .i64 most)).setIfInBounds 11 (.int .i64 each)).setIfInBounds 3 (.int .i64 many))).all (·.oneCell') = true) := by show _ = _; rw [hBA, hBL]; simpa using base_one 4 many most each
  have HBA := Lib.hid hBA
  have HBLe := Lib.hid hBL
  have Hr := Lib.hid hr
  have Hl := Lib.hid hl
  have Hrb := Lib.hid hrb
  have Hvb := Lib.hid hvb
  have Hs3 := Lib.hid hs3
  have HU13 : Hid (Upd (fun k => w.heap.size < k) w1 w3) := hu13.mono (fun _ _ e => e.elim)
  have HU03 : Hid (Upd (fun _ => False) w w3) := hu01.trans (hu13.mono (fun _ _ e => e.elim))
  have hz := zeroO
  rw [← hX]
  subst hw3
  subst hw2
  subst hw1
  clear hX hs1 hs2 hs3 hrow hcell hu01 hu12 hu23 hu13 hcs hBL hBA hr hl hrb hvb
  go_enter Try.func39, Try.ntmps39
  go_wp2_with (first
    | ((with_reducible refine wpList_store_new (o := ⟨none, .store 54 (.tmp 5) (.tmp 14), _, _, _, _⟩) ?_ _ (.tmp 5) (.tmp 14) ?_ (w.heap.size + 1 + 1) ((((ZO.setIfInBounds 0 (.int .i64 4)).setIfInBounds 10 (.int .i64 most)).setIfInBounds 11 (.int .i64 each)).setIfInBounds 3 (.int .i64 many)) ?_ ?_ 54 ZO HZ3.out HBs.out HBl.out HB1.out ?_); rfl; rfl; rfl; rfl; intro w4 Hg4 Hu4; clear b0 b3 b10 b11; have HU14 : Hid (Upd (fun k => w.heap.size < k) _ w4) := HU13.out.trans (Hu4.out.mono (fun k _ e => .inl (by omega))); have b0 := HB0.out w4 HU14.out; have b3 := HB3.out w4 HU14.out; have b10 := HB10.out w4 HU14.out; have b11 := HB11.out w4 HU14.out))
  have HU04 : Hid (Upd (fun _ => False) w w4) := HU03.out.trans (Hu4.out.mono (fun k _ e => .inr (by omega)))
  have HY4 : Hid (w4.heap[w.heap.size + 1]? = some (.cells ZO 54 (0, 0))) := (Hu4.out.block _ (lt_of_block HY3.out) (by omega)).trans HY3.out
  have HR4 : Hid (Row w4 (w.heap.size + 1 + 1) 54 BL) := by show _ = _; rw [← HBA.out]; exact Hg4.out
  have Hrd4 : Hid (Rd w4 r rv l s) := Hr.out.upd HU04.out id (fun _ _ => id)
  refine (take64 r rv l s w4 Hrd4.out (by have := Hl.out; omega)).mono ?_
  rintro e w5 ⟨rfl, hrd5, hu5⟩
  obtain ⟨n, hn⟩ : ∃ n, n = (takeM 8 l s).1 := ⟨_, rfl⟩
  rw [← hn]
  have Hn := Lib.hid hn
  have Hrd5 : Hid (Rd w5 r rv l (stepM 4 most each many l s)) := hrd5
  have HU5 := Lib.hid hu5
  have hn' : (n : Int) < 18446744073709551616 := by have h := takeM_lt 8 l s; rw [← hn] at h; omega
  have hwp : IntKind.u64.wrap (n : Int) = (n : Int) := by simp [IntKind.wrap, IntKind.bits, IntKind.signed]; omega
  clear hn hrd5 hu5 hn'
  have HR5 : Hid (Row w5 (w.heap.size + 1 + 1) 54 BL) := HR4.out.upd HU5.out (by have := Hrb.out; omega)
  have HY5 : Hid (w5.heap[w.heap.size + 1]? = some (.cells ZO 54 (0, 0))) := (HU5.out.block _ (lt_of_block HY4.out) (by have := Hrb.out; omega)).trans HY4.out
  obtain ⟨LL, hLL⟩ : ∃ x, x = BL.set 2 (.int .u64 (n : Int)) := ⟨_, rfl⟩
  obtain ⟨LA, hLA⟩ : ∃ x, x = LL.toArray := ⟨_, rfl⟩
  have HLlen : Hid (LL.length = 12) := by show _ = _; rw [hLL, List.length_set, HBLe.out]; rfl
  have HLone : Hid (LL.all (·.oneCell') = true) := by show _ = _; rw [hLL, HBLe.out]; exact set_one (base_one _ _ _ _) rfl
  have HLs : Hid ((Try.prog.info? 54).map (·.size) = some LA.size) := by show _ = _; rw [sizeO, hLA]; simp [HLlen.out]
  have HLz : Hid (ZO.size = LA.size) := by show _ = _; rw [hLA]; simp [HLlen.out, ZO]
  have HL1 : Hid (LA.all (·.oneCell') = true) := by show _ = _; rw [hLA]; simpa using HLone.out
  have HRs : Hid ((w5.setCell ⟨w.heap.size + 1 + 1, 2, none⟩ (.int .u64 (n : Int))).heap[w.heap.size + 1 + 1]? = some (.cells LA 54 (0, 0))) := by show _ = _; rw [hLA, hLL]; exact HR5.out.set 2 _
  have HYs : Hid ((w5.setCell ⟨w.heap.size + 1 + 1, 2, none⟩ (.int .u64 (n : Int))).heap[w.heap.size + 1]? = some (.cells ZO 54 (0, 0))) := (heap_setCell_other w5 _ _ _ (by simp)).trans HY5.out
  have HUs : Hid (Upd (fun k => k = w.heap.size + 1 + 1) w5 (w5.setCell ⟨w.heap.size + 1 + 1, 2, none⟩ (.int .u64 (n : Int)))) := put1 (Upd.refl (fun k => k = w.heap.size + 1 + 1) w5) 2 _
  have hcc : w5.cell? ⟨w.heap.size + 1 + 1, 2, none⟩ = some ((base 0 0 0 0).getD 2 undef) := by rw [HR5.out.cell, HBLe.out]; rfl
  have hff : w5.frozen? ⟨w.heap.size + 1 + 1, 2, none⟩ = false := HR5.out.frozen 2
  have HLLe := Lib.hid hLL
  have HLAe := Lib.hid hLA
  clear hLL hLA
  go_wp2_with (first
    | ((with_reducible refine wpList_load_row (o := ⟨some 82, _, _, _, _, _⟩) ?_ 54 (.tmp 5) ?_ (w.heap.size + 1 + 1) ?_ 54 LA (0, 0) _ HRs.out Try.underlying54 ?_ HLs.out ?_); rfl; rfl; rfl; rfl)
    | ((with_reducible refine wpList_store_new (o := ⟨none, .store 54 (.tmp 4) (.tmp 82), _, _, _, _⟩) ?_ _ (.tmp 4) (.tmp 82) ?_ (w.heap.size + 1) LA ?_ ?_ 54 ZO HYs.out HLs.out HLz.out HL1.out ?_); rfl; rfl; rfl; rfl; intro w6 Hg6 Hu6))
  have HU56 : Hid (Upd (fun k => k = w.heap.size + 1 ∨ k = w.heap.size + 1 + 1) w5 w6) := (HUs.out.mono (fun k _ e => .inr e)).trans (Hu6.out.mono (fun k _ e => .inl (.inl e)))
  have HU46 : Hid (Upd (fun k => k = r ∨ k = w.heap.size + 1 ∨ k = w.heap.size + 1 + 1) w4 w6) := (HU5.out.mono (fun k _ e => .inl e)).trans (HU56.out.mono (fun k _ e => .inl (.inr e)))
  have HU6 : Hid (Upd (fun k => k = r) w w6) := (HU04.out.mono (fun _ _ e => e.elim)).trans (HU46.out.mono (fun k _ e => by
    rcases e with e | e | e
    · exact .inl e
    · exact .inr (by omega)
    · exact .inr (by omega)))
  refine bodyPost_ret (results_cell_row rfl _ _ (w.heap.size + 1) 54 LA (0, 0) _ rfl Hg6.out Try.underlying54 rfl HLs.out) rfl ?_
  have hrb := Hrb.out
  refine ⟨LL, by rw [HLAe.out], HLlen.out, HLone.out, ?_, HU6.out, ?_⟩
  · have h := Hrd5.out.upd HU56.out (by omega) (fun k hk => by have := Hvb.out k hk; omega)
    exact h
  · intro w' cs' o O hu' hh hk hv
    obtain ⟨k0, n0, many0, y0, ds0, xs0, st0, ss0, most0, each0⟩ := o
    obtain ⟨⟨x1, dv, x6, pv, lv, rfl, hd, hp, hpo, hs⟩, hn64⟩ := hh
    obtain ⟨dao, dcap, rfl, hd⟩ := hd
    obtain ⟨lao, lcap, rfl, hs⟩ := hs
    simp only at hk hd hp hs hn64
    subst hk
    have hv1 : n = n0 := by rw [Hn.out]; exact hv.v4 rfl
    rw [HLLe.out, HBLe.out, hv1]
    exact alike_4 n0 _ _ _ _ _ _ _ _ _ _ _ _ _ _ _ _ _ _ _ _ _ w' 

set_option maxHeartbeats 4000000 in
set_option maxRecDepth 100000 in
theorem again_5 (r : Nat) (rv : Value) (l : List UInt8) (s : Nat × Int) (cs : List Value) (many most each : Int) (w : World) (hr : Rd w r rv l s) (hl : l.length ≤ 140737488351232) (hcs : OpC cs (5, many, most, each)) :
    Calls Try.prog 39 #[.pointer (some ⟨r, 0, none⟩), .agg cs.toArray] w (AgainAt 5 most each many r rv l s w) := by
  have hrb : r < w.heap.size := lt_of_block hr.1
  have hvb : ∀ k, own rv k → k < w.heap.size := fun k hk => (hr.2.1.lt k hk).2
  obtain ⟨X, hX⟩ : ∃ X, X = cs.toArray := ⟨_, rfl⟩
  obtain ⟨w1, hw1⟩ : ∃ x, x = w.alloc (.cells X 54) := ⟨_, rfl⟩
  obtain ⟨w2, hw2⟩ : ∃ x, x = w1.alloc (.cells ZO 54) := ⟨_, rfl⟩
  obtain ⟨w3, hw3⟩ : ∃ x, x = w2.alloc (.cells ZO 54) := ⟨_, rfl⟩
  have hs1 : w1.heap.size = w.heap.size + 1 := by rw [hw1]; simp
  have hs2 : w2.heap.size = w.heap.size + 1 + 1 := by rw [hw2]; simp; omega
  have hs3 : w3.heap.size = w.heap.size + 3 := by rw [hw3]; simp; omega
  have hrow : w1.heap[w.heap.size]? = some (.cells cs.toArray 54 (0, 0)) := by rw [hw1, hX]; exact heap_alloc_new w _
  have hcell : ∀ i x, cs[i]? = some x → w1.cell? ⟨w.heap.size, i, none⟩ = some x := fun i x h => by rw [cell_of_row _ _ _ _ _ _ hrow]; simpa using h
  have hu01 : Upd (fun _ => False) w w1 := by rw [hw1]; exact (Upd.refl _ w).alloc _
  have hu12 : Upd (fun _ => False) w1 w2 := by rw [hw2]; exact (Upd.refl _ w1).alloc _
  have hu23 : Upd (fun _ => False) w2 w3 := by rw [hw3]; exact (Upd.refl _ w2).alloc _
  have hu13 : Upd (fun _ => False) w1 w3 := hu12.trans (hu23.mono (fun _ _ e => e.elim))
  have b0 : w2.cell? ⟨w.heap.size, 0, none⟩ = some (.int .i64 5) := hu12.cell (hcell 0 _ hcs.c0) id
  have b3 : w2.cell? ⟨w.heap.size, 3, none⟩ = some (.int .i64 many) := hu12.cell (hcell 3 _ hcs.c3) id
  have b10 : w2.cell? ⟨w.heap.size, 10, none⟩ = some (.int .i64 most) := hu12.cell (hcell 10 _ hcs.c10) id
  have b11 : w2.cell? ⟨w.heap.size, 11, none⟩ = some (.int .i64 each) := hu12.cell (hcell 11 _ hcs.c11) id
  have HB0 : Hid (∀ w', Upd (fun k => w.heap.size < k) w1 w' → w'.cell? ⟨w.heap.size, 0, none⟩ = some (.int .i64 5)) := fun w' hu => hu.cell (hcell 0 _ hcs.c0) (by simp)
  have HB3 : Hid (∀ w', Upd (fun k => w.heap.size < k) w1 w' → w'.cell? ⟨w.heap.size, 3, none⟩ = some (.int .i64 many)) := fun w' hu => hu.cell (hcell 3 _ hcs.c3) (by simp)
  have HB10 : Hid (∀ w', Upd (fun k => w.heap.size < k) w1 w' → w'.cell? ⟨w.heap.size, 10, none⟩ = some (.int .i64 most)) := fun w' hu => hu.cell (hcell 10 _ hcs.c10) (by simp)
  have HB11 : Hid (∀ w', Upd (fun k => w.heap.size < k) w1 w' → w'.cell? ⟨w.heap.size, 11, none⟩ = some (.int .i64 each)) := fun w' hu => hu.cell (hcell 11 _ hcs.c11) (by simp)
  have HZ3 : Hid (w3.heap[w.heap.size + 1 + 1]? = some (.cells ZO 54 (0, 0))) := by show _ = _; rw [← hs2, hw3]; exact heap_alloc_new w2 _
  have HY3 : Hid (w3.heap[w.heap.size + 1]? = some (.cells ZO 54 (0, 0))) := by
    have h : w2.heap[w.heap.size + 1]? = some (.cells ZO 54 (0, 0)) := by rw [← hs1, hw2]; exact heap_alloc_new w1 _
    exact (hu23.block _ (by omega) id).trans h
  obtain ⟨BL, hBL⟩ : ∃ x, x = base 5 many most each := ⟨_, rfl⟩
  have hBA : ((((ZO.setIfInBounds 0 (.int .i64 5)).setIfInBounds 10 (.int .i64 most)).setIfInBounds 11 (.int .i64 each)).setIfInBounds 3 (.int .i64 many)) = BL.toArray := by rw [hBL]; exact set_base 5 many most each
  have HBs : Hid ((Try.prog.info? 54).map (·.size) = some (((((ZO.setIfInBounds 0 (.int .i64 5)).setIfInBounds 10 (.int .i64 most)).setIfInBounds 11 (.int .i64 each)).setIfInBounds 3 (.int .i64 many))).size) := by show _ = _; rw [hBA, sizeO, hBL]; rfl
  have HBl : Hid (ZO.size = (((((ZO.setIfInBounds 0 (.int .i64 5)).setIfInBounds 10 (.int .i64 most)).setIfInBounds 11 (.int .i64 each)).setIfInBounds 3 (.int .i64 many))).size) := by show _ = _; rw [hBA, hBL]; rfl
  have HB1 : Hid ((((((ZO.setIfInBounds 0 (.int .i64 5)).setIfInBounds 10 (.int .i64 most)).setIfInBounds 11 (.int .i64 each)).setIfInBounds 3 (.int .i64 many))).all (·.oneCell') = true) := by show _ = _; rw [hBA, hBL]; simpa using base_one 5 many most each
  have HBA := Lib.hid hBA
  have HBLe := Lib.hid hBL
  have Hr := Lib.hid hr
  have Hl := Lib.hid hl
  have Hrb := Lib.hid hrb
  have Hvb := Lib.hid hvb
  have Hs3 := Lib.hid hs3
  have HU13 : Hid (Upd (fun k => w.heap.size < k) w1 w3) := hu13.mono (fun _ _ e => e.elim)
  have HU03 : Hid (Upd (fun _ => False) w w3) := hu01.trans (hu13.mono (fun _ _ e => e.elim))
  have hz := zeroO
  rw [← hX]
  subst hw3
  subst hw2
  subst hw1
  clear hX hs1 hs2 hs3 hrow hcell hu01 hu12 hu23 hu13 hcs hBL hBA hr hl hrb hvb
  go_enter Try.func39, Try.ntmps39
  go_wp2_with (first
    | ((with_reducible refine wpList_store_new (o := ⟨none, .store 54 (.tmp 5) (.tmp 14), _, _, _, _⟩) ?_ _ (.tmp 5) (.tmp 14) ?_ (w.heap.size + 1 + 1) ((((ZO.setIfInBounds 0 (.int .i64 5)).setIfInBounds 10 (.int .i64 most)).setIfInBounds 11 (.int .i64 each)).setIfInBounds 3 (.int .i64 many)) ?_ ?_ 54 ZO HZ3.out HBs.out HBl.out HB1.out ?_); rfl; rfl; rfl; rfl; intro w4 Hg4 Hu4; clear b0 b3 b10 b11; have HU14 : Hid (Upd (fun k => w.heap.size < k) _ w4) := HU13.out.trans (Hu4.out.mono (fun k _ e => .inl (by omega))); have b0 := HB0.out w4 HU14.out; have b3 := HB3.out w4 HU14.out; have b10 := HB10.out w4 HU14.out; have b11 := HB11.out w4 HU14.out))
  have HU04 : Hid (Upd (fun _ => False) w w4) := HU03.out.trans (Hu4.out.mono (fun k _ e => .inr (by omega)))
  have HY4 : Hid (w4.heap[w.heap.size + 1]? = some (.cells ZO 54 (0, 0))) := (Hu4.out.block _ (lt_of_block HY3.out) (by omega)).trans HY3.out
  have HR4 : Hid (Row w4 (w.heap.size + 1 + 1) 54 BL) := by show _ = _; rw [← HBA.out]; exact Hg4.out
  have Hrd4 : Hid (Rd w4 r rv l s) := Hr.out.upd HU04.out id (fun _ _ => id)
  refine (rflag_any r rv l s w4 Hrd4.out (by have := Hl.out; omega)).mono ?_
  rintro e w5 ⟨rfl, hrd5, hu5⟩
  obtain ⟨y, hy⟩ : ∃ y, y = (flagM l s).1 := ⟨_, rfl⟩
  rw [← hy]
  have Hy := Lib.hid hy
  have Hrd5 : Hid (Rd w5 r rv l (stepM 5 most each many l s)) := hrd5
  have HU5 := Lib.hid hu5
  clear hy hrd5 hu5
  have HR5 : Hid (Row w5 (w.heap.size + 1 + 1) 54 BL) := HR4.out.upd HU5.out (by have := Hrb.out; omega)
  have HY5 : Hid (w5.heap[w.heap.size + 1]? = some (.cells ZO 54 (0, 0))) := (HU5.out.block _ (lt_of_block HY4.out) (by have := Hrb.out; omega)).trans HY4.out
  obtain ⟨LL, hLL⟩ : ∃ x, x = BL.set 4 (.bool y) := ⟨_, rfl⟩
  obtain ⟨LA, hLA⟩ : ∃ x, x = LL.toArray := ⟨_, rfl⟩
  have HLlen : Hid (LL.length = 12) := by show _ = _; rw [hLL, List.length_set, HBLe.out]; rfl
  have HLone : Hid (LL.all (·.oneCell') = true) := by show _ = _; rw [hLL, HBLe.out]; exact set_one (base_one _ _ _ _) rfl
  have HLs : Hid ((Try.prog.info? 54).map (·.size) = some LA.size) := by show _ = _; rw [sizeO, hLA]; simp [HLlen.out]
  have HLz : Hid (ZO.size = LA.size) := by show _ = _; rw [hLA]; simp [HLlen.out, ZO]
  have HL1 : Hid (LA.all (·.oneCell') = true) := by show _ = _; rw [hLA]; simpa using HLone.out
  have HRs : Hid ((w5.setCell ⟨w.heap.size + 1 + 1, 4, none⟩ (.bool y)).heap[w.heap.size + 1 + 1]? = some (.cells LA 54 (0, 0))) := by show _ = _; rw [hLA, hLL]; exact HR5.out.set 4 _
  have HYs : Hid ((w5.setCell ⟨w.heap.size + 1 + 1, 4, none⟩ (.bool y)).heap[w.heap.size + 1]? = some (.cells ZO 54 (0, 0))) := (heap_setCell_other w5 _ _ _ (by simp)).trans HY5.out
  have HUs : Hid (Upd (fun k => k = w.heap.size + 1 + 1) w5 (w5.setCell ⟨w.heap.size + 1 + 1, 4, none⟩ (.bool y))) := put1 (Upd.refl (fun k => k = w.heap.size + 1 + 1) w5) 4 _
  have hcc : w5.cell? ⟨w.heap.size + 1 + 1, 4, none⟩ = some ((base 0 0 0 0).getD 4 undef) := by rw [HR5.out.cell, HBLe.out]; rfl
  have hff : w5.frozen? ⟨w.heap.size + 1 + 1, 4, none⟩ = false := HR5.out.frozen 4
  have HLLe := Lib.hid hLL
  have HLAe := Lib.hid hLA
  clear hLL hLA
  go_wp2_with (first
    | ((with_reducible refine wpList_load_row (o := ⟨some 82, _, _, _, _, _⟩) ?_ 54 (.tmp 5) ?_ (w.heap.size + 1 + 1) ?_ 54 LA (0, 0) _ HRs.out Try.underlying54 ?_ HLs.out ?_); rfl; rfl; rfl; rfl)
    | ((with_reducible refine wpList_store_new (o := ⟨none, .store 54 (.tmp 4) (.tmp 82), _, _, _, _⟩) ?_ _ (.tmp 4) (.tmp 82) ?_ (w.heap.size + 1) LA ?_ ?_ 54 ZO HYs.out HLs.out HLz.out HL1.out ?_); rfl; rfl; rfl; rfl; intro w6 Hg6 Hu6))
  have HU56 : Hid (Upd (fun k => k = w.heap.size + 1 ∨ k = w.heap.size + 1 + 1) w5 w6) := (HUs.out.mono (fun k _ e => .inr e)).trans (Hu6.out.mono (fun k _ e => .inl (.inl e)))
  have HU46 : Hid (Upd (fun k => k = r ∨ k = w.heap.size + 1 ∨ k = w.heap.size + 1 + 1) w4 w6) := (HU5.out.mono (fun k _ e => .inl e)).trans (HU56.out.mono (fun k _ e => .inl (.inr e)))
  have HU6 : Hid (Upd (fun k => k = r) w w6) := (HU04.out.mono (fun _ _ e => e.elim)).trans (HU46.out.mono (fun k _ e => by
    rcases e with e | e | e
    · exact .inl e
    · exact .inr (by omega)
    · exact .inr (by omega)))
  refine bodyPost_ret (results_cell_row rfl _ _ (w.heap.size + 1) 54 LA (0, 0) _ rfl Hg6.out Try.underlying54 rfl HLs.out) rfl ?_
  have hrb := Hrb.out
  refine ⟨LL, by rw [HLAe.out], HLlen.out, HLone.out, ?_, HU6.out, ?_⟩
  · have h := Hrd5.out.upd HU56.out (by omega) (fun k hk => by have := Hvb.out k hk; omega)
    exact h
  · intro w' cs' o O hu' hh hk hv
    obtain ⟨k0, n0, many0, y0, ds0, xs0, st0, ss0, most0, each0⟩ := o
    obtain ⟨⟨x1, dv, x6, pv, lv, rfl, hd, hp, hpo, hs⟩, hn64⟩ := hh
    obtain ⟨dao, dcap, rfl, hd⟩ := hd
    obtain ⟨lao, lcap, rfl, hs⟩ := hs
    simp only at hk hd hp hs hn64
    subst hk
    have hv1 : y = y0 := by rw [Hy.out]; exact hv.v5 rfl
    rw [HLLe.out, HBLe.out, hv1]
    exact alike_5 y0 _ _ _ _ _ _ _ _ _ _ _ _ _ _ _ _ _ _ _ _ _ w'

set_option maxHeartbeats 4000000 in
set_option maxRecDepth 100000 in
theorem again_8 (r : Nat) (rv : Value) (l : List UInt8) (s : Nat × Int) (cs : List Value) (many most each : Int) (w : World) (hr : Rd w r rv l s) (hl : l.length ≤ 140737488351232) (hcs : OpC cs (8, many, most, each)) :
    Calls Try.prog 39 #[.pointer (some ⟨r, 0, none⟩), .agg cs.toArray] w (AgainAt 8 most each many r rv l s w) := by
  have hrb : r < w.heap.size := lt_of_block hr.1
  have hvb : ∀ k, own rv k → k < w.heap.size := fun k hk => (hr.2.1.lt k hk).2
  obtain ⟨X, hX⟩ : ∃ X, X = cs.toArray := ⟨_, rfl⟩
  obtain ⟨w1, hw1⟩ : ∃ x, x = w.alloc (.cells X 54) := ⟨_, rfl⟩
  obtain ⟨w2, hw2⟩ : ∃ x, x = w1.alloc (.cells ZO 54) := ⟨_, rfl⟩
  obtain ⟨w3, hw3⟩ : ∃ x, x = w2.alloc (.cells ZO 54) := ⟨_, rfl⟩
  have hs1 : w1.heap.size = w.heap.size + 1 := by rw [hw1]; simp
  have hs2 : w2.heap.size = w.heap.size + 1 + 1 := by rw [hw2]; simp; omega
  have hs3 : w3.heap.size = w.heap.size + 3 := by rw [hw3]; simp; omega
  have hrow : w1.heap[w.heap.size]? = some (.cells cs.toArray 54 (0, 0)) := by rw [hw1, hX]; exact heap_alloc_new w _
  have hcell : ∀ i x, cs[i]? = some x → w1.cell? ⟨w.heap.size, i, none⟩ = some x := fun i x h => by rw [cell_of_row _ _ _ _ _ _ hrow]; simpa using h
  have hu01 : Upd (fun _ => False) w w1 := by rw [hw1]; exact (Upd.refl _ w).alloc _
  have hu12 : Upd (fun _ => False) w1 w2 := by rw [hw2]; exact (Upd.refl _ w1).alloc _
  have hu23 : Upd (fun _ => False) w2 w3 := by rw [hw3]; exact (Upd.refl _ w2).alloc _
  have hu13 : Upd (fun _ => False) w1 w3 := hu12.trans (hu23.mono (fun _ _ e => e.elim))
  have b0 : w2.cell? ⟨w.heap.size, 0, none⟩ = some (.int .i64 8) := hu12.cell (hcell 0 _ hcs.c0) id
  have b3 : w2.cell? ⟨w.heap.size, 3, none⟩ = some (.int .i64 many) := hu12.cell (hcell 3 _ hcs.c3) id
  have b10 : w2.cell? ⟨w.heap.size, 10, none⟩ = some (.int .i64 most) := hu12.cell (hcell 10 _ hcs.c10) id
  have b11 : w2.cell? ⟨w.heap.size, 11, none⟩ = some (.int .i64 each) := hu12.cell (hcell 11 _ hcs.c11) id
  have HB0 : Hid (∀ w', Upd (fun k => w.heap.size < k) w1 w' → w'.cell? ⟨w.heap.size, 0, none⟩ = some (.int .i64 8)) := fun w' hu => hu.cell (hcell 0 _ hcs.c0) (by simp)
  have HB3 : Hid (∀ w', Upd (fun k => w.heap.size < k) w1 w' → w'.cell? ⟨w.heap.size, 3, none⟩ = some (.int .i64 many)) := fun w' hu => hu.cell (hcell 3 _ hcs.c3) (by simp)
  have HB10 : Hid (∀ w', Upd (fun k => w.heap.size < k) w1 w' → w'.cell? ⟨w.heap.size, 10, none⟩ = some (.int .i64 most)) := fun w' hu => hu.cell (hcell 10 _ hcs.c10) (by simp)
  have HB11 : Hid (∀ w', Upd (fun k => w.heap.size < k) w1 w' → w'.cell? ⟨w.heap.size, 11, none⟩ = some (.int .i64 each)) := fun w' hu => hu.cell (hcell 11 _ hcs.c11) (by simp)
  have HZ3 : Hid (w3.heap[w.heap.size + 1 + 1]? = some (.cells ZO 54 (0, 0))) := by show _ = _; rw [← hs2, hw3]; exact heap_alloc_new w2 _
  have HY3 : Hid (w3.heap[w.heap.size + 1]? = some (.cells ZO 54 (0, 0))) := by
    have h : w2.heap[w.heap.size + 1]? = some (.cells ZO 54 (0, 0)) := by rw [← hs1, hw2]; exact heap_alloc_new w1 _
    exact (hu23.block _ (by omega) id).trans h
  obtain ⟨BL, hBL⟩ : ∃ x, x = base 8 many most each := ⟨_, rfl⟩
  have hBA : ((((ZO.setIfInBounds 0 (.int .i64 8)).setIfInBounds 10 (.int .i64 most)).setIfInBounds 11 (.int .i64 each)).setIfInBounds 3 (.int .i64 many)) = BL.toArray := by rw [hBL]; exact set_base 8 many most each
  have HBs : Hid ((Try.prog.info? 54).map (·.size) = some (((((ZO.setIfInBounds 0 (.int .i64 8)).setIfInBounds 10 (.int .i64 most)).setIfInBounds 11 (.int .i64 each)).setIfInBounds 3 (.int .i64 many))).size) := by show _ = _; rw [hBA, sizeO, hBL]; rfl
  have HBl : Hid (ZO.size = (((((ZO.setIfInBounds 0 (.int .i64 8)).setIfInBounds 10 (.int .i64 most)).setIfInBounds 11 (.int .i64 each)).setIfInBounds 3 (.int .i64 many))).size) := by show _ = _; rw [hBA, hBL]; rfl
  have HB1 : Hid ((((((ZO.setIfInBounds 0 (.int .i64 8)).setIfInBounds 10 (.int .i64 most)).setIfInBounds 11 (.int .i64 each)).setIfInBounds 3 (.int .i64 many))).all (·.oneCell') = true) := by show _ = _; rw [hBA, hBL]; simpa using base_one 8 many most each
  have HBA := Lib.hid hBA
  have HBLe := Lib.hid hBL
  have Hr := Lib.hid hr
  have Hl := Lib.hid hl
  have Hrb := Lib.hid hrb
  have Hvb := Lib.hid hvb
  have Hs3 := Lib.hid hs3
  have HU13 : Hid (Upd (fun k => w.heap.size < k) w1 w3) := hu13.mono (fun _ _ e => e.elim)
  have HU03 : Hid (Upd (fun _ => False) w w3) := hu01.trans (hu13.mono (fun _ _ e => e.elim))
  have hz := zeroO
  rw [← hX]
  subst hw3
  subst hw2
  subst hw1
  clear hX hs1 hs2 hs3 hrow hcell hu01 hu12 hu23 hu13 hcs hBL hBA hr hl hrb hvb
  go_enter Try.func39, Try.ntmps39
  go_wp2_with (first
    | ((with_reducible refine wpList_store_new (o := ⟨none, .store 54 (.tmp 5) (.tmp 14), _, _, _, _⟩) ?_ _ (.tmp 5) (.tmp 14) ?_ (w.heap.size + 1 + 1) ((((ZO.setIfInBounds 0 (.int .i64 8)).setIfInBounds 10 (.int .i64 most)).setIfInBounds 11 (.int .i64 each)).setIfInBounds 3 (.int .i64 many)) ?_ ?_ 54 ZO HZ3.out HBs.out HBl.out HB1.out ?_); rfl; rfl; rfl; rfl; intro w4 Hg4 Hu4; clear b0 b3 b10 b11; have HU14 : Hid (Upd (fun k => w.heap.size < k) _ w4) := HU13.out.trans (Hu4.out.mono (fun k _ e => .inl (by omega))); have b0 := HB0.out w4 HU14.out; have b3 := HB3.out w4 HU14.out; have b10 := HB10.out w4 HU14.out; have b11 := HB11.out w4 HU14.out))
  have HU04 : Hid (Upd (fun _ => False) w w4) := HU03.out.trans (Hu4.out.mono (fun k _ e => .inr (by omega)))
  have HY4 : Hid (w4.heap[w.heap.size + 1]? = some (.cells ZO 54 (0, 0))) := (Hu4.out.block _ (lt_of_block HY3.out) (by omega)).trans HY3.out
  have HR4 : Hid (Row w4 (w.heap.size + 1 + 1) 54 BL) := by show _ = _; rw [← HBA.out]; exact Hg4.out
  have Hrd4 : Hid (Rd w4 r rv l s) := Hr.out.upd HU04.out id (fun _ _ => id)
  refine (rtext_any most r rv l s w4 Hrd4.out (by have := Hl.out; omega)).mono ?_
  rintro e w5 ⟨rfl, hrd5, hu5⟩
  obtain ⟨t, ht⟩ : ∃ t, t = (txtM most l s).1 := ⟨_, rfl⟩
  rw [← ht]
  obtain ⟨bt, hbt⟩ : ∃ x : ByteArray, x = ⟨t.toArray⟩ := ⟨_, rfl⟩
  rw [← hbt]
  have Ht := Lib.hid ht
  have Hbt := Lib.hid hbt
  have Hrd5 : Hid (Rd w5 r rv l (stepM 8 most each many l s)) := hrd5
  have HU5 := Lib.hid hu5
  clear ht hbt hrd5 hu5
  have HR5 : Hid (Row w5 (w.heap.size + 1 + 1) 54 BL) := HR4.out.upd HU5.out (by have := Hrb.out; omega)
  have HY5 : Hid (w5.heap[w.heap.size + 1]? = some (.cells ZO 54 (0, 0))) := (HU5.out.block _ (lt_of_block HY4.out) (by have := Hrb.out; omega)).trans HY4.out
  obtain ⟨LL, hLL⟩ : ∃ x, x = BL.set 8 (.string bt) := ⟨_, rfl⟩
  obtain ⟨LA, hLA⟩ : ∃ x, x = LL.toArray := ⟨_, rfl⟩
  have HLlen : Hid (LL.length = 12) := by show _ = _; rw [hLL, List.length_set, HBLe.out]; rfl
  have HLone : Hid (LL.all (·.oneCell') = true) := by show _ = _; rw [hLL, HBLe.out]; exact set_one (base_one _ _ _ _) rfl
  have HLs : Hid ((Try.prog.info? 54).map (·.size) = some LA.size) := by show _ = _; rw [sizeO, hLA]; simp [HLlen.out]
  have HLz : Hid (ZO.size = LA.size) := by show _ = _; rw [hLA]; simp [HLlen.out, ZO]
  have HL1 : Hid (LA.all (·.oneCell') = true) := by show _ = _; rw [hLA]; simpa using HLone.out
  have HRs : Hid ((w5.setCell ⟨w.heap.size + 1 + 1, 8, none⟩ (.string bt)).heap[w.heap.size + 1 + 1]? = some (.cells LA 54 (0, 0))) := by show _ = _; rw [hLA, hLL]; exact HR5.out.set 8 _
  have HYs : Hid ((w5.setCell ⟨w.heap.size + 1 + 1, 8, none⟩ (.string bt)).heap[w.heap.size + 1]? = some (.cells ZO 54 (0, 0))) := (heap_setCell_other w5 _ _ _ (by simp)).trans HY5.out
  have HUs : Hid (Upd (fun k => k = w.heap.size + 1 + 1) w5 (w5.setCell ⟨w.heap.size + 1 + 1, 8, none⟩ (.string bt))) := put1 (Upd.refl (fun k => k = w.heap.size + 1 + 1) w5) 8 _
  have hcc : w5.cell? ⟨w.heap.size + 1 + 1, 8, none⟩ = some ((base 0 0 0 0).getD 8 undef) := by rw [HR5.out.cell, HBLe.out]; rfl
  have hff : w5.frozen? ⟨w.heap.size + 1 + 1, 8, none⟩ = false := HR5.out.frozen 8
  have HLLe := Lib.hid hLL
  have HLAe := Lib.hid hLA
  clear hLL hLA
  go_wp2_with (first
    | ((with_reducible refine wpList_load_row (o := ⟨some 82, _, _, _, _, _⟩) ?_ 54 (.tmp 5) ?_ (w.heap.size + 1 + 1) ?_ 54 LA (0, 0) _ HRs.out Try.underlying54 ?_ HLs.out ?_); rfl; rfl; rfl; rfl)
    | ((with_reducible refine wpList_store_new (o := ⟨none, .store 54 (.tmp 4) (.tmp 82), _, _, _, _⟩) ?_ _ (.tmp 4) (.tmp 82) ?_ (w.heap.size + 1) LA ?_ ?_ 54 ZO HYs.out HLs.out HLz.out HL1.out ?_); rfl; rfl; rfl; rfl; intro w6 Hg6 Hu6))
  have HU56 : Hid (Upd (fun k => k = w.heap.size + 1 ∨ k = w.heap.size + 1 + 1) w5 w6) := (HUs.out.mono (fun k _ e => .inr e)).trans (Hu6.out.mono (fun k _ e => .inl (.inl e)))
  have HU46 : Hid (Upd (fun k => k = r ∨ k = w.heap.size + 1 ∨ k = w.heap.size + 1 + 1) w4 w6) := (HU5.out.mono (fun k _ e => .inl e)).trans (HU56.out.mono (fun k _ e => .inl (.inr e)))
  have HU6 : Hid (Upd (fun k => k = r) w w6) := (HU04.out.mono (fun _ _ e => e.elim)).trans (HU46.out.mono (fun k _ e => by
    rcases e with e | e | e
    · exact .inl e
    · exact .inr (by omega)
    · exact .inr (by omega)))
  refine bodyPost_ret (results_cell_row rfl _ _ (w.heap.size + 1) 54 LA (0, 0) _ rfl Hg6.out Try.underlying54 rfl HLs.out) rfl ?_
  have hrb := Hrb.out
  refine ⟨LL, by rw [HLAe.out], HLlen.out, HLone.out, ?_, HU6.out, ?_⟩
  · have h := Hrd5.out.upd HU56.out (by omega) (fun k hk => by have := Hvb.out k hk; omega)
    exact h
  · intro w' cs' o O hu' hh hk hv
    obtain ⟨k0, n0, many0, y0, ds0, xs0, st0, ss0, most0, each0⟩ := o
    obtain ⟨⟨x1, dv, x6, pv, lv, rfl, hd, hp, hpo, hs⟩, hn64⟩ := hh
    obtain ⟨dao, dcap, rfl, hd⟩ := hd
    obtain ⟨lao, lcap, rfl, hs⟩ := hs
    simp only at hk hd hp hs hn64
    subst hk
    have hv1 : t = st0 := by rw [Ht.out]; exact hv.v8 rfl
    rw [HLLe.out, HBLe.out, Hbt.out, hv1]
    exact alike_8 _ _ _ _ _ _ _ _ _ _ _ _ _ _ _ _ _ _ _ _ _ _ w'

set_option maxHeartbeats 4000000 in
set_option maxRecDepth 100000 in
theorem again_7 (r : Nat) (rv : Value) (l : List UInt8) (s : Nat × Int) (cs : List Value) (many most each : Int) (w : World) (hr : Rd w r rv l s) (hl : l.length ≤ 140737488351232) (hcs : OpC cs (7, many, most, each)) :
    Calls Try.prog 39 #[.pointer (some ⟨r, 0, none⟩), .agg cs.toArray] w (AgainAt 7 most each many r rv l s w) := by
  have hrb : r < w.heap.size := lt_of_block hr.1
  have hvb : ∀ k, own rv k → k < w.heap.size := fun k hk => (hr.2.1.lt k hk).2
  obtain ⟨X, hX⟩ : ∃ X, X = cs.toArray := ⟨_, rfl⟩
  obtain ⟨w1, hw1⟩ : ∃ x, x = w.alloc (.cells X 54) := ⟨_, rfl⟩
  obtain ⟨w2, hw2⟩ : ∃ x, x = w1.alloc (.cells ZO 54) := ⟨_, rfl⟩
  obtain ⟨w3, hw3⟩ : ∃ x, x = w2.alloc (.cells ZO 54) := ⟨_, rfl⟩
  have hs1 : w1.heap.size = w.heap.size + 1 := by rw [hw1]; simp
  have hs2 : w2.heap.size = w.heap.size + 1 + 1 := by rw [hw2]; simp; omega
  have hs3 : w3.heap.size = w.heap.size + 3 := by rw [hw3]; simp; omega
  have hrow : w1.heap[w.heap.size]? = some (.cells cs.toArray 54 (0, 0)) := by rw [hw1, hX]; exact heap_alloc_new w _
  have hcell : ∀ i x, cs[i]? = some x → w1.cell? ⟨w.heap.size, i, none⟩ = some x := fun i x h => by rw [cell_of_row _ _ _ _ _ _ hrow]; simpa using h
  have hu01 : Upd (fun _ => False) w w1 := by rw [hw1]; exact (Upd.refl _ w).alloc _
  have hu12 : Upd (fun _ => False) w1 w2 := by rw [hw2]; exact (Upd.refl _ w1).alloc _
  have hu23 : Upd (fun _ => False) w2 w3 := by rw [hw3]; exact (Upd.refl _ w2).alloc _
  have hu13 : Upd (fun _ => False) w1 w3 := hu12.trans (hu23.mono (fun _ _ e => e.elim))
  have b0 : w2.cell? ⟨w.heap.size, 0, none⟩ = some (.int .i64 7) := hu12.cell (hcell 0 _ hcs.c0) id
  have b3 : w2.cell? ⟨w.heap.size, 3, none⟩ = some (.int .i64 many) := hu12.cell (hcell 3 _ hcs.c3) id
  have b10 : w2.cell? ⟨w.heap.size, 10, none⟩ = some (.int .i64 most) := hu12.cell (hcell 10 _ hcs.c10) id
  have b11 : w2.cell? ⟨w.heap.size, 11, none⟩ = some (.int .i64 each) := hu12.cell (hcell 11 _ hcs.c11) id
  have HB0 : Hid (∀ w', Upd (fun k => w.heap.size < k) w1 w' → w'.cell? ⟨w.heap.size, 0, none⟩ = some (.int .i64 7)) := fun w' hu => hu.cell (hcell 0 _ hcs.c0) (by simp)
  have HB3 : Hid (∀ w', Upd (fun k => w.heap.size < k) w1 w' → w'.cell? ⟨w.heap.size, 3, none⟩ = some (.int .i64 many)) := fun w' hu => hu.cell (hcell 3 _ hcs.c3) (by simp)
  have HB10 : Hid (∀ w', Upd (fun k => w.heap.size < k) w1 w' → w'.cell? ⟨w.heap.size, 10, none⟩ = some (.int .i64 most)) := fun w' hu => hu.cell (hcell 10 _ hcs.c10) (by simp)
  have HB11 : Hid (∀ w', Upd (fun k => w.heap.size < k) w1 w' → w'.cell? ⟨w.heap.size, 11, none⟩ = some (.int .i64 each)) := fun w' hu => hu.cell (hcell 11 _ hcs.c11) (by simp)
  have HZ3 : Hid (w3.heap[w.heap.size + 1 + 1]? = some (.cells ZO 54 (0, 0))) := by show _ = _; rw [← hs2, hw3]; exact heap_alloc_new w2 _
  have HY3 : Hid (w3.heap[w.heap.size + 1]? = some (.cells ZO 54 (0, 0))) := by
    have h : w2.heap[w.heap.size + 1]? = some (.cells ZO 54 (0, 0)) := by rw [← hs1, hw2]; exact heap_alloc_new w1 _
    exact (hu23.block _ (by omega) id).trans h
  obtain ⟨BL, hBL⟩ : ∃ x, x = base 7 many most each := ⟨_, rfl⟩
  have hBA : ((((ZO.setIfInBounds 0 (.int .i64 7)).setIfInBounds 10 (.int .i64 most)).setIfInBounds 11 (.int .i64 each)).setIfInBounds 3 (.int .i64 many)) = BL.toArray := by rw [hBL]; exact set_base 7 many most each
  have HBs : Hid ((Try.prog.info? 54).map (·.size) = some (((((ZO.setIfInBounds 0 (.int .i64 7)).setIfInBounds 10 (.int .i64 most)).setIfInBounds 11 (.int .i64 each)).setIfInBounds 3 (.int .i64 many))).size) := by show _ = _; rw [hBA, sizeO, hBL]; rfl
  have HBl : Hid (ZO.size = (((((ZO.setIfInBounds 0 (.int .i64 7)).setIfInBounds 10 (.int .i64 most)).setIfInBounds 11 (.int .i64 each)).setIfInBounds 3 (.int .i64 many))).size) := by show _ = _; rw [hBA, hBL]; rfl
  have HB1 : Hid ((((((ZO.setIfInBounds 0 (.int .i64 7)).setIfInBounds 10 (.int .i64 most)).setIfInBounds 11 (.int .i64 each)).setIfInBounds 3 (.int .i64 many))).all (·.oneCell') = true) := by show _ = _; rw [hBA, hBL]; simpa using base_one 7 many most each
  have HBA := Lib.hid hBA
  have HBLe := Lib.hid hBL
  have Hr := Lib.hid hr
  have Hl := Lib.hid hl
  have Hrb := Lib.hid hrb
  have Hvb := Lib.hid hvb
  have Hs3 := Lib.hid hs3
  have HU13 : Hid (Upd (fun k => w.heap.size < k) w1 w3) := hu13.mono (fun _ _ e => e.elim)
  have HU03 : Hid (Upd (fun _ => False) w w3) := hu01.trans (hu13.mono (fun _ _ e => e.elim))
  have hz := zeroO
  rw [← hX]
  subst hw3
  subst hw2
  subst hw1
  clear hX hs1 hs2 hs3 hrow hcell hu01 hu12 hu23 hu13 hcs hBL hBA hr hl hrb hvb
  go_enter Try.func39, Try.ntmps39
  go_wp2_with (first
    | ((with_reducible refine wpList_store_new (o := ⟨none, .store 54 (.tmp 5) (.tmp 14), _, _, _, _⟩) ?_ _ (.tmp 5) (.tmp 14) ?_ (w.heap.size + 1 + 1) ((((ZO.setIfInBounds 0 (.int .i64 7)).setIfInBounds 10 (.int .i64 most)).setIfInBounds 11 (.int .i64 each)).setIfInBounds 3 (.int .i64 many)) ?_ ?_ 54 ZO HZ3.out HBs.out HBl.out HB1.out ?_); rfl; rfl; rfl; rfl; intro w4 Hg4 Hu4; clear b0 b3 b10 b11; have HU14 : Hid (Upd (fun k => w.heap.size < k) _ w4) := HU13.out.trans (Hu4.out.mono (fun k _ e => .inl (by omega))); have b0 := HB0.out w4 HU14.out; have b3 := HB3.out w4 HU14.out; have b10 := HB10.out w4 HU14.out; have b11 := HB11.out w4 HU14.out))
  have HU04 : Hid (Upd (fun _ => False) w w4) := HU03.out.trans (Hu4.out.mono (fun k _ e => .inr (by omega)))
  have HY4 : Hid (w4.heap[w.heap.size + 1]? = some (.cells ZO 54 (0, 0))) := (Hu4.out.block _ (lt_of_block HY3.out) (by omega)).trans HY3.out
  have HR4 : Hid (Row w4 (w.heap.size + 1 + 1) 54 BL) := by show _ = _; rw [← HBA.out]; exact Hg4.out
  have Hrd4 : Hid (Rd w4 r rv l s) := Hr.out.upd HU04.out id (fun _ _ => id)
  have HU34 : Hid (w.heap.size + 3 ≤ w4.heap.size) := by have h := Hu4.out.size; have h3 := Hs3.out; rw [h3] at h; exact h
  refine (ReadB.raw_any many r rv l s w4 Hrd4.out (by have := Hl.out; omega)).mono ?_
  rintro e w5 ⟨ao, cap, rfl, how, hrd5, hu5⟩
  obtain ⟨xs, hxs⟩ : ∃ t, t = (nextM many l s).1 := ⟨_, rfl⟩
  rw [← hxs] at how ⊢
  obtain ⟨n, hn⟩ : ∃ n, n = xs.length := ⟨_, rfl⟩
  rw [← hn] at how ⊢
  have Hxs := Lib.hid hxs
  have Hn := Lib.hid hn
  have How := Lib.hid how
  clear how hxs hn
  have Hrd5 : Hid (Rd w5 r rv l (stepM 7 most each many l s)) := hrd5
  have HU5 := Lib.hid hu5
  clear hrd5 hu5
  have HR5 : Hid (Row w5 (w.heap.size + 1 + 1) 54 BL) := HR4.out.upd HU5.out (by have := Hrb.out; omega)
  have HY5 : Hid (w5.heap[w.heap.size + 1]? = some (.cells ZO 54 (0, 0))) := (HU5.out.block _ (lt_of_block HY4.out) (by have := Hrb.out; omega)).trans HY4.out
  obtain ⟨LL, hLL⟩ : ∃ x, x = BL.set 7 (.slice ao n cap) := ⟨_, rfl⟩
  obtain ⟨LA, hLA⟩ : ∃ x, x = LL.toArray := ⟨_, rfl⟩
  have HLlen : Hid (LL.length = 12) := by show _ = _; rw [hLL, List.length_set, HBLe.out]; rfl
  have HLone : Hid (LL.all (·.oneCell') = true) := by show _ = _; rw [hLL, HBLe.out]; exact set_one (base_one _ _ _ _) rfl
  have HLs : Hid ((Try.prog.info? 54).map (·.size) = some LA.size) := by show _ = _; rw [sizeO, hLA]; simp [HLlen.out]
  have HLz : Hid (ZO.size = LA.size) := by show _ = _; rw [hLA]; simp [HLlen.out, ZO]
  have HL1 : Hid (LA.all (·.oneCell') = true) := by show _ = _; rw [hLA]; simpa using HLone.out
  have HRs : Hid ((w5.setCell ⟨w.heap.size + 1 + 1, 7, none⟩ (.slice ao n cap)).heap[w.heap.size + 1 + 1]? = some (.cells LA 54 (0, 0))) := by show _ = _; rw [hLA, hLL]; exact HR5.out.set 7 _
  have HYs : Hid ((w5.setCell ⟨w.heap.size + 1 + 1, 7, none⟩ (.slice ao n cap)).heap[w.heap.size + 1]? = some (.cells ZO 54 (0, 0))) := (heap_setCell_other w5 _ _ _ (by simp)).trans HY5.out
  have HUs : Hid (Upd (fun k => k = w.heap.size + 1 + 1) w5 (w5.setCell ⟨w.heap.size + 1 + 1, 7, none⟩ (.slice ao n cap))) := put1 (Upd.refl (fun k => k = w.heap.size + 1 + 1) w5) 7 _
  have hcc : w5.cell? ⟨w.heap.size + 1 + 1, 7, none⟩ = some ((base 0 0 0 0).getD 7 undef) := by rw [HR5.out.cell, HBLe.out]; rfl
  have hff : w5.frozen? ⟨w.heap.size + 1 + 1, 7, none⟩ = false := HR5.out.frozen 7
  have HLLe := Lib.hid hLL
  have HLAe := Lib.hid hLA
  clear hLL hLA
  go_wp2_with (first
    | ((with_reducible refine wpList_load_row (o := ⟨some 82, _, _, _, _, _⟩) ?_ 54 (.tmp 5) ?_ (w.heap.size + 1 + 1) ?_ 54 LA (0, 0) _ HRs.out Try.underlying54 ?_ HLs.out ?_); rfl; rfl; rfl; rfl)
    | ((with_reducible refine wpList_store_new (o := ⟨none, .store 54 (.tmp 4) (.tmp 82), _, _, _, _⟩) ?_ _ (.tmp 4) (.tmp 82) ?_ (w.heap.size + 1) LA ?_ ?_ 54 ZO HYs.out HLs.out HLz.out HL1.out ?_); rfl; rfl; rfl; rfl; intro w6 Hg6 Hu6))
  have HU56 : Hid (Upd (fun k => k = w.heap.size + 1 ∨ k = w.heap.size + 1 + 1) w5 w6) := (HUs.out.mono (fun k _ e => .inr e)).trans (Hu6.out.mono (fun k _ e => .inl (.inl e)))
  have HU46 : Hid (Upd (fun k => k = r ∨ k = w.heap.size + 1 ∨ k = w.heap.size + 1 + 1) w4 w6) := (HU5.out.mono (fun k _ e => .inl e)).trans (HU56.out.mono (fun k _ e => .inl (.inr e)))
  have HU6 : Hid (Upd (fun k => k = r) w w6) := (HU04.out.mono (fun _ _ e => e.elim)).trans (HU46.out.mono (fun k _ e => by
    rcases e with e | e | e
    · exact .inl e
    · exact .inr (by omega)
    · exact .inr (by omega)))
  refine bodyPost_ret (results_cell_row rfl _ _ (w.heap.size + 1) 54 LA (0, 0) _ rfl Hg6.out Try.underlying54 rfl HLs.out) rfl ?_
  have hrb := Hrb.out
  refine ⟨LL, by rw [HLAe.out], HLlen.out, HLone.out, ?_, HU6.out, ?_⟩
  · have h := Hrd5.out.upd HU56.out (by omega) (fun k hk => by have := Hvb.out k hk; omega)
    exact h
  · intro w' cs' o O hu' hh hk hv
    obtain ⟨k0, n0, many0, y0, ds0, xs0, st0, ss0, most0, each0⟩ := o
    obtain ⟨⟨x1, dv, x6, pv, lv, rfl, hd, hp, hpo, hs⟩, hn64⟩ := hh
    obtain ⟨dao, dcap, rfl, hd⟩ := hd
    obtain ⟨lao, lcap, rfl, hs⟩ := hs
    simp only at hk hd hp hs hn64
    subst hk
    have hs4 := HU34.out
    have hsl : Sl w5 (.slice ao n cap) xs := by have h := How.out; rw [Hn.out] at h ⊢; exact WriterW.Sl.of_row h
    have hlt : ∀ k, own (.slice ao n cap) k → w4.heap.size ≤ k ∧ k < w5.heap.size := fun k hk => How.out.lt k hk
    have hsl6 : Sl w6 (.slice ao n cap) xs := hsl.upd HU56.out (fun k hk => by have := (hlt k hk).1; omega)
    have hz56 := HU56.out.size
    have hv1 : xs = xs0 := by rw [Hxs.out]; exact hv.v7 rfl
    rw [HLLe.out, HBLe.out]
    subst hv1
    have hz' := hu'.size
    have hsl' : Sl w' (.slice ao n cap) xs := hsl6.upd hu' (fun k hk => by have := (hlt k hk).1; omega)
    obtain ⟨pao, pcap, rfl, _⟩ := id hp
    rw [Hn.out] at hsl' ⊢
    exact alike_7 pao ao xs.length pcap cap xs _ _ _ _ _ _ _ _ _ _ _ _ _ _ _ _ _ _ _ _ _ w' hp (el_of_sl hsl')

set_option maxHeartbeats 4000000 in
set_option maxRecDepth 100000 in
theorem again_9 (r : Nat) (rv : Value) (l : List UInt8) (s : Nat × Int) (cs : List Value) (many most each : Int) (w : World) (hr : Rd w r rv l s) (hl : l.length ≤ 140737488351232) (hcs : OpC cs (9, many, most, each)) :
    Calls Try.prog 39 #[.pointer (some ⟨r, 0, none⟩), .agg cs.toArray] w (AgainAt 9 most each many r rv l s w) := by
  have hrb : r < w.heap.size := lt_of_block hr.1
  have hvb : ∀ k, own rv k → k < w.heap.size := fun k hk => (hr.2.1.lt k hk).2
  obtain ⟨X, hX⟩ : ∃ X, X = cs.toArray := ⟨_, rfl⟩
  obtain ⟨w1, hw1⟩ : ∃ x, x = w.alloc (.cells X 54) := ⟨_, rfl⟩
  obtain ⟨w2, hw2⟩ : ∃ x, x = w1.alloc (.cells ZO 54) := ⟨_, rfl⟩
  obtain ⟨w3, hw3⟩ : ∃ x, x = w2.alloc (.cells ZO 54) := ⟨_, rfl⟩
  have hs1 : w1.heap.size = w.heap.size + 1 := by rw [hw1]; simp
  have hs2 : w2.heap.size = w.heap.size + 1 + 1 := by rw [hw2]; simp; omega
  have hs3 : w3.heap.size = w.heap.size + 3 := by rw [hw3]; simp; omega
  have hrow : w1.heap[w.heap.size]? = some (.cells cs.toArray 54 (0, 0)) := by rw [hw1, hX]; exact heap_alloc_new w _
  have hcell : ∀ i x, cs[i]? = some x → w1.cell? ⟨w.heap.size, i, none⟩ = some x := fun i x h => by rw [cell_of_row _ _ _ _ _ _ hrow]; simpa using h
  have hu01 : Upd (fun _ => False) w w1 := by rw [hw1]; exact (Upd.refl _ w).alloc _
  have hu12 : Upd (fun _ => False) w1 w2 := by rw [hw2]; exact (Upd.refl _ w1).alloc _
  have hu23 : Upd (fun _ => False) w2 w3 := by rw [hw3]; exact (Upd.refl _ w2).alloc _
  have hu13 : Upd (fun _ => False) w1 w3 := hu12.trans (hu23.mono (fun _ _ e => e.elim))
  have b0 : w2.cell? ⟨w.heap.size, 0, none⟩ = some (.int .i64 9) := hu12.cell (hcell 0 _ hcs.c0) id
  have b3 : w2.cell? ⟨w.heap.size, 3, none⟩ = some (.int .i64 many) := hu12.cell (hcell 3 _ hcs.c3) id
  have b10 : w2.cell? ⟨w.heap.size, 10, none⟩ = some (.int .i64 most) := hu12.cell (hcell 10 _ hcs.c10) id
  have b11 : w2.cell? ⟨w.heap.size, 11, none⟩ = some (.int .i64 each) := hu12.cell (hcell 11 _ hcs.c11) id
  have HB0 : Hid (∀ w', Upd (fun k => w.heap.size < k) w1 w' → w'.cell? ⟨w.heap.size, 0, none⟩ = some (.int .i64 9)) := fun w' hu => hu.cell (hcell 0 _ hcs.c0) (by simp)
  have HB3 : Hid (∀ w', Upd (fun k => w.heap.size < k) w1 w' → w'.cell? ⟨w.heap.size, 3, none⟩ = some (.int .i64 many)) := fun w' hu => hu.cell (hcell 3 _ hcs.c3) (by simp)
  have HB10 : Hid (∀ w', Upd (fun k => w.heap.size < k) w1 w' → w'.cell? ⟨w.heap.size, 10, none⟩ = some (.int .i64 most)) := fun w' hu => hu.cell (hcell 10 _ hcs.c10) (by simp)
  have HB11 : Hid (∀ w', Upd (fun k => w.heap.size < k) w1 w' → w'.cell? ⟨w.heap.size, 11, none⟩ = some (.int .i64 each)) := fun w' hu => hu.cell (hcell 11 _ hcs.c11) (by simp)
  have HZ3 : Hid (w3.heap[w.heap.size + 1 + 1]? = some (.cells ZO 54 (0, 0))) := by show _ = _; rw [← hs2, hw3]; exact heap_alloc_new w2 _
  have HY3 : Hid (w3.heap[w.heap.size + 1]? = some (.cells ZO 54 (0, 0))) := by
    have h : w2.heap[w.heap.size + 1]? = some (.cells ZO 54 (0, 0)) := by rw [← hs1, hw2]; exact heap_alloc_new w1 _
    exact (hu23.block _ (by omega) id).trans h
  obtain ⟨BL, hBL⟩ : ∃ x, x = base 9 many most each := ⟨_, rfl⟩
  have hBA : ((((ZO.setIfInBounds 0 (.int .i64 9)).setIfInBounds 10 (.int .i64 most)).setIfInBounds 11 (.int .i64 each)).setIfInBounds 3 (.int .i64 many)) = BL.toArray := by rw [hBL]; exact set_base 9 many most each
  have HBs : Hid ((Try.prog.info? 54).map (·.size) = some (((((ZO.setIfInBounds 0 (.int .i64 9)).setIfInBounds 10 (.int .i64 most)).setIfInBounds 11 (.int .i64 each)).setIfInBounds 3 (.int .i64 many))).size) := by show _ = _; rw [hBA, sizeO, hBL]; rfl
  have HBl : Hid (ZO.size = (((((ZO.setIfInBounds 0 (.int .i64 9)).setIfInBounds 10 (.int .i64 most)).setIfInBounds 11 (.int .i64 each)).setIfInBounds 3 (.int .i64 many))).size) := by show _ = _; rw [hBA, hBL]; rfl
  have HB1 : Hid ((((((ZO.setIfInBounds 0 (.int .i64 9)).setIfInBounds 10 (.int .i64 most)).setIfInBounds 11 (.int .i64 each)).setIfInBounds 3 (.int .i64 many))).all (·.oneCell') = true) := by show _ = _; rw [hBA, hBL]; simpa using base_one 9 many most each
  have HBA := Lib.hid hBA
  have HBLe := Lib.hid hBL
  have Hr := Lib.hid hr
  have Hl := Lib.hid hl
  have Hrb := Lib.hid hrb
  have Hvb := Lib.hid hvb
  have Hs3 := Lib.hid hs3
  have HU13 : Hid (Upd (fun k => w.heap.size < k) w1 w3) := hu13.mono (fun _ _ e => e.elim)
  have HU03 : Hid (Upd (fun _ => False) w w3) := hu01.trans (hu13.mono (fun _ _ e => e.elim))
  have hz := zeroO
  rw [← hX]
  subst hw3
  subst hw2
  subst hw1
  clear hX hs1 hs2 hs3 hrow hcell hu01 hu12 hu23 hu13 hcs hBL hBA hr hl hrb hvb
  go_enter Try.func39, Try.ntmps39
  go_wp2_with (first
    | ((with_reducible refine wpList_store_new (o := ⟨none, .store 54 (.tmp 5) (.tmp 14), _, _, _, _⟩) ?_ _ (.tmp 5) (.tmp 14) ?_ (w.heap.size + 1 + 1) ((((ZO.setIfInBounds 0 (.int .i64 9)).setIfInBounds 10 (.int .i64 most)).setIfInBounds 11 (.int .i64 each)).setIfInBounds 3 (.int .i64 many)) ?_ ?_ 54 ZO HZ3.out HBs.out HBl.out HB1.out ?_); rfl; rfl; rfl; rfl; intro w4 Hg4 Hu4; clear b0 b3 b10 b11; have HU14 : Hid (Upd (fun k => w.heap.size < k) _ w4) := HU13.out.trans (Hu4.out.mono (fun k _ e => .inl (by omega))); have b0 := HB0.out w4 HU14.out; have b3 := HB3.out w4 HU14.out; have b10 := HB10.out w4 HU14.out; have b11 := HB11.out w4 HU14.out))
  have HU04 : Hid (Upd (fun _ => False) w w4) := HU03.out.trans (Hu4.out.mono (fun k _ e => .inr (by omega)))
  have HY4 : Hid (w4.heap[w.heap.size + 1]? = some (.cells ZO 54 (0, 0))) := (Hu4.out.block _ (lt_of_block HY3.out) (by omega)).trans HY3.out
  have HR4 : Hid (Row w4 (w.heap.size + 1 + 1) 54 BL) := by show _ = _; rw [← HBA.out]; exact Hg4.out
  have Hrd4 : Hid (Rd w4 r rv l s) := Hr.out.upd HU04.out id (fun _ _ => id)
  have HU34 : Hid (w.heap.size + 3 ≤ w4.heap.size) := by have h := Hu4.out.size; have h3 := Hs3.out; rw [h3] at h; exact h
  refine (ReadB.rbytes_any most r rv l s w4 Hrd4.out (by have := Hl.out; omega)).mono ?_
  rintro e w5 ⟨ao, cap, rfl, how, hrd5, hu5⟩
  obtain ⟨xs, hxs⟩ : ∃ t, t = (bytM most l s).1 := ⟨_, rfl⟩
  rw [← hxs] at how ⊢
  obtain ⟨n, hn⟩ : ∃ n, n = xs.length := ⟨_, rfl⟩
  rw [← hn] at how ⊢
  have Hxs := Lib.hid hxs
  have Hn := Lib.hid hn
  have How := Lib.hid how
  clear how hxs hn
  have Hrd5 : Hid (Rd w5 r rv l (stepM 9 most each many l s)) := hrd5
  have HU5 := Lib.hid hu5
  clear hrd5 hu5
  have HR5 : Hid (Row w5 (w.heap.size + 1 + 1) 54 BL) := HR4.out.upd HU5.out (by have := Hrb.out; omega)
  have HY5 : Hid (w5.heap[w.heap.size + 1]? = some (.cells ZO 54 (0, 0))) := (HU5.out.block _ (lt_of_block HY4.out) (by have := Hrb.out; omega)).trans HY4.out
  obtain ⟨LL, hLL⟩ : ∃ x, x = BL.set 7 (.slice ao n cap) := ⟨_, rfl⟩
  obtain ⟨LA, hLA⟩ : ∃ x, x = LL.toArray := ⟨_, rfl⟩
  have HLlen : Hid (LL.length = 12) := by show _ = _; rw [hLL, List.length_set, HBLe.out]; rfl
  have HLone : Hid (LL.all (·.oneCell') = true) := by show _ = _; rw [hLL, HBLe.out]; exact set_one (base_one _ _ _ _) rfl
  have HLs : Hid ((Try.prog.info? 54).map (·.size) = some LA.size) := by show _ = _; rw [sizeO, hLA]; simp [HLlen.out]
  have HLz : Hid (ZO.size = LA.size) := by show _ = _; rw [hLA]; simp [HLlen.out, ZO]
  have HL1 : Hid (LA.all (·.oneCell') = true) := by show _ = _; rw [hLA]; simpa using HLone.out
  have HRs : Hid ((w5.setCell ⟨w.heap.size + 1 + 1, 7, none⟩ (.slice ao n cap)).heap[w.heap.size + 1 + 1]? = some (.cells LA 54 (0, 0))) := by show _ = _; rw [hLA, hLL]; exact HR5.out.set 7 _
  have HYs : Hid ((w5.setCell ⟨w.heap.size + 1 + 1, 7, none⟩ (.slice ao n cap)).heap[w.heap.size + 1]? = some (.cells ZO 54 (0, 0))) := (heap_setCell_other w5 _ _ _ (by simp)).trans HY5.out
  have HUs : Hid (Upd (fun k => k = w.heap.size + 1 + 1) w5 (w5.setCell ⟨w.heap.size + 1 + 1, 7, none⟩ (.slice ao n cap))) := put1 (Upd.refl (fun k => k = w.heap.size + 1 + 1) w5) 7 _
  have hcc : w5.cell? ⟨w.heap.size + 1 + 1, 7, none⟩ = some ((base 0 0 0 0).getD 7 undef) := by rw [HR5.out.cell, HBLe.out]; rfl
  have hff : w5.frozen? ⟨w.heap.size + 1 + 1, 7, none⟩ = false := HR5.out.frozen 7
  have HLLe := Lib.hid hLL
  have HLAe := Lib.hid hLA
  clear hLL hLA
  go_wp2_with (first
    | ((with_reducible refine wpList_load_row (o := ⟨some 82, _, _, _, _, _⟩) ?_ 54 (.tmp 5) ?_ (w.heap.size + 1 + 1) ?_ 54 LA (0, 0) _ HRs.out Try.underlying54 ?_ HLs.out ?_); rfl; rfl; rfl; rfl)
    | ((with_reducible refine wpList_store_new (o := ⟨none, .store 54 (.tmp 4) (.tmp 82), _, _, _, _⟩) ?_ _ (.tmp 4) (.tmp 82) ?_ (w.heap.size + 1) LA ?_ ?_ 54 ZO HYs.out HLs.out HLz.out HL1.out ?_); rfl; rfl; rfl; rfl; intro w6 Hg6 Hu6))
  have HU56 : Hid (Upd (fun k => k = w.heap.size + 1 ∨ k = w.heap.size + 1 + 1) w5 w6) := (HUs.out.mono (fun k _ e => .inr e)).trans (Hu6.out.mono (fun k _ e => .inl (.inl e)))
  have HU46 : Hid (Upd (fun k => k = r ∨ k = w.heap.size + 1 ∨ k = w.heap.size + 1 + 1) w4 w6) := (HU5.out.mono (fun k _ e => .inl e)).trans (HU56.out.mono (fun k _ e => .inl (.inr e)))
  have HU6 : Hid (Upd (fun k => k = r) w w6) := (HU04.out.mono (fun _ _ e => e.elim)).trans (HU46.out.mono (fun k _ e => by
    rcases e with e | e | e
    · exact .inl e
    · exact .inr (by omega)
    · exact .inr (by omega)))
  refine bodyPost_ret (results_cell_row rfl _ _ (w.heap.size + 1) 54 LA (0, 0) _ rfl Hg6.out Try.underlying54 rfl HLs.out) rfl ?_
  have hrb := Hrb.out
  refine ⟨LL, by rw [HLAe.out], HLlen.out, HLone.out, ?_, HU6.out, ?_⟩
  · have h := Hrd5.out.upd HU56.out (by omega) (fun k hk => by have := Hvb.out k hk; omega)
    exact h
  · intro w' cs' o O hu' hh hk hv
    obtain ⟨k0, n0, many0, y0, ds0, xs0, st0, ss0, most0, each0⟩ := o
    obtain ⟨⟨x1, dv, x6, pv, lv, rfl, hd, hp, hpo, hs⟩, hn64⟩ := hh
    obtain ⟨dao, dcap, rfl, hd⟩ := hd
    obtain ⟨lao, lcap, rfl, hs⟩ := hs
    simp only at hk hd hp hs hn64
    subst hk
    have hs4 := HU34.out
    have hsl : Sl w5 (.slice ao n cap) xs := by have h := How.out; rw [Hn.out] at h ⊢; exact WriterW.Sl.of_row h
    have hlt : ∀ k, own (.slice ao n cap) k → w4.heap.size ≤ k ∧ k < w5.heap.size := fun k hk => How.out.lt k hk
    have hsl6 : Sl w6 (.slice ao n cap) xs := hsl.upd HU56.out (fun k hk => by have := (hlt k hk).1; omega)
    have hz56 := HU56.out.size
    have hv1 : xs = xs0 := by rw [Hxs.out]; exact hv.v9 rfl
    rw [HLLe.out, HBLe.out]
    subst hv1
    have hsl' : Sl w' (.slice ao n cap) xs := hsl6.upd hu' (fun k hk => by have := (hlt k hk).1; omega)
    obtain ⟨pao, pcap, rfl, _⟩ := id hp
    rw [Hn.out] at hsl' ⊢
    exact alike_9 pao ao xs.length pcap cap xs _ _ _ _ _ _ _ _ _ _ _ _ _ _ _ _ _ _ _ _ _ w' hp (el_of_sl hsl')

set_option maxHeartbeats 4000000 in
set_option maxRecDepth 100000 in
theorem again_6 (r : Nat) (rv : Value) (l : List UInt8) (s : Nat × Int) (cs : List Value) (many most each : Int) (w : World) (hr : Rd w r rv l s) (hl : l.length ≤ 140737488351232) (hcs : OpC cs (6, many, most, each)) :
    Calls Try.prog 39 #[.pointer (some ⟨r, 0, none⟩), .agg cs.toArray] w (AgainAt 6 most each many r rv l s w) := by
  have hrb : r < w.heap.size := lt_of_block hr.1
  have hvb : ∀ k, own rv k → k < w.heap.size := fun k hk => (hr.2.1.lt k hk).2
  obtain ⟨X, hX⟩ : ∃ X, X = cs.toArray := ⟨_, rfl⟩
  obtain ⟨w1, hw1⟩ : ∃ x, x = w.alloc (.cells X 54) := ⟨_, rfl⟩
  obtain ⟨w2, hw2⟩ : ∃ x, x = w1.alloc (.cells ZO 54) := ⟨_, rfl⟩
  obtain ⟨w3, hw3⟩ : ∃ x, x = w2.alloc (.cells ZO 54) := ⟨_, rfl⟩
  have hs1 : w1.heap.size = w.heap.size + 1 := by rw [hw1]; simp
  have hs2 : w2.heap.size = w.heap.size + 1 + 1 := by rw [hw2]; simp; omega
  have hs3 : w3.heap.size = w.heap.size + 3 := by rw [hw3]; simp; omega
  have hrow : w1.heap[w.heap.size]? = some (.cells cs.toArray 54 (0, 0)) := by rw [hw1, hX]; exact heap_alloc_new w _
  have hcell : ∀ i x, cs[i]? = some x → w1.cell? ⟨w.heap.size, i, none⟩ = some x := fun i x h => by rw [cell_of_row _ _ _ _ _ _ hrow]; simpa using h
  have hu01 : Upd (fun _ => False) w w1 := by rw [hw1]; exact (Upd.refl _ w).alloc _
  have hu12 : Upd (fun _ => False) w1 w2 := by rw [hw2]; exact (Upd.refl _ w1).alloc _
  have hu23 : Upd (fun _ => False) w2 w3 := by rw [hw3]; exact (Upd.refl _ w2).alloc _
  have hu13 : Upd (fun _ => False) w1 w3 := hu12.trans (hu23.mono (fun _ _ e => e.elim))
  have b0 : w2.cell? ⟨w.heap.size, 0, none⟩ = some (.int .i64 6) := hu12.cell (hcell 0 _ hcs.c0) id
  have b3 : w2.cell? ⟨w.heap.size, 3, none⟩ = some (.int .i64 many) := hu12.cell (hcell 3 _ hcs.c3) id
  have b10 : w2.cell? ⟨w.heap.size, 10, none⟩ = some (.int .i64 most) := hu12.cell (hcell 10 _ hcs.c10) id
  have b11 : w2.cell? ⟨w.heap.size, 11, none⟩ = some (.int .i64 each) := hu12.cell (hcell 11 _ hcs.c11) id
  have HB0 : Hid (∀ w', Upd (fun k => w.heap.size < k) w1 w' → w'.cell? ⟨w.heap.size, 0, none⟩ = some (.int .i64 6)) := fun w' hu => hu.cell (hcell 0 _ hcs.c0) (by simp)
  have HB3 : Hid (∀ w', Upd (fun k => w.heap.size < k) w1 w' → w'.cell? ⟨w.heap.size, 3, none⟩ = some (.int .i64 many)) := fun w' hu => hu.cell (hcell 3 _ hcs.c3) (by simp)
  have HB10 : Hid (∀ w', Upd (fun k => w.heap.size < k) w1 w' → w'.cell? ⟨w.heap.size, 10, none⟩ = some (.int .i64 most)) := fun w' hu => hu.cell (hcell 10 _ hcs.c10) (by simp)
  have HB11 : Hid (∀ w', Upd (fun k => w.heap.size < k) w1 w' → w'.cell? ⟨w.heap.size, 11, none⟩ = some (.int .i64 each)) := fun w' hu => hu.cell (hcell 11 _ hcs.c11) (by simp)
  have HZ3 : Hid (w3.heap[w.heap.size + 1 + 1]? = some (.cells ZO 54 (0, 0))) := by show _ = _; rw [← hs2, hw3]; exact heap_alloc_new w2 _
  have HY3 : Hid (w3.heap[w.heap.size + 1]? = some (.cells ZO 54 (0, 0))) := by
    have h : w2.heap[w.heap.size + 1]? = some (.cells ZO 54 (0, 0)) := by rw [← hs1, hw2]; exact heap_alloc_new w1 _
    exact (hu23.block _ (by omega) id).trans h
  obtain ⟨BL, hBL⟩ : ∃ x, x = base 6 many most each := ⟨_, rfl⟩
  have hBA : ((((ZO.setIfInBounds 0 (.int .i64 6)).setIfInBounds 10 (.int .i64 most)).setIfInBounds 11 (.int .i64 each)).setIfInBounds 3 (.int .i64 many)) = BL.toArray := by rw [hBL]; exact set_base 6 many most each
  have HBs : Hid ((Try.prog.info? 54).map (·.size) = some (((((ZO.setIfInBounds 0 (.int .i64 6)).setIfInBounds 10 (.int .i64 most)).setIfInBounds 11 (.int .i64 each)).setIfInBounds 3 (.int .i64 many))).size) := by show _ = _; rw [hBA, sizeO, hBL]; rfl
  have HBl : Hid (ZO.size = (((((ZO.setIfInBounds 0 (.int .i64 6)).setIfInBounds 10 (.int .i64 most)).setIfInBounds 11 (.int .i64 each)).setIfInBounds 3 (.int .i64 many))).size) := by show _ = _; rw [hBA, hBL]; rfl
  have HB1 : Hid ((((((ZO.setIfInBounds 0 (.int .i64 6)).setIfInBounds 10 (.int .i64 most)).setIfInBounds 11 (.int .i64 each)).setIfInBounds 3 (.int .i64 many))).all (·.oneCell') = true) := by show _ = _; rw [hBA, hBL]; simpa using base_one 6 many most each
  have HBA := Lib.hid hBA
  have HBLe := Lib.hid hBL
  have Hr := Lib.hid hr
  have Hl := Lib.hid hl
  have Hrb := Lib.hid hrb
  have Hvb := Lib.hid hvb
  have Hs3 := Lib.hid hs3
  have HU13 : Hid (Upd (fun k => w.heap.size < k) w1 w3) := hu13.mono (fun _ _ e => e.elim)
  have HU03 : Hid (Upd (fun _ => False) w w3) := hu01.trans (hu13.mono (fun _ _ e => e.elim))
  have hz := zeroO
  rw [← hX]
  subst hw3
  subst hw2
  subst hw1
  clear hX hs1 hs2 hs3 hrow hcell hu01 hu12 hu23 hu13 hcs hBL hBA hr hl hrb hvb
  go_enter Try.func39, Try.ntmps39
  go_wp2_with (first
    | ((with_reducible refine wpList_store_new (o := ⟨none, .store 54 (.tmp 5) (.tmp 14), _, _, _, _⟩) ?_ _ (.tmp 5) (.tmp 14) ?_ (w.heap.size + 1 + 1) ((((ZO.setIfInBounds 0 (.int .i64 6)).setIfInBounds 10 (.int .i64 most)).setIfInBounds 11 (.int .i64 each)).setIfInBounds 3 (.int .i64 many)) ?_ ?_ 54 ZO HZ3.out HBs.out HBl.out HB1.out ?_); rfl; rfl; rfl; rfl; intro w4 Hg4 Hu4; clear b0 b3 b10 b11; have HU14 : Hid (Upd (fun k => w.heap.size < k) _ w4) := HU13.out.trans (Hu4.out.mono (fun k _ e => .inl (by omega))); have b0 := HB0.out w4 HU14.out; have b3 := HB3.out w4 HU14.out; have b10 := HB10.out w4 HU14.out; have b11 := HB11.out w4 HU14.out))
  have HU04 : Hid (Upd (fun _ => False) w w4) := HU03.out.trans (Hu4.out.mono (fun k _ e => .inr (by omega)))
  have HY4 : Hid (w4.heap[w.heap.size + 1]? = some (.cells ZO 54 (0, 0))) := (Hu4.out.block _ (lt_of_block HY3.out) (by omega)).trans HY3.out
  have HR4 : Hid (Row w4 (w.heap.size + 1 + 1) 54 BL) := by show _ = _; rw [← HBA.out]; exact Hg4.out
  have Hrd4 : Hid (Rd w4 r rv l s) := Hr.out.upd HU04.out id (fun _ _ => id)
  have HU34 : Hid (w.heap.size + 3 ≤ w4.heap.size) := by have h := Hu4.out.size; have h3 := Hs3.out; rw [h3] at h; exact h
  refine (rdigests_any many r rv l s w4 Hrd4.out (by have := Hl.out; omega)).mono ?_
  rintro e w5 ⟨ao, cap, rfl, how, h32, hrd5, hu5⟩
  obtain ⟨ds, hds⟩ : ∃ t, t = (dgsM many l s).1 := ⟨_, rfl⟩
  rw [← hds] at how h32 ⊢
  obtain ⟨n, hn⟩ : ∃ n, n = ds.length := ⟨_, rfl⟩
  rw [← hn] at how ⊢
  have Hds := Lib.hid hds
  have Hn := Lib.hid hn
  have How := Lib.hid how
  have H32 := Lib.hid h32
  clear how hds hn h32
  have Hrd5 : Hid (Rd w5 r rv l (stepM 6 most each many l s)) := hrd5
  have HU5 := Lib.hid hu5
  clear hrd5 hu5
  have HR5 : Hid (Row w5 (w.heap.size + 1 + 1) 54 BL) := HR4.out.upd HU5.out (by have := Hrb.out; omega)
  have HY5 : Hid (w5.heap[w.heap.size + 1]? = some (.cells ZO 54 (0, 0))) := (HU5.out.block _ (lt_of_block HY4.out) (by have := Hrb.out; omega)).trans HY4.out
  obtain ⟨LL, hLL⟩ : ∃ x, x = BL.set 5 (.slice ao n cap) := ⟨_, rfl⟩
  obtain ⟨LA, hLA⟩ : ∃ x, x = LL.toArray := ⟨_, rfl⟩
  have HLlen : Hid (LL.length = 12) := by show _ = _; rw [hLL, List.length_set, HBLe.out]; rfl
  have HLone : Hid (LL.all (·.oneCell') = true) := by show _ = _; rw [hLL, HBLe.out]; exact set_one (base_one _ _ _ _) rfl
  have HLs : Hid ((Try.prog.info? 54).map (·.size) = some LA.size) := by show _ = _; rw [sizeO, hLA]; simp [HLlen.out]
  have HLz : Hid (ZO.size = LA.size) := by show _ = _; rw [hLA]; simp [HLlen.out, ZO]
  have HL1 : Hid (LA.all (·.oneCell') = true) := by show _ = _; rw [hLA]; simpa using HLone.out
  have HRs : Hid ((w5.setCell ⟨w.heap.size + 1 + 1, 5, none⟩ (.slice ao n cap)).heap[w.heap.size + 1 + 1]? = some (.cells LA 54 (0, 0))) := by show _ = _; rw [hLA, hLL]; exact HR5.out.set 5 _
  have HYs : Hid ((w5.setCell ⟨w.heap.size + 1 + 1, 5, none⟩ (.slice ao n cap)).heap[w.heap.size + 1]? = some (.cells ZO 54 (0, 0))) := (heap_setCell_other w5 _ _ _ (by simp)).trans HY5.out
  have HUs : Hid (Upd (fun k => k = w.heap.size + 1 + 1) w5 (w5.setCell ⟨w.heap.size + 1 + 1, 5, none⟩ (.slice ao n cap))) := put1 (Upd.refl (fun k => k = w.heap.size + 1 + 1) w5) 5 _
  have hcc : w5.cell? ⟨w.heap.size + 1 + 1, 5, none⟩ = some ((base 0 0 0 0).getD 5 undef) := by rw [HR5.out.cell, HBLe.out]; rfl
  have hff : w5.frozen? ⟨w.heap.size + 1 + 1, 5, none⟩ = false := HR5.out.frozen 5
  have HLLe := Lib.hid hLL
  have HLAe := Lib.hid hLA
  clear hLL hLA
  go_wp2_with (first
    | ((with_reducible refine wpList_load_row (o := ⟨some 82, _, _, _, _, _⟩) ?_ 54 (.tmp 5) ?_ (w.heap.size + 1 + 1) ?_ 54 LA (0, 0) _ HRs.out Try.underlying54 ?_ HLs.out ?_); rfl; rfl; rfl; rfl)
    | ((with_reducible refine wpList_store_new (o := ⟨none, .store 54 (.tmp 4) (.tmp 82), _, _, _, _⟩) ?_ _ (.tmp 4) (.tmp 82) ?_ (w.heap.size + 1) LA ?_ ?_ 54 ZO HYs.out HLs.out HLz.out HL1.out ?_); rfl; rfl; rfl; rfl; intro w6 Hg6 Hu6))
  have HU56 : Hid (Upd (fun k => k = w.heap.size + 1 ∨ k = w.heap.size + 1 + 1) w5 w6) := (HUs.out.mono (fun k _ e => .inr e)).trans (Hu6.out.mono (fun k _ e => .inl (.inl e)))
  have HU46 : Hid (Upd (fun k => k = r ∨ k = w.heap.size + 1 ∨ k = w.heap.size + 1 + 1) w4 w6) := (HU5.out.mono (fun k _ e => .inl e)).trans (HU56.out.mono (fun k _ e => .inl (.inr e)))
  have HU6 : Hid (Upd (fun k => k = r) w w6) := (HU04.out.mono (fun _ _ e => e.elim)).trans (HU46.out.mono (fun k _ e => by
    rcases e with e | e | e
    · exact .inl e
    · exact .inr (by omega)
    · exact .inr (by omega)))
  refine bodyPost_ret (results_cell_row rfl _ _ (w.heap.size + 1) 54 LA (0, 0) _ rfl Hg6.out Try.underlying54 rfl HLs.out) rfl ?_
  have hrb := Hrb.out
  refine ⟨LL, by rw [HLAe.out], HLlen.out, HLone.out, ?_, HU6.out, ?_⟩
  · have h := Hrd5.out.upd HU56.out (by omega) (fun k hk => by have := Hvb.out k hk; omega)
    exact h
  · intro w' cs' o O hu' hh hk hv
    obtain ⟨k0, n0, many0, y0, ds0, xs0, st0, ss0, most0, each0⟩ := o
    obtain ⟨⟨x1, dv, x6, pv, lv, rfl, hd, hp, hpo, hs⟩, hn64⟩ := hh
    obtain ⟨dao, dcap, rfl, hd⟩ := hd
    obtain ⟨lao, lcap, rfl, hs⟩ := hs
    simp only at hk hd hp hs hn64
    subst hk
    have hs4 := HU34.out
    have hdg : DgL w5 (.slice ao n cap) ds (own (.slice ao n cap)) := by have h := How.out; rw [Hn.out] at h ⊢; exact dgl_own h H32.out
    have hlt : ∀ k, own (.slice ao n cap) k → w4.heap.size ≤ k ∧ k < w5.heap.size := fun k hk => How.out.lt k hk
    have hdg6 : DgL w6 (.slice ao n cap) ds (own (.slice ao n cap)) := hdg.upd HU56.out (fun k hk => by have := (hlt k hk).1; omega)
    have hz56 := HU56.out.size
    have hv1 : ds = ds0 := by rw [Hds.out]; exact hv.v6 rfl
    rw [HLLe.out, HBLe.out]
    subst hv1
    have hdg' : DgL w' (.slice ao n cap) ds (own (.slice ao n cap)) := hdg6.upd hu' (fun k hk => by have := (hlt k hk).1; omega)
    have hb6 := hv.b6 rfl
    rw [Hn.out] at hdg' ⊢
    exact alike_6 dao ao ds.length dcap cap ds O _ _ _ _ _ _ _ _ _ _ _ _ _ _ _ _ _ _ _ _ _ _ w' rfl hd (fun _ => hdg') hb6

set_option maxHeartbeats 4000000 in
set_option maxRecDepth 100000 in
theorem again_10 (r : Nat) (rv : Value) (l : List UInt8) (s : Nat × Int) (cs : List Value) (many most each : Int) (w : World) (hr : Rd w r rv l s) (hl : l.length ≤ 140737488351232) (hcs : OpC cs (10, many, most, each)) :
    Calls Try.prog 39 #[.pointer (some ⟨r, 0, none⟩), .agg cs.toArray] w (AgainAt 10 most each many r rv l s w) := by
  have hrb : r < w.heap.size := lt_of_block hr.1
  have hvb : ∀ k, own rv k → k < w.heap.size := fun k hk => (hr.2.1.lt k hk).2
  obtain ⟨X, hX⟩ : ∃ X, X = cs.toArray := ⟨_, rfl⟩
  obtain ⟨w1, hw1⟩ : ∃ x, x = w.alloc (.cells X 54) := ⟨_, rfl⟩
  obtain ⟨w2, hw2⟩ : ∃ x, x = w1.alloc (.cells ZO 54) := ⟨_, rfl⟩
  obtain ⟨w3, hw3⟩ : ∃ x, x = w2.alloc (.cells ZO 54) := ⟨_, rfl⟩
  have hs1 : w1.heap.size = w.heap.size + 1 := by rw [hw1]; simp
  have hs2 : w2.heap.size = w.heap.size + 1 + 1 := by rw [hw2]; simp; omega
  have hs3 : w3.heap.size = w.heap.size + 3 := by rw [hw3]; simp; omega
  have hrow : w1.heap[w.heap.size]? = some (.cells cs.toArray 54 (0, 0)) := by rw [hw1, hX]; exact heap_alloc_new w _
  have hcell : ∀ i x, cs[i]? = some x → w1.cell? ⟨w.heap.size, i, none⟩ = some x := fun i x h => by rw [cell_of_row _ _ _ _ _ _ hrow]; simpa using h
  have hu01 : Upd (fun _ => False) w w1 := by rw [hw1]; exact (Upd.refl _ w).alloc _
  have hu12 : Upd (fun _ => False) w1 w2 := by rw [hw2]; exact (Upd.refl _ w1).alloc _
  have hu23 : Upd (fun _ => False) w2 w3 := by rw [hw3]; exact (Upd.refl _ w2).alloc _
  have hu13 : Upd (fun _ => False) w1 w3 := hu12.trans (hu23.mono (fun _ _ e => e.elim))
  have b0 : w2.cell? ⟨w.heap.size, 0, none⟩ = some (.int .i64 10) := hu12.cell (hcell 0 _ hcs.c0) id
  have b3 : w2.cell? ⟨w.heap.size, 3, none⟩ = some (.int .i64 many) := hu12.cell (hcell 3 _ hcs.c3) id
  have b10 : w2.cell? ⟨w.heap.size, 10, none⟩ = some (.int .i64 most) := hu12.cell (hcell 10 _ hcs.c10) id
  have b11 : w2.cell? ⟨w.heap.size, 11, none⟩ = some (.int .i64 each) := hu12.cell (hcell 11 _ hcs.c11) id
  have HB0 : Hid (∀ w', Upd (fun k => w.heap.size < k) w1 w' → w'.cell? ⟨w.heap.size, 0, none⟩ = some (.int .i64 10)) := fun w' hu => hu.cell (hcell 0 _ hcs.c0) (by simp)
  have HB3 : Hid (∀ w', Upd (fun k => w.heap.size < k) w1 w' → w'.cell? ⟨w.heap.size, 3, none⟩ = some (.int .i64 many)) := fun w' hu => hu.cell (hcell 3 _ hcs.c3) (by simp)
  have HB10 : Hid (∀ w', Upd (fun k => w.heap.size < k) w1 w' → w'.cell? ⟨w.heap.size, 10, none⟩ = some (.int .i64 most)) := fun w' hu => hu.cell (hcell 10 _ hcs.c10) (by simp)
  have HB11 : Hid (∀ w', Upd (fun k => w.heap.size < k) w1 w' → w'.cell? ⟨w.heap.size, 11, none⟩ = some (.int .i64 each)) := fun w' hu => hu.cell (hcell 11 _ hcs.c11) (by simp)
  have HZ3 : Hid (w3.heap[w.heap.size + 1 + 1]? = some (.cells ZO 54 (0, 0))) := by show _ = _; rw [← hs2, hw3]; exact heap_alloc_new w2 _
  have HY3 : Hid (w3.heap[w.heap.size + 1]? = some (.cells ZO 54 (0, 0))) := by
    have h : w2.heap[w.heap.size + 1]? = some (.cells ZO 54 (0, 0)) := by rw [← hs1, hw2]; exact heap_alloc_new w1 _
    exact (hu23.block _ (by omega) id).trans h
  obtain ⟨BL, hBL⟩ : ∃ x, x = base 10 many most each := ⟨_, rfl⟩
  have hBA : ((((ZO.setIfInBounds 0 (.int .i64 10)).setIfInBounds 10 (.int .i64 most)).setIfInBounds 11 (.int .i64 each)).setIfInBounds 3 (.int .i64 many)) = BL.toArray := by rw [hBL]; exact set_base 10 many most each
  have HBs : Hid ((Try.prog.info? 54).map (·.size) = some (((((ZO.setIfInBounds 0 (.int .i64 10)).setIfInBounds 10 (.int .i64 most)).setIfInBounds 11 (.int .i64 each)).setIfInBounds 3 (.int .i64 many))).size) := by show _ = _; rw [hBA, sizeO, hBL]; rfl
  have HBl : Hid (ZO.size = (((((ZO.setIfInBounds 0 (.int .i64 10)).setIfInBounds 10 (.int .i64 most)).setIfInBounds 11 (.int .i64 each)).setIfInBounds 3 (.int .i64 many))).size) := by show _ = _; rw [hBA, hBL]; rfl
  have HB1 : Hid ((((((ZO.setIfInBounds 0 (.int .i64 10)).setIfInBounds 10 (.int .i64 most)).setIfInBounds 11 (.int .i64 each)).setIfInBounds 3 (.int .i64 many))).all (·.oneCell') = true) := by show _ = _; rw [hBA, hBL]; simpa using base_one 10 many most each
  have HBA := Lib.hid hBA
  have HBLe := Lib.hid hBL
  have Hr := Lib.hid hr
  have Hl := Lib.hid hl
  have Hrb := Lib.hid hrb
  have Hvb := Lib.hid hvb
  have Hs3 := Lib.hid hs3
  have HU13 : Hid (Upd (fun k => w.heap.size < k) w1 w3) := hu13.mono (fun _ _ e => e.elim)
  have HU03 : Hid (Upd (fun _ => False) w w3) := hu01.trans (hu13.mono (fun _ _ e => e.elim))
  have hz := zeroO
  rw [← hX]
  subst hw3
  subst hw2
  subst hw1
  clear hX hs1 hs2 hs3 hrow hcell hu01 hu12 hu23 hu13 hcs hBL hBA hr hl hrb hvb
  go_enter Try.func39, Try.ntmps39
  go_wp2_with (first
    | ((with_reducible refine wpList_store_new (o := ⟨none, .store 54 (.tmp 5) (.tmp 14), _, _, _, _⟩) ?_ _ (.tmp 5) (.tmp 14) ?_ (w.heap.size + 1 + 1) ((((ZO.setIfInBounds 0 (.int .i64 10)).setIfInBounds 10 (.int .i64 most)).setIfInBounds 11 (.int .i64 each)).setIfInBounds 3 (.int .i64 many)) ?_ ?_ 54 ZO HZ3.out HBs.out HBl.out HB1.out ?_); rfl; rfl; rfl; rfl; intro w4 Hg4 Hu4; clear b0 b3 b10 b11; have HU14 : Hid (Upd (fun k => w.heap.size < k) _ w4) := HU13.out.trans (Hu4.out.mono (fun k _ e => .inl (by omega))); have b0 := HB0.out w4 HU14.out; have b3 := HB3.out w4 HU14.out; have b10 := HB10.out w4 HU14.out; have b11 := HB11.out w4 HU14.out))
  have HU04 : Hid (Upd (fun _ => False) w w4) := HU03.out.trans (Hu4.out.mono (fun k _ e => .inr (by omega)))
  have HY4 : Hid (w4.heap[w.heap.size + 1]? = some (.cells ZO 54 (0, 0))) := (Hu4.out.block _ (lt_of_block HY3.out) (by omega)).trans HY3.out
  have HR4 : Hid (Row w4 (w.heap.size + 1 + 1) 54 BL) := by show _ = _; rw [← HBA.out]; exact Hg4.out
  have Hrd4 : Hid (Rd w4 r rv l s) := Hr.out.upd HU04.out id (fun _ _ => id)
  have HU34 : Hid (w.heap.size + 3 ≤ w4.heap.size) := by have h := Hu4.out.size; have h3 := Hs3.out; rw [h3] at h; exact h
  refine (rtexts_any most each r rv l s w4 Hrd4.out (by have := Hl.out; omega)).mono ?_
  rintro e w5 ⟨ao, cap, rfl, how, hrd5, hu5⟩
  obtain ⟨ss, hss⟩ : ∃ t, t = (tsM most each l s).1 := ⟨_, rfl⟩
  rw [← hss] at how ⊢
  obtain ⟨n, hn⟩ : ∃ n, n = ss.length := ⟨_, rfl⟩
  rw [← hn] at how ⊢
  have Hss := Lib.hid hss
  have Hn := Lib.hid hn
  have How := Lib.hid how
  clear how hss hn
  have Hrd5 : Hid (Rd w5 r rv l (stepM 10 most each many l s)) := hrd5
  have HU5 := Lib.hid hu5
  clear hrd5 hu5
  have HR5 : Hid (Row w5 (w.heap.size + 1 + 1) 54 BL) := HR4.out.upd HU5.out (by have := Hrb.out; omega)
  have HY5 : Hid (w5.heap[w.heap.size + 1]? = some (.cells ZO 54 (0, 0))) := (HU5.out.block _ (lt_of_block HY4.out) (by have := Hrb.out; omega)).trans HY4.out
  obtain ⟨LL, hLL⟩ : ∃ x, x = BL.set 9 (.slice ao n cap) := ⟨_, rfl⟩
  obtain ⟨LA, hLA⟩ : ∃ x, x = LL.toArray := ⟨_, rfl⟩
  have HLlen : Hid (LL.length = 12) := by show _ = _; rw [hLL, List.length_set, HBLe.out]; rfl
  have HLone : Hid (LL.all (·.oneCell') = true) := by show _ = _; rw [hLL, HBLe.out]; exact set_one (base_one _ _ _ _) rfl
  have HLs : Hid ((Try.prog.info? 54).map (·.size) = some LA.size) := by show _ = _; rw [sizeO, hLA]; simp [HLlen.out]
  have HLz : Hid (ZO.size = LA.size) := by show _ = _; rw [hLA]; simp [HLlen.out, ZO]
  have HL1 : Hid (LA.all (·.oneCell') = true) := by show _ = _; rw [hLA]; simpa using HLone.out
  have HRs : Hid ((w5.setCell ⟨w.heap.size + 1 + 1, 9, none⟩ (.slice ao n cap)).heap[w.heap.size + 1 + 1]? = some (.cells LA 54 (0, 0))) := by show _ = _; rw [hLA, hLL]; exact HR5.out.set 9 _
  have HYs : Hid ((w5.setCell ⟨w.heap.size + 1 + 1, 9, none⟩ (.slice ao n cap)).heap[w.heap.size + 1]? = some (.cells ZO 54 (0, 0))) := (heap_setCell_other w5 _ _ _ (by simp)).trans HY5.out
  have HUs : Hid (Upd (fun k => k = w.heap.size + 1 + 1) w5 (w5.setCell ⟨w.heap.size + 1 + 1, 9, none⟩ (.slice ao n cap))) := put1 (Upd.refl (fun k => k = w.heap.size + 1 + 1) w5) 9 _
  have hcc : w5.cell? ⟨w.heap.size + 1 + 1, 9, none⟩ = some ((base 0 0 0 0).getD 9 undef) := by rw [HR5.out.cell, HBLe.out]; rfl
  have hff : w5.frozen? ⟨w.heap.size + 1 + 1, 9, none⟩ = false := HR5.out.frozen 9
  have HLLe := Lib.hid hLL
  have HLAe := Lib.hid hLA
  clear hLL hLA
  go_wp2_with (first
    | ((with_reducible refine wpList_load_row (o := ⟨some 82, _, _, _, _, _⟩) ?_ 54 (.tmp 5) ?_ (w.heap.size + 1 + 1) ?_ 54 LA (0, 0) _ HRs.out Try.underlying54 ?_ HLs.out ?_); rfl; rfl; rfl; rfl)
    | ((with_reducible refine wpList_store_new (o := ⟨none, .store 54 (.tmp 4) (.tmp 82), _, _, _, _⟩) ?_ _ (.tmp 4) (.tmp 82) ?_ (w.heap.size + 1) LA ?_ ?_ 54 ZO HYs.out HLs.out HLz.out HL1.out ?_); rfl; rfl; rfl; rfl; intro w6 Hg6 Hu6))
  have HU56 : Hid (Upd (fun k => k = w.heap.size + 1 ∨ k = w.heap.size + 1 + 1) w5 w6) := (HUs.out.mono (fun k _ e => .inr e)).trans (Hu6.out.mono (fun k _ e => .inl (.inl e)))
  have HU46 : Hid (Upd (fun k => k = r ∨ k = w.heap.size + 1 ∨ k = w.heap.size + 1 + 1) w4 w6) := (HU5.out.mono (fun k _ e => .inl e)).trans (HU56.out.mono (fun k _ e => .inl (.inr e)))
  have HU6 : Hid (Upd (fun k => k = r) w w6) := (HU04.out.mono (fun _ _ e => e.elim)).trans (HU46.out.mono (fun k _ e => by
    rcases e with e | e | e
    · exact .inl e
    · exact .inr (by omega)
    · exact .inr (by omega)))
  refine bodyPost_ret (results_cell_row rfl _ _ (w.heap.size + 1) 54 LA (0, 0) _ rfl Hg6.out Try.underlying54 rfl HLs.out) rfl ?_
  have hrb := Hrb.out
  refine ⟨LL, by rw [HLAe.out], HLlen.out, HLone.out, ?_, HU6.out, ?_⟩
  · have h := Hrd5.out.upd HU56.out (by omega) (fun k hk => by have := Hvb.out k hk; omega)
    exact h
  · intro w' cs' o O hu' hh hk hv
    obtain ⟨k0, n0, many0, y0, ds0, xs0, st0, ss0, most0, each0⟩ := o
    obtain ⟨⟨x1, dv, x6, pv, lv, rfl, hd, hp, hpo, hs⟩, hn64⟩ := hh
    obtain ⟨dao, dcap, rfl, hd⟩ := hd
    obtain ⟨lao, lcap, rfl, hs⟩ := hs
    simp only at hk hd hp hs hn64
    subst hk
    have hs4 := HU34.out
    have hv1 : ss = ss0 := by rw [Hss.out]; exact hv.v10 rfl
    rw [HLLe.out, HBLe.out]
    subst hv1
    have hst : StrL w5 (.slice ao n cap) ss := by have h := How.out; rw [Hn.out] at h ⊢; exact strl_own h (hv.b11 rfl)
    have hlt : ∀ k, own (.slice ao n cap) k → w4.heap.size ≤ k ∧ k < w5.heap.size := fun k hk => How.out.lt k hk
    have hst' : StrL w' (.slice ao n cap) ss := (hst.upd HU56.out (fun k hk => by have := (hlt k hk).1; omega)).upd hu' (fun k hk => by have := (hlt k hk).1; omega)
    have hb10 := hv.b10 rfl
    rw [Hn.out] at hst' ⊢
    exact alike_10 lao ao ss.length lcap cap ss _ _ _ _ _ _ _ _ _ _ _ _ _ _ _ _ _ _ _ _ _ w' rfl (fun h => (hs h).1) (fun _ => hst') hb10

set_option maxHeartbeats 4000000 in
set_option maxRecDepth 100000 in
theorem again_other (kind : Int) (hk : ∀ i : Int, 1 ≤ i → i ≤ 10 → kind ≠ i) (r : Nat) (rv : Value) (l : List UInt8) (s : Nat × Int) (cs : List Value) (many most each : Int) (w : World) (hr : Rd w r rv l s) (hl : l.length ≤ 140737488351232) (hcs : OpC cs (kind, many, most, each)) :
    Calls Try.prog 39 #[.pointer (some ⟨r, 0, none⟩), .agg cs.toArray] w (AgainAt kind most each many r rv l s w) := by
  have hrb : r < w.heap.size := lt_of_block hr.1
  have hvb : ∀ k, own rv k → k < w.heap.size := fun k hk => (hr.2.1.lt k hk).2
  obtain ⟨X, hX⟩ : ∃ X, X = cs.toArray := ⟨_, rfl⟩
  obtain ⟨w1, hw1⟩ : ∃ x, x = w.alloc (.cells X 54) := ⟨_, rfl⟩
  obtain ⟨w2, hw2⟩ : ∃ x, x = w1.alloc (.cells ZO 54) := ⟨_, rfl⟩
  obtain ⟨w3, hw3⟩ : ∃ x, x = w2.alloc (.cells ZO 54) := ⟨_, rfl⟩
  have hs1 : w1.heap.size = w.heap.size + 1 := by rw [hw1]; simp
  have hs2 : w2.heap.size = w.heap.size + 1 + 1 := by rw [hw2]; simp; omega
  have hs3 : w3.heap.size = w.heap.size + 3 := by rw [hw3]; simp; omega
  have hrow : w1.heap[w.heap.size]? = some (.cells cs.toArray 54 (0, 0)) := by rw [hw1, hX]; exact heap_alloc_new w _
  have hcell : ∀ i x, cs[i]? = some x → w1.cell? ⟨w.heap.size, i, none⟩ = some x := fun i x h => by rw [cell_of_row _ _ _ _ _ _ hrow]; simpa using h
  have hu01 : Upd (fun _ => False) w w1 := by rw [hw1]; exact (Upd.refl _ w).alloc _
  have hu12 : Upd (fun _ => False) w1 w2 := by rw [hw2]; exact (Upd.refl _ w1).alloc _
  have hu23 : Upd (fun _ => False) w2 w3 := by rw [hw3]; exact (Upd.refl _ w2).alloc _
  have hu13 : Upd (fun _ => False) w1 w3 := hu12.trans (hu23.mono (fun _ _ e => e.elim))
  have b0 : w2.cell? ⟨w.heap.size, 0, none⟩ = some (.int .i64 kind) := hu12.cell (hcell 0 _ hcs.c0) id
  have b3 : w2.cell? ⟨w.heap.size, 3, none⟩ = some (.int .i64 many) := hu12.cell (hcell 3 _ hcs.c3) id
  have b10 : w2.cell? ⟨w.heap.size, 10, none⟩ = some (.int .i64 most) := hu12.cell (hcell 10 _ hcs.c10) id
  have b11 : w2.cell? ⟨w.heap.size, 11, none⟩ = some (.int .i64 each) := hu12.cell (hcell 11 _ hcs.c11) id
  have HB0 : Hid (∀ w', Upd (fun k => w.heap.size < k) w1 w' → w'.cell? ⟨w.heap.size, 0, none⟩ = some (.int .i64 kind)) := fun w' hu => hu.cell (hcell 0 _ hcs.c0) (by simp)
  have HB3 : Hid (∀ w', Upd (fun k => w.heap.size < k) w1 w' → w'.cell? ⟨w.heap.size, 3, none⟩ = some (.int .i64 many)) := fun w' hu => hu.cell (hcell 3 _ hcs.c3) (by simp)
  have HB10 : Hid (∀ w', Upd (fun k => w.heap.size < k) w1 w' → w'.cell? ⟨w.heap.size, 10, none⟩ = some (.int .i64 most)) := fun w' hu => hu.cell (hcell 10 _ hcs.c10) (by simp)
  have HB11 : Hid (∀ w', Upd (fun k => w.heap.size < k) w1 w' → w'.cell? ⟨w.heap.size, 11, none⟩ = some (.int .i64 each)) := fun w' hu => hu.cell (hcell 11 _ hcs.c11) (by simp)
  have HZ3 : Hid (w3.heap[w.heap.size + 1 + 1]? = some (.cells ZO 54 (0, 0))) := by show _ = _; rw [← hs2, hw3]; exact heap_alloc_new w2 _
  have HY3 : Hid (w3.heap[w.heap.size + 1]? = some (.cells ZO 54 (0, 0))) := by
    have h : w2.heap[w.heap.size + 1]? = some (.cells ZO 54 (0, 0)) := by rw [← hs1, hw2]; exact heap_alloc_new w1 _
    exact (hu23.block _ (by omega) id).trans h
  obtain ⟨BL, hBL⟩ : ∃ x, x = base kind many most each := ⟨_, rfl⟩
  have hBA : ((((ZO.setIfInBounds 0 (.int .i64 kind)).setIfInBounds 10 (.int .i64 most)).setIfInBounds 11 (.int .i64 each)).setIfInBounds 3 (.int .i64 many)) = BL.toArray := by rw [hBL]; exact set_base kind many most each
  have HBs : Hid ((Try.prog.info? 54).map (·.size) = some (((((ZO.setIfInBounds 0 (.int .i64 kind)).setIfInBounds 10 (.int .i64 most)).setIfInBounds 11 (.int .i64 each)).setIfInBounds 3 (.int .i64 many))).size) := by show _ = _; rw [hBA, sizeO, hBL]; rfl
  have HBl : Hid (ZO.size = (((((ZO.setIfInBounds 0 (.int .i64 kind)).setIfInBounds 10 (.int .i64 most)).setIfInBounds 11 (.int .i64 each)).setIfInBounds 3 (.int .i64 many))).size) := by show _ = _; rw [hBA, hBL]; rfl
  have HB1 : Hid ((((((ZO.setIfInBounds 0 (.int .i64 kind)).setIfInBounds 10 (.int .i64 most)).setIfInBounds 11 (.int .i64 each)).setIfInBounds 3 (.int .i64 many))).all (·.oneCell') = true) := by show _ = _; rw [hBA, hBL]; simpa using base_one kind many most each
  have HBA := Lib.hid hBA
  have HBLe := Lib.hid hBL
  have Hr := Lib.hid hr
  have Hl := Lib.hid hl
  have Hrb := Lib.hid hrb
  have Hvb := Lib.hid hvb
  have Hs3 := Lib.hid hs3
  have HU13 : Hid (Upd (fun k => w.heap.size < k) w1 w3) := hu13.mono (fun _ _ e => e.elim)
  have HU03 : Hid (Upd (fun _ => False) w w3) := hu01.trans (hu13.mono (fun _ _ e => e.elim))
  have hz := zeroO
  rw [← hX]
  subst hw3
  subst hw2
  subst hw1
  clear hX hs1 hs2 hs3 hrow hcell hu01 hu12 hu23 hu13 hcs hBL hBA hr hl hrb hvb
  have h1 : ¬ kind = 1 := hk 1 (by decide) (by decide)
  have h2 : ¬ kind = 2 := hk 2 (by decide) (by decide)
  have h3 : ¬ kind = 3 := hk 3 (by decide) (by decide)
  have h4 : ¬ kind = 4 := hk 4 (by decide) (by decide)
  have h5 : ¬ kind = 5 := hk 5 (by decide) (by decide)
  have h6 : ¬ kind = 6 := hk 6 (by decide) (by decide)
  have h7 : ¬ kind = 7 := hk 7 (by decide) (by decide)
  have h8 : ¬ kind = 8 := hk 8 (by decide) (by decide)
  have h9 : ¬ kind = 9 := hk 9 (by decide) (by decide)
  have h10 : ¬ kind = 10 := hk 10 (by decide) (by decide)
  go_enter Try.func39, Try.ntmps39
  go_wp2_with (first
    | ((with_reducible refine wpList_store_new (o := ⟨none, .store 54 (.tmp 5) (.tmp 14), _, _, _, _⟩) ?_ _ (.tmp 5) (.tmp 14) ?_ (w.heap.size + 1 + 1) ((((ZO.setIfInBounds 0 (.int .i64 kind)).setIfInBounds 10 (.int .i64 most)).setIfInBounds 11 (.int .i64 each)).setIfInBounds 3 (.int .i64 many)) ?_ ?_ 54 ZO HZ3.out HBs.out HBl.out HB1.out ?_); rfl; rfl; rfl; rfl; intro w4 Hg4 Hu4; clear b0 b3 b10 b11; have HU14 : Hid (Upd (fun k => w.heap.size < k) _ w4) := HU13.out.trans (Hu4.out.mono (fun k _ e => .inl (by omega))); have b0 := HB0.out w4 HU14.out; have b3 := HB3.out w4 HU14.out; have b10 := HB10.out w4 HU14.out; have b11 := HB11.out w4 HU14.out; have HY4 : Hid (w4.heap[w.heap.size + 1]? = some (.cells ZO 54 (0, 0))) := (Hu4.out.block _ (lt_of_block HY3.out) (by omega)).trans HY3.out)
    | ((with_reducible refine wpList_load_row (o := ⟨some 82, _, _, _, _, _⟩) ?_ 54 (.tmp 5) ?_ (w.heap.size + 1 + 1) ?_ 54 ((((ZO.setIfInBounds 0 (.int .i64 kind)).setIfInBounds 10 (.int .i64 most)).setIfInBounds 11 (.int .i64 each)).setIfInBounds 3 (.int .i64 many)) (0, 0) _ Hg4.out Try.underlying54 ?_ HBs.out ?_); rfl; rfl; rfl; rfl)
    | ((with_reducible refine wpList_store_new (o := ⟨none, .store 54 (.tmp 4) (.tmp 82), _, _, _, _⟩) ?_ _ (.tmp 4) (.tmp 82) ?_ (w.heap.size + 1) ((((ZO.setIfInBounds 0 (.int .i64 kind)).setIfInBounds 10 (.int .i64 most)).setIfInBounds 11 (.int .i64 each)).setIfInBounds 3 (.int .i64 many)) ?_ ?_ 54 ZO HY4.out HBs.out HBl.out HB1.out ?_); rfl; rfl; rfl; rfl; intro w6 Hg6 Hu6))
  have HU04 : Hid (Upd (fun _ => False) w w4) := HU03.out.trans (Hu4.out.mono (fun k _ e => .inr (by omega)))
  have HU6 : Hid (Upd (fun _ => False) w w6) := HU04.out.trans (Hu6.out.mono (fun k _ e => .inr (by omega)))
  refine bodyPost_ret (results_cell_row rfl _ _ (w.heap.size + 1) 54 ((((ZO.setIfInBounds 0 (.int .i64 kind)).setIfInBounds 10 (.int .i64 most)).setIfInBounds 11 (.int .i64 each)).setIfInBounds 3 (.int .i64 many)) (0, 0) _ rfl Hg6.out Try.underlying54 rfl HBs.out) rfl ?_
  have hst : stepM kind most each many l s = s := by unfold stepM; simp [h1, h2, h3, h4, h5, h6, h7, h8, h9, h10]
  refine ⟨BL, by rw [HBA.out], by rw [HBLe.out]; rfl, by rw [HBLe.out]; exact base_one _ _ _ _, ?_, HU6.out.mono (fun _ _ e => e.elim), ?_⟩
  · rw [hst]
    exact Hr.out.upd HU6.out id (fun _ _ => id)
  · intro w' cs' o O hu' hh hke hv
    obtain ⟨k0, n0, many0, y0, ds0, xs0, st0, ss0, most0, each0⟩ := o
    obtain ⟨⟨x1, dv, x6, pv, lv, rfl, hd, hp, hpo, hs⟩, hn64⟩ := hh
    simp only at hke
    subst hke
    rw [HBLe.out]
    exact alike_other k0 _ _ _ _ _ _ _ _ _ _ _ _ _ _ _ _ _ _ _ _ _ _ _ w' hk

theorem again_any (kind many most each : Int) (r : Nat) (rv : Value) (l : List UInt8) (s : Nat × Int) (cs : List Value) (w : World) (hr : Rd w r rv l s) (hl : l.length ≤ 140737488351232) (hcs : OpC cs (kind, many, most, each)) :
    Calls Try.prog 39 #[.pointer (some ⟨r, 0, none⟩), .agg cs.toArray] w (AgainAt kind most each many r rv l s w) := by
  by_cases hk : ∀ i : Int, 1 ≤ i → i ≤ 10 → kind ≠ i
  · exact again_other kind hk r rv l s cs many most each w hr hl hcs
  · have h : kind = 1 ∨ kind = 2 ∨ kind = 3 ∨ kind = 4 ∨ kind = 5 ∨ kind = 6 ∨ kind = 7 ∨ kind = 8 ∨ kind = 9 ∨ kind = 10 := by
      have h2 : ¬ (kind < 1 ∨ 10 < kind) := fun h => hk fun i h1 h2 e => by omega
      omega
    rcases h with rfl | rfl | rfl | rfl | rfl | rfl | rfl | rfl | rfl | rfl
    · exact again_1 r rv l s cs many most each w hr hl hcs
    · exact again_2 r rv l s cs many most each w hr hl hcs
    · exact again_3 r rv l s cs many most each w hr hl hcs
    · exact again_4 r rv l s cs many most each w hr hl hcs
    · exact again_5 r rv l s cs many most each w hr hl hcs
    · exact again_6 r rv l s cs many most each w hr hl hcs
    · exact again_7 r rv l s cs many most each w hr hl hcs
    · exact again_8 r rv l s cs many most each w hr hl hcs
    · exact again_9 r rv l s cs many most each w hr hl hcs
    · exact again_10 r rv l s cs many most each w hr hl hcs
end Go.Proofs.Ytcdgimapkbaboaa.AgainB
